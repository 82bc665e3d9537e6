import PyProof.Rows.All
import Wide.All
import OpenK.AllK
import Wide.FinOn
import Lean
import PyProof.EqAt
import PyProof.EqKinds
import PyProof.TupleCall
import PyProof.StrLawsRepr
import PyProof.NeKinds
import KE.KEqDict
import KE.KDictOf
import KE.KPairComp
import PySem.Challenge.RW_cardshop_k18_whole_partings
set_option Elab.async false
set_option linter.all false
set_option maxRecDepth 100000
set_option maxHeartbeats 4000000
namespace L2
open PySem PySem.Spec PyProof.Rows
noncomputable abbrev Fgg:=PySem.W.Frag
noncomputable abbrev Pnn:=List (Addr×Obj)
noncomputable abbrev Key:=Sum Int Str
noncomputable def keyIs:Key→Value→Bool
 | .inl k,v=>Value.isInt k v
 | .inr x,v=>Value.isStrOf x v
noncomputable def keyH (w:World):Key→Int
 | .inl k=>hashInt k
 | .inr x=>hashStr w x
theorem zae_:∀ {k:Key}{v:Value},keyIs k v=true→(∃ i t,k=Sum.inl i∧v=Value.int i t)∨(∃ x t,k=Sum.inr x∧v=Value.str x t)
 | .inl i,v,h=>by
  obtain ⟨t,e⟩:=Value.isInt_shape (k:=i) (v:=v) h
  exact .inl ⟨i,t,rfl,e⟩
 | .inr x,v,h=>by
  obtain ⟨t,e⟩:=Value.isStrOf_shape (x:=x) (v:=v) h
  exact .inr ⟨x,t,rfl,e⟩
theorem zkf_ (i:Int) (t:Tok):keyIs (.inl i) (.int i t)=true:=by simp [keyIs,Value.isInt]
theorem zjo_ (x:Str) (t:Tok):keyIs (.inr x) (.str x t)=true:=by simp [keyIs,Value.isStrOf]
theorem zoq_ (a b:Int):decide ((Sum.inl a:Key)=Sum.inl b)=(a == b):=by
 by_cases e:a=b
 ·subst e; simp
 ·have h:¬ (Sum.inl a:Key)=Sum.inl b:=fun q=>e (Sum.inl.inj q)
  rw [decide_eq_false h]
  exact (beq_eq_false_iff_ne.mpr e).symm
theorem znZ_ (a b:Str):decide ((Sum.inr a:Key)=Sum.inr b)=decide (a=b):=by
 by_cases e:a=b
 ·subst e; simp
 ·have h:¬ (Sum.inr a:Key)=Sum.inr b:=fun q=>e (Sum.inr.inj q)
  rw [decide_eq_false h,decide_eq_false e]
theorem znT_ (a:Int) (b:Str):decide ((Sum.inl a:Key)=Sum.inr b)=false:=decide_eq_false (fun q=>nomatch q)
theorem zoy_ (a:Str) (b:Int):decide ((Sum.inr a:Key)=Sum.inl b)=false:=decide_eq_false (fun q=>nomatch q)
noncomputable def mixKind (prog:Program) (w:World):PySem.KeyKind prog w Key where
 is:=keyIs
 hash:=keyH w
 inj:=fun v a b ha hb=>by
  rcases zae_ ha with ⟨i,t,rfl,rfl⟩ | ⟨x,t,rfl,rfl⟩
  ·rcases zae_ hb with ⟨j,u,rfl,e⟩ | ⟨y,u,rfl,e⟩
   ·injection e with e1 _; rw [e1]
   ·exact nomatch e
  ·rcases zae_ hb with ⟨j,u,rfl,e⟩ | ⟨y,u,rfl,e⟩
   ·exact nomatch e
   ·injection e with e1 _; rw [e1]
 byValue:=fun k v h=>by
  rcases zae_ h with ⟨i,t,rfl,rfl⟩ | ⟨x,t,rfl,rfl⟩<;>rfl
 pyHash:=fun hv h=>by
  rcases zae_ hv with ⟨i,t,rfl,rfl⟩ | ⟨x,t,rfl,rfl⟩
  ·exact wpAny_pyHash_int h
  ·exact wpAny_pyHash_str h
 eqBool:=fun hu hv h=>by
  rcases zae_ hu with ⟨i,t,rfl,rfl⟩ | ⟨x,t,rfl,rfl⟩
  ·rcases zae_ hv with ⟨j,u,rfl,rfl⟩ | ⟨y,u,rfl,rfl⟩
   ·rw [zoq_] at h; exact wpAny_eqBool_int h
   ·rw [znT_] at h; exact SeqAt.EqAt.int_str i t y u _ _ _ _ h
  ·rcases zae_ hv with ⟨j,u,rfl,rfl⟩ | ⟨y,u,rfl,rfl⟩
   ·rw [zoy_] at h; exact SeqAt.EqAt.str_int x t j u _ _ _ _ h
   ·rw [znZ_] at h; exact wpAny_eqBool_str h
 «strs»:=fun k x t v h=>by
  rcases zae_ h with ⟨i,u,rfl,e⟩ | ⟨y,u,rfl,e⟩
  ·exact nomatch e
  ·injection e with e1 _
   subst e1
   cases v<;>rfl
theorem zhL_ (prog:Program) (w:World) (k:Key) (v:Value):(mixKind prog w).is k v=keyIs k v:=rfl
theorem zhj_ (prog:Program) (w:World) (i:Int) (t:Tok):(mixKind prog w).is (.inl i) (.int i t)=true:=zkf_ i t
theorem zhm_ (prog:Program) (w:World) (x:Str) (t:Tok):(mixKind prog w).is (.inr x) (.str x t)=true:=zjo_ x t
end L2
namespace L2
open PySem PySem.Spec PyProof.Rows
inductive V where
 | non | bl (b:Bool) | int (i:Int) | str (x:Str) | byt (b:Array UInt8) | flt (b:UInt64) | ref (a:Addr) | ty (n:String)
 deriving DecidableEq
noncomputable def RelV:V→Value→Prop
 | .non,u=>u=Value.none
 | .bl b,u=>u=Value.bool b
 | .int i,u=>∃ t,u=Value.int i t
 | .str x,u=>∃ t,u=Value.str x t
 | .byt b,u=>∃ t,u=Value.bytes b t
 | .flt b,u=>∃ t,u=Value.float b t
 | .ref a,u=>u=Value.ref a
 | .ty n,u=>u=Value.type n
noncomputable abbrev Vals:List V→List Value→Prop:=Paired RelV
theorem Vals.length {xs:List V}{us:List Value}(r:Vals xs us):xs.length=us.length:=Paired.length r
theorem Vals.get:∀ {xs:List V}{us:List Value}{i:Nat}{x:V},Vals xs us→xs[i]?=some x→∃ u,us[i]?=some u∧RelV x u
 | _,_,_,_,.nil,e=>by simp at e
 | _,_,0,_,.cons r _,e=>by simp at e; subst e; exact ⟨_,rfl,r⟩
 | _,_,i+1,x,.cons _ t,e=>by
  obtain ⟨u,h1,h2⟩:=Vals.get (i:=i) (x:=x) t (by simpa using e)
  exact ⟨u,by simpa using h1,h2⟩
theorem Vals.set {x:V}{u:Value}(r:RelV x u):∀ {xs:List V}{us:List Value}(i:Nat),Vals xs us→Vals (xs.set i x) (us.set i u)
 | _,_,_,.nil=>.nil
 | _,_,0,.cons _ t=>.cons r t
 | _,_,i+1,.cons q t=>.cons q (Vals.set r i t)
theorem Vals.append:∀ {xs ys:List V}{us ws:List Value},Vals xs us→Vals ys ws→Vals (xs++ys) (us++ws)
 | _,_,_,_,.nil,s=>s
 | _,_,_,_,.cons r t,s=>.cons r (Vals.append t s)
theorem Vals.take:∀ {xs:List V}{us:List Value}(n:Nat),Vals xs us→Vals (xs.take n) (us.take n)
 | _,_,0,_=>.nil
 | _,_,_+1,.nil=>.nil
 | _,_,n+1,.cons r t=>.cons r (Vals.take n t)
theorem Vals.drop:∀ {xs:List V}{us:List Value}(n:Nat),Vals xs us→Vals (xs.drop n) (us.drop n)
 | _,_,0,r=>r
 | _,_,_+1,.nil=>.nil
 | _,_,n+1,.cons _ t=>Vals.drop n t
noncomputable def RelO:Option V→Option Value→Prop
 | some v,some u=>RelV v u
 | none,none=>True
 | _,_=>False
noncomputable def KV {κ:Type}:List (κ×V)→List (κ×Value)→Prop:=Paired fun (p:κ×V) (q:κ×Value)=>p.1=q.1∧RelV p.2 q.2
noncomputable def kV:Key→V
 | .inl i=>.int i
 | .inr x=>.str x
inductive HO where
 | lst (xs:List V)
 | tup (xs:List V)
 | dK (kvs:List (Key×V)) | dT (kvs:List (List Key×V))
 | set (S:Int→Bool) (n:Nat)
 | ins (C dx:Addr) (fs:List (Str×V))
 | own (x:Addr)
 | xd (fs:List (Str×V))
 | met (f x:Addr)
 | rng (lo hi:Int)
 | frz (o:Obj) (u:HO)
 | tbl (ps:Array Value)
 | ext (φ:Heap→Prop)
noncomputable abbrev Hp:=Addr→Option HO
noncomputable def upd (H:Hp) (a:Addr) (o:HO):Hp:=fun b=>if b=a then some o else H b
theorem zaR_ {H:Hp}{a:Addr}{o:HO}:upd H a o a=some o:=by unfold upd; rw [if_pos rfl]
theorem zbW_ {H:Hp}{a b:Addr}{o:HO}(h:b≠a):upd H a o b=H b:=by unfold upd; rw [if_neg h]
theorem ne_of {H:Hp}{a b:Addr}{o u:HO}(h:H a=some o) (h':H b=some u) (d:o≠u):a≠b:=by
 intro e; subst e; rw [h] at h'; exact d (Option.some.inj h')
theorem zbP_ {H:Hp}{a b:Addr}{o:HO}(h:H a=some o) (h':H b=none):a≠b:=by
 intro e; subst e; rw [h] at h'; cases h'
section
variable (P:Program) (w:World)
noncomputable def ObjOk (H:Hp) (h:Heap) (a:Addr):HO→Prop
 | .lst xs=>xs.length≤sizeLine∧∃ (its:List Value) (n:Nat),Vals xs its∧h.get? a=some { cls:=.type "list",data:=.seq its.toArray n }
 | .tup xs=>xs.length≤sizeLine∧∃ its:List Value,Vals xs its∧IsTup h a its.toArray
 | .dK kvs=>kvs.length≤sizeLine∧(a == sysModules)=false∧∃ vs,KV kvs vs∧h.DictOf (mixKind P w) a vs
 | .dT kvs=>kvs.length≤sizeLine∧(a == sysModules)=false∧∃ xs:List (List Key×Addr×Value),
   Paired (fun (p:List Key×V) (q:List Key×Addr×Value)=>p.1=q.1∧H q.2.1=some (.tup (p.1.map kV))∧RelV p.2 q.2.2) kvs xs ∧
   ∃ o es ep,h.get? a=some o∧o.ExactDict∧o.data=.dict es ep∧es.toList=xs.map (entryOfKey (tupleKind (mixKind P w)))∧(xs.map (·.1)).Nodup
 | .set S n=>h.SetOf (intKind P w) a S n
 | .ins C dx fs=>H dx=some (.own a)∧fs.length≤1000∧dx≠a∧h.get? a=some (PySem.W.instObj C dx) ∧
   ∃ mA,h.Ns1 dx mA∧(∀ f,RelO (fs.lookup f) (mA f))∧PySem.Within mA (fs.map (·.1))
 | .own _=>∃ o,h.get? a=some o
 | .xd fs=>∃ mA,h.Ns1 a mA∧∀ f,RelO (fs.lookup f) (mA f)
 | .rng lo hi=>∃ t u v,h.get? a=some { cls:=.type "range",data:=.fields #[.int lo t,.int hi u,.int 1 v] }
 | .frz o u=>h.get? a=some o∧ObjOk H h a u
 | .tbl ps=>h.get? a=some { cls:=.none,data:=.fields ps }
 | .met f x=>h.get? a=some (PySem.W.methodObj (.ref f) (.ref x))
 | .ext φ=>φ h∧(∃ o,h.get? a=some o)∧∀ h1 h2:Heap,φ h1→(∀ o,h1.get? a=some o→h2.get? a=some o)→φ h2
noncomputable def HOk (H:Hp) (h:Heap):Prop:=∀ a o,H a=some o→ObjOk P w H h a o
end
section
variable {P:Program}{w:World}{H H':Hp}{h h':Heap}{a:Addr}{o:HO}
theorem ObjOk.lt (x:ObjOk P w H h a o):a<h.objs.size:=by
 cases o with
 | lst xs=>obtain ⟨_,_,_,_,e⟩:=x; exact Heap.lt_size e
 | tup xs=>obtain ⟨_,_,_,p⟩:=x; exact p.lt
 | dK kvs=>obtain ⟨_,_,_,_,o,_,_,e,_⟩:=x; exact Heap.lt_size e
 | dT kvs=>obtain ⟨_,_,_,_,o,_,_,e,_⟩:=x; exact Heap.lt_size e
 | set S n=>obtain ⟨o,_,_,_,e,_⟩:=x; exact Heap.lt_size e
 | ins C dx fs=>obtain ⟨_,_,_,e,_⟩:=x; exact Heap.lt_size e
 | own y=>obtain ⟨_,e⟩:=x; exact Heap.lt_size e
 | xd fs=>obtain ⟨_,⟨_,_,_,e,_⟩,_⟩:=x; exact Heap.lt_size e
 | rng lo hi=>obtain ⟨_,_,_,e⟩:=x; exact Heap.lt_size e
 | frz ob u=>obtain ⟨e,_⟩:=x; exact Heap.lt_size e
 | tbl ps=>exact Heap.lt_size (show h.get? a=some _ from x)
 | met f y=>exact Heap.lt_size (show h.get? a=some _ from x)
 | ext φ=>obtain ⟨_,⟨_,e⟩,_⟩:=x; exact Heap.lt_size e
theorem Paired.mapP {α β:Type}{F G:α→β→Prop}:∀ {l₁:List α}{l₂:List β},Paired F l₁ l₂→(∀ a b,F a b→G a b)→Paired G l₁ l₂
 | _,_,.nil,_=>.nil
 | _,_,.cons r t,f=>.cons (f _ _ r) (Paired.mapP t f)
theorem ObjOk.stay (x:ObjOk P w H h a o) (k:∀ b u,(b=a∨H b=some (.own a))→h.get? b=some u→h'.get? b=some u)
  (ho:∀ b,H b=some (.own a)→H' b=some (.own a)) (ht:∀ b xs,H b=some (.tup xs)→H' b=some (.tup xs)):ObjOk P w H' h' a o:=by
 induction o with
 | lst xs=>obtain ⟨z,its,n,r,e⟩:=x; exact ⟨z,its,n,r,k _ _ (.inl rfl) e⟩
 | tup xs=>obtain ⟨z,its,r,ob,e,c⟩:=x; exact ⟨z,its,r,ob,k _ _ (.inl rfl) e,c⟩
 | dK kvs=>obtain ⟨z,y,vs,r,ob,es,ep,e,c⟩:=x; exact ⟨z,y,vs,r,ob,es,ep,k _ _ (.inl rfl) e,c⟩
 | dT kvs =>
  obtain ⟨z,y,xs,r,ob,es,ep,e,c⟩:=x
  exact ⟨z,y,xs,Paired.mapP r fun p q z=>⟨z.1,ht _ _ z.2.1,z.2.2⟩,ob,es,ep,k _ _ (.inl rfl) e,c⟩
 | set S n=>obtain ⟨ob,es,ep,t,e,c⟩:=x; exact ⟨ob,es,ep,t,k _ _ (.inl rfl) e,c⟩
 | ins C dx fs =>
  obtain ⟨d,z,ne,e,mA,⟨od,es,ep,e2,c⟩,r⟩:=x
  exact ⟨ho _ d,z,ne,k _ _ (.inl rfl) e,mA,⟨od,es,ep,k _ _ (.inr d) e2,c⟩,r⟩
 | own y=>obtain ⟨ob,e⟩:=x; exact ⟨ob,k _ _ (.inl rfl) e⟩
 | xd fs=>obtain ⟨mA,⟨od,es,ep,e,c⟩,r⟩:=x; exact ⟨mA,⟨od,es,ep,k _ _ (.inl rfl) e,c⟩,r⟩
 | rng lo hi=>obtain ⟨t,u,v,e⟩:=x; exact ⟨t,u,v,k _ _ (.inl rfl) e⟩
 | frz ob u ih=>obtain ⟨e,q⟩:=x; exact ⟨k _ _ (.inl rfl) e,ih q⟩
 | tbl ps =>
  have e:h.get? a=some { cls:=.none,data:=.fields ps }:=x
  show h'.get? a=some { cls:=.none,data:=.fields ps }
  exact k a _ (.inl rfl) e
 | met f y =>
  have e:h.get? a=some (PySem.W.methodObj (.ref f) (.ref y)):=x
  show h'.get? a=some (PySem.W.methodObj (.ref f) (.ref y))
  exact k a _ (.inl rfl) e
 | ext φ=>obtain ⟨p,⟨o,e⟩,st⟩:=x; exact ⟨st _ _ p fun o q=>k _ _ (.inl rfl) q,⟨o,k _ _ (.inl rfl) e⟩,st⟩
theorem HOk.lt (x:HOk P w H h) (e:H a=some o):a<h.objs.size:=(x a o e).lt
theorem HOk.fresh (x:HOk P w H h) (e:h.objs.size≤a):H a=none:=by
 cases q:H a with
 | none=>rfl
 | some u=>exact absurd (Nat.lt_of_lt_of_le (x.lt q) e) (Nat.lt_irrefl _)
theorem HOk.kept (x:HOk P w H h) (k:∀ b u,h.get? b=some u→h'.get? b=some u):HOk P w H h':=fun a o e =>
 (x a o e).stay (fun b u _ q=>k b u q) (fun _ q=>q) fun _ _ q=>q
theorem HOk.laid (x:HOk P w H h) (k:∀ b u,h.get? b=some u→h'.get? b=some u) (hp:h.objs.size≤a) (new:ObjOk P w (upd H a o) h' a o):HOk P w (upd H a o) h':=fun b u e=>by
 have hn:=x.fresh hp
 by_cases hb:b=a
 ·subst hb; rw [zaR_] at e; cases e; exact new
 ·rw [zbW_ hb] at e
  exact (x b u e).stay (fun c v _ q=>k c v q) (fun c q=>by rw [zbW_ (zbP_ q hn)]; exact q) fun c xs q=>by rw [zbW_ (zbP_ q hn)]; exact q
end
noncomputable def Rd (H:Hp) (a:Addr) (u:HO):Prop:=H a=some u∨∃ o,H a=some (.frz o u)
theorem Rd.of {H:Hp}{a:Addr}{u:HO}(h:H a=some u):Rd H a u:=.inl h
theorem Rd.ok {P:Program}{w:World}{H:Hp}{h:Heap}{a:Addr}{u:HO}(r:Rd H a u) (x:HOk P w H h):ObjOk P w H h a u:=by
 rcases r with r | ⟨o,r⟩
 ·exact x a u r
 ·obtain ⟨_,q⟩:=x a _ r
  exact q
noncomputable def Mut:Option HO→Prop
 | some (.lst _)=>True
 | some (.dK _)=>True
 | some (.dT _)=>True
 | some (.set _ _)=>True
 | some (.ins _ _ _)=>True
 | some (.ext _)=>True
 | _=>False
section
variable {P:Program}{w:World}{H:Hp}{h h':Heap}{x e:Addr}{o':HO}
theorem HOk.write (ok:HOk P w H h) (mu:Mut (H x)) (he:e=x∨H e=some (.own x)) (k:∀ b u,b≠e→h.get? b=some u→h'.get? b=some u) (heo:∃ u,h'.get? e=some u)
  (new:ObjOk P w (upd H x o') h' x o'):HOk P w (upd H x o') h':=fun b u q=>by
 have nown:∀ c y,H c=some (.own y)→c≠x:=fun c y r z=>by subst z; rw [r] at mu; exact mu
 have ntup:∀ c xs,H c=some (.tup xs)→c≠x:=fun c xs r z=>by subst z; rw [r] at mu; exact mu
 by_cases hb:b=x
 ·subst hb; rw [zaR_] at q; cases q; exact new
 ·rw [zbW_ hb] at q
  by_cases hbe:b=e
  ·have q':H b=some (.own x):=by
    rcases he with z | z
    ·exact absurd (hbe.trans z) hb
    ·rw [hbe]; exact z
   rw [q] at q'; cases q'
   obtain ⟨v,hv⟩:=heo
   exact ⟨v,by rw [hbe]; exact hv⟩
  ·refine (ok b u q).stay (fun c v hc r=>k c v ?_ r) (fun c r=>by rw [zbW_ (nown c b r)]; exact r) fun c xs r=>by rw [zbW_ (ntup c xs r)]; exact r
   rcases hc with rfl | hc
   ·exact hbe
   ·rintro rfl
    rcases he with z | z
    ·exact nown c b hc z
    ·rw [hc] at z; cases z; exact hb rfl
end
structure Un (fs ex:List Addr) (H H':Hp) (h h':Heap):Prop where
 keep:∀ b o,h.get? b=some o→H b=none→b∉fs→b∉ex→h'.get? b=some o
 slot:∀ b o,h.get? b=some o→H b=none→b∈fs→b∉ex→∃ sl,h'.get? b=some { o with slots:=sl }
 free:∀ b o,h.get? b=some o→H b=none→b∉ex→H' b=none
 there:∀ b o,h.get? b=some o→b∉ex→∃ o',h'.get? b=some o'
 tups:∀ b xs,H b=some (.tup xs)→H' b=some (.tup xs)
 frzs:∀ b o u,H b=some (.frz o u)→H' b=some (.frz o u)
 tbls:∀ b ps,H b=some (.tbl ps)→∃ more,H' b=some (.tbl (ps++more))
section
variable {fs fs' ex ex':List Addr}{H H1 H2:Hp}{h h1 h2 h':Heap}{a x e:Addr}{o:HO}
theorem Un.any (u:Un fs ex H H1 h h1) {b:Addr}{ob:Obj}(q:h.get? b=some ob) (n:H b=none) (hx:b∉ex):∃ sl,h1.get? b=some { ob with slots:=sl }:=by
 by_cases hb:b∈fs
 ·exact u.slot b ob q n hb hx
 ·exact ⟨ob.slots,u.keep b ob q n hb hx⟩
theorem Un.kept (k:∀ b u,h.get? b=some u→h'.get? b=some u):Un fs ex H H h h' :=
 ⟨fun b ob q _ _ _=>k b ob q,fun b ob q _ _ _=>⟨ob.slots,k b ob q⟩,fun _ _ _ n _=>n,fun b ob q _=>⟨ob,k b ob q⟩,fun _ _ q=>q,fun _ _ _ q=>q,fun _ ps q=>⟨#[],by rw [q]; simp⟩⟩
theorem Un.refl:Un fs ex H H h h:=Un.kept fun _ _ q=>q
theorem Un.laid (k:∀ b u,h.get? b=some u→h'.get? b=some u) (hp:h.objs.size≤a) (hn:H a=none):Un fs ex H (upd H a o) h h' where
 keep:=fun b u q _ _ _=>k b u q
 slot:=fun b u q _ _ _=>⟨u.slots,k b u q⟩
 free:=fun b u q n _=>by rw [zbW_ (Nat.ne_of_lt (Nat.lt_of_lt_of_le (Heap.lt_size q) hp))]; exact n
 there:=fun b u q _=>⟨u,k b u q⟩
 tups:=fun b xs q=>by rw [zbW_ (zbP_ q hn)]; exact q
 frzs:=fun b u xs q=>by rw [zbW_ (zbP_ q hn)]; exact q
 tbls:=fun b ps q=>⟨#[],by rw [zbW_ (zbP_ q hn),q]; simp⟩
theorem Un.write (mu:Mut (H x)) (he:e=x∨H e=some (.own x)) (k:∀ b u,b≠e→h.get? b=some u→h'.get? b=some u) (heo:∃ u,h'.get? e=some u):Un fs ex H (upd H x o) h h':=by
 have hx:∀ b,H b=none→b≠x:=fun b n z=>by subst z; rw [n] at mu; exact mu
 have hb:∀ b,H b=none→b≠e:=fun b n z=>by
  subst z
  rcases he with r | r
  ·exact hx b n r
  ·rw [n] at r; cases r
 have hm:∀ b u,H b=some u→¬ Mut (some u)→b≠x:=fun b u q nm z=>by subst z; rw [q] at mu; exact nm mu
 refine ⟨fun b u q n _ _=>k b u (hb b n) q,fun b u q n _ _=>⟨u.slots,k b u (hb b n) q⟩,fun b u q n _=>by rw [zbW_ (hx b n)]; exact n,fun b u q _=>?_,
  fun b xs q=>by rw [zbW_ (hm b _ q fun z=>z)]; exact q,fun b u xs q=>by rw [zbW_ (hm b _ q fun z=>z)]; exact q,fun b ps q=>⟨#[],by rw [zbW_ (hm b _ q fun z=>z),q]; simp⟩⟩
 by_cases hbe:b=e
 ·subst hbe; exact heo
 ·exact ⟨u,k b u hbe q⟩
end
noncomputable def trk (h:Heap) (H:Hp):List Addr:=(List.range h.objs.size).filter fun a=>(H a).isSome
noncomputable def hidT (h:Heap) (H:Hp):Heap:=PySem.W.hideAll h (trk h H)
theorem zjO_ (h:Heap) (H:Hp):(hidT h H).objs.size=h.objs.size:=PySem.W.hideAll_size _ _
theorem zld_ {h:Heap}{H:Hp}{b:Addr}{o:Obj}(e:h.get? b=some o) (n:H b=none):(hidT h H).get? b=some o :=
 PySem.W.hideAll_get _ e fun hm=>by
  have q:(H b).isSome=true:=(List.mem_filter.mp hm).2
  rw [n] at q; simp at q
theorem zm8_ {h:Heap}{H:Hp}{b:Addr}{o:Obj}(e:(hidT h H).get? b=some o):h.get? b=some o∧H b=none:=by
 have e':h.get? b=some o:=PySem.W.of_hideAll (trk h H) e
 refine ⟨e',?_⟩
 cases q:H b with
 | none=>rfl
 | some x =>
  have hm:b∈trk h H:=List.mem_filter.mpr ⟨List.mem_range.mpr (Heap.lt_size e'),by simp [q]⟩
  have z:(hidT h H).get? b=none:=PySem.W.hideAll_none (trk h H) hm
  rw [z] at e; cases e
noncomputable def allNews (g h:Heap) (L:Addr):Pnn:=(List.range h.objs.size).filterMap fun a=>if a=L∨(g.get? a).isSome=true then none else (h.get? a).map fun o=>(a,o)
noncomputable def rest (g h:Heap) (L d:Addr):Pnn:=(allNews g h L).filter fun p=>decide (p.1≠d)
end L2
namespace L2
open PySem PySem.Spec PyProof.Rows
structure Mod (K:Fgg) (mg:Str→Option Value) (base:Heap):Prop where
 kin:K.In base
 glob:base.Ns mainGlobals mg
 blt:∃ mb,base.Ns builtinsNs mb∧∀ x:Str,x ≠ "__name__" → mb x=bootBuiltins x
 nolimit:base.NoLimit
structure Cx where
 prog:Program
 w:World
 K:Fgg
 mg:Str→Option Value
 base:Heap
 A:Around
 N:List Str
 s₀:Shared
 H₀:Hp
 env:Env
 outer:List Env
 stack:List Env
 ex:List Addr
 fn:Str→Bool
 calm:Bool
 pn:Pnn
 xe:Value→Shared→Prop
noncomputable def frs (l:List Env):List Addr:=l.filterMap (·.frame)
noncomputable abbrev Cx.fs (X:Cx):List Addr:=frs X.outer
noncomputable def Vis (sc:Scope) (x:Str):Prop:=sc.names.lookup x=some .local∨sc.names.lookup x=some .cell∨sc.names.lookup x=some .free
noncomputable def Loc (sc:Scope) (x:Str):Prop:=sc.names.lookup x=some .local∨sc.names.lookup x=some .cell
noncomputable def Look (env:Env) (h:Heap) (m:Str→Option Value) (x:Str) (u:Value):Prop :=
 (env.kindOf x=some .local∧m x=some u)∨((env.kindOf x=some .cell∨env.kindOf x=some .free)∧∃ c,env.cells.lookup x=some c∧h.IsCell c (some u))
structure Cx.Ok (X:Cx):Prop where
 mod:Mod X.K X.mg X.base
 kind:X.env.scope.kind=.function
 glob:X.env.globals=mainGlobals
 blt:X.env.builtins=builtinsNs
 above:X.s₀.heap.objs.size≤X.env.locals
 inj:∀ x y c,X.env.cells.lookup x=some c→X.env.cells.lookup y=some c→x=y
 has:∀ x,(X.env.kindOf x=some .cell∨X.env.kindOf x=some .free)→∃ c,X.env.cells.lookup x=some c
 cab:∀ x c,X.fn x=true→X.env.cells.lookup x=some c→X.s₀.heap.objs.size≤c
 hd:X.calm=true→X.A.handled=none
 frames:X.A.frames=some X.stack
 stk:X.stack=X.outer∨(X.stack=X.env::X.outer∧X.env.frame=some X.env.locals)
 exf:∀ b∈X.ex,b≠X.env.locals∧∀ x c,X.env.cells.lookup x=some c→c≠b
 bs:∀ b o,X.base.get? b=some o→X.s₀.heap.get? b=some o∧X.H₀ b=none
 bsz:X.base.objs.size≤X.s₀.heap.objs.size
 noex:∀ b o,X.base.get? b=some o→b∉X.ex
 exfs:∀ b∈X.ex,b∉X.fs
 funs:X.s₀.heap.FunFrames X.base X.outer
 frf:∀ b∈X.fs,X.H₀ b=none
structure Inv (X:Cx) (pins:Pnn) (σ:List (Option V)) (H:Hp) (s:Shared):Prop where
 ok:X.Ok
 os:s.os=X.s₀.os
 bare:AllBare s.gens
 base:Un X.fs X.ex X.H₀ H X.s₀.heap s.heap
 loc:∃ m,s.heap.Ns X.env.locals m∧∀ (i:Nat) (x:Str) (v:V),X.N[i]?=some x→σ[i]?=some (some v)→Vis X.env.scope x→∃ u,RelV v u∧Look X.env s.heap m x u
 cell:∀ x c,X.env.cells.lookup x=some c→∃ v,s.heap.IsCell c v
 free:H X.env.locals=none
 freeC:∀ x c,X.env.cells.lookup x=some c→H c=none
 pin:∀ p∈X.pn++pins,s.heap.get? p.1=some p.2∧H p.1=none∧p.1≠X.env.locals∧p.1∉X.fs∧∀ v,p.2.data≠.cell v
 hok:HOk X.prog X.w H s.heap
 len:σ.length=X.N.length
section
variable {X:Cx}{pins:Pnn}{σ:List (Option V)}{H H':Hp}{s:Shared}{h':Heap}
theorem Cx.Ok.nofr (ok:X.Ok) {b:Addr}{o:Obj}(e:X.base.get? b=some o):b∉X.fs:=fun hb=>by
 have:=(ok.funs.mem hb).1
 rw [e] at this; cases this
theorem Inv.bs (I:Inv X pins σ H s):∀ b o,X.base.get? b=some o→s.heap.get? b=some o∧H b=none:=fun b o e =>
 ⟨I.base.keep b o (I.ok.bs b o e).1 (I.ok.bs b o e).2 (I.ok.nofr e) (I.ok.noex b o e),I.base.free b o (I.ok.bs b o e).1 (I.ok.bs b o e).2 (I.ok.noex b o e)⟩
theorem Inv.bk (I:Inv X pins σ H s):∀ b o,X.base.get? b=some o→s.heap.get? b=some o:=fun b o e=>(I.bs b o e).1
theorem Inv.mod (I:Inv X pins σ H s):Mod X.K X.mg X.base:=I.ok.mod
theorem Inv.kIn (I:Inv X pins σ H s):X.K.In s.heap:=I.ok.mod.kin.keeps I.bk
theorem Inv.lt (I:Inv X pins σ H s):X.env.locals<s.heap.objs.size:=let ⟨_,hn,_⟩:=I.loc; hn.lt
theorem Inv.sz (I:Inv X pins σ H s):X.s₀.heap.objs.size≤s.heap.objs.size:=Nat.le_trans I.ok.above (Nat.le_of_lt I.lt)
theorem Inv.nofs (I:Inv X pins σ H s) {a:Addr}(h:s.heap.objs.size≤a):a∉X.fs:=fun hb=>by
 obtain ⟨_,o,ho,_⟩:=I.ok.funs.mem hb
 exact absurd (Nat.lt_of_lt_of_le (Heap.lt_size ho) (Nat.le_trans I.sz h)) (Nat.lt_irrefl _)
theorem Inv.cne (I:Inv X pins σ H s):∀ x c,X.env.cells.lookup x=some c→c≠X.env.locals:=fun x c e z=>by
 obtain ⟨v,o,ho,hd⟩:=I.cell x c e
 obtain ⟨m,⟨o',es,ep,ho',hd',_⟩,_⟩:=I.loc
 rw [z,ho'] at ho; cases ho; rw [hd'] at hd; cases hd
theorem Inv.funs (I:Inv X pins σ H s):s.heap.FunFrames X.base X.outer:=by
 have all:∀ (l:List Env),(∀ b∈frs l,b∈X.fs)→X.s₀.heap.FunFrames X.base l→s.heap.FunFrames X.base l:=by
  intro l
  induction l with
  | nil=>intro _ _; trivial
  | cons env r ih =>
   intro hs hl
   obtain ⟨hk,⟨L,o,hf,hn,ho,hd⟩,hr⟩:=hl
   have hL:L∈X.fs:=hs L (by unfold frs; rw [List.filterMap_cons,hf]; exact List.mem_cons_self)
   obtain ⟨sl,e⟩:=I.base.slot L o ho (I.ok.frf L hL) hL fun z=>I.ok.exfs L z hL
   exact ⟨hk,⟨L,_,hf,hn,e,hd⟩,ih (fun b hb=>hs b (by unfold frs; rw [List.filterMap_cons,hf]; exact List.mem_cons_of_mem _ hb)) hr⟩
 exact all X.outer (fun _ hb=>hb) I.ok.funs
theorem Inv.stack (I:Inv X pins σ H s):s.heap.FunFrames X.base X.stack:=by
 rcases I.ok.stk with e | ⟨e,hf⟩
 ·rw [e]; exact I.funs
 ·rw [e]
  obtain ⟨m,hn,_⟩:=I.loc
  refine .cons (by rw [I.ok.kind]; decide) hf hn ?_ I.funs
  exact Heap.get?_none_of_le (Nat.le_trans I.ok.bsz I.ok.above)
theorem Inv.stkSub (I:Inv X pins σ H s):∀ b∈frs X.stack,b∈X.env.locals::X.fs:=fun b hb=>by
 rcases I.ok.stk with e | ⟨e,hf⟩
 ·rw [e] at hb; exact List.mem_cons_of_mem _ hb
 ·rw [e] at hb
  unfold frs at hb
  rw [List.filterMap_cons,hf] at hb
  exact hb
theorem Inv.stkFree (I:Inv X pins σ H s):∀ b∈frs X.stack,H b=none:=fun b hb=>by
 rcases List.mem_cons.mp (I.stkSub b hb) with e | hb
 ·rw [e]; exact I.free
 ·obtain ⟨_,o,ho,_⟩:=I.ok.funs.mem hb
  exact I.base.free b o ho (I.ok.frf b hb) fun z=>I.ok.exfs b z hb
theorem Inv.step {g':Array GenState}{t':Nat}{d':Drawn}{ch:List Addr}(I:Inv X pins σ H s)
  (hch:∀ b∈ch,(b∈X.ex∨X.s₀.heap.objs.size≤b)∧b≠X.env.locals∧(∀ x c,X.env.cells.lookup x=some c→c≠b)∧∀ p∈X.pn++pins,p.1≠b)
  (keep:∀ b o,b≠X.env.locals→b∉X.fs→b∉ch→s.heap.get? b=some o→H b=none→h'.get? b=some o)
  (slot:∀ b o,b≠X.env.locals→b∈X.fs→b∉ch→s.heap.get? b=some o→H b=none→∃ sl,h'.get? b=some { o with slots:=sl }) (free:∀ b o,b∉ch→s.heap.get? b=some o→H b=none→H' b=none)
  (there:∀ b o,b∉ch→s.heap.get? b=some o→∃ o',h'.get? b=some o')
  (tups:∀ b xs,H b=some (.tup xs)→H' b=some (.tup xs)) (frzs:∀ b o u,H b=some (.frz o u)→H' b=some (.frz o u)) (tbls:∀ b ps,H b=some (.tbl ps)→∃ more,H' b=some (.tbl (ps++more)))
  (ns:∀ m,s.heap.Ns X.env.locals m→h'.Ns X.env.locals m) (hok:HOk X.prog X.w H' h') (hg:AllBare g') :
  Inv X pins σ H' { s with heap:=h',gens:=g',drawn:=d',toks:=t' }:=by
 have neL:∀ b o,X.s₀.heap.get? b=some o→b≠X.env.locals:=fun b o e=>Nat.ne_of_lt (Nat.lt_of_lt_of_le (Heap.lt_size e) I.ok.above)
 have neC:∀ b o,X.s₀.heap.get? b=some o→b∉X.ex→b∉ch:=fun b o e hx hb=>by
  rcases (hch b hb).1 with z | z
  ·exact hx z
  ·exact absurd (Nat.lt_of_lt_of_le (Heap.lt_size e) z) (Nat.lt_irrefl _)
 have cellK:∀ x c,X.env.cells.lookup x=some c→∀ v,s.heap.IsCell c v→h'.IsCell c v:=fun x c e v ⟨o,ho,hd⟩=>by
  have nch:c∉ch:=fun z=>(hch c z).2.2.1 x c e rfl
  by_cases hc:c∈X.fs
  ·obtain ⟨sl,q⟩:=slot c o (I.cne x c e) hc nch ho (I.freeC x c e)
   exact ⟨_,q,hd⟩
  ·exact ⟨o,keep c o (I.cne x c e) hc nch ho (I.freeC x c e),hd⟩
 refine ⟨I.ok,I.os,hg,⟨fun b o e n hb hx=>?_,fun b o e n hb hx=>?_,fun b o e n hx=>?_,fun b o e hx=>?_,fun b xs e=>tups b xs (I.base.tups b xs e),fun b o xs e=>frzs b o xs (I.base.frzs b o xs e),fun b ps e=>?_⟩,?_,fun x c e=>?_,?_,fun x c e=>?_,fun p hp=>?_,hok,I.len⟩
 ·exact keep b o (neL b o e) hb (neC b o e hx) (I.base.keep b o e n hb hx) (I.base.free b o e n hx)
 ·obtain ⟨sl,e1⟩:=I.base.slot b o e n hb hx
  obtain ⟨sl',e2⟩:=slot b _ (neL b o e) hb (neC b o e hx) e1 (I.base.free b o e n hx)
  exact ⟨sl',e2⟩
 ·obtain ⟨o',e1⟩:=I.base.there b o e hx
  exact free b o' (neC b o e hx) e1 (I.base.free b o e n hx)
 ·obtain ⟨o',e1⟩:=I.base.there b o e hx
  exact there b o' (neC b o e hx) e1
 ·obtain ⟨m1,e1⟩:=I.base.tbls b ps e
  obtain ⟨m2,e2⟩:=tbls b _ e1
  exact ⟨m1++m2,by rw [e2,Array.append_assoc]⟩
 ·obtain ⟨m,hn,hl⟩:=I.loc
  refine ⟨m,ns m hn,fun i x v e1 e2 e3=>?_⟩
  obtain ⟨u,r,l⟩:=hl i x v e1 e2 e3
  refine ⟨u,r,?_⟩
  rcases l with l | ⟨k,c,e,z⟩
  ·exact .inl l
  ·exact .inr ⟨k,c,e,cellK x c e _ z⟩
 ·obtain ⟨v,z⟩:=I.cell x c e
  exact ⟨v,cellK x c e v z⟩
 ·obtain ⟨m,⟨o,_,_,ho,_⟩,_⟩:=I.loc
  exact free _ o (fun z=>(hch _ z).2.1 rfl) ho I.free
 ·obtain ⟨v,o,ho,hd⟩:=I.cell x c e
  exact free c o (fun z=>(hch c z).2.2.1 x c e rfl) ho (I.freeC x c e)
 ·obtain ⟨e,n,ne,nf,d⟩:=I.pin p hp
  have nch:p.1∉ch:=fun z=>(hch p.1 z).2.2.2 p hp rfl
  exact ⟨keep p.1 p.2 ne nf nch e n,free p.1 p.2 nch e n,ne,nf,d⟩
theorem Inv.un {t':Nat}(I:Inv X pins σ H s) (u:Un X.fs [] H H' s.heap h') (hok:HOk X.prog X.w H' h'):Inv X pins σ H' { s with heap:=h',toks:=t' }:=by
 obtain ⟨m,⟨o,es,ep,ho,r⟩,_⟩:=id I.loc
 obtain ⟨sl,hL⟩:=u.any ho I.free (by simp)
 exact I.step (g':=s.gens) (d':=s.drawn) (ch:=[]) (fun _ z=>nomatch z) (fun b o _ hb _ e n=>u.keep b o e n hb (by simp)) (fun b o _ hb _ e n=>u.slot b o e n hb (by simp)) (fun b o _ e n=>u.free b o e n (by simp)) (fun b o _ e=>u.there b o e (by simp)) u.tups u.frzs u.tbls (fun m' hm=>by
  obtain ⟨o',es',ep',ho',r'⟩:=hm
  rw [ho] at ho'; cases ho'
  exact ⟨_,es',ep',hL,r'⟩) hok I.bare
theorem Inv.call {g':Array GenState}{t':Nat}{d':Drawn}{ch:List Addr}(I:Inv X pins σ H s) (u:Un (frs X.stack) ch H H' s.heap h') (hok:HOk X.prog X.w H' h') (hg:AllBare g')
  (hch:∀ b∈ch,(b∈X.ex∨X.s₀.heap.objs.size≤b)∧b≠X.env.locals∧(∀ x c,X.env.cells.lookup x=some c→c≠b)∧∀ p∈X.pn++pins,p.1≠b) :
  Inv X pins σ H' { s with heap:=h',gens:=g',drawn:=d',toks:=t' }:=by
 obtain ⟨m,⟨o,es,ep,ho,r⟩,_⟩:=id I.loc
 obtain ⟨sl,hL⟩:=u.any ho I.free fun z=>(hch _ z).2.1 rfl
 exact I.step (ch:=ch) hch (fun b o hL hb hc e n=>u.keep b o e n (fun z=>(List.mem_cons.mp (I.stkSub b z)).elim hL hb) hc) (fun b o _ _ hc e n=>u.any e n hc) (fun b o hc e n=>u.free b o e n hc) (fun b o hc e=>u.there b o e hc) u.tups u.frzs u.tbls (fun m' hm=>by
  obtain ⟨o',es',ep',ho',r'⟩:=hm
  rw [ho] at ho'; cases ho'
  exact ⟨_,es',ep',hL,r'⟩) hok hg
theorem Inv.turned {t':Nat}{it:Addr}(I:Inv X pins σ H s) (k:∀ b o,b≠it→s.heap.get? b=some o→h'.get? b=some o) (hn:H it=none) (hL:it≠X.env.locals)
  (h1:it∈X.ex∨X.s₀.heap.objs.size≤it) (h2:∀ x c,X.env.cells.lookup x=some c→c≠it) (h3:∀ p∈X.pn++pins,p.1≠it):Inv X pins σ H { s with heap:=h',toks:=t' }:=by
 have nit:∀ b u,H b=some u→b≠it:=fun b u e z=>by rw [z,hn] at e; cases e
 refine I.step (g':=s.gens) (d':=s.drawn) (ch:=[it]) (fun b hb=>?_) (fun b o _ _ hc e _=>k b o (fun z=>hc (by simp [z])) e) (fun b o _ _ hc e _=>⟨o.slots,k b o (fun z=>hc (by simp [z])) e⟩) (fun _ _ _ _ n=>n)
  (fun b o hc e=>⟨o,k b o (fun z=>hc (by simp [z])) e⟩) (fun _ _ e=>e) (fun _ _ _ e=>e) (fun b ps e=>⟨#[],by rw [e]; simp⟩) (fun m hm=>?_) (fun b u e=>?_) I.bare
 ·have e:b=it:=by simpa using hb
  subst e
  exact ⟨h1,hL,h2,h3⟩
 ·obtain ⟨o,es,ep,ho,r⟩:=hm
  exact ⟨o,es,ep,k _ o (Ne.symm hL) ho,r⟩
 ·refine (I.hok b u e).stay (fun c v hc q=>k c v ?_ q) (fun _ q=>q) fun _ _ q=>q
  rcases hc with z | z
  ·rw [z]; exact nit b u e
  ·exact nit c _ z
theorem Inv.tok (I:Inv X pins σ H s) (t:Nat):Inv X pins σ H { s with toks:=t }:=I.un (h':=s.heap) (t':=t) Un.refl I.hok
theorem Inv.kept {t':Nat}(I:Inv X pins σ H s) (k:∀ b u,s.heap.get? b=some u→h'.get? b=some u):Inv X pins σ H { s with heap:=h',toks:=t' }:=I.un (Un.kept k) (I.hok.kept k)
theorem Inv.laid {a:Addr}{o:HO}{t':Nat}(I:Inv X pins σ H s) (k:∀ b u,s.heap.get? b=some u→h'.get? b=some u) (hp:s.heap.objs.size≤a) (new:ObjOk X.prog X.w (upd H a o) h' a o) :
  Inv X pins σ (upd H a o) { s with heap:=h',toks:=t' }:=I.un (Un.laid k hp (I.hok.fresh hp)) (I.hok.laid k hp new)
theorem Inv.write {x e:Addr}{o:HO}{t':Nat}(I:Inv X pins σ H s) (mu:Mut (H x)) (he:e=x∨H e=some (.own x)) (k:∀ b u,b≠e→s.heap.get? b=some u→h'.get? b=some u) (heo:∃ u,h'.get? e=some u)
  (new:ObjOk X.prog X.w (upd H x o) h' x o):Inv X pins σ (upd H x o) { s with heap:=h',toks:=t' }:=I.un (Un.write mu he k heo) (I.hok.write mu he k heo new)
theorem Inv.pins_of {pins':Pnn}(I:Inv X pins σ H s) (h:∀ p∈pins',s.heap.get? p.1=some p.2∧H p.1=none∧p.1≠X.env.locals∧p.1∉X.fs∧∀ v,p.2.data≠.cell v):Inv X pins' σ H s :=
 ⟨I.ok,I.os,I.bare,I.base,I.loc,I.cell,I.free,I.freeC,fun p hp=>(List.mem_append.mp hp).elim (fun z=>I.pin p (List.mem_append_left _ z)) (h p),I.hok,I.len⟩
theorem ziU_ {N:List Str}(hN:N.Nodup) {i j:Nat}{x:Str}(a:N[i]?=some x) (b:N[j]?=some x):i=j:=by
 obtain ⟨h1,e1⟩:=List.getElem?_eq_some_iff.mp a
 obtain ⟨h2,e2⟩:=List.getElem?_eq_some_iff.mp b
 exact (List.getElem_inj hN).mp (e1.trans e2.symm)
theorem zjW_ {M:Model}{A:Around}{E:Value→Shared→Prop}{i:Nat}{x:Str}{v:V}{u:Value}{Q:Unit→Shared→Prop}(I:Inv X pins σ H s) (hN:X.N.Nodup) (hi:X.N[i]?=some x) (hx:Loc X.env.scope x) (r:RelV v u)
  (h:∀ s',Inv X pins (σ.set i (some v)) H s'→(∃ a,Heap.SameBut a s.heap s'.heap∧(a=X.env.locals∨X.env.cells.lookup x=some a))→Q () s') (hf:X.fn x=true∨X.env.scope.names.lookup x=some .local:=by first | exact .inl rfl | exact .inr rfl | assumption):wpAny M A (storeName X.env x u) Q E s:=by
 obtain ⟨m,hn,hl⟩:=id I.loc
 have hcls:(X.env.scope.kind == .class || (X.env.scope.kind == .module && X.env.locals != X.env.globals))=false:=by rw [I.ok.kind]; rfl
 have hiσ:i<σ.length:=by rw [I.len]; exact (List.getElem?_eq_some_iff.mp hi).1
 have cne:=I.cne
 have tracked:∀ {a:Addr}{h':Heap},(∃ o,s.heap.get? a=some o∧H a=none)→Heap.SameBut a s.heap h'→HOk X.prog X.w H h':=fun {a h'} ha hs b ob e=>by
  obtain ⟨_,_,hfree⟩:=ha
  refine (I.hok b ob e).stay (fun c w' hc q=>(hs.2 c ?_).trans q) (fun _ q=>q) fun _ _ q=>q
  rintro rfl
  rcases hc with rfl | hc
  ·rw [hfree] at e; cases e
  ·rw [hfree] at hc; cases hc
 rcases hx with hk | hk
 ·refine wpAny_storeName_local hk hn (fun h' hn' hs=>?_) hcls
  obtain ⟨oL,_,_,hoL,_⟩:=id hn
  refine h _ ⟨I.ok,I.os,I.bare,⟨fun b o e n hb hx=>?_,fun b o e n hb hx=>?_,I.base.free,fun b o e hx=>?_,I.base.tups,I.base.frzs,I.base.tbls⟩,⟨_,hn',fun j y v' e1 e2 e3=>?_⟩,fun y c e=>?_,I.free,I.freeC,fun p hp=>?_,tracked ⟨oL,hoL,I.free⟩ hs,by simpa using I.len⟩ ⟨_,hs,.inl rfl⟩
  ·exact (hs.2 b (Nat.ne_of_lt (Nat.lt_of_lt_of_le (Heap.lt_size e) I.ok.above))).trans (I.base.keep b o e n hb hx)
  ·obtain ⟨sl,e1⟩:=I.base.slot b o e n hb hx
   exact ⟨sl,(hs.2 b (Nat.ne_of_lt (Nat.lt_of_lt_of_le (Heap.lt_size e) I.ok.above))).trans e1⟩
  ·obtain ⟨o',e1⟩:=I.base.there b o e hx
   exact ⟨o',(hs.2 b (Nat.ne_of_lt (Nat.lt_of_lt_of_le (Heap.lt_size e) I.ok.above))).trans e1⟩
  ·by_cases hj:j=i
   ·subst hj
    rw [hi] at e1; cases e1
    rw [List.getElem?_set_self hiσ] at e2
    cases e2
    exact ⟨u,r,.inl ⟨hk,by simp⟩⟩
   ·rw [List.getElem?_set_ne (Ne.symm hj)] at e2
    obtain ⟨u',r',q⟩:=hl j y v' e1 e2 e3
    refine ⟨u',r',?_⟩
    rcases q with ⟨k,e⟩ | ⟨k,c,e,z⟩
    ·refine .inl ⟨k,?_⟩
     have:y≠x:=fun e=>hj (ziU_ hN e1 (e ▸ hi))
     simp [this,e]
    ·exact .inr ⟨k,c,e,z.sameBut hs (cne y c e)⟩
  ·obtain ⟨w',z⟩:=I.cell y c e
   exact ⟨w',z.sameBut hs (cne y c e)⟩
  ·obtain ⟨e,n,ne,nf,d⟩:=I.pin p hp
   exact ⟨(hs.2 p.1 ne).trans e,n,ne,nf,d⟩
 ·have hfn:X.fn x=true:=by
   rcases hf with z | z
   ·exact z
   ·rw [z] at hk; cases hk
  obtain ⟨c,hc⟩:=I.ok.has x (.inl hk)
  obtain ⟨w',z⟩:=I.cell x c hc
  refine wpAny_storeName_cell I.ok.kind hk hc z (fun h' hc' hs=>?_)
  obtain ⟨oc,hoc,hocd⟩:=id z
  refine h { s with heap:=h' } ⟨I.ok,I.os,I.bare,⟨fun b o e n hb hx=>?_,fun b o e n hb hx=>?_,I.base.free,fun b o e hx=>?_,I.base.tups,I.base.frzs,I.base.tbls⟩,⟨m,hn.sameBut hs (Ne.symm (cne x c hc)),fun j y v' e1 e2 e3=>?_⟩,fun y c' e=>?_,I.free,I.freeC,fun p hp=>?_,tracked ⟨oc,hoc,I.freeC x c hc⟩ hs,by simpa using I.len⟩ ⟨c,hs,.inr hc⟩
  ·exact (hs.2 b (Nat.ne_of_lt (Nat.lt_of_lt_of_le (Heap.lt_size e) (I.ok.cab x c hfn hc)))).trans (I.base.keep b o e n hb hx)
  ·obtain ⟨sl,e1⟩:=I.base.slot b o e n hb hx
   exact ⟨sl,(hs.2 b (Nat.ne_of_lt (Nat.lt_of_lt_of_le (Heap.lt_size e) (I.ok.cab x c hfn hc)))).trans e1⟩
  ·obtain ⟨o',e1⟩:=I.base.there b o e hx
   exact ⟨o',(hs.2 b (Nat.ne_of_lt (Nat.lt_of_lt_of_le (Heap.lt_size e) (I.ok.cab x c hfn hc)))).trans e1⟩
  ·by_cases hj:j=i
   ·subst hj
    rw [hi] at e1; cases e1
    rw [List.getElem?_set_self hiσ] at e2
    cases e2
    exact ⟨u,r,.inr ⟨.inl hk,c,hc,hc'⟩⟩
   ·rw [List.getElem?_set_ne (Ne.symm hj)] at e2
    obtain ⟨u',r',q⟩:=hl j y v' e1 e2 e3
    refine ⟨u',r',?_⟩
    rcases q with q | ⟨k,c',e,z'⟩
    ·exact .inl q
    ·refine .inr ⟨k,c',e,z'.sameBut hs ?_⟩
     rintro rfl
     exact hj (ziU_ hN e1 (I.ok.inj _ _ _ e hc ▸ hi))
  ·by_cases hcc:c'=c
   ·subst hcc; exact ⟨_,hc'⟩
   ·obtain ⟨w2,z2⟩:=I.cell y c' e
    exact ⟨w2,z2.sameBut hs hcc⟩
  ·obtain ⟨e,n,ne,nf,d⟩:=I.pin p hp
   refine ⟨(hs.2 p.1 ?_).trans e,n,ne,nf,d⟩
   intro q
   rw [q,hoc] at e
   have q':oc=p.2:=Option.some.inj e
   exact d w' (by rw [← q']; exact hocd)
theorem zjg_ {M:Model}{A:Around}{E:Value→Shared→Prop}{i:Nat}{x:Str}{v:V}{u:Value}{Q:Unit→Shared→Prop}(I:Inv X pins σ H s) (hN:X.N.Nodup) (hi:X.N[i]?=some x) (hx:Loc X.env.scope x) (r:RelV v u)
  (h:∀ s',Inv X pins (σ.set i (some v)) H s'→Q () s') (hf:X.fn x=true∨X.env.scope.names.lookup x=some .local:=by first | exact .inl rfl | exact .inr rfl | assumption):wpAny M A (storeName X.env x u) Q E s :=
 zjW_ I hN hi hx r (fun s' I' _=>h s' I') hf
theorem Inv.call' {s':Shared}{ch:List Addr}(I:Inv X pins σ H s) (ho:s'.os=s.os) (u:Un (frs X.stack) ch H H' s.heap s'.heap) (hok:HOk X.prog X.w H' s'.heap) (hg:AllBare s'.gens)
  (hch:∀ b∈ch,(b∈X.ex∨X.s₀.heap.objs.size≤b)∧b≠X.env.locals∧(∀ x c,X.env.cells.lookup x=some c→c≠b)∧∀ p∈X.pn++pins,p.1≠b):Inv X pins σ H' s':=by
 obtain ⟨h',g',d',t',o'⟩:=s'
 have e:o'=s.os:=ho
 subst e
 exact I.call (g':=g') (t':=t') (d':=d') u hok hg hch
end
noncomputable abbrev XK:=Value→Option Addr→Hp→Prop
noncomputable abbrev St:=List (Option V)
noncomputable abbrev VK:=V→Hp→Prop
noncomputable abbrev TE:=St→Hp→VK→Prop
noncomputable abbrev TT:=St→Hp→(Bool→Hp→Prop)→Prop
noncomputable abbrev TA:=St→Hp→(List V→Hp→Prop)→Prop
structure Ends where
 nx:St→Hp→Prop
 rt:VK
 bk:St→Hp→Prop:=fun _ _=>False
 ct:St→Hp→Prop:=fun _ _=>False
noncomputable abbrev TS:=Ends→St→Hp→Prop
noncomputable def EP (X:Cx) (pins:Pnn) (σ:St) (Q:VK) (u:Value) (s':Shared):Prop:=∃ v H',Inv X pins σ H' s'∧RelV v u∧Q v H'
noncomputable def TP (X:Cx) (pins:Pnn) (σ:St) (Q:Bool→Hp→Prop) (b:Bool) (s':Shared):Prop:=∃ H',Inv X pins σ H' s'∧Q b H'
noncomputable def AP (X:Cx) (pins:Pnn) (σ:St) (Q:List V→Hp→Prop) (us:List Value) (s':Shared):Prop:=∃ vs H',Inv X pins σ H' s'∧Vals vs us∧Q vs H'
noncomputable def SP (X:Cx) (pins:Pnn) (D:Ends) (f:Flow) (s':Shared):Prop :=
 match f with
 | .next=>∃ σ' H',Inv X pins σ' H' s'∧D.nx σ' H'
 | .brk=>∃ σ' H',Inv X pins σ' H' s'∧D.bk σ' H'
 | .cont=>∃ σ' H',Inv X pins σ' H' s'∧D.ct σ' H'
 | .ret u=>∃ v σ' H',Inv X pins σ' H' s'∧RelV v u∧D.rt v H'
noncomputable def PE (X:Cx) (e:Expr) (t:TE):Prop :=
 ∀ (pins:Pnn) (s:Shared) (σ:St) (H:Hp) (Q:VK),Inv X pins σ H s→t σ H Q→wpAny (model X.prog X.w) X.A (eval e X.env) (EP X pins σ Q) X.xe s
noncomputable def PT (X:Cx) (e:Expr) (t:TT):Prop :=
 ∀ (pins:Pnn) (s:Shared) (σ:St) (H:Hp) (Q:Bool→Hp→Prop),Inv X pins σ H s→t σ H Q→wpAny (model X.prog X.w) X.A (isTrue e X.env (eval e X.env)) (TP X pins σ Q) X.xe s
noncomputable def PW (X:Cx) (e:Expr) (t:TT):Prop :=
 ∀ (whole:Sem Value) (pins:Pnn) (s:Shared) (σ:St) (H:Hp) (Q:Bool→Hp→Prop),Inv X pins σ H s→t σ H Q→wpAny (model X.prog X.w) X.A (isTrue e X.env whole) (TP X pins σ Q) X.xe s
theorem PW.pt {X:Cx}{e:Expr}{t:TT}(h:PW X e t):PT X e t:=h _
noncomputable def PA (X:Cx) (es:List Expr) (t:TA):Prop :=
 ∀ (pos:Pos) (pins:Pnn) (s:Shared) (σ:St) (H:Hp) (Q:List V→Hp→Prop),Inv X pins σ H s→t σ H Q→wpAny (model X.prog X.w) X.A (spliced (backTo pos (starEach es X.env))) (AP X pins σ Q) X.xe s
noncomputable def PS (X:Cx) (st:Stmt) (t:TS):Prop :=
 ∀ (pins:Pnn) (s:Shared) (σ:St) (H:Hp) (D:Ends),Inv X pins σ H s→t D σ H→wpAny (model X.prog X.w) X.A (exec st X.env) (SP X pins D) X.xe s
noncomputable def PSs (X:Cx) (st:List Stmt) (t:TS):Prop :=
 ∀ (pins:Pnn) (s:Shared) (σ:St) (H:Hp) (D:Ends),Inv X pins σ H s→t D σ H→wpAny (model X.prog X.w) X.A (execs st X.env) (SP X pins D) X.xe s
theorem thn {α:Type}{t:Sem α}{Q Q':α→Shared→Prop}{M:Model}{A:Around}{E:Value→Shared→Prop}{s:Shared}(h:wpAny M A t Q E s) (hQ:∀ a s,Q a s→Q' a s):wpAny M A t Q' E s:=wpAny_mono h hQ fun _ _ x=>x
end L2
namespace L2
open PySem PySem.Spec PyProof.Rows
section
variable {X:Cx}
theorem bin {a b:Expr}{ta tb:TE}(ha:PE X a ta) (hb:PE X b tb) {pins:Pnn}{s:Shared}{σ:St}{H:Hp}{R:V→V→Hp→Prop}(I:Inv X pins σ H s) (h:ta σ H fun x H1=>tb σ H1 fun y H2=>R x y H2)
  {α:Type}{Q:α→Shared→Prop}{f:Value→Value→Sem α}
  (hf:∀ v u s2 x y H2,Inv X pins σ H2 s2→RelV x v→RelV y u→R x y H2→wpAny (model X.prog X.w) X.A (f v u) Q X.xe s2) :
  wpAny (model X.prog X.w) X.A (eval a X.env) (fun v s₁=>wpAny (model X.prog X.w) X.A (eval b X.env) (fun u s₂=>wpAny (model X.prog X.w) X.A (f v u) Q X.xe s₂) X.xe s₁) X.xe s:=by
 refine thn (ha pins s σ H _ I h) fun v s1 ⟨x,H1,I1,r1,q1⟩=>?_
 refine thn (hb pins s1 σ H1 _ I1 q1) fun u s2 ⟨y,H2,I2,r2,q2⟩=>?_
 exact hf v u s2 x y H2 I2 r1 r2 q2
noncomputable def tVar (i:Nat):TE:=fun σ H Q=>∃ v,σ[i]?=some (some v)∧Q v H
noncomputable def tC (v:V):TE:=fun _ H Q=>Q v H
theorem znN_ {i:Nat}{x:Str}{pos:Pos}(hN:X.N[i]?=some x) (hv:Vis X.env.scope x) (hd:(x == ("__debug__" : Str))=false:=by decide) (hcd:(x == ("__classdict__" : Str))=false:=by decide):PE X (.Name x pos) (tVar i):=by
 intro pins s σ H Q I h
 obtain ⟨v,e,h⟩:=h
 obtain ⟨m,hn,hl⟩:=I.loc
 obtain ⟨u,r,l⟩:=hl i x v hN e hv
 have fin:EP X pins σ Q u s:=⟨v,H,I,r,h⟩
 rcases l with ⟨hk,hm⟩ | ⟨hk,c,hc,hcell⟩
 ·exact wpAny_Name (wpAny_loadName_local I.ok.kind hk hn hm fin) hd
 ·rcases hk with hk | hk
  ·exact wpAny_Name (wpAny_loadName_cell I.ok.kind hk hc hcell fin) hd
  ·exact wpAny_Name (wpAny_loadName_free I.ok.kind hk hc hcell fin hcd) hd
theorem zh_ {i j pos}:PE X (.Constant (.int i) j pos) (tC (.int i)):=fun _ _ _ H _ I h=>wpAny_Constant_int ⟨.int i,H,I.tok _,⟨_,rfl⟩,h⟩
theorem zkn_ {b j pos}:PE X (.Constant (.bool b) j pos) (tC (.bl b)):=fun _ _ _ H _ I h=>Constant_bool ⟨.bl b,H,I,rfl,h⟩
theorem zb0_ {j pos}:PE X (.Constant .none j pos) (tC .non):=fun _ _ _ H _ I h=>Constant_none ⟨.non,H,I,rfl,h⟩
theorem zoa_ {x j pos}:PE X (.Constant (.str x) j pos) (tC (.str x)):=fun _ _ _ H _ I h=>Calls.Constant_str ⟨.str x,H,I.tok _,⟨_,rfl⟩,h⟩
noncomputable def Gl (X:Cx) (x:Str):Prop:=X.env.kindOf x=some .globalImplicit
theorem zhX_ {E:Value→Shared→Prop}{pins:Pnn}{s:Shared}{σ:St}{H:Hp}{x:Str}{u:Value}{pos:Pos}{Q:Value→Shared→Prop}(I:Inv X pins σ H s) (hg:Gl X x) (hm:X.mg x=some u) (h:Q u s)
  (hd:(x == ("__debug__" : Str))=false:=by decide):wpAny (model X.prog X.w) X.A (eval (.Name x pos) X.env) Q E s :=
 Calls.Name_function_global I.ok.kind hg (Calls.loadGlobal_global (by rw [I.ok.glob]; exact I.mod.glob.keeps I.bk) hm h) hd
theorem zg4_ {E:Value→Shared→Prop}{pins:Pnn}{s:Shared}{σ:St}{H:Hp}{x:Str}{u:Value}{pos:Pos}{Q:Value→Shared→Prop}(I:Inv X pins σ H s) (hg:Gl X x) (hm:X.mg x=none) (hv:bootBuiltins x=some u) (h:Q u s)
  (hn:x ≠ "__name__" := by decide) (hd:(x == ("__debug__" : Str))=false:=by decide):wpAny (model X.prog X.w) X.A (eval (.Name x pos) X.env) Q E s:=by
 obtain ⟨mb,h1,h2⟩:=I.mod.blt
 exact Calls.Name_function_global I.ok.kind hg (Calls.loadGlobal_builtin (by rw [I.ok.glob]; exact I.mod.glob.keeps I.bk) hm (by rw [I.ok.blt]; exact h1.keeps I.bk) ((h2 x hn).trans hv) h) hd
theorem zmC_ {x:Str}{v:V}{u:Value}{pos:Pos}(hg:Gl X x) (hm:X.mg x=some u) (r:RelV v u) (hd:(x == ("__debug__" : Str))=false:=by decide):PE X (.Name x pos) (tC v) :=
 fun _ _ _ H _ I h=>zhX_ I hg hm ⟨v,H,I,r,h⟩ hd
theorem zmA_ {x:Str}{v:V}{u:Value}{pos:Pos}(hg:Gl X x) (hm:X.mg x=none) (hv:bootBuiltins x=some u) (r:RelV v u) (hn:x ≠ "__name__" := by decide) (hd:(x == ("__debug__" : Str))=false:=by decide):PE X (.Name x pos) (tC v) :=
 fun _ _ _ H _ I h=>zg4_ I hg hm hv ⟨v,H,I,r,h⟩ hn hd
variable {a b:Expr}{ta tb:TE}{pos:Pos}
noncomputable def PC (X:Cx) (op:CmpOp) (a b:Expr) (t:TE):Prop :=
 ∀ (pins:Pnn) (s:Shared) (σ:St) (H:Hp) (Q:VK),Inv X pins σ H s→t σ H Q →
  wpAny (model X.prog X.w) X.A (eval a X.env) (fun v s₁=>wpAny (model X.prog X.w) X.A (eval b X.env) (fun u s₂=>wpAny (model X.prog X.w) X.A (compareOp op v u) (EP X pins σ Q) X.xe s₂) X.xe s₁) X.xe s
theorem nobehind (b:Expr) {op:CmpOp}(h:op≠.In) (h2:op≠.NotIn):behindInMarks op b=false:=by
 have e1:(op == CmpOp.In)=false:=by cases op<;>first | rfl | exact absurd rfl h
 have e2:(op == CmpOp.NotIn)=false:=by cases op<;>first | rfl | exact absurd rfl h2
 cases b<;>simp [behindInMarks,e1,e2]
variable {tA tB':TT}{rest:List Expr}
noncomputable def tNot (t:TT):TT:=fun σ H Q=>t σ H fun c H1=>Q (!c) H1
theorem zcm_ (ha:PT X a tA):PW X (.BoolOp .And [a] pos) tA:=by
 intro wh pins s σ H Q I h
 refine isTrue_and (thn (ha pins s σ H Q I h) fun c s1 e=>?_)
 cases c with
 | true=>exact isTrue_and_nil e
 | false=>exact e
theorem zgp_ (ha:PT X a tA):PW X (.BoolOp .Or [a] pos) tA:=by
 intro wh pins s σ H Q I h
 refine isTrue_or (thn (ha pins s σ H Q I h) fun c s1 e=>?_)
 cases c with
 | false=>exact isTrue_or_nil e
 | true=>exact e
theorem zfX_ (ha:PT X a tA):PT X (.UnaryOp .Not a pos) (tNot tA):=by
 intro pins s σ H Q I h
 exact isTrue_not (ha pins s σ H (fun c H1=>Q (!c) H1) I h)
theorem znG_ {op} {t:TE}(h:PE X a t):PE X (.BoolOp op [a] pos) t:=fun pins s σ H Q I hw=>BoolOp_one (h pins s σ H Q I hw)
end
end L2
namespace L2
open PySem PySem.Spec PyProof.Rows
noncomputable def SqL (K:Fgg) (H:Hp) (a:Addr) (xs:List V):Prop :=
 Rd H a (.lst xs) ∨
  ∃ (o:Obj) (its:Array Value) (n:Nat),K.lookup a=some o∧o.cls=.type "list" ∧ o.dict=none∧o.data=.seq its n∧its.size≤sizeLine∧Vals xs its.toList
noncomputable def SqT (K:Fgg) (H:Hp) (a:Addr) (xs:List V):Prop :=
 Rd H a (.tup xs) ∨
  ∃ (o:Obj) (its:Array Value) (n:Nat),K.lookup a=some o∧o.cls=.type "tuple" ∧ o.data=.seq its n∧its.size≤sizeLine∧Vals xs its.toList
noncomputable def absV:Value→Option V
 | .none=>some .non
 | .bool b=>some (.bl b)
 | .int i _=>some (.int i)
 | .str x _=>some (.str x)
 | .bytes b _=>some (.byt b)
 | .float b _=>some (.flt b)
 | .ref a=>some (.ref a)
 | .type n=>some (.ty n)
 | _=>none
theorem RelV.abs {x:V}{u:Value}(r:RelV x u):absV u=some x:=by
 cases x with
 | non=>cases r; rfl
 | bl _=>cases r; rfl
 | int _=>obtain ⟨t,rfl⟩:=r; rfl
 | str _=>obtain ⟨t,rfl⟩:=r; rfl
 | byt _=>obtain ⟨t,rfl⟩:=r; rfl
 | flt _=>obtain ⟨t,rfl⟩:=r; rfl
 | ref _=>cases r; rfl
 | ty _=>cases r; rfl
theorem RelV.inj {x y:V}{u:Value}(r:RelV x u) (q:RelV y u):x=y:=Option.some.inj (r.abs.symm.trans q.abs)
theorem Vals.inj:∀ {xs ys:List V}{us:List Value},Vals xs us→Vals ys us→xs=ys
 | _,_,_,.nil,.nil=>rfl
 | _,_,_,.cons r t,.cons r' t'=>by rw [r.inj r',Vals.inj t t']
section
variable {X:Cx}{pins:Pnn}{σ:St}{H:Hp}{s:Shared}{a:Addr}{xs ys:List V}
theorem SqL.of {K:Fgg}(h:H a=some (.lst xs)):SqL K H a xs:=.inl (.inl h)
theorem SqT.of {K:Fgg}(h:H a=some (.tup xs)):SqT K H a xs:=.inl (.inl h)
theorem Inv.list (I:Inv X pins σ H s) (h:SqL X.K H a xs):∃ its:List Value,Vals xs its∧PlainL s.heap a its.toArray∧xs.length≤sizeLine:=by
 rcases h with h | ⟨o,its,n,hk,hc,hd,hs,hz,r⟩
 ·obtain ⟨z,its,n,r,e⟩:=h.ok I.hok
  exact ⟨its,r,⟨_,n,e,rfl,rfl,rfl⟩,z⟩
 ·refine ⟨its.toList,r,⟨o,n,I.kIn a o hk,hc,hd,by simpa using hs⟩,?_⟩
  have e:=r.length
  simp only [Array.length_toList] at e
  lia
theorem Inv.tuple (I:Inv X pins σ H s) (h:SqT X.K H a xs):∃ its:List Value,Vals xs its∧IsTup s.heap a its.toArray∧xs.length≤sizeLine:=by
 rcases h with h | ⟨o,its,n,hk,hc,hs,hz,r⟩
 ·obtain ⟨z,its,r,p⟩:=h.ok I.hok
  exact ⟨its,r,p,z⟩
 ·refine ⟨its.toList,r,⟨o,I.kIn a o hk,hc,n,by simpa using hs⟩,?_⟩
  have e:=r.length
  simp only [Array.length_toList] at e
  lia
theorem Inv.list_inj (I:Inv X pins σ H s) (h:SqL X.K H a xs) (h':SqL X.K H a ys):xs=ys:=by
 obtain ⟨its,r,⟨o,n,e,_,_,d⟩,_⟩:=I.list h
 obtain ⟨its',r',⟨o',n',e',_,_,d'⟩,_⟩:=I.list h'
 rw [e] at e'; cases e'
 rw [d] at d'
 injection d' with d1 _
 have:its=its':=by simpa using congrArg Array.toList d1
 subst this
 exact r.inj r'
theorem Inv.tuple_inj (I:Inv X pins σ H s) (h:SqT X.K H a xs) (h':SqT X.K H a ys):xs=ys:=by
 obtain ⟨its,r,⟨o,e,_,n,d⟩,_⟩:=I.tuple h
 obtain ⟨its',r',⟨o',e',_,n',d'⟩,_⟩:=I.tuple h'
 rw [e] at e'; cases e'
 rw [d] at d'
 injection d' with d1 _
 have:its=its':=by simpa using congrArg Array.toList d1
 subst this
 exact r.inj r'
end
noncomputable abbrev Cx.wish (X:Cx) (E:Value→Shared→Prop):Cx:={ X with xe:=E }
noncomputable abbrev Cx.nox (X:Cx):Cx:=X.wish fun _ _=>False
theorem Cx.Ok.wish {X:Cx}(ok:X.Ok) (E:Value→Shared→Prop):(X.wish E).Ok :=
 ⟨ok.mod,ok.kind,ok.glob,ok.blt,ok.above,ok.inj,ok.has,ok.cab,ok.hd,ok.frames,ok.stk,ok.exf,ok.bs,ok.bsz,ok.noex,ok.exfs,ok.funs,ok.frf⟩
theorem Cx.Ok.unwish {X:Cx}{E:Value→Shared→Prop}(ok:(X.wish E).Ok):X.Ok :=
 ⟨ok.mod,ok.kind,ok.glob,ok.blt,ok.above,ok.inj,ok.has,ok.cab,ok.hd,ok.frames,ok.stk,ok.exf,ok.bs,ok.bsz,ok.noex,ok.exfs,ok.funs,ok.frf⟩
section
variable {X:Cx}{pins:Pnn}{σ:St}{H:Hp}{s:Shared}{E:Value→Shared→Prop}
theorem Inv.wish (I:Inv X pins σ H s) (E:Value→Shared→Prop):Inv (X.wish E) pins σ H s:=⟨I.ok.wish E,I.os,I.bare,I.base,I.loc,I.cell,I.free,I.freeC,I.pin,I.hok,I.len⟩
theorem Inv.unwish (I:Inv (X.wish E) pins σ H s):Inv X pins σ H s:=⟨I.ok.unwish,I.os,I.bare,I.base,I.loc,I.cell,I.free,I.freeC,I.pin,I.hok,I.len⟩
theorem SP.unwish {D:Ends}{f:Flow}{s':Shared}(h:SP (X.wish E) pins D f s'):SP X pins D f s':=by
 cases f with
 | next=>obtain ⟨σ',H',I,q⟩:=h; exact ⟨σ',H',I.unwish,q⟩
 | brk=>obtain ⟨σ',H',I,q⟩:=h; exact ⟨σ',H',I.unwish,q⟩
 | cont=>obtain ⟨σ',H',I,q⟩:=h; exact ⟨σ',H',I.unwish,q⟩
 | ret u=>obtain ⟨v,σ',H',I,r,q⟩:=h; exact ⟨v,σ',H',I.unwish,r,q⟩
theorem PSs.nox {st:List Stmt}{t:TS}(h:PSs X.nox st t):PSs X st t:=fun pins s σ H D I hw =>
 wpAny_mono (h pins s σ H D (I.wish _) hw) (fun _ _ q=>q.unwish) fun _ _ z=>False.elim z
end
section
variable {X:Cx}{st:Stmt}{rest:List Stmt}{t u:TS}{e:Expr}{te:TE}{pos:Pos}
noncomputable def tNext:TS:=fun D σ H=>D.nx σ H
noncomputable def tSeq (t u:TS):TS:=fun D σ H=>t { D with nx:=u D } σ H
theorem zR_:PSs X [] tNext:=fun _ _ σ H _ I h=>wpAny_execs_nil ⟨σ,H,I,h⟩
theorem zd_ (h1:PS X st t) (h2:PSs X rest u):PSs X (st::rest) (tSeq t u):=by
 intro pins s σ H D I h
 refine wpAny_execs_cons (thn (h1 pins s σ H { D with nx:=u D } I h) fun f s1 q=>?_)
 cases f with
 | next =>
  obtain ⟨σ',H',I',q⟩:=q
  exact h2 pins s1 σ' H' D I' q
 | ret v=>exact q
 | brk=>exact q
 | cont=>exact q
theorem zi_ (h1:PS X st t):PSs X [st] t:=by
 intro pins s σ H D I h
 refine wpAny_execs_cons (thn (h1 pins s σ H D I h) fun f s1 q=>?_)
 cases f with
 | next=>exact wpAny_execs_nil q
 | ret v=>exact q
 | brk=>exact q
 | cont=>exact q
theorem Inv.quiet {pins:Pnn}{σ:St}{H:Hp}{s:Shared}(I:Inv X pins σ H s):interactive X.env=false:=by simp [interactive,I.ok.kind]
noncomputable def tDrop (te:TE):TS:=fun D σ H=>te σ H fun _ H1=>D.nx σ H1
theorem zcp_ (he:PE X e te) (hs:swapsWith e none pos.line X.env=pure false:=by rfl):PS X (.Expr e pos) (tDrop te):=by
 intro pins s σ H D I h
 exact wpAny_Expr_any (thn (he pins s σ H _ I h) fun v s1 ⟨x,H1,I1,r1,q1⟩=>⟨σ,H1,I1,q1⟩) I.quiet hs
noncomputable def tRet (te:TE):TS:=fun D σ H=>te σ H D.rt
theorem z0_ (he:PE X e te):PS X (.Return (some e) pos) (tRet te):=by
 intro pins s σ H D I h
 exact wpAny_Return_some (thn (he pins s σ H _ I h) fun v s1 ⟨x,H1,I1,r1,q1⟩=>⟨x,σ,H1,I1,r1,q1⟩)
end
noncomputable abbrev TG:=V→St→Hp→(St→Hp→Prop)→Prop
noncomputable def PG (X:Cx) (target:Expr) (t:TG):Prop :=
 ∀ (pins:Pnn) (s:Shared) (σ:St) (H:Hp) (v:V) (u:Value) (Q:St→Hp→Prop),Inv X pins σ H s→RelV v u→t v σ H Q →
  wpAny (model X.prog X.w) X.A (assign target X.env u) (fun _ s'=>∃ σ' H',Inv X pins σ' H' s'∧Q σ' H') X.xe s
noncomputable abbrev TSet:=V→V→V→Hp→(Hp→Prop)→Prop
noncomputable def PSet (X:Cx) (t:TSet):Prop :=
 ∀ (pins:Pnn) (s:Shared) (σ:St) (H:Hp) (o i v:V) (ov iv u:Value) (Q:Hp→Prop),Inv X pins σ H s→RelV o ov→RelV i iv→RelV v u→t o i v H Q →
  wpAny (model X.prog X.w) X.A (setItem ov iv u) (fun _ s'=>∃ H',Inv X pins σ H' s'∧Q H') X.xe s
section
variable {X:Cx}{pos:Pos}
noncomputable def gName (i:Nat):TG:=fun v σ H Q=>Q (σ.set i (some v)) H
theorem zap_ {i:Nat}{x:Str}(hN:X.N.Nodup) (hi:X.N[i]?=some x) (hx:Loc X.env.scope x) (hf:X.fn x=true∨X.env.scope.names.lookup x=some .local:=by first | exact .inl rfl | exact .inr rfl | assumption):PG X (.Name x pos) (gName i):=by
 intro pins s σ H v u Q I r h
 exact wpAny_assign_Name (zjg_ I hN hi hx r (fun s' I'=>⟨_,H,I',h⟩) hf)
noncomputable def gSub (to ti:TE) (t:TSet):TG:=fun v σ H Q=>to σ H fun o H1=>ti σ H1 fun i H2=>t o i v H2 fun H3=>Q σ H3
theorem zmq_ {o i:Expr}{to ti:TE}{t:TSet}(ho:PE X o to) (hi:PE X i ti) (hs:PSet X t)
  (ha:∀ v,assign (.Subscript o i pos) X.env v=(do
   let ov ← holding [v] (eval o X.env)
   let iv ← holding [v,ov] (eval i X.env)
   standAt pos
   holding [v,ov,iv] (setItem ov iv v)
   release [v,ov,iv] []):=by intro _; rfl):PG X (.Subscript o i pos) (gSub to ti t):=by
 intro pins s σ H v u Q I r h
 rw [ha]
 refine wpAny_bind (wpAny_holding (thn (ho pins s σ H _ I h) fun ov s1 ⟨x,H1,I1,r1,q1⟩=>?_))
 refine wpAny_bind (wpAny_holding (thn (hi pins s1 σ H1 _ I1 q1) fun iv s2 ⟨y,H2,I2,r2,q2⟩=>?_))
 refine wpAny_bind (wpAny_standAt (wpAny_bind (wpAny_holding (thn (hs pins s2 σ H2 x y v ov iv u _ I2 r1 r2 r q2) fun _ s3 ⟨H3,I3,q3⟩=>?_))))
 exact wpAny_release ⟨σ,H3,I3,q3⟩
noncomputable def tAsg (te:TE) (g:TG):TS:=fun D σ H=>te σ H fun x H1=>g x σ H1 D.nx
theorem zm3_ {tg e:Expr}{te:TE}{g:TG}(he:PE X e te) (hg:PG X tg g) (hs:swapsWithSole [tg] e pos.line X.env=pure false:=by rfl) (hw:swappedStores [tg] e X.env=pure none:=by rfl)
  (h1:(assignEach [tg] X.env).map (·.2)=[assign tg X.env]:=by rfl):PS X (.Assign [tg] e pos) (tAsg te g):=by
 intro pins s σ H D I h
 refine wpAny_Assign_stores (thn (he pins s σ H _ I h) fun v s1 ⟨x,H1,I1,r1,q1⟩=>?_) hs hw
 rw [h1]
 exact thn (hg pins s1 σ H1 x v _ I1 r1 q1) fun _ s2 q=>q
theorem zB_ {i:Nat}{x:Str}{e:Expr}{te:TE}{pos':Pos}(hN:X.N.Nodup) (hi:X.N[i]?=some x) (hx:Loc X.env.scope x) (he:PE X e te) (hs:swapsWith e (some (.Name x pos')) pos.line X.env=pure false:=by rfl) (hf:X.fn x=true∨X.env.scope.names.lookup x=some .local:=by first | exact .inl rfl | exact .inr rfl | assumption) :
  PS X (.Assign [.Name x pos'] e pos) (tAsg te (gName i)):=by
 intro pins s σ H D I h
 refine wpAny_Assign_Name (thn (he pins s σ H _ I h) fun v s1 ⟨y,H1,I1,r1,q1⟩=>?_) hs
 exact zjg_ I1 hN hi hx r1 (fun s2 I2=>⟨_,H1,I2,q1⟩) hf
end
section
variable {X:Cx}{pos:Pos}
noncomputable def tWhile (c:TT) (tb:TS):TS:=fun D σ H=>∃ W:Nat→St→Hp→Prop,(∃ m,W m σ H)∧∀ m σ H,W m σ H →
 c σ H fun b H1=>if b=true then ∃ N:St→Hp→Prop,(∀ σ' H',N σ' H'→∃ m',m'<m∧W m' σ' H')∧tb { D with nx:=N,ct:=N,bk:=D.nx } σ H1 else D.nx σ H1
theorem zja_ {c:Expr}{body:List Stmt}{tc:TT}{tb:TS}(hp:PassesOwn (model X.prog X.w) X.A X.env X.xe) (hc:PT X c tc) (hb:PSs X body tb):PS X (.While c body [] pos) (tWhile tc tb):=by
 intro pins s σ H D I h
 obtain ⟨W,⟨m0,w0⟩,turn⟩:=h
 refine wpAny_While (codeAny_whileLoop (fun n s'=>∃ σ' H',Inv X pins σ' H' s'∧W n σ' H') ?_ m0 ⟨σ,H,I,w0⟩)
 rintro n s1 ⟨σ1,H1,I1,w1⟩
 refine wpAny_passesOwn hp (thn (hc pins s1 σ1 H1 _ I1 (turn n σ1 H1 w1)) fun b s2 ⟨H2,I2,q2⟩=>?_)
 cases b with
 | true =>
  obtain ⟨N,hN,q2⟩:=q2
  rw [if_pos rfl]
  refine wpAny_passesOwn hp (thn (hb pins s2 σ1 H2 _ I2 q2) fun f s3 q3=>?_)
  cases f with
  | next =>
   obtain ⟨σ3,H3,I3,n3⟩:=q3
   obtain ⟨m',hm,w3⟩:=hN σ3 H3 n3
   exact ⟨m',hm,σ3,H3,I3,w3⟩
  | cont =>
   obtain ⟨σ3,H3,I3,n3⟩:=q3
   obtain ⟨m',hm,w3⟩:=hN σ3 H3 n3
   exact ⟨m',hm,σ3,H3,I3,w3⟩
  | brk=>exact q3
  | ret v=>exact q3
 | false =>
  rw [if_neg Bool.false_ne_true]
  exact wpAny_execs_nil ⟨σ1,H2,I2,q2⟩
end
structure It where
 go:Nat→Hp→Prop
 yld:Nat→Hp→V→Hp→Prop
 stop:Nat→Hp→Prop
noncomputable def FpOk (X:Cx) (pins:Pnn) (H:Hp) (b:Addr):Prop :=
 H b=none∧b≠X.env.locals∧b∉X.fs∧(b∈X.ex∨X.s₀.heap.objs.size≤b)∧(∀ x c,X.env.cells.lookup x=some c→c≠b)∧∀ p∈X.pn++pins,p.1≠b
theorem Inv.fpOk {X:Cx}{pins:Pnn}{σ:St}{H H':Hp}{s:Shared}{b:Addr}(I:Inv X pins σ H s) (hb:s.heap.objs.size≤b) (hn:H' b=none):FpOk X pins H' b:=by
 refine ⟨hn,Nat.ne_of_gt (Nat.lt_of_lt_of_le I.lt hb),I.nofs hb,.inr (Nat.le_trans I.sz hb),fun x c e z=>?_,fun p hp z=>?_⟩
 ·obtain ⟨v,q⟩:=I.cell x c e
  exact absurd (Nat.lt_of_lt_of_le q.lt (by rw [z]; exact hb)) (Nat.lt_irrefl _)
 ·exact absurd (Nat.lt_of_lt_of_le (Heap.lt_size (I.pin p hp).1) (by rw [z]; exact hb)) (Nat.lt_irrefl _)
structure Turn (P:Program) (w:World) (K:Fgg) (tg:Expr) (J:It) (fp:List Addr) (it:Addr) (tn:Nat→Heap→Prop):Prop where
 mem:it∈fp
 obj:∀ i h,tn i h→∀ b∈fp,∃ o,h.get? b=some o∧∀ v,o.data≠.cell v
 keep:∀ i h h',tn i h→(∀ b∈fp,∀ o,h.get? b=some o→h'.get? b=some o)→tn i h'
 item:∀ (X:Cx),X.prog=P→X.w=w→X.K=K→X.calm=true→∀ (i:Nat) (pins:Pnn) (s:Shared) (σ:St) (H:Hp) (E:Value→Shared→Prop),Inv X pins σ H s→(∀ b∈fp,FpOk X pins H b)→tn i s.heap→J.go i H →
  wpAny (model P w) X.A (pyNext (.ref it)) (fun r s1=>∃ u,r=some u ∧
   wpAny (model P w) X.A (letOwnedTupleGo tg (.ref it) u) (fun _ s2=>∃ x H',Inv X pins σ H' s2∧RelV x u∧J.yld i H x H'∧tn (i+1) s2.heap∧∀ b∈fp,H' b=none) E s1) E s
 done:∀ (X:Cx),X.prog=P→X.w=w→X.K=K→X.calm=true→∀ (i:Nat) (pins:Pnn) (s:Shared) (σ:St) (H:Hp) (E:Value→Shared→Prop),Inv X pins σ H s→(∀ b∈fp,FpOk X pins H b)→tn i s.heap→J.stop i H →
  wpAny (model P w) X.A (pyNext (.ref it)) (fun r s1=>r=none∧Inv X pins σ H s1) E s
 self:∀ (A:Around) (i:Nat) (s:Shared) (Q:Value→Shared→Prop) (E:Value→Shared→Prop),tn i s.heap→Q (.ref it) s→wpAny (model P w) A (pyIter (.ref it)) Q E s
noncomputable abbrev TI:=St→Hp→(It→Hp→Prop)→Prop
noncomputable def PIE (X:Cx) (pins:Pnn) (σ:St) (tg:Expr) (R:It→Hp→Prop) (itv:Value) (s2:Shared):Prop :=
 ∃ (it:Addr) (fp:List Addr) (tn:Nat→Heap→Prop) (J:It) (H':Hp),itv=.ref it∧Inv X pins σ H' s2∧Turn X.prog X.w X.K tg J fp it tn∧tn 0 s2.heap∧(∀ b∈fp,FpOk X pins H' b)∧R J H'
noncomputable def PI (X:Cx) (tg iter:Expr) (wi:TI):Prop :=
 ∀ (pins:Pnn) (s:Shared) (σ:St) (H:Hp) (R:It→Hp→Prop),Inv X pins σ H s→wi σ H R →
  wpAny (model X.prog X.w) X.A (eval iter X.env) (fun v s1=>wpAny (model X.prog X.w) X.A (pyIter v) (PIE X pins σ tg R) X.xe s1) X.xe s
theorem zmI_ {M:Model}{A:Around}{E:Value→Shared→Prop}{s:Shared}{tg:Expr}{it:Addr}{u:Value}{o:Obj}{n:String}{vs:Array Value}{Q:Unit→Shared→Prop}(ho:s.heap.get? it=some o) (hc:o.cls=.type n) (hd:o.data=.fields vs)
  (hn:["enumerate", "zip", "dict_itemiterator", "dict_reverseitemiterator", "odict_iterator", "itertools.zip_longest", "itertools.pairwise"].contains n=false) (hQ:Q () s):wpAny M A (letOwnedTupleGo tg (.ref it) u) Q E s:=by
 unfold letOwnedTupleGo
 cases tg<;>first
  | exact wpAny_pure hQ
  | (cases u<;>first
    | exact wpAny_pure hQ
    | (refine wpAny_bind (wpAny_load ho ?_)
       rw [hc,hd]
       show wpAny M A (if (["enumerate", "zip", "dict_itemiterator", "dict_reverseitemiterator", "odict_iterator", "itertools.zip_longest", "itertools.pairwise"].contains n && vs[0]? == some (rawInt _))=true then _ else _) Q E s
       rw [if_neg (by intro h; rw [hn,Bool.false_and] at h; cases h)]
       exact wpAny_pure hQ))
noncomputable def Itl (K:Fgg) (a:Addr):It :=
 ⟨fun i H=>∃ xs x,SqL K H a xs∧xs[i]?=some x,fun i H x H'=>H'=H∧∀ xs,SqL K H a xs→xs[i]?=some x,fun i H=>∃ xs,SqL K H a xs∧xs.length≤i⟩
noncomputable def Itt (K:Fgg) (a:Addr):It :=
 ⟨fun i H=>∃ xs x,SqT K H a xs∧xs[i]?=some x,fun i H x H'=>H'=H∧∀ xs,SqT K H a xs→xs[i]?=some x,fun i H=>∃ xs,SqT K H a xs∧xs.length≤i⟩
noncomputable def Itr (lo:Int) (n:Nat):It:=⟨fun i _=>i<n,fun i H x H'=>H'=H∧x=.int (lo+i),fun i _=>n≤i⟩
theorem zjI_ {P:Program}{w:World}{K:Fgg}{tg:Expr}(a it:Addr):Turn P w K tg (Itl K a) [it] it (fun i h=>h.IsListIter it a i) where
 mem:=by simp
 obj:=fun i h st b hb=>by
  have e:b=it:=by simpa using hb
  subst e
  obtain ⟨o,e,c,d⟩:=st
  exact ⟨o,e,fun v z=>by rw [d] at z; cases z⟩
 keep:=fun i h h' st k=>st.at fun o e=>k it (by simp) o e
 item:=by
  intro X hP hw hK hc i pins s σ H E I hf st hg
  subst hP hw hK
  obtain ⟨xs,x,hq,hx⟩:=hg
  obtain ⟨its,rv,p,hz⟩:=I.list hq
  obtain ⟨u,hu,ru⟩:=rv.get hx
  obtain ⟨f0,f1,f2,f3,f4,f5⟩:=hf it (by simp)
  refine wpAny_pyNext_list_item st p.isList (x:=u) (by simpa using hu) fun h' st' sb=>?_
  have I1:Inv X pins σ H { s with heap:=h' }:=I.turned (t':=s.toks) (fun b o hb e=>(sb.2 b hb).trans e) f0 f1 f3 f4 f5
  obtain ⟨o,e,c,d⟩:=id st'
  exact ⟨u,rfl,zmI_ (s:={ s with heap:=h' }) e c d (by decide) ⟨x,H,I1,ru,⟨rfl,fun ys hy=>by rw [I.list_inj hy hq]; exact hx⟩,st',fun b hb=>(hf b hb).1⟩⟩
 done:=by
  intro X hP hw hK hc i pins s σ H E I hf st hg
  subst hP hw hK
  obtain ⟨xs,hq,hx⟩:=hg
  obtain ⟨its,rv,p,hz⟩:=I.list hq
  obtain ⟨f0,f1,f2,f3,f4,f5⟩:=hf it (by simp)
  have hl:=rv.length
  exact wpAny_pyNext_list_end (I.ok.hd hc) st p.isList (by simp; lia) fun h' eb=>⟨rfl,I.turned (t':=s.toks) (fun b o hb e=>eb b o hb e) f0 f1 f3 f4 f5⟩
 self:=fun _ _ _ _ _ st h=>wpAny_pyIter_listiter st h
theorem zjf_ {P:Program}{w:World}{K:Fgg}{tg:Expr}(a it:Addr):Turn P w K tg (Itt K a) [it] it (fun i h=>h.IsTupleIter it a i) where
 mem:=by simp
 obj:=fun i h st b hb=>by
  have e:b=it:=by simpa using hb
  subst e
  obtain ⟨o,e,c,d⟩:=st
  exact ⟨o,e,fun v z=>by rw [d] at z; cases z⟩
 keep:=fun i h h' st k=>st.at fun o e=>k it (by simp) o e
 item:=by
  intro X hP hw hK hc i pins s σ H E I hf st hg
  subst hP hw hK
  obtain ⟨xs,x,hq,hx⟩:=hg
  obtain ⟨its,rv,p,hz⟩:=I.tuple hq
  obtain ⟨u,hu,ru⟩:=rv.get hx
  obtain ⟨f0,f1,f2,f3,f4,f5⟩:=hf it (by simp)
  refine wpAny_pyNext_tuple_item st (show s.heap.IsTuple a its.toArray from p) (x:=u) (by simpa using hu) fun h' st' sb=>?_
  have I1:Inv X pins σ H { s with heap:=h' }:=I.turned (t':=s.toks) (fun b o hb e=>(sb.2 b hb).trans e) f0 f1 f3 f4 f5
  obtain ⟨o,e,c,d⟩:=id st'
  exact ⟨u,rfl,zmI_ (s:={ s with heap:=h' }) e c d (by decide) ⟨x,H,I1,ru,⟨rfl,fun ys hy=>by rw [I.tuple_inj hy hq]; exact hx⟩,st',fun b hb=>(hf b hb).1⟩⟩
 done:=by
  intro X hP hw hK hc i pins s σ H E I hf st hg
  subst hP hw hK
  obtain ⟨xs,hq,hx⟩:=hg
  obtain ⟨its,rv,p,hz⟩:=I.tuple hq
  obtain ⟨f0,f1,f2,f3,f4,f5⟩:=hf it (by simp)
  have hl:=rv.length
  exact wpAny_pyNext_tuple_end (I.ok.hd hc) st (show s.heap.IsTuple a its.toArray from p) (by simp; lia) fun h' eb=>⟨rfl,I.turned (t':=s.toks) (fun b o hb e=>eb b o hb e) f0 f1 f3 f4 f5⟩
 self:=fun _ _ _ _ _ st h=>wpAny_pyIter_tupleiter st h
theorem zjb_ {P:Program}{w:World}{K:Fgg}{tg:Expr}(it:Addr) (lo:Int) (n:Nat):Turn P w K tg (Itr lo n) [it] it (fun i h=>IsRangeIter h it (lo+(i:Nat)*1) ((n:Int)-(i:Nat)) 1) where
 mem:=by simp
 obj:=fun i h st b hb=>by
  have e:b=it:=by simpa using hb
  subst e
  exact ⟨_,st,fun v z=>by
   have z':Data.fields _=Data.cell v:=z
   cases z'⟩
 keep:=fun i h h' st k=>k it (by simp) _ st
 item:=by
  intro X hP hw hK hc i pins s σ H E I hf st hg
  subst hP hw hK
  obtain ⟨f0,f1,f2,f3,f4,f5⟩:=hf it (by simp)
  have W:=Walks.range (prog:=X.prog) (w:=X.w) (I.ok.hd hc) it lo 1 n
  refine W.item i s _ _ hg st fun v h' tk hv st' kk=>?_
  obtain ⟨t,rfl⟩:=hv
  have I1:Inv X pins σ H { s with heap:=h',toks:=tk }:=I.turned (fun b o hb e=>kk b o (by simpa using hb) e) f0 f1 f3 f4 f5
  refine ⟨_,rfl,zmI_ (s:={ s with heap:=h',toks:=tk }) (n := "range_iterator") st' rfl rfl (by decide) ⟨.int (lo+i),H,I1,⟨t,?_⟩,⟨rfl,rfl⟩,st',fun b hb=>(hf b hb).1⟩⟩
  rw [Int.mul_one]
 done:=by
  intro X hP hw hK hc i pins s σ H E I hf st hg
  subst hP hw hK
  obtain ⟨f0,f1,f2,f3,f4,f5⟩:=hf it (by simp)
  exact wpAny_pyNext_range_end (I.ok.hd hc) st (by have:n≤i:=hg; lia) fun h' eb=>⟨rfl,I.turned (t':=s.toks) (fun b o hb e=>eb b o hb e) f0 f1 f3 f4 f5⟩
 self:=fun _ _ _ _ _ st h=>wpAny_pyIter_rangeiter st h
end L2
namespace L2
open PySem PySem.Spec PyProof.Rows
section
variable {X:Cx}{tg:Expr}
theorem zh6_ {pins:Pnn}{σ:St}{H:Hp}{s:Shared}{R:It→Hp→Prop}{E:Value→Shared→Prop}{lo hi:Int}{t u v:Tok}{tk:Nat}(I:Inv X pins σ H s) (h1 : -(2 ^ 62)≤lo) (h2:lo<2 ^ 62) (h3 : -(2 ^ 62)≤hi) (h4:hi<2 ^ 62)
  (q:R (Itr lo (hi-lo).toNat) H):wpAny (model X.prog X.w) X.A (pyIter (.ref s.heap.objs.size)) (PIE X pins σ tg R) E { s with heap:=s.heap.push { cls:=.type "range",data:=.fields #[.int lo t,.int hi u,.int 1 v] },toks:=tk }:=by
 refine wpAny_pyIter_range (IsRange.new ..) (small_one h1 h2 h3 h4) ?_
 have I1:Inv X pins σ H { s with heap:=s.heap.push { cls:=.type "range",data:=.fields #[.int lo t,.int hi u,.int 1 v] },toks:=tk }:=I.kept fun b o e=>Heap.get?_push_of_some _ e
 refine ⟨(s.heap.push { cls:=.type "range",data:=.fields #[.int lo t,.int hi u,.int 1 v] }).objs.size,[(s.heap.push { cls:=.type "range",data:=.fields #[.int lo t,.int hi u,.int 1 v] }).objs.size],_,_,H,rfl,
  I1.kept (t':=tk) fun b o e=>Heap.get?_push_of_some _ e,zjb_ _ lo (hi-lo).toNat,?_,fun b hb=>?_,q⟩
 ·have e1:lo+((0:Nat):Int)*1=lo:=by simp
  have e2:(((hi-lo).toNat:Nat):Int)-((0:Nat):Int)=Builtin.Range.rangeSize lo hi 1:=by rw [rangeSize_one]; split<;>lia
  show IsRangeIter _ _ (lo+((0:Nat):Int)*1) ((((hi-lo).toNat:Nat):Int)-((0:Nat):Int)) 1
  rw [e1,e2]
  exact Heap.get?_push_size _ rfl
 ·have e:b=(s.heap.push { cls:=.type "range",data:=.fields #[.int lo t,.int hi u,.int 1 v] }).objs.size:=by simpa using hb
  subst e
  exact I1.fpOk (Nat.le_refl _) (I1.hok.fresh (Nat.le_refl _))
noncomputable def tFor (wi:TI) (g:TG) (tb:TS):TS:=fun D σ H=>wi σ H fun J H1=>∃ W:Nat→Nat→St→Hp→Prop,(∃ m,W 0 m σ H1)∧∀ i m σ H,W i m σ H →
 (J.stop i H∧D.nx σ H)∨(J.go i H∧∃ N:St→Hp→Prop,(∀ σ' H',N σ' H'→∃ m',m'<m∧W (i+1) m' σ' H')∧∀ x H',J.yld i H x H'→g x σ H' fun σ2 H2=>tb { D with nx:=N,ct:=N,bk:=D.nx } σ2 H2)
noncomputable def pinsAt (fp:List Addr) (h:Heap):Pnn:=fp.filterMap fun b=>(h.get? b).map fun o=>(b,o)
theorem zc7_ {fp:List Addr}{h:Heap}{b:Addr}{o:Obj}(hb:b∈fp) (e:h.get? b=some o):(b,o)∈pinsAt fp h:=List.mem_filterMap.mpr ⟨b,hb,by rw [e]; rfl⟩
theorem zjF_ {fp:List Addr}{h:Heap}{p:Addr×Obj}(hp:p∈pinsAt fp h):p.1∈fp∧h.get? p.1=some p.2:=by
 obtain ⟨b,hb,e⟩:=List.mem_filterMap.mp hp
 cases q:h.get? b with
 | none=>rw [q] at e; cases e
 | some o =>
  rw [q] at e
  have e':(b,o)=p:=Option.some.inj e
  subst e'
  exact ⟨hb,q⟩
theorem Inv.pinned {pins:Pnn}{σ:St}{H:Hp}{s:Shared}{fp:List Addr}(I:Inv X pins σ H s) (hf:∀ b∈fp,FpOk X pins H b) (ho:∀ b∈fp,∃ o,s.heap.get? b=some o∧∀ v,o.data≠.cell v):Inv X (pins++pinsAt fp s.heap) σ H s :=
 I.pins_of fun p hp=>(List.mem_append.mp hp).elim (fun z=>I.pin p (List.mem_append_right _ z)) fun z=>by
  obtain ⟨hb,e⟩:=zjF_ z
  obtain ⟨f0,f1,f2,_⟩:=hf p.1 hb
  obtain ⟨o,e',d⟩:=ho p.1 hb
  rw [e] at e'; cases e'
  exact ⟨e,f0,f1,f2,d⟩
theorem Inv.unpinned {pins pl:Pnn}{σ:St}{H:Hp}{s:Shared}(I:Inv X (pins++pl) σ H s):Inv X pins σ H s:=I.pins_of fun p hp=>I.pin p (List.mem_append_right _ (List.mem_append_left _ hp))
theorem zcw_ {iter:Expr}{body:List Stmt}{wi:TI}{g:TG}{tb:TS}{pos:Pos}(hp:PassesOwn (model X.prog X.w) X.A X.env X.xe) (hc:X.calm=true) (hi:PI X tg iter wi) (hg:PG X tg g) (hb:PSs X body tb)
  (hs:∀ x,foldedSetIterable iter X.env x=pure x:=by intro _; rfl):PS X (.For tg iter body [] pos) (tFor wi g tb):=by
 intro pins s σ H D I h
 refine wpAny_For (thn (hi pins s σ H _ I h) fun v s1 h1=>thn h1 fun itv s2 h2=>?_) hs
 obtain ⟨it,fp,tn,J,H2,e,I2,T,st2,f2,W,⟨m0,w0⟩,turn⟩:=h2
 subst e
 have stat:∀ {H':Hp},(∀ b∈fp,H' b=none)→∀ b∈fp,FpOk X pins H' b:=fun hn b hb=>⟨hn b hb,(f2 b hb).2⟩
 refine codeAny_forLoop_any (fun n s'=>∃ i σ' H',Inv X pins σ' H' s'∧tn i s'.heap∧(∀ b∈fp,H' b=none)∧W i n σ' H') ?_ m0 ⟨0,σ,H2,I2,st2,fun b hb=>(f2 b hb).1,w0⟩
 rintro n s3 ⟨i,σ3,H3,I3,st3,fr3,w3⟩
 rcases turn i n σ3 H3 w3 with ⟨stop,qn⟩ | ⟨go,N,hN,step⟩
 ·refine wpAny_passesOwn hp (thn (T.done X rfl rfl rfl hc i pins s3 σ3 H3 X.xe I3 (stat fr3) st3 stop) fun r s4 ⟨hr,I4⟩=>?_)
  subst hr
  exact wpAny_execs_nil ⟨σ3,H3,I4,qn⟩
 ·refine wpAny_passesOwn hp (thn (T.item X rfl rfl rfl hc i pins s3 σ3 H3 X.xe I3 (stat fr3) st3 go) fun r s4 ⟨u,hr,h4⟩=>?_)
  subst hr
  refine wpAny_passesOwn hp (thn h4 fun _ s5 ⟨x,H5,I5,r5,y5,st5,fr5⟩=>?_)
  have I5':=I5.pinned (stat fr5) (T.obj _ _ st5)
  refine wpAny_passesOwn hp (thn (hg _ s5 σ3 H5 x u _ I5' r5 (step x H5 y5)) fun _ s6 ⟨σ6,H6,I6,q6⟩=>?_)
  refine wpAny_passesOwn hp (thn (hb _ s6 σ6 H6 _ I6 q6) fun f s7 q7=>?_)
  have again:∀ {σ7:St}{H7:Hp},Inv X (pins++pinsAt fp s5.heap) σ7 H7 s7→N σ7 H7→∃ m,m<n∧∃ i σ' H',Inv X pins σ' H' s7∧tn i s7.heap∧(∀ b∈fp,H' b=none)∧W i m σ' H':=fun {σ7 H7} I7 n7=>by
   obtain ⟨m',hm,w7⟩:=hN σ7 H7 n7
   refine ⟨m',hm,i+1,σ7,H7,I7.unpinned,T.keep _ _ _ st5 fun b hb o e=>(I7.pin (b,o) (List.mem_append_right _ (List.mem_append_right _ (zc7_ hb e)))).1,fun b hb=>?_,w7⟩
   obtain ⟨o,e,d⟩:=T.obj _ _ st5 b hb
   exact (I7.pin (b,o) (List.mem_append_right _ (List.mem_append_right _ (zc7_ hb e)))).2.1
  cases f with
  | next=>obtain ⟨σ7,H7,I7,n7⟩:=q7; exact again I7 n7
  | cont=>obtain ⟨σ7,H7,I7,n7⟩:=q7; exact again I7 n7
  | brk=>obtain ⟨σ7,H7,I7,q7⟩:=q7; exact ⟨σ7,H7,I7.unpinned,q7⟩
  | ret v=>obtain ⟨x7,σ7,H7,I7,r7,q7⟩:=q7; exact ⟨x7,σ7,H7,I7.unpinned,r7,q7⟩
end
end L2
namespace L2
open PySem PySem.Spec PyProof.Rows
noncomputable abbrev R2:=V→V→Hp→VK→Prop
noncomputable def OpR (X:Cx) (f:Value→Value→Sem Value) (r:R2):Prop :=
 ∀ (pins:Pnn) (s:Shared) (σ:St) (H:Hp) (x y:V) (v u:Value) (Q:VK),Inv X pins σ H s→RelV x v→RelV y u→r x y H Q →
  wpAny (model X.prog X.w) X.A (f v u) (EP X pins σ Q) X.xe s
noncomputable def UnR (X:Cx) (f:Value→Sem Value) (r:V→Hp→VK→Prop):Prop :=
 ∀ (pins:Pnn) (s:Shared) (σ:St) (H:Hp) (x:V) (v:Value) (Q:VK),Inv X pins σ H s→RelV x v→r x H Q →
  wpAny (model X.prog X.w) X.A (f v) (EP X pins σ Q) X.xe s
noncomputable def CallR (X:Cx) (f:Value) (r:List V→Hp→VK→Prop):Prop :=
 ∀ (pins:Pnn) (s:Shared) (σ:St) (H:Hp) (xs:List V) (us:List Value) (Q:VK),Inv X pins σ H s→Vals xs us→r xs H Q →
  wpAny (model X.prog X.w) X.A (call f us) (EP X pins σ Q) X.xe s
noncomputable def tOp (r:R2) (ta tb:TE):TE:=fun σ H Q=>ta σ H fun x H1=>tb σ H1 fun y H2=>r x y H2 Q
noncomputable def tUn (r:V→Hp→VK→Prop) (ta:TE):TE:=fun σ H Q=>ta σ H fun x H1=>r x H1 Q
noncomputable def rI (C:Int→Int→Prop) (g:Int→Int→V):R2:=fun x y H Q=>∃ i j,x=.int i∧y=.int j∧C i j∧Q (g i j) H
noncomputable def rI0 (g:Int→Int→V):R2:=fun x y H Q=>∃ i j,x=.int i∧y=.int j∧Q (g i j) H
noncomputable def rU (g:Int→V):V→Hp→VK→Prop:=fun x H Q=>∃ i,x=.int i∧Q (g i) H
section
variable {X:Cx}{a b c:Expr}{ta tb tc:TE}{pos:Pos}
theorem binT (ha:PE X a ta) (hb:PE X b tb) {pins:Pnn}{s:Shared}{σ:St}{H:Hp}{R:V→V→Hp→Prop}(I:Inv X pins σ H s)
  (h:ta σ H fun x H1=>tb σ H1 fun y H2=>R x y H2) {Q:Value→Shared→Prop}{f:Value→Value→Sem Value}
  (hf:∀ v u s2 x y H2,Inv X pins σ H2 s2→RelV x v→RelV y u→R x y H2→wpAny (model X.prog X.w) X.A (f v u) Q X.xe s2) :
  wpAny (model X.prog X.w) X.A (eval a X.env) (fun v s₁=>wpAny (model X.prog X.w) X.A (eval b X.env) (fun u s₂=>wpAny (model X.prog X.w) X.A (f v u) Q X.xe s₂) X.xe s₁) X.xe s:=by
 refine thn (ha pins s σ H _ I h) fun v s1 ⟨x,H1,I1,r1,q1⟩=>?_
 refine thn (hb pins s1 σ H1 _ I1 q1) fun u s2 ⟨y,H2,I2,r2,q2⟩=>?_
 exact hf v u s2 x y H2 I2 r1 r2 q2
theorem zaz_ {op:Operator}{r:R2}(ho:OpR X (binaryOp op) r) (ha:PE X a ta) (hb:PE X b tb):PE X (.BinOp a op b pos) (tOp r ta tb):=by
 intro pins s σ H Q I h
 exact wpAny_BinOp (binT ha hb I h fun v u s2 x y H2 I2 rx ry q=>ho pins s2 σ H2 x y v u Q I2 rx ry q)
theorem opI {f:Value→Value→Sem Value}{C:Int→Int→Prop}{g:Int→Int→Int}
  (rule:∀ (i j:Int) (t u:Tok) (s:Shared) (Q:Value→Shared→Prop) (E:Value→Shared→Prop),C i j→Q (.int (g i j) s.toks) { s with toks:=s.toks+1 }→wpAny (model X.prog X.w) X.A (f (.int i t) (.int j u)) Q E s) :
  OpR X f (rI C fun i j=>.int (g i j)):=by
 intro pins s σ H x y v u Q I rx ry h
 obtain ⟨i,j,rfl,rfl,hc,q⟩:=h
 obtain ⟨t,rfl⟩:=rx
 obtain ⟨t',rfl⟩:=ry
 exact rule i j t t' s _ _ hc ⟨.int (g i j),H,I.tok _,⟨_,rfl⟩,q⟩
theorem opI0 {f:Value→Value→Sem Value}{g:Int→Int→Int}
  (rule:∀ (i j:Int) (t u:Tok) (s:Shared) (Q:Value→Shared→Prop) (E:Value→Shared→Prop),Q (.int (g i j) s.toks) { s with toks:=s.toks+1 }→wpAny (model X.prog X.w) X.A (f (.int i t) (.int j u)) Q E s) :
  OpR X f (rI0 fun i j=>.int (g i j)):=by
 intro pins s σ H x y v u Q I rx ry h
 obtain ⟨i,j,rfl,rfl,q⟩:=h
 obtain ⟨t,rfl⟩:=rx
 obtain ⟨t',rfl⟩:=ry
 exact rule i j t t' s _ _ ⟨.int (g i j),H,I.tok _,⟨_,rfl⟩,q⟩
theorem opB0 {f:Value→Value→Sem Value}{g:Int→Int→Bool}
  (rule:∀ (i j:Int) (t u:Tok) (s:Shared) (Q:Value→Shared→Prop) (E:Value→Shared→Prop),Q (.bool (g i j)) s→wpAny (model X.prog X.w) X.A (f (.int i t) (.int j u)) Q E s) :
  OpR X f (rI0 fun i j=>.bl (g i j)):=by
 intro pins s σ H x y v u Q I rx ry h
 obtain ⟨i,j,rfl,rfl,q⟩:=h
 obtain ⟨t,rfl⟩:=rx
 obtain ⟨t',rfl⟩:=ry
 exact rule i j t t' s _ _ ⟨.bl (g i j),H,I,rfl,q⟩
noncomputable def CDiv (i j:Int):Prop:=0<j∧j<1073741824
noncomputable def CPow (i j:Int):Prop:=0≤j∧j≤1000000∧i.natAbs<2 ^ 64
noncomputable def CMul (i j:Int):Prop:=(-(2 ^ 64)<i∧i<2 ^ 64)∨(-(2 ^ 64)<j∧j<2 ^ 64)
theorem CMul.ok {i j:Int}(h:CMul i j):IntMulOk i j:=by
 rcases h with ⟨h1,h2⟩ | ⟨h1,h2⟩
 ·exact .of_left (intBits_le_64 h1 h2)
 ·exact .of_right (intBits_le_64 h1 h2)
theorem zom_:OpR X (binaryOp .Add) (rI0 fun i j=>.int (i+j)):=opI0 fun _ _ _ _ _ _ _ q=>add_int q
theorem zoF_:OpR X (binaryOp .Sub) (rI0 fun i j=>.int (i-j)):=opI0 fun _ _ _ _ _ _ _ q=>sub_int q
theorem znX_:OpR X (binaryOp .Mod) (rI (fun _ j=>0<j) fun i j=>.int (i % j)):=opI fun i j _ _ _ _ _ hc q=>by
 have h1:(0:Int)<j:=hc
 exact mod_int' (by lia) (by rw [Int.fmod_eq_emod_of_nonneg i (by lia)]; exact q)
theorem unI {f:Value→Sem Value}{g:Int→Int}
  (rule:∀ (i:Int) (t:Tok) (s:Shared) (Q:Value→Shared→Prop) (E:Value→Shared→Prop),Q (.int (g i) s.toks) { s with toks:=s.toks+1 }→wpAny (model X.prog X.w) X.A (f (.int i t)) Q E s) :
  UnR X f (rU fun i=>.int (g i)):=by
 intro pins s σ H x v Q I rx h
 obtain ⟨i,rfl,q⟩:=h
 obtain ⟨t,rfl⟩:=rx
 exact rule i t s _ _ ⟨.int (g i),H,I.tok _,⟨_,rfl⟩,q⟩
theorem zoe_:UnR X (unaryOp .USub) (rU fun i=>.int (-i)):=unI fun _ _ _ _ _ q=>neg_int q
end
noncomputable def scal:V→V→Bool
 | .non,.non=>true | .non,.int _=>true | .int _,.non=>true | .non,.bl _=>true | .bl _,.non=>true | .non,.str _=>true | .str _,.non=>true
 | .int _,.int _=>true | .bl _,.bl _=>true | .str _,.str _=>true | .byt _,.byt _=>true
 | .int _,.str _=>true | .str _,.int _=>true | .bl _,.str _=>true | .str _,.bl _=>true
 | _,_=>false
noncomputable def rEq:R2:=fun x y H Q=>scal x y=true∧Q (.bl (decide (x=y))) H
noncomputable def rNe:R2:=fun x y H Q=>scal x y=true∧Q (.bl (!decide (x=y))) H
theorem zkZ_ {i j:Int}:decide (V.int i=V.int j)=(i == j):=by
 rw [Bool.eq_iff_iff]
 simp
theorem znB_ {i j:Bool}:decide (V.bl i=V.bl j)=(i == j):=by
 rw [Bool.eq_iff_iff]
 simp
theorem zkY_ {i j:Str}:decide (V.str i=V.str j)=(i == j):=by
 rw [Bool.eq_iff_iff]
 simp
theorem zk2_ {i j:Array UInt8}:decide (V.byt i=V.byt j)=(i.toList == j.toList):=by
 rw [Bool.eq_iff_iff]
 cases i
 cases j
 simp
section
variable {X:Cx}{a b c:Expr}{ta tb tc:TE}{pos:Pos}
theorem zan_ {pins:Pnn}{σ:St}{H:Hp}{s:Shared}{Q:VK}{k k':Bool}(I:Inv X pins σ H s) (q:Q (.bl k) H) (e:k=k'):EP X pins σ Q (.bool k') s:=by
 subst e
 exact ⟨.bl k,H,I,rfl,q⟩
theorem op_eq:OpR X (compareOp .Eq) rEq:=by
 intro pins s σ H x y v u Q I rx ry h
 obtain ⟨hs,q⟩:=h
 cases x with
 | non =>
  cases rx
  cases y with
  | non=>cases ry; exact PySem.EqNone.eq_none_none (zan_ I q (by simp))
  | bl j=>cases ry; exact PySem.EqNone.eq_none_bool (zan_ I q (by simp))
  | int j=>obtain ⟨t',rfl⟩:=ry; exact PySem.EqNone.eq_none_int (zan_ I q (by simp))
  | str j=>obtain ⟨t',rfl⟩:=ry; exact PySem.EqNone.eq_none_str (zan_ I q (by simp))
  | _=>exact absurd (show false=true from hs) Bool.false_ne_true
 | bl i =>
  cases rx
  cases y with
  | non=>cases ry; exact PySem.EqNone.eq_bool_none (zan_ I q (by simp))
  | bl j=>cases ry; exact eq_bool (zan_ I q znB_)
  | str j=>obtain ⟨t',rfl⟩:=ry; exact PySem.EqMixed.eq_bool_str (zan_ I q (by simp))
  | _=>exact absurd (show false=true from hs) Bool.false_ne_true
 | int i =>
  obtain ⟨t,rfl⟩:=rx
  cases y with
  | non=>cases ry; exact PySem.EqNone.eq_int_none (zan_ I q (by simp))
  | int j=>obtain ⟨t',rfl⟩:=ry; exact eq_int (zan_ I q zkZ_)
  | str j=>obtain ⟨t',rfl⟩:=ry; exact PySem.EqMixed.eq_int_str (zan_ I q (by simp))
  | _=>exact absurd (show false=true from hs) Bool.false_ne_true
 | str i =>
  obtain ⟨t,rfl⟩:=rx
  cases y with
  | non=>cases ry; exact PySem.EqNone.eq_str_none (zan_ I q (by simp))
  | bl j=>cases ry; exact PySem.EqMixed.eq_str_bool (zan_ I q (by simp))
  | int j=>obtain ⟨t',rfl⟩:=ry; exact PySem.EqMixed.eq_str_int (zan_ I q (by simp))
  | str j=>obtain ⟨t',rfl⟩:=ry; exact eq_str (zan_ I q zkY_)
  | _=>exact absurd (show false=true from hs) Bool.false_ne_true
 | byt i =>
  obtain ⟨t,rfl⟩:=rx
  cases y with
  | byt j=>obtain ⟨t',rfl⟩:=ry; exact PySem.W.eq_bytes (zan_ I q zk2_)
  | _=>exact absurd (show false=true from hs) Bool.false_ne_true
 | _=>cases y<;>exact absurd (show false=true from hs) Bool.false_ne_true
theorem op_ne:OpR X (compareOp .NotEq) rNe:=by
 intro pins s σ H x y v u Q I rx ry h
 obtain ⟨hs,q⟩:=h
 cases x with
 | non =>
  cases rx
  cases y with
  | non=>cases ry; exact PySem.EqNone.ne_none_none (zan_ I q (by simp))
  | bl j=>cases ry; exact PySem.EqNone.ne_none_bool (zan_ I q (by simp))
  | int j=>obtain ⟨t',rfl⟩:=ry; exact PySem.EqNone.ne_none_int (zan_ I q (by simp))
  | str j=>obtain ⟨t',rfl⟩:=ry; exact PySem.EqNone.ne_none_str (zan_ I q (by simp))
  | _=>exact absurd (show false=true from hs) Bool.false_ne_true
 | bl i =>
  cases rx
  cases y with
  | non=>cases ry; exact PySem.EqNone.ne_bool_none (zan_ I q (by simp))
  | bl j=>cases ry; exact ne_bool (zan_ I q (congrArg not znB_))
  | str j=>obtain ⟨t',rfl⟩:=ry; exact PySem.EqMixed.ne_bool_str (zan_ I q (by simp))
  | _=>exact absurd (show false=true from hs) Bool.false_ne_true
 | int i =>
  obtain ⟨t,rfl⟩:=rx
  cases y with
  | non=>cases ry; exact PySem.EqNone.ne_int_none (zan_ I q (by simp))
  | int j=>obtain ⟨t',rfl⟩:=ry; exact ne_int (zan_ I q (congrArg not zkZ_))
  | str j=>obtain ⟨t',rfl⟩:=ry; exact PySem.EqMixed.ne_int_str (zan_ I q (by simp))
  | _=>exact absurd (show false=true from hs) Bool.false_ne_true
 | str i =>
  obtain ⟨t,rfl⟩:=rx
  cases y with
  | non=>cases ry; exact PySem.EqNone.ne_str_none (zan_ I q (by simp))
  | bl j=>cases ry; exact PySem.EqMixed.ne_str_bool (zan_ I q (by simp))
  | int j=>obtain ⟨t',rfl⟩:=ry; exact PySem.EqMixed.ne_str_int (zan_ I q (by simp))
  | str j=>obtain ⟨t',rfl⟩:=ry; exact ne_str (zan_ I q (congrArg not zkY_))
  | _=>exact absurd (show false=true from hs) Bool.false_ne_true
 | byt i =>
  obtain ⟨t,rfl⟩:=rx
  cases y with
  | byt j=>obtain ⟨t',rfl⟩:=ry; exact PySem.W.ne_bytes (zan_ I q (congrArg not zk2_))
  | _=>exact absurd (show false=true from hs) Bool.false_ne_true
 | _=>cases y<;>exact absurd (show false=true from hs) Bool.false_ne_true
theorem op_lt:OpR X (compareOp .Lt) (rI0 fun i j=>.bl (decide (i<j))):=opB0 fun _ _ _ _ _ _ _ q=>lt_int q
theorem op_gt:OpR X (compareOp .Gt) (rI0 fun i j=>.bl (decide (j<i))):=opB0 fun _ _ _ _ _ _ _ q=>gt_int q
theorem op_ge:OpR X (compareOp .GtE) (rI0 fun i j=>.bl (decide (j≤i))):=opB0 fun _ _ _ _ _ _ _ q=>ge_int q
theorem zj3_:OpR X (compareOp .Lt) (fun x y H Q=>∃ i j,x=.str i∧y=.str j∧Q (.bl (decide (i.cps.toList<j.cps.toList))) H):=by
 intro pins s σ H x y v u Q I rx ry h
 obtain ⟨i,j,rfl,rfl,q⟩:=h
 obtain ⟨t,rfl⟩:=rx
 obtain ⟨t',rfl⟩:=ry
 exact lt_str (zan_ I q rfl)
theorem zjM_:OpR X (compareOp .In) (fun x y H Q=>∃ i j,x=.str i∧y=.str j∧Q (.bl (!(Builtin.Str.occurrences j i 0 j.length 1).isEmpty)) H):=by
 intro pins s σ H x y v u Q I rx ry h
 obtain ⟨i,j,rfl,rfl,q⟩:=h
 obtain ⟨t,rfl⟩:=rx
 obtain ⟨t',rfl⟩:=ry
 exact in_str (zan_ I q rfl)
theorem zod_:OpR X (compareOp .Is) (fun x y H Q=>y=.non∧Q (.bl (decide (x=.non))) H):=by
 intro pins s σ H x y v u Q I rx ry h
 obtain ⟨rfl,q⟩:=h
 cases ry
 refine is_none_gen (zan_ I q ?_)
 cases x<;>first
  | (cases rx; rfl)
  | (obtain ⟨t,rfl⟩:=rx; rfl)
theorem znl_:OpR X (compareOp .IsNot) (fun x y H Q=>y=.non∧Q (.bl (!decide (x=.non))) H):=by
 intro pins s σ H x y v u Q I rx ry h
 obtain ⟨rfl,q⟩:=h
 cases ry
 refine isnot_none_gen (zan_ I q ?_)
 cases x<;>first
  | (cases rx; rfl)
  | (obtain ⟨t,rfl⟩:=rx; rfl)
theorem zgr_:OpR X (compareOp .NotIn) (fun x y H Q=>∃ i j,x=.str i∧y=.str j∧Q (.bl (!(!(Builtin.Str.occurrences j i 0 j.length 1).isEmpty))) H):=by
 intro pins s σ H x y v u Q I rx ry h
 obtain ⟨i,j,rfl,rfl,q⟩:=h
 obtain ⟨t,rfl⟩:=rx
 obtain ⟨t',rfl⟩:=ry
 exact notIn_str (zan_ I q rfl)
theorem znr_ {op:CmpOp}{r:R2}(ho:OpR X (compareOp op) r) (ha:PE X a ta) (hb:PE X b tb) (hm:behindInMarks op b=false):PE X (.Compare a [op] [b] pos) (tOp r ta tb):=by
 intro pins s σ H Q I h
 exact wpAny_Compare1 (binT ha hb I h fun v u s2 x y H2 I2 rx ry q=>ho pins s2 σ H2 x y v u Q I2 rx ry q) hm
theorem line63:(sizeLine:Nat)<2 ^ 63:=by rw [sizeLine_eq]; decide
theorem zhI_:OpR X (binaryOp .Add) (fun x y H Q=>∃ i j,x=.str i∧y=.str j∧i.length+j.length≤sizeLine∧Q (.str (i++j)) H):=by
 intro pins s σ H x y v u Q I rx ry h
 obtain ⟨i,j,rfl,rfl,hz,q⟩:=h
 obtain ⟨t,rfl⟩:=rx
 obtain ⟨t',rfl⟩:=ry
 exact add_str (fun t' tk=>⟨.str (i++j),H,I.tok _,⟨_,rfl⟩,q⟩) hz
theorem vals1 {x:V}{us:List Value}(r:Vals [x] us):∃ u,us=[u]∧RelV x u:=by
 cases r with
 | cons r1 r2=>cases r2; exact ⟨_,rfl,r1⟩
theorem vals2 {x y:V}{us:List Value}(r:Vals [x,y] us):∃ u w',us=[u,w']∧RelV x u∧RelV y w':=by
 cases r with
 | cons r1 r2 =>
  cases r2 with
  | cons r3 r4=>cases r4; exact ⟨_,_,rfl,r1,r3⟩
theorem zki_ (hc:X.calm=true):CallR X (.builtin "min") (fun xs H Q=>∃ i j,xs=[.int i,.int j]∧Q (.int (if j<i then j else i)) H):=by
 intro pins s σ H xs us Q I r h
 obtain ⟨i,j,rfl,q⟩:=h
 obtain ⟨u,w',rfl,⟨t,rfl⟩,⟨t',rfl⟩⟩:=vals2 r
 refine min_two_ints (I.ok.hd hc) fun h' tk k=>⟨_,H,I.kept k,?_,q⟩
 by_cases hj:j<i
 ·rw [if_pos hj,if_pos hj]; exact ⟨_,rfl⟩
 ·rw [if_neg hj,if_neg hj]; exact ⟨_,rfl⟩
end
end L2
namespace L2
open PySem PySem.Spec PyProof.Rows
structure ObjM (h:Heap) (x dx C:Addr) (mA:Str→Option Value):Prop where
 obj:h.get? x=some (PySem.W.instObj C dx)
 ns:h.Ns1 dx mA
 ne:dx≠x
theorem zjw_ {h:Heap}{dx:Addr}{mA:Str→Option Value}(n:h.Ns1 dx mA):∃ od,h.get? dx=some od∧∀ name,PySem.W.lookIn name od=some (mA name):=by
 obtain ⟨o,es,ep,ho,hd,hk,_,hm⟩:=n
 refine ⟨o,ho,fun name=>?_⟩
 have e:=hm name
 unfold nsFind findBy at e
 rw [← Array.find?_toList] at e
 unfold PySem.W.lookIn
 rw [hd]
 dsimp only
 split
 ·rename_i y q
  rw [q] at e
  exact congrArg some e
 ·rename_i q
  rw [q] at e
  have a:es.toList.any (·.refKey)=false:=by
   rw [List.any_eq_false]
   intro y hy
   obtain ⟨z,t,hkey⟩:=hk y (Array.mem_toList_iff.mp hy)
   simp [DictEntry.refKey,hkey]
  have a':¬ es.toList.any (·.refKey)=true:=by rw [a]; exact Bool.false_ne_true
  rw [if_neg a']
  exact congrArg some e
theorem ObjM.look {h:Heap}{x dx C:Addr}{mA:Str→Option Value}(I:ObjM h x dx C mA):∃ od,PySem.W.InstAt h x (PySem.W.instObj C dx) C (some od)∧∀ name,PySem.W.lookIn name od=some (mA name) :=
 let ⟨od,ho,hl⟩:=zjw_ I.ns
 ⟨od,⟨I.obj,rfl,rfl,ho⟩,hl⟩
section
variable {prog:Program}{w:World}{A:Around}{E:Value→Shared→Prop}{s:Shared}{K:Fgg}{x dx C f:Addr}{mA:Str→Option Value}{name:Str}{v:Value}
end
theorem RelO.some_of {v:V}{o:Option Value}(r:RelO (some v) o):∃ u,o=some u∧RelV v u:=by
 cases o with
 | none=>exact (show False from r).elim
 | some u=>exact ⟨u,rfl,r⟩
section
variable {P:Program}{w:World}{H H':Hp}{h h':Heap}{a C dx:Addr}{fs fs':List (Str×V)}
theorem zmG_ (hok:HOk P w H h) (e:H a=some (.ins C dx fs)):∃ mA,ObjM h a dx C mA∧(∀ f,RelO (fs.lookup f) (mA f))∧PySem.Within mA (fs.map (·.1))∧fs.length≤1000∧H dx=some (.own a):=by
 obtain ⟨d,z,ne,ob,mA,n,r,q⟩:=(show ObjOk P w H h a (.ins C dx fs) from hok a _ e)
 exact ⟨mA,⟨ob,n,ne⟩,r,q,z,d⟩
end
structure Cls (K:Fgg) (C:Addr):Prop where
 pg:PySem.W.plainGet K C Str.empty=true
 hd:PySem.W.hasDictIn K C=true
 po:PySem.W.plainOver K C=true
 sa:PySem.W.findIn K (.ref C) "__setattr__" = some (some (.builtin "object.__setattr__"))
theorem Cls.get {K:Fgg}{C:Addr}(c:Cls K C) (f:Str):PySem.W.plainGet K C f=true:=c.pg
section
variable {X:Cx}{pins:Pnn}{σ:St}{H:Hp}{s:Shared}{a C dx:Addr}{fs:List (Str×V)}{f:Str}{v:V}{A:Around}{E:Value→Shared→Prop}
end
section
variable {X:Cx}{o e value:Expr}{f:Str}{pos pos' tpos:Pos}{ta tv:TE}
end
section
variable {X:Cx}{pins:Pnn}{σ:St}{H:Hp}{s:Shared}{A:Around}{E:Value→Shared→Prop}{Q:Value→Shared→Prop}{c:Value}{b:Bool}
inductive TyOf (K:Fgg) (H:Hp):V→Value→Prop where
 | non:TyOf K H .non (.type "NoneType")
 | bl (x:Bool):TyOf K H (.bl x) (.type "bool")
 | int (i:Int):TyOf K H (.int i) (.type "int")
 | str (x:Str):TyOf K H (.str x) (.type "str")
 | flt (x:UInt64):TyOf K H (.flt x) (.type "float")
 | lst {a:Addr}{xs:List V}(e:H a=some (.lst xs)):TyOf K H (.ref a) (.type "list")
 | frz {a:Addr}{o:Obj}{xs:List V}(e:H a=some (.frz o (.lst xs))):TyOf K H (.ref a) (.type "list")
 | tup {a:Addr}{xs:List V}(e:H a=some (.tup xs)):TyOf K H (.ref a) (.type "tuple")
 | dK {a:Addr}{kvs:List (Key×V)}(e:H a=some (.dK kvs)):TyOf K H (.ref a) (.type "dict")
 | dT {a:Addr}{kvs:List (List Key×V)}(e:H a=some (.dT kvs)):TyOf K H (.ref a) (.type "dict")
 | ins {a C dx:Addr}{fs:List (Str×V)}(e:H a=some (.ins C dx fs)) (cl:Cls K C) (ha:PySem.W.findIn K (.ref C) "__class__" = some (some (.builtin "object.__class__")))
   (hn:PySem.W.specialIn K (.builtin "object.__class__") "__get__" = some (some (.builtin "getset_descriptor.__get__"))) (htk:PySem.W.takesIn K (.builtin "object.__class__")=some true)
   (hm:PySem.W.mroIn K C (.type "object")=some true):TyOf K H (.ref a) (.ref C)
theorem zkk_ {x:V}{u t:Value}(I:Inv X pins σ H s) (rx:RelV x u) (ty:TyOf X.K H x t) (e:PySem.W.kitOne X.K t c=some b) (h:∀ tk,Q (.bool b) { s with toks:=tk }) :
  wpAny (model X.prog X.w) A (call (.builtin "isinstance") [u,c]) Q E s:=by
 cases ty with
 | non=>cases (show u=Value.none from rx); exact PySem.W.kia_one PySem.W.kitx_none I.kIn True.intro e (fun z=>nomatch z) h
 | bl y=>cases (show u=Value.bool y from rx); exact PySem.W.kia_one PySem.W.kitx_bool I.kIn True.intro e (fun z=>nomatch z) h
 | int i=>obtain ⟨t,q⟩:=(show ∃ t,u=Value.int i t from rx); cases q; exact PySem.W.kia_one PySem.W.kitx_int I.kIn True.intro e (fun z=>nomatch z) h
 | str y=>obtain ⟨t,q⟩:=(show ∃ t,u=Value.str y t from rx); cases q; exact PySem.W.kia_one PySem.W.kitx_str I.kIn True.intro e (fun z=>nomatch z) h
 | flt y=>obtain ⟨t,q⟩:=(show ∃ t,u=Value.float y t from rx); cases q; exact PySem.W.kia_one PySem.W.kitx_float I.kIn True.intro e (fun z=>nomatch z) h
 | @lst a xs ea =>
  cases (show u=Value.ref a from rx)
  obtain ⟨_,_,n,_,h1⟩:=(show ObjOk X.prog X.w H s.heap a (.lst xs) from I.hok a _ ea)
  exact PySem.W.kia_one PySem.W.kitx_list I.kIn ⟨_,h1,rfl⟩ e (fun z=>nomatch z) h
 | @frz a ob xs ea =>
  cases (show u=Value.ref a from rx)
  obtain ⟨_,_,_,n,_,h1⟩:=(show ObjOk X.prog X.w H s.heap a (.frz ob (.lst xs)) from I.hok a _ ea)
  exact PySem.W.kia_one PySem.W.kitx_list I.kIn ⟨_,h1,rfl⟩ e (fun z=>nomatch z) h
 | @tup a xs ea =>
  cases (show u=Value.ref a from rx)
  obtain ⟨_,_,_,p⟩:=(show ObjOk X.prog X.w H s.heap a (.tup xs) from I.hok a _ ea)
  obtain ⟨o,h1,h2,_⟩:=p
  exact PySem.W.kia_one PySem.W.kitx_tuple I.kIn ⟨o,h1,h2⟩ e (fun z=>nomatch z) h
 | @dK a kvs ea =>
  cases (show u=Value.ref a from rx)
  obtain ⟨_,_,vs,_,p⟩:=(show ObjOk X.prog X.w H s.heap a (.dK kvs) from I.hok a _ ea)
  obtain ⟨o,es,ep,h1,h2,_⟩:=p
  exact PySem.W.kia_one PySem.W.kitx_dict I.kIn ⟨o,h1,h2.1⟩ e (fun z=>nomatch z) h
 | @dT a kvs ea =>
  cases (show u=Value.ref a from rx)
  obtain ⟨_,_,xs,_,o,es,ep,h1,h2,_⟩:=(show ObjOk X.prog X.w H s.heap a (.dT kvs) from I.hok a _ ea)
  exact PySem.W.kia_one PySem.W.kitx_dict I.kIn ⟨o,h1,h2.1⟩ e (fun z=>nomatch z) h
 | @ins a C dx fs ea cl ha hn htk hm =>
  cases (show u=Value.ref a from rx)
  obtain ⟨mA,O,_⟩:=zmG_ I.hok ea
  obtain ⟨od,J,_⟩:=O.look
  exact PySem.W.kia_one (PySem.W.kitx_own (cl.get _) cl.hd ha hn htk hm) I.kIn J e (fun z=>nomatch z) h
end
end L2
namespace L2
open PySem PySem.Spec PyProof.Rows
structure Room (k:Nat) (A:Around):Prop where
 hd:A.handled=none
 dp:A.depth+3*k+5<recursionLimit
 un:A.units+16*k+200<cLine
theorem Room.mono {j k:Nat}{A:Around}(r:Room k A) (h:j≤k):Room j A:=⟨r.hd,by have:=r.dp; lia,by have:=r.un; lia⟩
theorem Room.deeper {k:Nat}{A:Around}(r:Room (k+1) A) (env:Env):Room k (A.deeper env) :=
 ⟨r.hd,by have:=r.dp; show A.depth+1+3*k+5<_; lia,by have:=r.un; show A.units+3+16*k+200<_; lia⟩
theorem Room.depth {k:Nat}{A:Around}(r:Room k A):A.depth<recursionLimit:=by have:=r.dp; lia
theorem Room.units {k:Nat}{A:Around}(r:Room k A):A.units+64<cLine:=by have:=r.un; lia
noncomputable def tNil:TA:=fun _ H Q=>Q [] H
noncomputable def tCons (ta:TE) (tr:TA):TA:=fun σ H Q=>ta σ H fun x H1=>tr σ H1 fun xs H2=>Q (x::xs) H2
section
variable {X:Cx}{e:Expr}{es:List Expr}{te:TE}{t:TA}{pos:Pos}
theorem zj_:PA X [] tNil:=fun _ _ _ _ H Q I h=>Calls.spliced_nil ⟨[],H,I,.nil,h⟩
theorem zb_ (ha:PE X e te) (hr:PA X es t) (hs:starEach (e::es) X.env=(false,eval e X.env)::starEach es X.env:=by rfl):PA X (e::es) (tCons te t):=by
 intro pos pins s σ H Q I h
 rw [hs]
 show wpAny _ _ (spliced ((false,eval e X.env)::backTo pos (starEach es X.env))) _ _ s
 refine Calls.spliced_cons (thn (ha pins s σ H _ I h) fun u s1 ⟨x,H1,I1,r1,q1⟩=>?_)
 exact thn (hr pos pins s1 σ H1 _ I1 q1) fun us s2 ⟨xs,H2,I2,r2,q2⟩=>⟨x::xs,H2,I2,.cons r1 r2,q2⟩
noncomputable def tTup (t:TA):TE:=fun σ H Q=>t σ H fun xs H1=>xs.length≤sizeLine∧∀ p,H1 p=none→Q (.ref p) (upd H1 p (.tup xs))
noncomputable def tLst (t:TA):TE:=fun σ H Q=>t σ H fun xs H1=>xs.length≤sizeLine∧∀ p,H1 p=none→Q (.ref p) (upd H1 p (.lst xs))
theorem zh9_ {x1} (h:PA X es t):PE X (.Tuple es x1 pos) (tTup t):=by
 intro pins s σ H Q I hq
 refine wpAny_Tuple_spliced (thn (h pos pins s σ H _ I hq) fun us s1 ⟨xs,H1,I1,r,z,q⟩=>⟨by rw [← r.length]; exact z,?_⟩)
 have hf:H1 s1.heap.objs.size=none:=I1.hok.fresh (Nat.le_refl _)
 refine ⟨.ref s1.heap.objs.size,upd H1 s1.heap.objs.size (.tup xs),I1.laid (t':=s1.toks) (fun b u e=>Heap.get?_push_of_some _ e) (Nat.le_refl _) ?_,rfl,q _ hf⟩
 exact ⟨z,us,r,⟨_,Heap.get?_push_size _ rfl,rfl,_,rfl⟩⟩
theorem zbD_ (h:PA X es t):PE X (.List es pos) (tLst t):=by
 intro pins s σ H Q I hq
 refine wpAny_List_spliced (thn (h pos pins s σ H _ I hq) fun us s1 ⟨xs,H1,I1,r,z,q⟩=>⟨by rw [← r.length]; exact z,?_⟩)
 have hf:H1 s1.heap.objs.size=none:=I1.hok.fresh (Nat.le_refl _)
 refine ⟨.ref s1.heap.objs.size,upd H1 s1.heap.objs.size (.lst xs),I1.laid (t':=s1.toks) (fun b u e=>Heap.get?_push_of_some _ e) (Nat.le_refl _) ?_,rfl,q _ hf⟩
 exact ⟨z,us,0,r,Heap.get?_push_size _ rfl⟩
end
noncomputable abbrev Sp:=List V→Hp→VK→XK→Prop
noncomputable abbrev CXT:=List Env→Hp→Shared→XK→Value→Shared→Prop
structure Env0 (P:Program) (w:World) (K:Fgg) (mg:Str→Option Value) (base:Heap) (A:Around) (outer:List Env) (s:Shared) (H:Hp):Prop where
 frames:A.frames=some outer
 mod:Mod K mg base
 bs:∀ b o,base.get? b=some o→s.heap.get? b=some o∧H b=none
 bsz:base.objs.size≤s.heap.objs.size
 funs:s.heap.FunFrames base outer
 frf:∀ b∈frs outer,H b=none
 hok:HOk P w H s.heap
 bare:AllBare s.gens
noncomputable def CE (outer:List Env) (P:Program) (w:World) (H:Hp) (s:Shared) (Q:VK) (u:Value) (s':Shared):Prop :=
 ∃ v H',s'.os=s.os∧AllBare s'.gens∧Un (frs outer) [] H H' s.heap s'.heap∧HOk P w H' s'.heap∧RelV v u∧Q v H'
noncomputable def CR (CX:CXT) (outer:List Env) (P:Program) (w:World) (H:Hp) (s:Shared) (Q:VK) (E:XK) (r:Result) (s':Shared):Prop :=
 match r with
 | .ok (.ret u)=>CE outer P w H s Q u s'
 | .ok _=>False
 | .error e=>CX outer H s E e s'
structure FnOk (P:Program) (w:World) (K:Fgg) (mg:Str→Option Value) (base:Heap) (CX:CXT) (k:Nat) (f:Addr) (fd:FuncData) (ps:List Str) (sp:Sp):Prop where
 len:∀ vs H Q E,sp vs H Q E→vs.length=ps.length
 run:∀ (A:Around) (outer:List Env) (s:Shared) (H:Hp) (args:Args) (us:List Value) (vs:List V) (Q:VK) (E:XK),Room k A→Env0 P w K mg base A outer s H→BindsTo s fd args (ps.zip us)→Vals vs us→sp vs H Q E →
  codeAny (model P w) A (.call (.ref f) args) (CR CX outer P w H s Q E) s
section
variable {X:Cx}{pins:Pnn}{σ:St}{H:Hp}{s s':Shared}
theorem Inv.env0 (I:Inv X pins σ H s):Env0 X.prog X.w X.K X.mg X.base X.A X.stack s H :=
 ⟨I.ok.frames,I.ok.mod,I.bs,Nat.le_trans I.ok.bsz I.sz,I.stack,I.stkFree,I.hok,I.bare⟩
theorem Inv.after {Q:VK}{u:Value}(I:Inv X pins σ H s) (h:CE X.stack X.prog X.w H s Q u s'):EP X pins σ Q u s':=by
 obtain ⟨v,H',os,bare,un,hok,r,q⟩:=h
 obtain ⟨hh,g,d,t,os'⟩:=s'
 obtain rfl:os'=s.os:=os
 exact ⟨v,H',I.call (h':=hh) (g':=g) (d':=d) (t':=t) (ch:=[]) un hok bare (fun b z=>absurd z (by simp)),r,q⟩
end
noncomputable def tCall (sp:Sp) (dvs:List V) (E:XK) (t:TA):TE:=fun σ H Q=>t σ H fun vs H1=>sp (vs++dvs) H1 Q E
noncomputable def Binds (K:Fgg) (fd:FuncData) (ps:List Str) (ds:List Value):Prop :=
 ∀ (s:Shared) (us:List Value),K.In s.heap→(us++ds).length=ps.length→BindsTo s fd ⟨us,[]⟩ (ps.zip (us++ds))
theorem Binds.all {K:Fgg}{fd:FuncData}{ps:List Str}(h:∀ us:List Value,us.length=ps.length→bindArgs fd ⟨us,[]⟩=pure (ps.zip us)):Binds K fd ps []:=fun s us _ hl=>by
 rw [List.append_nil] at hl ⊢
 exact .of_eq (h us hl)
noncomputable def Passes (CX:CXT) (X:Cx) (E:XK):Prop:=∀ (pins:Pnn) (σ:St) (H:Hp) (s:Shared) (e:Value) (s':Shared),Inv X pins σ H s→CX X.stack H s E e s'→X.xe e s'
section
variable {X:Cx}{CX:CXT}{k:Nat}{f C:Addr}{fd:FuncData}{ps:List Str}{sp:Sp}{dvs:List V}{ds:List Value}{E:XK}{x m:Str}{p pos apos:Pos}{e o:Expr}{es:List Expr}{ta:TE}{t:TA}
theorem zoi_ {pins:Pnn}{σ:St}{H:Hp}{s:Shared}{Q:VK}{us:List Value}{vs:List V}(F:FnOk X.prog X.w X.K X.mg X.base CX k f fd ps sp) (hr:Room k X.A) (hb:Binds X.K fd ps ds) (hd:Vals dvs ds) (hx:Passes CX X E)
  (I:Inv X pins σ H s) (r:Vals vs us) (h:sp (vs++dvs) H Q E):wpAny (model X.prog X.w) X.A (call (.ref f) us) (EP X pins σ Q) X.xe s:=by
 have r2:Vals (vs++dvs) (us++ds):=r.append hd
 have hl:(us++ds).length=ps.length:=by rw [← r2.length]; exact F.len _ _ _ _ h
 refine wpAny_call (codeAny_mono (F.run X.A X.stack s H ⟨us,[]⟩ (us++ds) (vs++dvs) Q E hr I.env0 (hb s us I.kIn hl) r2 h) fun r s' hq=>?_)
 cases r with
 | error e=>exact hx pins σ H s e s' I hq
 | ok fl =>
  cases fl with
  | ret u=>exact I.after hq
  | next=>exact False.elim hq
  | brk=>exact False.elim hq
  | cont=>exact False.elim hq
theorem zkC_ (F:FnOk X.prog X.w X.K X.mg X.base CX k f fd ps sp) (hr:Room k X.A) (hg:Gl X x) (hm:X.mg x=some (.ref f)) (hk:PySem.W.keepIn X.K (.ref f)=true) (hb:Binds X.K fd ps ds) (hd:Vals dvs ds) (hx:Passes CX X E)
  (ha:PA X (e::es) t) (hdb:(x == ("__debug__" : Str))=false:=by decide) (he:starEach (e::es) X.env=(false,eval e X.env)::starEach es X.env:=by rfl) (hpl:(backTo pos (starEach es X.env)).any (·.1)=false:=by rfl) :
  PE X (.Call (.Name x p) (e::es) [] pos) (tCall sp dvs E t):=by
 intro pins s σ H Q I h
 refine wpAny_Call_Name_kw (zhX_ I hg hm ?_ hdb)
 refine PySem.W.callWith_K (h₀:=X.base) I.ok.mod.kin hk (thn (ha pos pins s σ H _ I h) fun us s1 ⟨vs,H1,I1,r,q⟩=>⟨I1.kIn,?_⟩) he hpl
 exact zoi_ F hr hb hd hx I1 r q
end
section
variable {X:Cx}{CX:CXT}{k:Nat}{f C:Addr}{fd:FuncData}{ps ks:List Str}{sp:Sp}{E:XK}{x m:Str}{p pos apos kpos:Pos}{e o:Expr}{es:List Expr}{kws:List Keyword}{te ta:TE}{t tk:TA}{nm:Option Str}
variable {g:List Value→List Value→List Value}{gV:List V→List V→List V}
end
structure FnScope (N P:List Str) (sc:Scope):Prop where
 kind:sc.kind=.function
 co:sc.isCoroutine=false
 gen:sc.isGenerator=false
 nd:N.Nodup
 pre:N.take P.length=P
 par:∀ x∈P,sc.names.lookup x=some .local∨sc.names.lookup x=some .cell
 nofree:∀ y∈sc.names,y.2≠.free
theorem zgK_ {kindOf:Str→Option NameKind}{x:Str}:∀ {binds:List (Str×Value)}{m:Str→Option Value},(∀ v,(x,v)∉binds)→bindL kindOf binds m x=m x
 | [],_,_=>rfl
 | (n,v)::r,m,h=>by
  unfold bindL
  rw [zgK_ fun w hw=>h w (List.mem_cons_of_mem _ hw)]
  split
  ·have:x≠n:=by rintro rfl; exact h v List.mem_cons_self
   simp [this]
  ·rfl
theorem zgQ_ {kindOf:Str→Option NameKind}{x:Str}:∀ {binds:List (Str×Value)}{m:Str→Option Value},(∀ v,(x,v)∉binds)→bindC kindOf binds m x=m x
 | [],_,_=>rfl
 | (n,v)::r,m,h=>by
  unfold bindC
  rw [zgQ_ fun w hw=>h w (List.mem_cons_of_mem _ hw)]
  split
  ·rfl
  ·have:x≠n:=by rintro rfl; exact h v List.mem_cons_self
   simp [this]
theorem zgN_ {kindOf:Str→Option NameKind}{x:Str}{v:Value}:∀ {P:List Str}{vs:List Value}{i:Nat}{m:Str→Option Value},P.Nodup→P[i]?=some x→vs[i]?=some v→kindOf x=some .local →
  bindL kindOf (P.zip vs) m x=some v
 | [],_,_,_,_,h,_,_=>by simp at h
 | _::_,[],_,_,_,_,h,_=>by simp at h
 | p::P,w::vs,0,m,nd,h1,h2,hk=>by
  simp at h1 h2; subst h1; subst h2
  show bindL kindOf ((p,w)::P.zip vs) m p=_
  unfold bindL
  rw [zgK_ fun v hv=>(List.nodup_cons.mp nd).1 (List.of_mem_zip hv).1,if_pos hk]
  simp
 | p::P,w::vs,i+1,m,nd,h1,h2,hk=>by
  show bindL kindOf ((p,w)::P.zip vs) m x=_
  unfold bindL
  exact zgN_ (i:=i) (List.nodup_cons.mp nd).2 (by simpa using h1) (by simpa using h2) hk
theorem zgP_ {kindOf:Str→Option NameKind}{x:Str}{v:Value}:∀ {P:List Str}{vs:List Value}{i:Nat}{m:Str→Option Value},P.Nodup→P[i]?=some x→vs[i]?=some v→kindOf x≠some .local →
  bindC kindOf (P.zip vs) m x=some v
 | [],_,_,_,_,h,_,_=>by simp at h
 | _::_,[],_,_,_,_,h,_=>by simp at h
 | p::P,w::vs,0,m,nd,h1,h2,hk=>by
  simp at h1 h2; subst h1; subst h2
  show bindC kindOf ((p,w)::P.zip vs) m p=_
  unfold bindC
  rw [zgQ_ fun v hv=>(List.nodup_cons.mp nd).1 (List.of_mem_zip hv).1,if_neg hk]
  simp
 | p::P,w::vs,i+1,m,nd,h1,h2,hk=>by
  show bindC kindOf ((p,w)::P.zip vs) m x=_
  unfold bindC
  exact zgP_ (i:=i) (List.nodup_cons.mp nd).2 (by simpa using h1) (by simpa using h2) hk
noncomputable def start (N:List Str) (vs:List V):St:=vs.map some++List.replicate (N.length-vs.length) none
noncomputable def cxOf (CX:CXT) (P:Program) (w:World) (K:Fgg) (mg:Str→Option Value) (base:Heap) (N:List Str) (qual:Str) (scope:Scope) (f:Addr) (cd:Value) (A:Around) (outer:List Env) (s:Shared) (H:Hp) (E:XK):Cx where
 prog:=P
 w:=w
 K:=K
 mg:=mg
 base:=base
 A:=A.deeper (envOfC qual scope s.heap.objs.size f cd)
 N:=N
 s₀:=s
 H₀:=H
 env:=envOfC qual scope s.heap.objs.size f cd
 outer:=outer
 stack:=envOfC qual scope s.heap.objs.size f cd::outer
 ex:=[]
 calm:=true
 fn:=fun _=>true
 pn:=[]
 xe:=fun e s'=>wpAny (model P w) (A.deeper (envOfC qual scope s.heap.objs.size f cd)) (leaving (envOfC qual scope s.heap.objs.size f cd) e) (fun _ s''=>CX outer H s E e s'') (fun e' s''=>CX outer H s E e' s'') s'
theorem zh5_ {sc:Scope}{n:Nat}{x:Str}(h:sc.names.lookup x=some .cell):∃ c,(cellsFrom n sc.names []).lookup x=some c:=by
 have q:=PySem.W.cellsFrom_some sc.names n [] (.inl h)
 exact Option.isSome_iff_exists.mp q
theorem zkg_ {CX:CXT}{P:Program}{w:World}{K:Fgg}{mg:Str→Option Value}{base:Heap}{N ps:List Str}{qual:Str}{scope:Scope}{f:Addr}{cd:Value}{A:Around}{outer:List Env}{s s1:Shared}{H:Hp}{E:XK}{us:List Value}{vs:List V}
  (S:FnScope N ps scope) (hd:A.handled=none) (e0:Env0 P w K mg base A outer s H) (hl:vs.length=ps.length) (r:Vals vs us)
  (x:InCallC s s.heap.objs.size (bindL (envOfC qual scope s.heap.objs.size f cd).kindOf (ps.zip us) fun _=>none) (cellsFrom (s.heap.objs.size+1) scope.names []) (bindC (envOfC qual scope s.heap.objs.size f cd).kindOf (ps.zip us) fun _=>none) s1) :
  Inv (cxOf CX P w K mg base N qual scope f cd A outer s H E) [] (start N vs) H s1:=by
 have hpl:ps.length≤N.length:=by have:=congrArg List.length S.pre; rw [List.length_take] at this; lia
 obtain ⟨h1,tk,rfl,hk⟩:=x.done
 have noA:∀ b:Addr,b∉(cxOf CX P w K mg base N qual scope f cd A outer s H E).ex:=fun b z=>absurd (show b∈([]:List Addr) from z) (by simp)
 refine ⟨⟨e0.mod,S.kind,rfl,rfl,Nat.le_refl _,fun y z c h1 h2=>?_,fun y hy=>?_,fun y c _ h=>?_,fun _=>hd,Around.frames_deeper e0.frames,.inr ⟨rfl,rfl⟩,fun b z=>absurd z (noA b),e0.bs,e0.bsz,fun b _ _=>noA b,fun b z=>absurd z (noA b),e0.funs,e0.frf⟩,
  rfl,e0.bare,Un.kept hk,⟨_,x.toInCall.ns,fun i y v h1 h2 h3=>?_⟩,fun y c h=>⟨_,x.cell y c h⟩,e0.hok.fresh (Nat.le_refl _),fun y c h=>?_,fun p hp=>absurd (show p∈([]:Pnn) from hp) (by simp),e0.hok.kept hk,?_⟩
 ·exact name_of_addr x.apart (PySem.mem_of_lookup h1) (PySem.mem_of_lookup h2)
 ·have hy:scope.names.lookup y=some .cell∨scope.names.lookup y=some .free:=hy
  rcases hy with hy | hy
  ·exact zh5_ hy
  ·exact absurd rfl (S.nofree _ (PySem.mem_of_lookup hy))
 ·exact Nat.le_of_lt (x.above y c (PySem.mem_of_lookup h))
 ·have hi:i<vs.length:=by
   unfold start at h2
   by_cases hi:i<vs.length
   ·exact hi
   ·rw [List.getElem?_append_right (by simpa using hi)] at h2
    rw [List.getElem?_replicate] at h2
    split at h2<;>cases h2
  have ha:vs[i]?=some v:=by
   unfold start at h2
   rw [List.getElem?_append_left (by simpa using hi),List.getElem?_map] at h2
   cases e:vs[i]? with
   | none=>rw [e] at h2; cases h2
   | some a=>rw [e] at h2; cases h2; rfl
  obtain ⟨u,hu,rv⟩:=r.get ha
  have hp:ps[i]?=some y:=by
   rw [← S.pre,List.getElem?_take_of_lt (by lia)]; exact h1
  have ndP:ps.Nodup:=by rw [← S.pre]; exact S.nd.sublist (List.take_sublist _ _)
  refine ⟨u,rv,?_⟩
  rcases S.par y (List.mem_of_getElem? hp) with k | k
  ·exact .inl ⟨k,zgN_ ndP hp hu k⟩
  ·obtain ⟨c,e⟩:=zh5_ (n:=s.heap.objs.size+1) k
   refine .inr ⟨.inl k,c,e,?_⟩
   have q:=x.cell y c e
   rw [zgP_ ndP hp hu (by show scope.names.lookup y≠_; rw [k]; decide)] at q
   exact q
 ·exact e0.hok.fresh (Nat.le_of_lt (x.above y c (PySem.mem_of_lookup h)))
 ·unfold start
  show _=N.length
  rw [List.length_append,List.length_map,List.length_replicate]
  lia
theorem fn_of {CX:CXT}{P:Program}{w:World}{K:Fgg}{mg:Str→Option Value}{base:Heap}{k:Nat}{f:Addr}{name qual:Str}{params:Arguments}{body:List Stmt}{scope:Scope}{dV kV doc pm cdv ct oc:Value}{an od:Option Addr}
  {osl:Array (Option Value)}{N ps:List Str}{sp:Sp}(lk:K.lookup f=some ⟨oc,od,.func (PySem.W.fnOf name qual params body scope dV kV doc pm an cdv ct),osl⟩) (hcd:PySem.W.codeIn K cdv qual=true) (S:FnScope N ps scope)
  (len:∀ vs H Q E,sp vs H Q E→vs.length=ps.length)
  (hbody:∀ (A:Around) (outer:List Env) (s:Shared) (H:Hp) (vs:List V) (Q:VK) (E:XK),Room k (A.deeper (envOfC qual scope s.heap.objs.size f cdv))→sp vs H Q E →
   ∃ t,PSs (cxOf CX P w K mg base N qual scope f cdv A outer s H E) body t∧t { nx:=fun _ H'=>Q .non H',rt:=Q } (start N vs) H) :
  FnOk P w K mg base CX (k+1) f (PySem.W.fnOf name qual params body scope dV kV doc pm an cdv ct) ps sp:=by
 refine ⟨len,fun A outer s H args us vs Q E hr e0 hb r hsp=>?_⟩
 have hl:=len _ _ _ _ hsp
 have KX:K.In s.heap:=e0.mod.kin.keeps fun b o e=>(e0.bs b o e).1
 have lim:s.heap.NoLimit:=e0.mod.nolimit.keeps fun b o e=>(e0.bs b o e).1
 have hkind:∀ y∈ps.zip us,scope.names.lookup y.1=some .local∨(scope.names.lookup y.1=some .cell∧((cellsFrom (s.heap.objs.size+1) scope.names []).lookup y.1).isSome=true):=fun ⟨n,v⟩ hy=>by
  rcases S.par n (List.of_mem_zip hy).1 with q | q
  ·exact .inl q
  ·exact .inr ⟨q,PySem.W.cellsFrom_some _ _ _ (.inl q)⟩
 refine codeAny_call_function hr.depth (KX _ _ lk) rfl S.co S.gen rfl (PySem.W.codeRec_of KX hcd) (hb _ _ _ _ ?_)
 refine wpAny_newFunctionEnv_cells S.kind hkind fun env he s1 x=>?_
 subst he
 refine ⟨lim.keeps x.toInCall.keep,codeAny_func ?_⟩
 obtain ⟨t,ht,hq⟩:=hbody A outer s H vs Q E (hr.deeper _) hsp
 have I:Inv (cxOf CX P w K mg base N qual scope f cdv A outer s H E) [] (start N vs) H s1:=zkg_ S hr.hd e0 hl r x
 refine wpAny_mono (ht [] s1 (start N vs) H _ I hq) (fun fl s' hs=>?_) fun e s' hs=>hs
 have fin:∀ {σ':St}{H':Hp}{v:V}{u:Value},Inv (cxOf CX P w K mg base N qual scope f cdv A outer s H E) [] σ' H' s'→RelV v u→Q v H'→CE outer P w H s Q u s' :=
  fun {σ' H' v u} J rv q=>⟨v,H',J.os,J.bare,J.base,J.hok,rv,q⟩
 cases fl with
 | ret u =>
  obtain ⟨v,σ',H',J,rv,q⟩:=hs
  exact fin J rv q
 | next =>
  obtain ⟨σ',H',J,q⟩:=hs
  exact fin (v:=V.non) (u:=Value.none) J rfl q
 | brk =>
  obtain ⟨_,_,_,q⟩:=hs
  exact False.elim q
 | cont =>
  obtain ⟨_,_,_,q⟩:=hs
  exact False.elim q
end L2
namespace L2
open PySem PySem.Spec PyProof.Rows
section
variable {X:Cx}{x:Str}{p pos:Pos}{e:Expr}{es:List Expr}{t:TA}{id T:String}{r:List V→Hp→VK→Prop}
noncomputable def tCB (r:List V→Hp→VK→Prop) (t:TA):TE:=fun σ H Q=>t σ H fun vs H1=>r vs H1 Q
theorem zl9_ (hc:CallR X (.builtin id) r) (hg:Gl X x) (hm:X.mg x=none) (hv:bootBuiltins x=some (.builtin id)) (ha:PA X (e::es) t) (hn:x ≠ "__name__" := by decide) (hdb:(x == ("__debug__" : Str))=false:=by decide)
  (he:starEach (e::es) X.env=(false,eval e X.env)::starEach es X.env:=by rfl) (hpl:(backTo pos (starEach es X.env)).any (·.1)=false:=by rfl):PE X (.Call (.Name x p) (e::es) [] pos) (tCB r t):=by
 intro pins s σ H Q I h
 refine wpAny_Call_Name_kw (zg4_ I hg hm hv ?_ hn hdb)
 exact PyProof.Rows.callWith_builtin1 (thn (ha pos pins s σ H _ I h) fun us s1 ⟨vs,H1,I1,r1,q1⟩=>hc pins s1 σ H1 vs us Q I1 r1 q1) he hpl
theorem zjx_ (hc:CallR X (.type T) r) (hg:Gl X x) (hm:X.mg x=none) (hv:bootBuiltins x=some (.type T)) (ha:PA X (e::es) t) (hn:x ≠ "__name__" := by decide) (hdb:(x == ("__debug__" : Str))=false:=by decide)
  (he:starEach (e::es) X.env=(false,eval e X.env)::starEach es X.env:=by rfl) (hpl:(backTo pos (starEach es X.env)).any (·.1)=false:=by rfl):PE X (.Call (.Name x p) (e::es) [] pos) (tCB r t):=by
 intro pins s σ H Q I h
 refine wpAny_Call_Name_kw (zg4_ I hg hm hv ?_ hn hdb)
 exact PyProof.Rows.callWith_type1 (thn (ha pos pins s σ H _ I h) fun us s1 ⟨vs,H1,I1,r1,q1⟩=>hc pins s1 σ H1 vs us Q I1 r1 q1) he hpl
end
end L2
namespace HT
open PySem PyProof.Rows
noncomputable def lexLt:List Int→List Int→Bool
 | [],[]=>false
 | [],_::_=>true
 | _::_,[]=>false
 | x::xs,y::ys=>if x=y then lexLt xs ys else decide (x<y)
theorem lexLt_cons (x y:Int) (xs ys:List Int):lexLt (x::xs) (y::ys)=if x=y then lexLt xs ys else decide (x<y):=rfl
theorem eqAt_int (A:Around) (s:Shared) (a:Int) (t:Tok) (c:Int) (u:Tok):∃ e,SeqAt.EqAt A s (.int a t) (.int c u) e∧(e=true↔a=c) :=
 ⟨(a == c),SeqAt.EqAt.int_int a t c u,by simp⟩
theorem rcLt_int (A:Around) (s:Shared) (a:Int) (t:Tok) (c:Int) (u:Tok) (prog:Program) (w:World) (E:Value→Shared→Prop) (Q:Value→Shared→Prop) (h:Q (.bool (decide (a<c))) s) :
  wpAny (model prog w) A (richCompare .Lt (.int a t) (.int c u)) Q E s :=
 (PyProof.Rows.lt_int h:wpAny (model prog w) A (compareOp .Lt (.int a t) (.int c u)) Q E s)
section
open PySem.SeqAt
open PySem.AutoSeq1 (wpAny_loadPart')
open PySem.MeetsSeq PySem.MeetsSeq2 PySem.MeetsSeq3
end
section
variable {prog:Program}{w:World}{A:Around}{E:Value→Shared→Prop}{s:Shared}
noncomputable def sIx (n d:Nat):Option Int→Nat
 | none=>d
 | some v=>if v<0 then (v+(n:Int)).toNat else min v.toNat n
theorem sIx_le (n d:Nat) (hd:d≤n) (o:Option Int):sIx n d o≤n:=by
 cases o with
 | none=>exact hd
 | some v =>
  show (if v<0 then (v+(n:Int)).toNat else min v.toNat n)≤n
  by_cases hv:v<0
  ·rw [if_pos hv]; lia
  ·rw [if_neg hv]; exact Nat.min_le_right _ _
end
end HT
namespace L2
open PySem PySem.Spec PyProof.Rows
noncomputable abbrev TO:=St→Hp→(Option Int→Hp→Prop)→Prop
noncomputable def PO (X:Cx) (e:Option Expr) (t:TO):Prop :=
 ∀ (pins:Pnn) (s:Shared) (σ:St) (H:Hp) (Q:Option Int→Hp→Prop),Inv X pins σ H s→t σ H Q →
  wpAny (model X.prog X.w) X.A (evalPart e X.env) (fun u s'=>∃ o H',Inv X pins σ H' s'∧IsPart u o∧Q o H') X.xe s
noncomputable def tNoPart:TO:=fun _ H Q=>Q none H
theorem zfq_ {ns:List Int}:∀ {us:List Value},Vals (ns.map V.int) us→IntsAre us ns:=by
 induction ns with
 | nil=>intro us r; rw [List.map_nil] at r; cases r; exact .nil
 | cons n ns ih =>
  intro us r
  rw [List.map_cons] at r
  cases r with
  | cons r1 r2 =>
   obtain ⟨t,e⟩:=r1
   subst e
   exact .cons n t (ih r2)
section
variable {X:Cx}{e:Expr}{te:TE}{lo hi:Option Expr}{tl th:TO}{pos p2:Pos}
theorem zdy_:PO X none tNoPart:=by
 intro pins s σ H Q I h
 rw [evalPart_none]
 exact wpAny_pure ⟨none,H,I,.none,h⟩
noncomputable def SlR (X:Cx) (r:V→Option Int→Option Int→Hp→VK→Prop):Prop :=
 ∀ (pins:Pnn) (s:Shared) (σ:St) (H:Hp) (x:V) (v vl vu:Value) (lo hi:Option Int) (sl:Addr) (Q:VK),Inv X pins σ H s→RelV x v→s.heap.IsSliceOf sl vl vu .none→IsPart vl lo→IsPart vu hi→r x lo hi H Q →
  ∃ T id,typeLookup (.type T) "__getitem__" = pure (some (.builtin id))∧s.TypeIs v T∧wpAny (model X.prog X.w) X.A (getItem v (.ref sl)) (EP X pins σ Q) X.xe s
noncomputable def tSl (r:V→Option Int→Option Int→Hp→VK→Prop) (te:TE) (tl th:TO):TE:=fun σ H Q=>te σ H fun x H1=>tl σ H1 fun l H2=>th σ H2 fun u H3=>r x l u H3 Q
theorem zbH_ {r:V→Option Int→Option Int→Hp→VK→Prop}(hr:SlR X r) (he:PE X e te) (hl:PO X lo tl) (hu:PO X hi th):PE X (.Subscript e (.Slice lo hi none p2) pos) (tSl r te tl th):=by
 intro pins s σ H Q I h
 refine Subscript_ (thn (he pins s σ H _ I h) fun v s1 ⟨x,H1,I1,r1,q1⟩=>?_)
 refine wpAny_Slice (thn (hl pins s1 σ H1 _ I1 q1) fun vl s2 ⟨l,H2,I2,pl,q2⟩=>thn (hu pins s2 σ H2 _ I2 q2) fun vu s3 ⟨u,H3,I3,pu,q3⟩=>?_)
 rw [evalPart_none]
 refine wpAny_pure ?_
 have I4:Inv X pins σ H3 { s3 with heap:=s3.heap.push { cls:=.type "slice",data:=.fields #[vl,vu,.none] } }:=I3.kept (t':=s3.toks) fun b ob q=>Heap.get?_push_of_some _ q
 obtain ⟨T,id,hT,ht,hg⟩:=hr pins { s3 with heap:=s3.heap.push { cls:=.type "slice",data:=.fields #[vl,vu,.none] } } σ H3 x v vl vu l u s3.heap.objs.size Q I4 r1 (Heap.IsSliceOf.new ..) pl pu q3
 show wpAny (model X.prog X.w) X.A (subscriptTail e (.Slice lo hi none p2) v (.ref s3.heap.objs.size)) (EP X pins σ Q) X.xe { s3 with heap:=s3.heap.push { cls:=.type "slice",data:=.fields #[vl,vu,.none] } }
 exact tail_any (ops:=[.ref s3.heap.objs.size,v]) ht hT hg (by with_unfolding_all rfl)
noncomputable def cutV (xs:List V) (lo hi:Option Int):List V:=(xs.drop (HT.sIx xs.length 0 lo)).take (HT.sIx xs.length xs.length hi-HT.sIx xs.length 0 lo)
theorem zht_ (xs:List V) (lo hi:Option Int):(cutV xs lo hi).length≤xs.length:=by
 unfold cutV
 rw [List.length_take,List.length_drop]
 lia
end
end L2
namespace L2
open PySem PySem.Spec PyProof.Rows
noncomputable def ixN (n:Nat) (i:Int):Option Nat:=if 0≤i then (if i<n then some i.toNat else none) else if -(n:Int)≤i then some (i+n).toNat else none
noncomputable def atI {α:Type}(xs:List α) (i:Int):Option α:=(ixN xs.length i).bind fun j=>xs[j]?
theorem zkB_ {n:Nat}{i:Int}{j:Nat}(h:ixN n i=some j):seqIndex? i n=some j∧j<n ∧ -(n:Int)≤i∧i<n:=by
 unfold ixN at h
 by_cases h0:0≤i
 ·rw [if_pos h0] at h
  by_cases h1:i<n
  ·rw [if_pos h1] at h
   have e:i.toNat=j:=Option.some.inj h
   exact ⟨by rw [seqIndex_of h0 h1,e],by lia,by lia,h1⟩
  ·rw [if_neg h1] at h; cases h
 ·rw [if_neg h0] at h
  by_cases h1 : -(n:Int)≤i
  ·rw [if_pos h1] at h
   have e:(i+n).toNat=j:=Option.some.inj h
   exact ⟨by rw [seqIndex_neg (by lia) h1,e],by lia,h1,by lia⟩
  ·rw [if_neg h1] at h; cases h
theorem zie_ {α:Type}{xs:List α}{i:Int}{v:α}(h:atI xs i=some v):∃ j,seqIndex? i xs.length=some j∧xs[j]?=some v∧j<xs.length ∧ -(xs.length:Int)≤i∧i<xs.length:=by
 unfold atI at h
 cases e:ixN xs.length i with
 | none=>rw [e] at h; cases h
 | some j =>
  rw [e] at h
  obtain ⟨h1,h2,h3,h4⟩:=zkB_ e
  exact ⟨j,h1,h,h2,h3,h4⟩
noncomputable def PlainIx (b:Expr):Prop:=∀ o i,subscripted b false o i=operate [o,i] (getItem o i)
noncomputable def IxR (X:Cx) (r:R2):Prop :=
 ∀ (value slice:Expr) (pins:Pnn) (s:Shared) (σ:St) (H:Hp) (x y:V) (v u:Value) (Q:VK),Inv X pins σ H s→RelV x v→RelV y u→r x y H Q →
  subscripted slice false v u=operate [v,u] (getItem v u)→wpAny (model X.prog X.w) X.A (subscriptTail value slice v u) (EP X pins σ Q) X.xe s
noncomputable def MtR (X:Cx) (id:String) (r:V→List V→Hp→VK→Prop):Prop :=
 ∀ (pins:Pnn) (s:Shared) (σ:St) (H:Hp) (x:V) (xs:List V) (v:Value) (us:List Value) (Q:VK),Inv X pins σ H s→RelV x v→Vals xs us→r x xs H Q →
  wpAny (model X.prog X.w) X.A (call (.builtin id) (v::us)) (EP X pins σ Q) X.xe s
section
variable {X:Cx}{a b:Expr}{ta tb:TE}{pos:Pos}
theorem za3_ {r:R2}(hr:IxR X r) (ha:PE X a ta) (hb:PE X b tb) (hs:PlainIx b):PE X (.Subscript a b pos) (tOp r ta tb):=by
 intro pins s σ H Q I h
 exact Subscript_ (binT ha hb I h fun v u s2 x y H2 I2 rx ry q=>hr a b pins s2 σ H2 x y v u Q I2 rx ry q (hs _ _))
noncomputable def rIxL (K:Fgg):R2:=fun x y H Q=>∃ p xs i v,x=.ref p∧y=.int i∧SqL K H p xs∧atI xs i=some v∧Q v H
noncomputable def rIxT (K:Fgg):R2:=fun x y H Q=>∃ p xs i v,x=.ref p∧y=.int i∧SqT K H p xs∧atI xs i=some v∧Q v H
noncomputable def rIxS:R2:=fun x y H Q=>∃ z i c,x=.str z∧y=.int i∧z.length≤sizeLine∧atI z.cps.toList i=some c∧Q (.str ⟨#[c]⟩) H
theorem znw_:IxR X (rIxL X.K):=by
 intro value slice pins s σ H x y v u Q I rx ry h hs
 obtain ⟨p,xs,i,z,rfl,rfl,hq,he,q⟩:=h
 cases rx
 obtain ⟨t,rfl⟩:=ry
 obtain ⟨its,r,pl,hz⟩:=I.list hq
 obtain ⟨j,h1,h2,h3,h4,h5⟩:=zie_ he
 obtain ⟨w,ew,rw'⟩:=r.get h2
 have hl:=r.length
 have hn:=line63
 have fin:EP X pins σ Q w s:=⟨z,H,I,rw',q⟩
 by_cases h0:0≤i
 ·have hj:i.toNat=j:=by
   rw [seqIndex_of h0 h5] at h1
   exact Option.some.inj h1
  exact item_listR pl.isList h0 (by lia) (by rw [hj]; simpa using ew) fin hs
 ·have hj:(i+(its.toArray.size:Int)).toNat=j:=by
   rw [seqIndex_neg (by lia) h4] at h1
   rw [List.size_toArray,← hl]
   exact Option.some.inj h1
  exact subscriptTail_builtinR (x:=w) pl.isList.typeIs slot_list_getitem.lookup
   (wpAny_getItem_list_neg (Q:=fun r s'=>r=w∧EP X pins σ Q r s') pl.isList (by lia) (by rw [List.size_toArray]<;>lia) (by lia) (by rw [hj]; simpa using ew) ⟨rfl,fin⟩) hs
theorem zoE_:IxR X (rIxT X.K):=by
 intro value slice pins s σ H x y v u Q I rx ry h hs
 obtain ⟨p,xs,i,z,rfl,rfl,hq,he,q⟩:=h
 cases rx
 obtain ⟨t,rfl⟩:=ry
 obtain ⟨its,r,pl,hz⟩:=I.tuple hq
 obtain ⟨j,h1,h2,h3,h4,h5⟩:=zie_ he
 obtain ⟨w,ew,rw'⟩:=r.get h2
 have hl:=r.length
 have hn:=line63
 have fin:EP X pins σ Q w s:=⟨z,H,I,rw',q⟩
 exact subscriptTail_builtinR (x:=w) pl.typeIs slot_tuple_getitem.lookup
  (getItem_tuple (j:=j) (Q:=fun r s'=>r=w∧EP X pins σ Q r s') pl (by lia) (by lia) (by rw [List.size_toArray,← hl]; exact h1) (by simpa using ew) ⟨rfl,fin⟩) hs
theorem znV_:IxR X rIxS:=by
 intro value slice pins s σ H x y v u Q I rx ry h hs
 obtain ⟨z,i,c,rfl,rfl,hz,he,q⟩:=h
 obtain ⟨t,rfl⟩:=rx
 obtain ⟨t',rfl⟩:=ry
 obtain ⟨j,h1,h2,h3,h4,h5⟩:=zie_ he
 have hl:z.cps.toList.length=z.length:=by simp [Str.length]
 rw [hl] at h1 h4 h5
 have hn:=line63
 exact tail_any (typeIs_str s z t) slot_str_getitem.lookup (getItem_str (c:=c) (by
  have e1:decide (i < -(2 ^ 63:Int))=false:=decide_eq_false (by lia)
  have e2:decide (i ≥ 2 ^ 63)=false:=decide_eq_false (by lia)
  rw [e1,e2,Bool.or_false]) (by rw [h1]; simpa using h2) ⟨.str ⟨#[c]⟩,H,I.tok _,⟨_,rfl⟩,q⟩) hs
theorem zhN_ (its:List Value) (n j:Nat) (u:Value):Obj.mapSeq (·.setIfInBounds j u) { cls:=.type "list",data:=.seq its.toArray n }={ cls:=.type "list",data:=.seq (its.set j u).toArray n }:=by
 simp [Obj.mapSeq]
theorem Inv.lst {pins:Pnn}{σ:St}{H:Hp}{s:Shared}{p:Addr}{xs:List V}(I:Inv X pins σ H s) (h:H p=some (.lst xs)) :
  ∃ (its:List Value) (n:Nat),Vals xs its∧s.heap.get? p=some { cls:=.type "list",data:=.seq its.toArray n }∧xs.length≤sizeLine:=by
 obtain ⟨z,its,n,r,e⟩:=I.hok p _ h
 exact ⟨its,n,r,e,z⟩
theorem Inv.lstUpd {pins:Pnn}{σ:St}{H:Hp}{s:Shared}{p:Addr}{xs ys:List V}{its its':List Value}{n n':Nat}{f:Obj→Obj}(I:Inv X pins σ H s) (h:H p=some (.lst xs))
  (ho:s.heap.get? p=some { cls:=.type "list",data:=.seq its.toArray n }) (hf:f { cls:=.type "list",data:=.seq its.toArray n }={ cls:=.type "list",data:=.seq its'.toArray n' }) (r:Vals ys its') (hz:ys.length≤sizeLine) (t:Nat) :
  Inv X pins σ (upd H p (.lst ys)) { s with heap:=s.heap.update p f,toks:=t }:=by
 have e:(s.heap.update p f).get? p=some { cls:=.type "list",data:=.seq its'.toArray n' }:=by
  rw [Heap.get?_update_self f ho (by rw [hf]<;>rfl),hf]
 refine I.write (x:=p) (e:=p) (by rw [h]; trivial) (.inl rfl) (fun b u hb q=>(Heap.get?_update_other _ _ (Ne.symm hb)).trans q) ⟨_,e⟩ ?_
 exact ⟨hz,its',n',r,e⟩
noncomputable def rSetL:V→V→V→Hp→(Hp→Prop)→Prop:=fun o i v H Q=>∃ p xs k j,o=.ref p∧i=.int k∧H p=some (.lst xs)∧ixN xs.length k=some j∧Q (upd H p (.lst (xs.set j v)))
theorem zlL_:PSet X rSetL:=by
 intro pins s σ H o i v ov iv u Q I ro ri rv h
 obtain ⟨p,xs,k,j,rfl,rfl,hp,hj,q⟩:=h
 cases ro
 obtain ⟨t,rfl⟩:=ri
 obtain ⟨its,n,r,ho,hz⟩:=I.lst hp
 obtain ⟨h1,h2,h3,h4⟩:=zkB_ hj
 have hl:=r.length
 have hn:=line63
 have I':Inv X pins σ (upd H p (.lst (xs.set j v))) { s with heap:=s.heap.update p (Obj.mapSeq (·.setIfInBounds j u)) } :=
  I.lstUpd hp ho (zhN_ its n j u) (r.set rv j) (by rw [List.length_set]; exact hz) s.toks
 by_cases h0:0≤k
 ·have hk:k.toNat=j:=by
   rw [seqIndex_of h0 h4] at h1
   exact Option.some.inj h1
  exact PySem.W.ki_setAt ho h0 (by lia) (by rw [List.size_toArray,← hl]; exact h4) (by rw [hk]; exact ⟨_,I',q⟩)
 ·have hk:(k+(its.toArray.size:Int)).toNat=j:=by
   rw [seqIndex_neg (by lia) h3] at h1
   rw [List.size_toArray,← hl]
   exact Option.some.inj h1
  exact PySem.W.ki_setBack ho (by lia) (by rw [List.size_toArray,← hl]; exact h3) (by lia) (by rw [hk]; exact ⟨_,I',q⟩)
theorem zge_ (lo hi:Option Int) (n:Nat):(sliceBounds lo hi none n).1=((HT.sIx n 0 lo:Nat):Int)∧(sliceBounds lo hi none n).2.1=((HT.sIx n n hi:Nat):Int)∧(sliceBounds lo hi none n).2.2=1:=by
 refine ⟨?_,?_,rfl⟩
 ·cases lo with
  | none=>simp [sliceBounds,HT.sIx]
  | some i =>
   simp only [sliceBounds,HT.sIx,Option.getD_none,show (1:Int) > 0 by decide,if_true]
   by_cases h:i<0
   ·simp only [h,if_true]<;>lia
   ·simp only [h,if_false]<;>lia
 ·cases hi with
  | none=>simp [sliceBounds,HT.sIx]
  | some i =>
   simp only [sliceBounds,HT.sIx,Option.getD_none,show (1:Int) > 0 by decide,if_true]
   by_cases h:i<0
   ·simp only [h,if_true]<;>lia
   ·simp only [h,if_false]<;>lia
theorem zfO_ (its:List Value) (lo hi:Option Int):slicePick its.toArray lo hi none=((its.drop (HT.sIx its.length 0 lo)).take (HT.sIx its.length its.length hi-HT.sIx its.length 0 lo)).toArray:=by
 obtain ⟨h1,h2,h3⟩:=zge_ lo hi its.toArray.size
 unfold slicePick
 rw [h1,h2,h3]
 simp only [sliceRange_one,pick_run,List.size_toArray]<;>rfl
noncomputable def rSlL (K:Fgg):V→Option Int→Option Int→Hp→VK→Prop:=fun x lo hi H Q=>∃ a xs,x=.ref a∧SqL K H a xs∧∀ p,H p=none→Q (.ref p) (upd H p (.lst (cutV xs lo hi)))
theorem zmL_:SlR X (rSlL X.K):=by
 intro pins s σ H x v vl vu lo hi sl Q I rx hs pl pu h
 obtain ⟨a,xs,rfl,hx,q⟩:=h
 cases rx
 obtain ⟨its,r,ht,hz⟩:=I.list hx
 have hlen:=r.length
 refine ⟨"list",_,slot_list_getitem.lookup,ht.isList.typeIs,?_⟩
 refine wpAny_getItem_list_slice ht.isList hs pl pu .none (by simp) ?_ (by rw [List.size_toArray]<;>lia)
 rw [zfO_,← hlen]
 refine ⟨.ref s.heap.objs.size,_,I.laid (t':=s.toks) (o:=.lst (cutV xs lo hi)) (fun b ob q=>Heap.get?_push_of_some _ q) (Nat.le_refl _) ?_,rfl,q _ (I.hok.fresh (Nat.le_refl _))⟩
 exact ⟨Nat.le_trans (zht_ xs lo hi) hz,_,0,(r.drop (HT.sIx xs.length 0 lo)).take (HT.sIx xs.length xs.length hi-HT.sIx xs.length 0 lo),Heap.get?_push_size _ rfl⟩
noncomputable def flatV:V→Bool
 | .non=>true
 | .bl _=>true
 | .int _=>true
 | .str _=>true
 | _=>false
noncomputable def eqV:V→V→Bool
 | .non,.non=>true
 | .bl a,.bl b=>a == b
 | .bl a,.int b=>(if a then 1 else 0) == b
 | .int a,.bl b=>a == (if b then 1 else 0)
 | .int a,.int b=>a == b
 | .str a,.str b=>a == b
 | _,_=>false
theorem zlo_ {A:Around}{s:Shared}{y x:V}{u v:Value}(ry:RelV y u) (rx:RelV x v) (fy:flatV y=true) (fx:flatV x=true):SeqAt.EqAt A s u v (eqV y x):=by
 cases y with
 | non =>
  cases ry
  cases x with
  | non=>cases rx; exact SeqAt.EqAt.same _
  | bl b=>cases rx; exact SeqAt.EqAt.none_bool b
  | int b=>obtain ⟨t,rfl⟩:=rx; exact SeqAt.EqAt.none_int b t
  | str b=>obtain ⟨t,rfl⟩:=rx; exact SeqAt.EqAt.none_str b t
  | _=>exact absurd (show false=true from fx) Bool.false_ne_true
 | bl a =>
  cases ry
  cases x with
  | non=>cases rx; exact SeqAt.EqAt.bool_none a
  | bl b=>cases rx; exact SeqAt.EqAt.bool_bool a b
  | int b=>obtain ⟨t,rfl⟩:=rx; exact SeqAt.EqAt.bool_int a b t
  | str b=>obtain ⟨t,rfl⟩:=rx; exact SeqAt.EqAt.bool_str a b t
  | _=>exact absurd (show false=true from fx) Bool.false_ne_true
 | int a =>
  obtain ⟨t',rfl⟩:=ry
  cases x with
  | non=>cases rx; exact SeqAt.EqAt.int_none a t'
  | bl b=>cases rx; exact SeqAt.EqAt.int_bool a t' b
  | int b=>obtain ⟨t,rfl⟩:=rx; exact SeqAt.EqAt.int_int a t' b t
  | str b=>obtain ⟨t,rfl⟩:=rx; exact SeqAt.EqAt.int_str a t' b t
  | _=>exact absurd (show false=true from fx) Bool.false_ne_true
 | str a =>
  obtain ⟨t',rfl⟩:=ry
  cases x with
  | non=>cases rx; exact SeqAt.EqAt.str_none a t'
  | bl b=>cases rx; exact SeqAt.EqAt.str_bool a t' b
  | int b=>obtain ⟨t,rfl⟩:=rx; exact SeqAt.EqAt.str_int a t' b t
  | str b=>obtain ⟨t,rfl⟩:=rx; exact SeqAt.EqAt.str_str a t' b t
  | _=>exact absurd (show false=true from fx) Bool.false_ne_true
 | _=>exact absurd (show false=true from fy) Bool.false_ne_true
noncomputable def eqU (x:V) (u:Value):Bool:=match u with
 | .none=>eqV .non x
 | .bool b=>eqV (.bl b) x
 | .int i _=>eqV (.int i) x
 | .str z _=>eqV (.str z) x
 | _=>false
theorem zmS_ {x y:V}{u:Value}(r:RelV y u) (f:flatV y=true):eqU x u=eqV y x:=by
 cases y with
 | non=>cases r; rfl
 | bl b=>cases r; rfl
 | int i=>obtain ⟨t,rfl⟩:=r; rfl
 | str z=>obtain ⟨t,rfl⟩:=r; rfl
 | _=>exact absurd (show false=true from f) Bool.false_ne_true
theorem zfl_ {x:V}:∀ {xs:List V}{us:List Value},Vals xs us→xs.all flatV=true→us.any (eqU x)=xs.any fun y=>eqV y x
 | _,_,.nil,_=>rfl
 | y::xs,u::us,.cons r t,f=>by
  rw [List.all_cons,Bool.and_eq_true] at f
  rw [List.any_cons,List.any_cons,zmS_ r f.1,zfl_ t f.2]
theorem zdU_ {A:Around}{s:Shared}{x:V}{v:Value}(rx:RelV x v) (fx:flatV x=true):∀ {xs:List V}{us:List Value},Vals xs us→xs.all flatV=true→∀ u∈us,SeqAt.EqAt A s u v (eqU x u)
 | _,_,.nil,_=>fun u hu=>by cases hu
 | y::xs,u::us,.cons r t,f=>fun u' hu=>by
  rw [List.all_cons,Bool.and_eq_true] at f
  rcases List.mem_cons.mp hu with rfl | hu
  ·rw [zmS_ r f.1]; exact zlo_ r rx f.1 fx
  ·exact zdU_ rx fx t f.2 u' hu
noncomputable def inV (x:V) (xs:List V):Bool:=xs.any fun y=>eqV y x
noncomputable def rIn (K:Fgg) (neg:Bool):R2:=fun x y H Q=>∃ p xs,y=.ref p∧(SqL K H p xs∨SqT K H p xs)∧flatV x=true∧xs.all flatV=true∧Q (.bl (if neg then !inV x xs else inV x xs)) H
theorem zjX_:OpR X (compareOp .In) (rIn X.K false):=by
 intro pins s σ H x y v u Q I rx ry h
 obtain ⟨p,xs,rfl,hq,fx,fs,q⟩:=h
 cases ry
 rcases hq with hq | hq
 ·obtain ⟨its,r,pl,hz⟩:=I.list hq
  refine SeqAt.in_listAt (eqU x) pl.isList (fun w hw=>zdU_ rx fx r fs w (by simpa using hw)) ⟨.bl _,H,I,rfl,?_⟩
  rw [show its.toArray.any (eqU x)=its.any (eqU x) by simp,zfl_ r fs]
  exact q
 ·obtain ⟨its,r,pl,hz⟩:=I.tuple hq
  refine SeqAt.in_tupleAt (eqU x) pl (fun w hw=>zdU_ rx fx r fs w (by simpa using hw)) ⟨.bl _,H,I,rfl,?_⟩
  rw [show its.toArray.any (eqU x)=its.any (eqU x) by simp,zfl_ r fs]
  exact q
theorem zf9_:OpR X (compareOp .NotIn) (rIn X.K true):=by
 intro pins s σ H x y v u Q I rx ry h
 obtain ⟨p,xs,rfl,hq,fx,fs,q⟩:=h
 cases ry
 rcases hq with hq | hq
 ·obtain ⟨its,r,pl,hz⟩:=I.list hq
  refine SeqAt.notIn_listAt (eqU x) pl.isList (fun w hw=>zdU_ rx fx r fs w (by simpa using hw)) ⟨.bl _,H,I,rfl,?_⟩
  rw [show its.toArray.any (eqU x)=its.any (eqU x) by simp,zfl_ r fs]
  exact q
 ·obtain ⟨its,r,pl,hz⟩:=I.tuple hq
  refine SeqAt.notIn_tupleAt (eqU x) pl (fun w hw=>zdU_ rx fx r fs w (by simpa using hw)) ⟨.bl _,H,I,rfl,?_⟩
  rw [show its.toArray.any (eqU x)=its.any (eqU x) by simp,zfl_ r fs]
  exact q
theorem zgg_:CallR X (.builtin "len") (fun xs H Q=>∃ p ys,xs=[.ref p]∧(SqL X.K H p ys∨SqT X.K H p ys)∧Q (.int ys.length) H):=by
 intro pins s σ H xs us Q I r h
 obtain ⟨p,ys,rfl,hq,q⟩:=h
 obtain ⟨u,rfl,rx⟩:=vals1 r
 cases rx
 have hn:=line63
 rcases hq with hq | hq
 ·obtain ⟨its,r',pl,hz⟩:=I.list hq
  have hlen:=r'.length
  exact Calls.call_len_list pl.isList (by simp only [List.size_toArray]<;>lia) ⟨.int ys.length,H,I.tok _,⟨s.toks+1,by rw [List.size_toArray,hlen]⟩,q⟩
 ·obtain ⟨its,r',pl,hz⟩:=I.tuple hq
  have hlen:=r'.length
  exact len_tuple pl (by simp only [List.size_toArray]<;>lia) ⟨.int ys.length,H,I.tok _,⟨s.toks+1,by rw [List.size_toArray,hlen]⟩,q⟩
theorem zf5_:CallR X (.builtin "len") (fun xs H Q=>∃ z,xs=[.str z]∧z.length≤sizeLine∧Q (.int z.length) H):=by
 intro pins s σ H xs us Q I r h
 obtain ⟨z,rfl,hz,q⟩:=h
 obtain ⟨u,rfl,t,rfl⟩:=vals1 r
 have hn:=line63
 exact len_str (by lia) ⟨.int z.length,H,I.tok _,⟨_,rfl⟩,q⟩
theorem zf2_:CallR X (.type "list") (fun xs H Q=>∃ p ys,xs=[.ref p]∧(SqL X.K H p ys∨SqT X.K H p ys)∧∀ l,H l=none→Q (.ref l) (upd H l (.lst ys))):=by
 intro pins s σ H xs us Q I r h
 obtain ⟨p,ys,rfl,hq,q⟩:=h
 obtain ⟨u,rfl,rx⟩:=vals1 r
 cases rx
 have fin:∀ (its:List Value),Vals ys its→ys.length≤sizeLine→∀ (h':Heap) (c':Nat),(∀ b o',s.heap.get? b=some o'→h'.get? b=some o') →
   h'.get? s.heap.objs.size=some { cls:=.type "list",dict:=none,data:=.seq its.toArray c',slots:=#[] }→EP X pins σ Q (.ref s.heap.objs.size) { s with heap:=h' }:=fun its r' hz h' c' kp e =>
  ⟨.ref s.heap.objs.size,_,I.laid (t':=s.toks) kp (Nat.le_refl _) (show ObjOk X.prog X.w _ h' _ (.lst ys) from ⟨hz,its,c',r',e⟩),rfl,q _ (I.hok.fresh (Nat.le_refl _))⟩
 rcases hq with hq | hq
 ·obtain ⟨its,r',pl,hz⟩:=I.list hq
  have hlen:=r'.length
  obtain ⟨o,ho,hc,n,hd⟩:=pl.isList
  exact call_list_seq p (.inl rfl) ho hc hd (fun h' c' kp e=>fin its r' hz h' c' kp e) (by simp only [List.size_toArray]<;>lia)
 ·obtain ⟨its,r',pl,hz⟩:=I.tuple hq
  have hlen:=r'.length
  obtain ⟨o,ho,hc,n,hd⟩:=pl
  exact call_list_seq p (.inr rfl) ho hc hd (fun h' c' kp e=>fin its r' hz h' c' kp e) (by simp only [List.size_toArray]<;>lia)
noncomputable def tyV (K:Fgg) (T:String) (x:V) (H:Hp):Prop:=match x with
 | .str _=>T = "str"
 | .int _=>T = "int"
 | .ref p=>(T = "list" ∧ ∃ xs,SqL K H p xs)∨(T = "tuple" ∧ ∃ o,K.lookup p=some o∧o.cls=.type "tuple" ∧ o.dict=none) ∨
   (T = "dict" ∧ ((∃ kvs,H p=some (.dK kvs))∨∃ kvs,H p=some (.dT kvs)))∨(T = "set" ∧ ∃ S n,H p=some (.set S n))
 | _=>False
theorem zoK_ {pins:Pnn}{σ:St}{H:Hp}{s:Shared}{T:String}{x:V}{v:Value}(I:Inv X pins σ H s) (r:RelV x v) (ty:tyV X.K T x H) :
  s.TypeIs v T∧∀ a,v=.ref a→∃ ob,s.heap.get? a=some ob∧ob.dict=none:=by
 cases x with
 | str z =>
  obtain ⟨t,rfl⟩:=r
  cases (show T = "str" from ty)
  exact ⟨typeIs_str s z t,fun _ e=>nomatch e⟩
 | int i =>
  obtain ⟨t,rfl⟩:=r
  cases (show T = "int" from ty)
  exact ⟨typeIs_int s i t,fun _ e=>nomatch e⟩
 | ref p =>
  cases r
  rcases ty with ⟨rfl,xs,hq⟩ | ⟨rfl,o,hk,hc,hd⟩ | ⟨rfl,hk⟩ | ⟨rfl,S,n,hk⟩
  ·obtain ⟨its,_,pl,_⟩:=I.list hq
   refine ⟨pl.isList.typeIs,fun a e=>?_⟩
   cases e
   obtain ⟨o,n,e,c,hd,_⟩:=pl
   exact ⟨o,e,hd⟩
  ·refine ⟨⟨o,I.kIn p o hk,hc⟩,fun a e=>?_⟩
   cases e
   exact ⟨o,I.kIn _ o hk,hd⟩
  ·have z:∃ o,s.heap.get? p=some o∧o.ExactDict:=by
    rcases hk with ⟨kvs,hk⟩ | ⟨kvs,hk⟩
    ·obtain ⟨_,_,_,_,o,_,_,e,ex,_⟩:=I.hok p _ hk
     exact ⟨o,e,ex⟩
    ·obtain ⟨_,_,_,_,o,_,_,e,ex,_⟩:=I.hok p _ hk
     exact ⟨o,e,ex⟩
   obtain ⟨o,e,ex⟩:=z
   refine ⟨⟨o,e,ex.1⟩,fun a e2=>?_⟩
   cases e2
   exact ⟨o,e,ex.2.1⟩
  ·obtain ⟨o,_,_,_,e,ex,_⟩:=I.hok p _ hk
   refine ⟨⟨o,e,ex.1⟩,fun a e2=>?_⟩
   cases e2
   exact ⟨o,e,ex.2.1⟩
 | _=>exact False.elim ty
noncomputable def tBM (K:Fgg) (T:String) (r:V→List V→Hp→VK→Prop) (to:TE) (t:TA):TE:=fun σ H Q=>to σ H fun x H1=>tyV K T x H1∧t σ H1 fun xs H2=>r x xs H2 Q
variable {o e:Expr}{es:List Expr}{to:TE}{t:TA}{name:Str}{apos cpos:Pos}{T id:String}{r:V→List V→Hp→VK→Prop}
theorem zim_ (pa:PlainAttrs T) (slot:Slot T name id) (hty:typeOf (.builtin id)=pure (.type "method_descriptor")) (hm:MtR X id r) (ho:PE X o to) (ha:PA X (e::es) t)
  (hbase:attributeBase o name X.env (eval o X.env)=eval o X.env:=by rfl)
  (hfew:((backTo cpos (starEach (e::es) X.env)).all (fun x=>!x.1) && (backToKw cpos (keywordEach [] X.env)).all (fun x=>x.1.isSome)
   && decide ((e::es).length+([]:List Keyword).length+(if ([]:List Keyword).isEmpty then 0 else 1)<30))=true:=by rfl)
  (hline:(apos.endLine == cpos.line)=true:=by rfl) (hs:starEach (e::es) X.env=(false,eval e X.env)::starEach es X.env:=by rfl) (hplain:(backTo cpos (starEach es X.env)).any (·.1)=false:=by rfl) :
  PE X (.Call (.Attribute o name apos) (e::es) [] cpos) (tBM X.K T r to t):=by
 intro pins s σ H Q I h
 refine wpAny_Call_method_late hbase hfew hline rfl (thn (ho pins s σ H _ I h) fun v s1 ⟨x,H1,I1,r1,ty,q1⟩=>?_)
 obtain ⟨h1,h2⟩:=zoK_ I1 r1 ty
 refine ⟨T,id,pa,slot,hty,h1,h2,?_⟩
 have hA:=ha cpos pins s1 σ H1 _ I1 q1
 rw [hs] at hA ⊢
 refine Calls.callWith_builtin (by show (false || (backTo cpos (starEach es X.env)).any (·.1))=false; rw [hplain]<;>rfl) (Calls.evalArgs_plain ?_)
 exact thn hA fun us s2 ⟨vs,H2,I2,r2,q2⟩=>hm pins s2 σ H2 x vs v us Q I2 r1 r2 q2
end
end L2
namespace L2
open PySem PySem.Spec PyProof.Rows
noncomputable def MtM (X:Cx) (id:String) (r:V→List V→Hp→VK→Prop):Prop :=
 ∀ (pins:Pnn) (s:Shared) (σ:St) (H:Hp) (x:V) (xs:List V) (v:Value) (us:List Value) (Q:VK),Inv X pins σ H s→RelV x v→Vals xs us→r x xs H Q →
  wpAny (model X.prog X.w) X.A (call (.builtin id) (v::us)) (EP X pins σ Q) X.xe s
theorem Vals.one:∀ {x:V}{us:List Value},Vals [x] us→∃ u,us=[u]∧RelV x u
 | _,_,.cons r .nil=>⟨_,rfl,r⟩
theorem Vals.dropLast {xs:List V}{us:List Value}(h:Vals xs us):Vals xs.dropLast us.dropLast:=by
 induction h with
 | nil=>exact .nil
 | cons r t ih =>
  cases t with
  | nil=>exact .nil
  | cons q t'=>exact .cons r ih
theorem Vals.rep {xs:List V}{us:List Value}(h:Vals xs us):∀ k:Nat,Vals (List.replicate k xs).flatten (List.replicate k us).flatten
 | 0=>.nil
 | k+1=>by
  rw [List.replicate_succ,List.replicate_succ,List.flatten_cons,List.flatten_cons]
  exact Vals.append h (Vals.rep h k)
theorem zmw_ {α:Type}(l:List α):l.eraseIdx (l.length-1)=l.dropLast:=by
 induction l with
 | nil=>rfl
 | cons a r ih =>
  cases r with
  | nil=>rfl
  | cons b r =>
   have e:(a::b::r).length-1=((b::r).length-1)+1:=by
    have h1:(a::b::r).length=r.length+2:=rfl
    have h2:(b::r).length=r.length+1:=rfl
    lia
   rw [e,List.eraseIdx_cons_succ,ih]
   all_goals rfl
theorem zgz_ (its:List Value):∀ (k:Nat) (acc:List Value),
  List.foldl (fun x1 x2=>x1++x2) acc.toArray (List.replicate k its.toArray)=(acc++(List.replicate k its).flatten).toArray
 | 0,acc=>by simp
 | k+1,acc=>by
  have e:acc.toArray++its.toArray=(acc++its).toArray:=by simp
  have e2:(acc++its)++(List.replicate k its).flatten=acc++(List.replicate (k+1) its).flatten:=by
   rw [List.replicate_succ,List.flatten_cons,List.append_assoc]
  rw [← e2,← zgz_ its k (acc++its),← e,List.replicate_succ,List.foldl_cons]
section
variable {X:Cx}{pins:Pnn}{σ:St}{H:Hp}{s:Shared}{l b:Addr}{xs ys zs:List V}
theorem Inv.lset {its its':List Value}{n:Nat}{f:Array Value→Array Value}{t':Nat}(I:Inv X pins σ H s) (hH:H l=some (.lst xs))
  (e:s.heap.get? l=some { cls:=.type "list",data:=.seq its.toArray n }) (hf:f its.toArray=its'.toArray) (hv:Vals ys its') (hz:ys.length≤sizeLine) :
  Inv X pins σ (upd H l (.lst ys)) { s with heap:=s.heap.update l (Obj.mapSeq f),toks:=t' }:=by
 have q:=PySem.IsL.update e f
 rw [hf] at q
 refine I.write (x:=l) (e:=l) (by rw [hH]; exact trivial) (.inl rfl) (fun b' u hb hu=>(Heap.get?_update_other s.heap (Obj.mapSeq f) (Ne.symm hb)).trans hu) ⟨_,q⟩ ?_
 exact ⟨hz,its',_,hv,q⟩
theorem Inv.lnew {its:List Value}{t':Nat}(I:Inv X pins σ H s) (hv:Vals ys its) (hz:ys.length≤sizeLine) :
  Inv X pins σ (upd H s.heap.objs.size (.lst ys)) { s with heap:=s.heap.push { cls:=.type "list",data:=.seq its.toArray },toks:=t' } :=
 I.laid (fun _ _ q=>Heap.get?_push_of_some _ q) (Nat.le_refl _) ⟨hz,its,0,hv,Heap.get?_push_size _ rfl⟩
theorem Inv.fresh (I:Inv X pins σ H s):H s.heap.objs.size=none:=I.hok.fresh (Nat.le_refl _)
theorem Inv.lstM (I:Inv X pins σ H s) (hH:H l=some (.lst xs)):xs.length≤sizeLine∧∃ (its:List Value) (n:Nat),Vals xs its∧xs.length=its.length∧s.heap.get? l=some { cls:=.type "list",data:=.seq its.toArray n }:=by
 obtain ⟨z,its,n,r,e⟩:=I.hok l _ hH
 exact ⟨z,its,n,r,r.length,e⟩
theorem notLongL {n:Nat}(h:n≤sizeLine):Builtin.List.listTooLong n=false:=by
 unfold Builtin.List.listTooLong
 exact decide_eq_false (by lia)
end
section
variable {X:Cx}
noncomputable def rAppend:V→List V→Hp→VK→Prop:=fun x vs H Q=>∃ l xs y,x=.ref l∧vs=[y]∧H l=some (.lst xs)∧xs.length<sizeLine∧Q .non (upd H l (.lst (xs++[y])))
theorem zbj_:MtM X "list.append" rAppend:=by
 intro pins s σ H x vs v us Q I rx rv h
 obtain ⟨l,xs,y,rfl,rfl,hH,hz,q⟩:=h
 cases rx
 obtain ⟨u,rfl,ru⟩:=rv.one
 obtain ⟨z,its,n,r,hl,e⟩:=I.lstM hH
 refine call_meets F.slot_list_append ⟨_,e,rfl⟩ F.entry_list_append (F.args_list_append_2 _ _) (PySem.list_append l its.toArray n u (by rw [List.size_toArray]; lia)) ⟨e,?_⟩
 refine ⟨.non,_,I.lset (its':=its++[u]) hH e (by simp) (r.append (.cons ru .nil)) ?_,rfl,q⟩
 rw [List.length_append,List.length_singleton]
 lia
noncomputable def rExtend:V→List V→Hp→VK→Prop:=fun x vs H Q=>∃ l b xs zs,x=.ref l∧vs=[.ref b]∧H l=some (.lst xs)∧H b=some (.lst zs)∧xs.length+zs.length≤sizeLine∧Q .non (upd H l (.lst (xs++zs)))
theorem zj8_:MtM X "list.extend" rExtend:=by
 intro pins s σ H x vs v us Q I rx rv h
 obtain ⟨l,b,xs,zs,rfl,rfl,hH,hB,hz,q⟩:=h
 cases rx
 obtain ⟨u,rfl,ru⟩:=rv.one
 cases ru
 obtain ⟨z,its,n,r,hl,e⟩:=I.lstM hH
 obtain ⟨z2,its2,n2,r2,hl2,e2⟩:=I.lstM hB
 have hsz:its.toArray.size+its2.toArray.size≤sizeLine:=by rw [List.size_toArray,List.size_toArray]; lia
 have hlong:¬ (!its.toArray.isEmpty && Builtin.List.listTooLong (its.toArray.size+its2.toArray.size))=true:=by
  rw [notLongL hsz,Bool.and_false]
  exact Bool.false_ne_true
 refine call_meets F.slot_list_extend ⟨_,e,rfl⟩ F.entry_list_extend (F.args_list_extend_2 _ _)
  (AutoSeq1.list_extend_list_list_0 l its.toArray n b its2.toArray n2 hlong (by rw [List.size_toArray]; lia) (by lia)) ⟨e,e2,?_⟩
 refine ⟨.non,_,I.lset (its':=its++its2) hH e (by simp) (r.append r2) ?_,rfl,q⟩
 rw [List.length_append]
 lia
noncomputable def rCat:R2:=fun x y H Q=>∃ l b xs zs,x=.ref l∧y=.ref b∧H l=some (.lst xs)∧H b=some (.lst zs)∧xs.length+zs.length≤sizeLine∧∀ p,H p=none→Q (.ref p) (upd H p (.lst (xs++zs)))
theorem znO_:OpR X (binaryOp .Add) rCat:=by
 intro pins s σ H x y v u Q I rx ry h
 obtain ⟨l,b,xs,zs,rfl,rfl,hH,hB,hz,q⟩:=h
 cases rx
 cases ry
 obtain ⟨z,its,n,r,hl,e⟩:=I.lstM hH
 obtain ⟨z2,its2,n2,r2,hl2,e2⟩:=I.lstM hB
 refine PySem.P.add_list e e2 ?_ (by rw [List.size_toArray,List.size_toArray]; lia)
 have ea:its.toArray++its2.toArray=(its++its2).toArray:=by simp
 rw [ea]
 exact ⟨.ref _,_,I.lnew (t':=s.toks) (r.append r2) (by rw [List.length_append]; lia),rfl,q _ I.fresh⟩
noncomputable def rRep:R2:=fun x y H Q=>∃ l k xs,x=.ref l∧y=.int k∧H l=some (.lst xs) ∧ -(2 ^ 63)≤k∧k<2 ^ 63∧xs.length*k.toNat≤sizeLine ∧
 ∀ p,H p=none→Q (.ref p) (upd H p (.lst (List.replicate k.toNat xs).flatten))
theorem zku_ {α:Type}(xs:List α) (k:Nat):(List.replicate k xs).flatten.length=k*xs.length:=by
 induction k with
 | zero=>simp
 | succ k ih=>rw [List.replicate_succ,List.flatten_cons,List.length_append,ih,Nat.succ_mul,Nat.add_comm]
theorem zoJ_:OpR X (binaryOp .Mult) rRep:=by
 intro pins s σ H x y v u Q I rx ry h
 obtain ⟨l,k,xs,rfl,rfl,hH,h1,h2,hz,q⟩:=h
 cases rx
 obtain ⟨t,rfl⟩:=ry
 obtain ⟨z,its,n,r,hl,e⟩:=I.lstM hH
 have hlen:its.toArray.size*k.toNat≤sizeLine:=by rw [List.size_toArray,← hl]; exact hz
 have hcap:¬ its.toArray.size*k.toNat > (2 ^ 63-1) / 8:=by
  have:(sizeLine:Nat)≤(2 ^ 63-1) / 8:=by decide
  lia
 have hfit:¬ (!Builtin.List.listFitsIndex k)=true:=by
  rw [fitsIndex_both h1 h2]
  exact Bool.false_ne_true
 have hlong:¬ Builtin.List.listTooLong (its.toArray.size*k.toNat)=true:=by
  rw [notLongL hlen]
  exact Bool.false_ne_true
 have hnew:List.foldl (fun x1 x2=>x1++x2) #[] (List.replicate (if its.toArray.isEmpty=true then 0 else k.toNat) its.toArray)=(List.replicate k.toNat its).flatten.toArray:=by
  have f0:∀ m:Nat,List.foldl (fun x1 x2=>x1++x2) #[] (List.replicate m its.toArray)=(List.replicate m its).flatten.toArray:=fun m=>by
   have:=zgz_ its m []
   rw [List.nil_append] at this
   exact this
  rw [f0]
  cases its with
  | nil=>simp
  | cons a r'=>rw [if_neg (by simp)]
 refine wpAny_binaryOp_repeat_ref (T := "list") (U := "int") (by decide) ⟨_,e,rfl⟩ (fun s'=>typeIs_int s' k t) noFill_list_mul F.fills_int_mul F.slot_int_rmul repeat_list F.slot_int_index.lookup
  (call_meets F.slot_int_rmul (typeIs_int s k t) F.entry_int_rmul (F.args_int_rmul_2 _ _) (int___rmul___int_list k t l its.toArray n)
   ⟨e,rfl,⟨_,e,rfl⟩,call_meets F.slot_list_mul ⟨_,e,rfl⟩ F.entry_list_mul (F.args_list_mul_2 _ _) (AutoListH.list___mul___list_int_3 l its.toArray n k t hfit hcap hlong) ⟨e,?_⟩⟩)
 rw [hnew]
 exact ⟨.ref _,_,I.lnew (t':=s.toks) (r.rep k.toNat) (by rw [zku_,Nat.mul_comm]; exact hz),rfl,q _ I.fresh⟩
end
section
variable {prog:Program}{w:World}{A:Around}{E:Value→Shared→Prop}{s:Shared}
end
section
variable {X:Cx}
end
end L2
namespace Att
open PySem PySem.W PySem.Calls PyProof.Rows
theorem zeE_ {P:Params}{h:Heap}:∀ (ns:List Int) (vs:List Value),WellAll P h vs (ns.map WData.int)→IntsAre vs ns:=by
 intro ns
 induction ns with
 | nil =>
  intro vs w
  rw [List.map_nil] at w
  cases w
  exact .nil
 | cons n ns ih =>
  intro vs w
  rw [List.map_cons] at w
  cases w with
  | cons a b =>
   cases a
   exact .cons _ _ (ih _ b)
theorem zj2_ {l:OpenLaw}{n:Nat}(hn:l.most=some n) {P:Params}{h:Heap}{args:List WData}{vals:List Value}
  (hpre:l.row.toRowW.claim.pre args=true) (hwl:WellAll P h vals args) :
  ∃ a vs ns,vals=[Value.ref a]∧args=[WData.list (ns.map WData.int)]∧h.get? a=some { cls:=.type "list",data:=.seq vs.toArray }∧IntsAre vs ns∧ns.length≤n:=by
 have hsh:WShape.hasAll [] args [.list .int]=true:=(pre_splitW hpre).1
 have hc:l.pre.holds [] { args:=args }=true:=(pre_splitW hpre).2
 obtain ⟨d,r,rfl,h1,h2⟩:=hasAllW_cons hsh
 obtain rfl:=hasAllW_nil h2
 obtain ⟨xs,rfl,h3⟩:=hasW_list h1
 obtain ⟨ns,rfl⟩:=items_int h3
 have hlen:ns.length≤n:=by
  unfold OpenLaw.pre at hc
  have h4:(WTm.not (.lt (.lit (.int (n:Int))) (.len (.arg 0)))).holds [] { args:=[.list (ns.map .int)] }=true:=by
   have h4:=(holds_andW hc).1
   rw [hn] at h4
   exact h4
  have h5:=condW_of h4 (w_not (w_lt w_lit (w_len_list (w_arg rfl))))
  rw [List.length_map] at h5
  refine Nat.le_of_not_lt fun q=>?_
  have q':(n:Int)<((ns.length:Nat):Int):=by lia
  first
   | (rw [decide_eq_true q'] at h5; exact absurd h5 (by decide))
   | (simp at h5; lia)
 cases hwl with
 | cons w1 w2 =>
  cases w2
  cases w1 with
  | list ho hall=>exact ⟨_,_,ns,rfl,rfl,ho,zeE_ ns _ hall,hlen⟩
theorem zjD_ (l:OpenLaw) (args:List WData):l.row.toRowW.claim.post args (.bool true) args=true :=
 postW_of (r:=l.row.toRowW) (X:=(true == true))
  (show WShape.has [] (.bool true) .bool=true by first | rfl | decide | simp [WShape.has,WShape.arms,WShape.armsAll])
  (show (WTm.eq .res (.lit (.bool true))).value [] { args:=args,res:=some (.bool true),after:=args }=some (.bool (true == true)) from w_eq_bool (w_res rfl) w_lit) rfl
section
variable {prog:Program}{w:World}{A:Around}{E:Value→Shared→Prop}{s:Shared}{K:Frag}
end
end Att
namespace L2
open PySem PySem.Spec PyProof.Rows
theorem zgG_:∀ {vs:List Value}{ns:List Int},IntsAre vs ns→Vals (ns.map V.int) vs
 | _,_,.nil=>.nil
 | _,_,.cons n t h=>.cons ⟨t,rfl⟩ (zgG_ h)
noncomputable def Only (H:Hp):Prop:=∀ b,H b=none∨∃ o xs,H b=some (.frz o (.lst xs))
theorem zli_ {P:Program}{w:World}{K:Fgg}{mg mb:Str→Option Value}{CX:CXT}{k:Nat}{fa a:Addr}{fd:FuncData}{x:Str}{sp:Sp}{s₁:Shared}{vs:List Value}{ns:List Int}
  (KX:K.In s₁.heap) (hns:s₁.heap.Ns mainGlobals mg) (hb:s₁.heap.Ns builtinsNs mb) (hbb:∀ x:Str,x ≠ "__name__" → mb x=bootBuiltins x) (hlim:s₁.heap.NoLimit) (hg:s₁.gens=#[])
  (ha:s₁.heap.get? a=some { cls:=.type "list",data:=.seq vs.toArray }) (hi:IntsAre vs ns) (hl:ns.length≤sizeLine) (hr:Room k callerA)
  (F:∀ base:Heap,K.In base→base.Ns mainGlobals mg→FnOk P w K mg base CX k fa fd [x] sp) (hbind:∀ (s:Shared) (u:Value),BindsTo s fd ⟨[u],[]⟩ [(x,u)])
  (hsp:∀ H:Hp,Only H→SqL K H a (ns.map V.int)→sp [.ref a] H (fun v _=>v=.bl true) fun _ _ _=>False)
  (hCX:∀ H e s',CX [] H s₁ (fun _ _ _=>False) e s'→False) :
  codeAny (model P w) callerA (.call (.ref fa) ⟨[.ref a],[]⟩) (fun r s'=>r=.ok (.ret (.bool true))∧OldK s₁.heap s'.heap∧s'.os=s₁.os∧AllBare s'.gens) s₁:=by
 have rv:=zgG_ hi
 have lenV:=hi.length
 have core:∀ H:Hp,Only H→SqL K H a (ns.map V.int)→HOk P w H s₁.heap→(∀ b,H b≠none→b=a)→(H a≠none→K.lookup a=none) →
   codeAny (model P w) callerA (.call (.ref fa) ⟨[.ref a],[]⟩) (fun r s'=>r=.ok (.ret (.bool true))∧OldK s₁.heap s'.heap∧s'.os=s₁.os∧AllBare s'.gens) s₁:=by
  intro H hO hS hok hA hK
  have base_of:∀ {b:Addr}{o:Obj},s₁.heap.get? b=some o→H b=none→(hidT s₁.heap H).get? b=some o:=fun e n=>zld_ e n
  have noA:∀ {b:Addr}{o:Obj}{es:Array DictEntry}{ep:Nat},s₁.heap.get? b=some o→o.data=.dict es ep→H b=none:=fun {b o es ep} e d=>by
   cases q:H b with
   | none=>rfl
   | some u =>
    have e':b=a:=hA b (by rw [q]; simp)
    subst e'
    rw [ha] at e; cases e
    have d':Data.seq vs.toArray _=Data.dict es ep:=d
    cases d'
  have nsK:∀ {b:Addr}{m:Str→Option Value},s₁.heap.Ns b m→(hidT s₁.heap H).Ns b m:=fun {b m} ⟨o,es,ep,e,d,r⟩=>⟨o,es,ep,base_of e (noA e d),d,r⟩
  have hKb:K.In (hidT s₁.heap H):=fun b o e=>base_of (KX b o e) (by
   cases q:H b with
   | none=>rfl
   | some u =>
    have e':b=a:=hA b (by rw [q]; simp)
    subst e'
    rw [hK (by rw [q]; simp)] at e; cases e)
  have hM:Mod K mg (hidT s₁.heap H):=⟨hKb,nsK hns,⟨mb,nsK hb,hbb⟩,let ⟨mc,h1,h2⟩:=hlim; ⟨mc,nsK h1,h2⟩⟩
  have e0:Env0 P w K mg (hidT s₁.heap H) callerA [] s₁ H:=⟨rfl,hM,fun b o e=>zm8_ e,Nat.le_of_eq (zjO_ _ _),trivial,fun b hb=>absurd (show b∈([]:List Addr) from hb) (by simp),hok,.of_eq hg⟩
  refine codeAny_mono ((F _ hKb (nsK hns)).run callerA [] s₁ H ⟨[.ref a],[]⟩ [.ref a] [.ref a] _ _ hr e0 (hbind s₁ (.ref a)) (.cons rfl .nil) (hsp H hO hS)) fun r s' h=>?_
  cases r with
  | error e=>exact (hCX H e s' h).elim
  | ok fl =>
   cases fl with
   | next=>exact False.elim h
   | brk=>exact False.elim h
   | cont=>exact False.elim h
   | ret u =>
    obtain ⟨v,H',os,bare,un,hok',r',q⟩:=h
    have q':v=.bl true:=q
    subst q'
    obtain rfl:u=Value.bool true:=r'
    refine ⟨rfl,OldK.of_keep fun b o e=>?_,os,bare⟩
    cases q:H b with
    | none=>exact un.keep b o e q (by intro z; exact absurd (show b∈([]:List Addr) from z) (by simp)) (by simp)
    | some u =>
     rcases hO b with z | ⟨ob,xs,z⟩
     ·rw [q] at z; cases z
     ·have z2:=un.frzs b ob _ z
      obtain ⟨e1,_⟩:=hok b _ z
      obtain ⟨e2,_⟩:=hok' b _ z2
      rw [e] at e1; cases e1
      exact e2
 cases hk:K.lookup a with
 | some o =>
  have e:=KX a o hk
  rw [ha] at e
  cases e
  refine core (fun _=>none) (fun _=>.inl rfl) (.inr ⟨_,vs.toArray,_,hk,rfl,rfl,rfl,by rw [List.size_toArray,lenV]; exact hl,by simpa using rv⟩) (fun b u z=>by have z':(none:Option HO)=some u:=z; cases z') (fun b z=>absurd rfl z) fun z=>absurd rfl z
 | none =>
  refine core (fun b=>if b=a then some (.frz { cls:=.type "list",data:=.seq vs.toArray } (.lst (ns.map V.int))) else none) (fun b=>?_) (.inl (.inr ⟨{ cls:=.type "list",data:=.seq vs.toArray },if_pos rfl⟩)) (fun b u z=>?_) (fun b z=>?_) fun _=>hk
  ·by_cases hb:b=a
   ·exact .inr ⟨_,_,if_pos hb⟩
   ·exact .inl (if_neg hb)
  ·by_cases hb:b=a
   ·have z':=(if_pos hb).symm.trans z
    cases z'
    subst hb
    exact ⟨ha,by rw [List.length_map]; exact hl,vs,_,rv,ha⟩
   ·have z':=(if_neg hb).symm.trans z
    cases z'
  ·by_cases hb:b=a
   ·exact hb
   ·exact absurd (if_neg hb) z
end L2
namespace L2
open PySem PySem.Spec PyProof.Rows
end L2
namespace L2
open PySem PySem.Spec PyProof.Rows
noncomputable def defArgs (s:Stmt):Arguments:=match s with
 | .FunctionDef _ a _ _ _ _ _ _ _ _=>a
 | _=>{ posonlyargs:=[],args:=[],vararg:=none,kwonlyargs:=[],kw_defaults:=[],kwarg:=none,defaults:=[] }
noncomputable def defBody (s:Stmt):List Stmt:=match s with
 | .FunctionDef _ _ b _ _ _ _ _ _ _=>b
 | _=>[]
noncomputable def defScope (s:Stmt):Scope:=match s with
 | .FunctionDef _ _ _ _ _ _ sc _ _ _=>sc
 | _=>{ kind:=.function,names:=[],isGenerator:=false,isCoroutine:=false }
noncomputable abbrev CX0:CXT:=fun _ _ _ _ _ _=>False
noncomputable abbrev E0:XK:=fun _ _ _=>False
theorem pass0 {X:Cx}:Passes CX0 X E0:=fun _ _ _ _ _ _ _ h=>h.elim
structure Fun (K:Fgg) (x qual:Str) (st:Stmt) (f:Addr) (fd:FuncData):Prop where
 ex:∃ (oc:Value) (od:Option Addr) (kV doc pm:Value) (an:Option Addr) (cdv ct:Value) (osl:Array (Option Value)),
  fd=PySem.W.fnOf x qual (defArgs st) (defBody st) (defScope st) .none kV doc pm an cdv ct∧K.lookup f=some ⟨oc,od,.func fd,osl⟩∧PySem.W.codeIn K cdv qual=true
 kp:PySem.W.keepIn K (.ref f)=true
section
variable {P:Program}{w:World}{K:Fgg}{mg:Str→Option Value}{base:Heap}
theorem Fun.ok {x qual:Str}{st:Stmt}{f:Addr}{fd:FuncData}{N ps:List Str}{k:Nat}{sp:Sp}(F:Fun K x qual st f fd) (S:FnScope N ps (defScope st)) (len:∀ vs H Q E,sp vs H Q E→vs.length=ps.length)
  (hbody:∀ (cdv:Value) (A:Around) (outer:List Env) (s:Shared) (H:Hp) (vs:List V) (Q:VK) (E:XK),Room k (A.deeper (envOfC qual (defScope st) s.heap.objs.size f cdv))→sp vs H Q E →
   ∃ t,PSs (cxOf CX0 P w K mg base N qual (defScope st) f cdv A outer s H E).nox (defBody st) t∧t { nx:=fun _ H'=>Q .non H',rt:=Q } (start N vs) H):FnOk P w K mg base CX0 (k+1) f fd ps sp:=by
 obtain ⟨oc,od,kV,doc,pm,an,cdv,ct,osl,rfl,lk,hcd⟩:=F.ex
 refine fn_of lk hcd S len fun A outer s H vs Q E hr hsp=>?_
 obtain ⟨t,h,q⟩:=hbody cdv A outer s H vs Q E hr hsp
 exact ⟨t,h.nox,q⟩
theorem Fun.binds {x qual:Str}{st:Stmt}{f:Addr}{fd:FuncData}{ps:List Str}(F:Fun K x qual st f fd)
  (h:∀ (kV doc pm:Value) (an:Option Addr) (cdv ct:Value) (us:List Value),us.length=ps.length→bindArgs (PySem.W.fnOf x qual (defArgs st) (defBody st) (defScope st) .none kV doc pm an cdv ct) ⟨us,[]⟩=pure (ps.zip us)):Binds K fd ps []:=by
 obtain ⟨oc,od,kV,doc,pm,an,cdv,ct,osl,rfl,lk,hcd⟩:=F.ex
 exact .all (h kV doc pm an cdv ct)
theorem za2_ {x qual:Str}{st:Stmt}{f:Addr}{oc:Value}{od an:Option Addr}{osl:Array (Option Value)}{kV doc pm cdv ct:Value}(l:K.lookup f=some ⟨oc,od,.func (PySem.W.fnOf x qual (defArgs st) (defBody st) (defScope st) .none kV doc pm an cdv ct),osl⟩)
  (c:PySem.W.codeIn K cdv qual=true) (k:PySem.W.keepIn K (.ref f)=true):Fun K x qual st f (PySem.W.fnOf x qual (defArgs st) (defBody st) (defScope st) .none kV doc pm an cdv ct):=⟨⟨oc,od,kV,doc,pm,an,cdv,ct,osl,rfl,l,c⟩,k⟩
end
section
variable {X:Cx}
end
noncomputable def Same (H H':Hp):Prop:=∀ b o,H b=some o→H' b=some o
theorem Same.refl (H:Hp):Same H H:=fun _ _ h=>h
theorem Same.trans {H H1 H2:Hp}(a:Same H H1) (b:Same H1 H2):Same H H2:=fun c o h=>b c o (a c o h)
theorem Same.free {H H':Hp}(e:Same H H') {l:Addr}(h:H' l=Option.none):H l=Option.none:=by
 cases q:H l with
 | none=>rfl
 | some o =>
  rw [e l o q] at h
  cases h
theorem Same.seq {K:Fgg}{H H':Hp}{a:Addr}{xs:List V}(e:Same H H') (h:SqL K H a xs):SqL K H' a xs:=by
 rcases h with (h | ⟨o,h⟩) | h
 ·exact .inl (.inl (e _ _ h))
 ·exact .inl (.inr ⟨o,e _ _ h⟩)
 ·exact .inr h
end L2
namespace L2
open PySem PySem.Spec PyProof.Rows
noncomputable def Itp (n:Nat) (f:Nat→V):It:=⟨fun i _=>i<n,fun i H x H'=>H'=H∧x=f i,fun i _=>n≤i⟩
noncomputable def ownTups:List String:=["enumerate", "zip", "dict_itemiterator", "dict_reverseitemiterator", "odict_iterator", "itertools.zip_longest", "itertools.pairwise"]
theorem zjr_ {P:Program}{w:World}{K:Fgg}{tg:Expr}{it:Addr}{n:Nat}{f:Nat→V}{Pw:Nat→Value→Prop}{St:Nat→Heap→Prop}
  (W:∀ A:Around,A.handled=none→Walks P w A it [it] [it] n Pw St) (hv:∀ i v,i<n→Pw i v→RelV (f i) v)
  (ho:∀ i h,St i h→∃ o nm vs,h.get? it=some o∧o.cls=.type nm∧o.data=.fields vs∧ownTups.contains nm=false)
  (hself:∀ (A:Around) (i:Nat) (s:Shared) (Q:Value→Shared→Prop) (E:Value→Shared→Prop),St i s.heap→Q (.ref it) s→wpAny (model P w) A (pyIter (.ref it)) Q E s)
  (hkeep:∀ i h h',St i h→(∀ b∈[it],∀ o,h.get? b=some o→h'.get? b=some o)→St i h') :
  Turn P w K tg (Itp n f) [it] it (fun i h=>i≤n∧St i h) where
 mem:=by simp
 obj:=fun i h st b hb=>by
  have e:b=it:=by simpa using hb
  subst e
  obtain ⟨o,nm,vs,e,c,d,_⟩:=ho i h st.2
  exact ⟨o,e,fun v z=>by rw [d] at z; cases z⟩
 keep:=fun i h h' st k=>⟨st.1,hkeep i h h' st.2 k⟩
 item:=by
  intro X hP hw hK hc i pins s σ H E I hf st hg
  subst hP hw hK
  obtain ⟨f0,f1,f2,f3,f4,f5⟩:=hf it (by simp)
  have hi:i<n:=hg
  refine (W X.A (I.ok.hd hc)).item i s _ _ hi st.2 fun v h' tk hv' st' kk=>?_
  have I1:Inv X pins σ H { s with heap:=h',toks:=tk }:=I.turned (fun b o hb e=>kk b o (by simpa using hb) e) f0 f1 f3 f4 f5
  obtain ⟨o,nm,vs,e,c,d,hn⟩:=ho _ _ st'
  exact ⟨_,rfl,zmI_ (s:={ s with heap:=h',toks:=tk }) (n:=nm) e c d hn ⟨f i,H,I1,hv i v hi hv',⟨rfl,rfl⟩,⟨hi,st'⟩,fun b hb=>(hf b hb).1⟩⟩
 done:=by
  intro X hP hw hK hc i pins s σ H E I hf st hg
  subst hP hw hK
  obtain ⟨f0,f1,f2,f3,f4,f5⟩:=hf it (by simp)
  have hi:n≤i:=hg
  have e:i=n:=Nat.le_antisymm st.1 hi
  subst e
  exact (W X.A (I.ok.hd hc)).done s _ _ st.2 fun h' tk kk=>⟨rfl,I.turned (fun b o hb e=>kk b o (by simpa using hb) e) f0 f1 f3 f4 f5⟩
 self:=fun A i s Q E st h=>hself A i s Q E st.2 h
noncomputable def sgn (x:Str) (i:Nat):V:=.str ⟨#[x.cps.getD i 0]⟩
theorem zjV_ {P:Program}{w:World}{it:Addr}{x:Str}{t:Tok}(A:Around) (hA:A.handled=none):Walks P w A it [it] [it] x.cps.size (SignAt x) (fun i h=>h.IsStrIter it (strIterType x) x t i):=by
 cases ha:x.cps.all (·<128)
 ·have e:strIterType x = "str_iterator" := by simp [strIterType,ha]
  rw [e]; exact Walks.strWide hA it x t
 ·have e:strIterType x = "str_ascii_iterator" := by simp [strIterType,ha]
  rw [e]; exact Walks.strAscii hA it x t
theorem zh4_ {x:Str}{i:Nat}{v:Value}(h:SignAt x i v):RelV (sgn x i) v:=by
 obtain ⟨c,u,e,rfl⟩:=h
 refine ⟨u,?_⟩
 have:x.cps.getD i 0=c:=by simp [Array.getD_eq_getD_getElem?,e]
 rw [this]
theorem zeT_ (x:Str):ownTups.contains (strIterType x)=false:=by
 unfold strIterType; split<;>decide
theorem zlu_ {P:Program}{w:World}{K:Fgg}{tg:Expr}(it:Addr) (x:Str) (t:Tok):Turn P w K tg (Itp x.cps.size (sgn x)) [it] it (fun i h=>i≤x.cps.size∧h.IsStrIter it (strIterType x) x t i):=by
 refine zjr_ (Pw:=SignAt x) (fun A hA=>zjV_ A hA) (fun i v _ h=>zh4_ h) (fun i h st=>?_) (fun A i s Q E st h=>?_) (fun i h h' st k=>?_)
 ·obtain ⟨o,e,c,d⟩:=st
  exact ⟨o,_,_,e,c,d,zeT_ x⟩
 ·cases ha:x.cps.all (·<128)
  ·have e:strIterType x = "str_iterator" := by simp [strIterType,ha]
   rw [e] at st; exact wpAny_pyIter_striter_wide st h
  ·have e:strIterType x = "str_ascii_iterator" := by simp [strIterType,ha]
   rw [e] at st; exact wpAny_pyIter_striter_ascii st h
 ·obtain ⟨o,e,r⟩:=st
  exact ⟨o,k it (by simp) o e,r⟩
section
variable {X:Cx}{tg:Expr}
end
end L2
namespace L2
open PySem PySem.Spec PyProof.Rows
section
variable {X:Cx}{elts:List Expr}{kk:Nat}{tpos:Pos}
end
end L2
namespace L2
open PySem PySem.Spec PyProof.Rows
section
variable {prog:Program}{w:World}{A:Around}{R:Result→Shared→Prop}{s:Shared}
theorem zhE_ {elt target iter:Expr}{ifs:List Expr}{scope:Scope}{pos:Pos}{it acc:Value}{env:Env}(I:Nat→Shared→Prop)
  (turn:∀ n s,I n s→wpAny (model prog w) A (pyNext it) (fun r s₁=>match r with
   | none=>R (.ok .next) s₁
   | some v=>wpAny (model prog w) A (letOwnedTupleGo target it v) (fun _ s₂=>wpAny (model prog w) A (assign target env v) (fun _ s₃ =>
     wpAny (model prog w) A (forIn ifs true fun c r=>if r=true then do let ok ← isTrue c env (eval c env); pure (ForInStep.yield ok) else pure (ForInStep.yield r)) (fun ok s₄ =>
      if ok=true then wpAny (model prog w) A (eval elt env) (fun x s₅ =>
       wpAny (model prog w) A (call (.builtin "list.append") [acc,x]) (fun _ s₆=>∃ m,m<n∧I m s₆) (fun _ _=>False) s₅) (fun _ _=>False) s₄
      else ∃ m,m<n∧I m s₄) (fun _ _=>False) s₃) (fun _ _=>False) s₂) (fun _ _=>False) s₁) (fun _ _=>False) s)
  (n:Nat) (h:I n s) :
  codeAny (model prog w) A (.compLoop (.ListComp elt [⟨target,iter,ifs,0⟩] scope pos) 0 it acc env) R s:=by
 refine codeAny_loop rfl I (fun n s hI=>?_) n h
 show wpAny _ A ((compTurn (.ListComp elt [⟨target,iter,ifs,0⟩] scope pos) 0 it acc env).onRaise (fun x=>do noteFrame x env; theTreesLotGoes x)) _ _ s
 refine wpAny_noted ?_
 rw [compTurn_list]
 refine wpAny_bind (wpAny_standAt (wpAny_bind (wpAny_mono (turn n s hI) (fun r s₁ h₁=>?_) fun _ _ h'=>h'.elim)))
 cases r with
 | none=>exact wpAny_pure h₁
 | some v =>
  refine wpAny_bind (wpAny_mono h₁ (fun _ s₂ h₂=>?_) fun _ _ h'=>h'.elim)
  refine wpAny_bind (wpAny_mono h₂ (fun _ s₃ h₃=>wpAny_bind (wpAny_mono h₃ (fun ok s₄ h₄=>?_) fun _ _ h'=>h'.elim)) fun _ _ h'=>h'.elim)
  cases ok with
  | false=>exact wpAny_pure ⟨rfl,h₄⟩
  | true =>
   exact wpAny_bind (wpAny_bind (wpAny_mono h₄ (fun x s₅ h₅=>wpAny_bind (wpAny_mono h₅ (fun _ s₆ h₆=>wpAny_pure (wpAny_pure ⟨rfl,h₆⟩)) fun _ _ h'=>h'.elim)) fun _ _ h'=>h'.elim))
end
noncomputable def closeL (cells:List (Str×Addr)):List (Str×NameKind)→List (Str×Addr)→Option (List (Str×Addr))
 | [],acc=>some acc
 | (n,k)::r,acc=>if (k == .free)=true then (match cells.lookup n with | some c=>closeL cells r ((n,c)::acc) | none=>none) else closeL cells r acc
theorem zd3_ {env:Env}{f:Str×NameKind→List (Str×Addr)→Sem (ForInStep (List (Str×Addr)))}
  (hf:∀ n k cs,f (n,k) cs=if (k == NameKind.free)=true then (do let c ← cellOf env n; pure (ForInStep.yield ((n,c)::cs))) else pure (ForInStep.yield cs)) :
  ∀ (names:List (Str×NameKind)) (acc cl:List (Str×Addr)),closeL env.cells names acc=some cl→(forIn names acc f:Sem (List (Str×Addr)))=pure cl
 | [],acc,cl,h=>by cases h; rfl
 | (n,k)::r,acc,cl,h=>by
  rw [List.forIn_cons,hf]
  unfold closeL at h
  by_cases hk:(k == NameKind.free)=true
  ·rw [if_pos hk] at h
   rw [if_pos hk]
   cases hc:env.cells.lookup n with
   | none=>rw [hc] at h; cases h
   | some c =>
    rw [hc] at h
    have e:cellOf env n=pure c:=by unfold cellOf; rw [hc]
    rw [e]
    simp only [pure_bind]
    exact zd3_ hf r _ cl h
  ·rw [if_neg hk] at h
   rw [if_neg hk]
   simp only [pure_bind]
   exact zd3_ hf r _ cl h
theorem zgx_ {env:Env}{scope:Scope}{cl:List (Str×Addr)}(h:closeL env.cells scope.names []=some cl):closureFor scope env=pure cl:=by
 unfold closureFor
 dsimp only
 rw [zd3_ (env:=env) (fun n k cs=>rfl) scope.names [] cl h]
 rfl
theorem zcU_ {cells:List (Str×Addr)}:∀ (names:List (Str×NameKind)) (acc cl:List (Str×Addr)),closeL cells names acc=some cl→(∀ x c,acc.lookup x=some c→cells.lookup x=some c) →
  (∀ x c,cl.lookup x=some c→cells.lookup x=some c)
 | [],acc,cl,h,ha=>by cases h; exact ha
 | (n,k)::r,acc,cl,h,ha=>by
  unfold closeL at h
  by_cases hk:(k == NameKind.free)=true
  ·rw [if_pos hk] at h
   cases hc:cells.lookup n with
   | none=>rw [hc] at h; cases h
   | some c =>
    rw [hc] at h
    refine zcU_ r _ cl h fun x c' e=>?_
    rw [List.lookup_cons] at e
    cases hx:x == n with
    | true=>rw [hx] at e; cases e; rw [eq_of_beq hx]; exact hc
    | false=>rw [hx] at e; exact ha x c' e
  ·rw [if_neg hk] at h
   exact zcU_ r _ cl h ha
theorem zd5_ {cells:List (Str×Addr)}:∀ (names:List (Str×NameKind)) (acc cl:List (Str×Addr)),closeL cells names acc=some cl→∀ x,((x,NameKind.free)∈names∨∃ c,acc.lookup x=some c)→∃ c,cl.lookup x=some c
 | [],acc,cl,h,x,hx=>by
  cases h
  rcases hx with hx | hx
  ·cases hx
  ·exact hx
 | (n,k)::r,acc,cl,h,x,hx=>by
  unfold closeL at h
  by_cases hk:(k == NameKind.free)=true
  ·rw [if_pos hk] at h
   cases hc:cells.lookup n with
   | none=>rw [hc] at h; cases h
   | some c =>
    rw [hc] at h
    refine zd5_ r _ cl h x ?_
    rcases hx with hx | ⟨c',e⟩
    ·rcases List.mem_cons.mp hx with e | hx
     ·cases e; exact .inr ⟨c,by rw [List.lookup_cons,beq_self_eq_true]⟩
     ·exact .inl hx
    ·refine .inr ?_
     rw [List.lookup_cons]
     cases hxn:x == n with
     | true=>exact ⟨c,rfl⟩
     | false=>exact ⟨c',e⟩
  ·rw [if_neg hk] at h
   refine zd5_ r _ cl h x ?_
   rcases hx with hx | hx
   ·rcases List.mem_cons.mp hx with e | hx
    ·cases e; exact absurd rfl hk
    ·exact .inl hx
   ·exact .inr hx
theorem zeJ_ {scope:Scope}{env:Env}{x:Str}{k:NameKind}(h:(relabel scope env).names.lookup x=some k) (hk:k=.cell∨k=.free) (hcell:∀ y∈scope.names,y.2≠.cell):(x,NameKind.free)∈scope.names:=by
 have m:=PySem.mem_of_lookup h
 obtain ⟨⟨n,k0⟩,hm,e⟩:=List.mem_map.mp m
 dsimp only at e
 split at e
 ·rename_i hc
  cases e
  have:k0=.free:=by
   simp only [Bool.and_eq_true,beq_iff_eq] at hc
   exact hc.1.1
  subst this; exact hm
 ·cases e
  rcases hk with rfl | rfl
  ·exact absurd rfl (hcell _ hm)
  ·exact hm
noncomputable def cxComp (X:Cx) (scope:Scope) (cl:List (Str×Addr)) (C:Addr) (N:List Str) (fp:List Addr) (s2:Shared) (H2:Hp):Cx where
 prog:=X.prog
 w:=X.w
 K:=X.K
 mg:=X.mg
 base:=X.base
 A:=X.A
 N:=N
 s₀:=s2
 H₀:=H2
 env:=compEnvC scope cl C X.env
 outer:=X.stack
 stack:=X.stack
 ex:=fp
 fn:=fun _=>false
 calm:=X.calm
 pn:=[]
 xe:=fun _ _=>False
structure CScope (X:Cx) (scope:Scope) (cl:List (Str×Addr)) (lv:List Str) (fr:List (Str×Nat)):Prop where
 clos:closeL X.env.cells scope.names []=some cl
 cell:∀ y∈scope.names,y.2≠.cell
 kind:scope.kind=.function
 names:∀ z∈scope.names,z.2=.local→scope.names.lookup z.1=some .local
 fr:∀ q∈fr,X.N[q.2]?=some q.1∧(q.1,NameKind.free)∈scope.names∧(X.env.kindOf q.1=some .cell∨X.env.kindOf q.1=some .free) ∧
  ((relabel scope X.env).names.lookup q.1=some .cell∨(relabel scope X.env).names.lookup q.1=some .free)
noncomputable def cN (lv:List Str) (fr:List (Str×Nat)):List Str:=lv++fr.map (·.1)
noncomputable def cS (lv:List Str) (fr:List (Str×Nat)) (σ:St):St:=lv.map (fun _=>none)++fr.map fun q=>(σ[q.2]?).join
theorem zl2_ {X:Cx}{pins:Pnn}{σ:St}{H2:Hp}{s2:Shared}{scope:Scope}{cl:List (Str×Addr)}{lv:List Str}{fr:List (Str×Nat)}{fp:List Addr}{h4:Heap}{tk:Nat}{m:Str→Option Value}{n:Nat}
  (I:Inv X pins σ H2 s2) (S:CScope X scope cl lv fr) (hf:∀ b∈fp,FpOk X pins H2 b) (hlt:∀ b∈fp,b<s2.heap.objs.size) (hC:h4.Ns (s2.heap.objs.size+1) m) (hD:h4.get? s2.heap.objs.size=some { cls:=.type "list",data:=.seq #[] n })
  (hk:∀ b o,s2.heap.get? b=some o→h4.get? b=some o) :
  Inv (cxComp X scope cl (s2.heap.objs.size+1) (cN lv fr) fp s2 H2) [] (cS lv fr σ) (upd H2 s2.heap.objs.size (.lst [])) { s2 with heap:=h4,toks:=tk }:=by
 have hcl:=zcU_ scope.names [] cl S.clos (fun x c e=>by cases e)
 have hhas:=zd5_ scope.names [] cl S.clos
 have hDn:H2 s2.heap.objs.size=none:=I.hok.fresh (Nat.le_refl _)
 have hCn:H2 (s2.heap.objs.size+1)=none:=I.hok.fresh (Nat.le_succ _)
 have hCD:s2.heap.objs.size+1≠s2.heap.objs.size:=Nat.ne_of_gt (Nat.lt_succ_self _)
 have fpC:∀ b∈fp,(b∈X.ex∨X.s₀.heap.objs.size≤b):=fun b hb=>(hf b hb).2.2.2.1
 have cellLt:∀ x c,cl.lookup x=some c→c<s2.heap.objs.size:=fun x c e=>by
  obtain ⟨v,o,ho,_⟩:=I.cell x c (hcl x c e)
  exact Heap.lt_size ho
 refine ⟨⟨I.ok.mod,S.kind,I.ok.glob,I.ok.blt,Nat.le_succ _,fun x y c h1 h2=>I.ok.inj x y c (hcl x c h1) (hcl y c h2),fun x hx=>?_,fun x c hfn=>(by cases hfn),I.ok.hd,I.ok.frames,.inl rfl,fun b hb=>?_,I.bs,Nat.le_trans I.ok.bsz I.sz,fun b o e hb=>?_,fun b hb z=>?_,I.stack,I.stkFree⟩,
  rfl,I.bare,?_,⟨m,hC,fun i x v h1 h2 h3=>?_⟩,fun x c e=>?_,?_,fun x c e=>?_,fun p hp=>absurd (show p∈([]:Pnn) from hp) (by simp),?_,?_⟩
 ·-- has
  have hx':(relabel scope X.env).names.lookup x=some .cell∨(relabel scope X.env).names.lookup x=some .free:=hx
  have hm:(x,NameKind.free)∈scope.names:=hx'.elim (fun z=>zeJ_ z (.inl rfl) S.cell) fun z=>zeJ_ z (.inr rfl) S.cell
  exact hhas x (.inl hm)
 ·-- exf
  obtain ⟨f0,f1,f2,f3,f4,f5⟩:=hf b hb
  refine ⟨fun z=>?_,fun x c e=>f4 x c (hcl x c e)⟩
  have z':b=s2.heap.objs.size+1:=z
  have:=hlt b hb
  rw [z'] at this
  exact absurd this (Nat.not_lt.mpr (Nat.le_succ _))
 ·rcases fpC b hb with z | z
  ·exact I.ok.noex b o e z
  ·exact absurd (Nat.lt_of_lt_of_le (Nat.lt_of_lt_of_le (Heap.lt_size e) I.ok.bsz) z) (Nat.lt_irrefl _)
 ·obtain ⟨f0,f1,f2,_⟩:=hf b hb
  rcases List.mem_cons.mp (I.stkSub b z) with q | q
  ·exact f1 q
  ·exact f2 q
 ·exact Un.laid hk (Nat.le_refl _) hDn
 ·-- loc
  have h1':(lv++fr.map (·.1))[i]?=some x:=h1
  have h2':(lv.map (fun _=>none)++fr.map fun q=>(σ[q.2]?).join:St)[i]?=some (some v):=h2
  by_cases hi:i<lv.length
  ·rw [List.getElem?_append_left (by simpa using hi),List.getElem?_map] at h2'
   cases hq:lv[i]? with
   | none=>rw [hq] at h2'; cases h2'
   | some z=>rw [hq] at h2'; cases h2'
  ·rw [List.getElem?_append_right (by simpa using hi),List.getElem?_map] at h2'
   rw [List.getElem?_append_right (by lia),List.getElem?_map] at h1'
   simp only [List.length_map] at h2'
   cases hq:fr[i-lv.length]? with
   | none=>rw [hq] at h1'; cases h1'
   | some q =>
    rw [hq] at h1' h2'
    have e1:q.1=x:=Option.some.inj h1'
    have e2:(σ[q.2]?).join=some v:=Option.some.inj h2'
    have e3:σ[q.2]?=some (some v):=by
     cases hz:σ[q.2]? with
     | none=>rw [hz] at e2; cases e2
     | some z=>rw [hz] at e2; exact congrArg some e2
    obtain ⟨g1,g2,g3,g4⟩:=S.fr q (List.mem_of_getElem? hq)
    obtain ⟨m0,hn0,hl0⟩:=I.loc
    have vis:Vis X.env.scope q.1:=by
     rcases g3 with g3 | g3
     ·exact .inr (.inl g3)
     ·exact .inr (.inr g3)
    obtain ⟨u,r,l⟩:=hl0 q.2 q.1 v g1 e3 vis
    refine ⟨u,r,.inr ⟨?_,?_⟩⟩
    ·rw [← e1]; exact g4
    ·rcases l with ⟨lk,_⟩ | ⟨_,c,ec,ic⟩
     ·rcases g3 with g3 | g3<;>(rw [lk] at g3; cases g3)
     ·obtain ⟨c',ec'⟩:=hhas q.1 (.inl g2)
      have:c'=c:=by
       have:=hcl q.1 c' ec'
       rw [ec] at this; exact (Option.some.inj this).symm
      subst this
      obtain ⟨o,ho,hd⟩:=ic
      exact ⟨c',by rw [← e1]; exact ec',o,hk _ _ ho,hd⟩
 ·obtain ⟨v,o,ho,hd⟩:=I.cell x c (hcl x c e)
  exact ⟨v,o,hk _ _ ho,hd⟩
 ·show upd H2 _ _ (s2.heap.objs.size+1)=none
  rw [zbW_ hCD]; exact hCn
 ·have:=cellLt x c e
  rw [zbW_ (Nat.ne_of_lt this)]
  exact I.freeC x c (hcl x c e)
 ·exact I.hok.laid hk (Nat.le_refl _) ⟨Nat.zero_le _,[],n,.nil,hD⟩
 ·show (cS lv fr σ).length=(cN lv fr).length
  simp [cS,cN]
end L2
namespace L2
open PySem PySem.Spec PyProof.Rows
noncomputable def PIf (X:Cx) (ifs:List Expr) (t:TT):Prop :=
 ∀ (pins:Pnn) (s:Shared) (σ:St) (H:Hp) (Q:Bool→Hp→Prop),Inv X pins σ H s→t σ H Q →
  wpAny (model X.prog X.w) X.A (forIn ifs true fun c r=>if r=true then do let ok ← isTrue c X.env (eval c X.env); pure (ForInStep.yield ok) else pure (ForInStep.yield r)) (TP X pins σ Q) X.xe s
noncomputable def tTrue:TT:=fun _ H Q=>Q true H
theorem zk4_ {X:Cx}:PIf X [] tTrue:=fun pins s σ H Q I h=>wpAny_tests_nil ⟨H,I,h⟩
theorem zkw_ {X:Cx}{c:Expr}{t:TT}(h:PT X c t):PIf X [c] t:=fun pins s σ H Q I hw=>wpAny_tests_one (h pins s σ H Q I hw)
noncomputable def tCompR (J:It) (g:TG) (tt:TT) (te:TE) (σ0:St) (H1:Hp) (Q:VK):Prop :=
 ∀ D,H1 D=none→∃ W:Nat→Nat→List V→St→Hp→Prop,(∃ m,W 0 m [] σ0 (upd H1 D (.lst [])))∧∀ i m ys σ H,W i m ys σ H →
  (J.stop i H∧Q (.ref D) H)∨(J.go i H∧∃ N:List V→St→Hp→Prop,(∀ ys' σ' H',N ys' σ' H'→∃ m',m'<m∧W (i+1) m' ys' σ' H') ∧
   ∀ x H',J.yld i H x H'→g x σ H' fun σ2 H2=>tt σ2 H2 fun b H3=>if b=true then te σ2 H3 fun v H4=>H4 D=some (.lst ys)∧ys.length<sizeLine∧N (ys++[v]) σ2 (upd H4 D (.lst (ys++[v]))) else N ys σ2 H3)
section
variable {X:Cx}{scope:Scope}{cl:List (Str×Addr)}{lv:List Str}{fr:List (Str×Nat)}{elt tg iter:Expr}{ifs:List Expr}{pos:Pos}{g:TG}{tt:TT}{te:TE}
theorem zfr_ {pins:Pnn}{σ:St}{H2:Hp}{s2:Shared}{it:Addr}{fp:List Addr}{tn:Nat→Heap→Prop}{J:It}{Q:VK}{E:Value→Shared→Prop}{use:Option (Value→Sem Unit)}{Q':Value→Shared→Prop}
  (I:Inv X pins σ H2 s2) (S:CScope X scope cl lv fr) (T:Turn X.prog X.w X.K tg J fp it tn) (st:tn 0 s2.heap) (hf:∀ b∈fp,FpOk X pins H2 b) (hc:X.calm=true)
  (hg:∀ C fp s2 H2,PG (cxComp X scope cl C (cN lv fr) fp s2 H2) tg g) (ht:∀ C fp s2 H2,PIf (cxComp X scope cl C (cN lv fr) fp s2 H2) ifs tt) (he:∀ C fp s2 H2,PE (cxComp X scope cl C (cN lv fr) fp s2 H2) elt te)
  (hq:tCompR J g tt te (cS lv fr σ) H2 Q)
  (fin:∀ D C oC H' s',Inv X (pins++[(C,oC)]) σ H' s'→(∀ h:Heap,h.get? C=some oC→∃ m,h.Ns C m)→FpOk X pins H' C→Q (.ref D) H'→compPost (model X.prog X.w) X.A E use Q' (.ref D) C (.ok .next) s') :
  wpAny (model X.prog X.w) X.A (newList []) (fun acc s₃=>wpAny (model X.prog X.w) X.A (newFunctionEnv scope X.env.globals cl [] X.env.qual none .none (some X.env)) (fun cenv s₄ =>
   codeAny (model X.prog X.w) X.A (.compStart (.ListComp elt [⟨tg,iter,ifs,0⟩] scope pos) 0 (.ref it) acc { cenv with scope:=relabel scope X.env }) (compPost (model X.prog X.w) X.A E use Q' acc cenv.locals) s₄) E s₃) E s2:=by
 have hlt:∀ b∈fp,b<s2.heap.objs.size:=fun b hb=>by
  obtain ⟨o,ho,_⟩:=T.obj 0 _ st b hb
  exact Heap.lt_size ho
 refine wpAny_newList (wpAny_newFunctionEnv S.cell (by intro y hy; simp at hy) (fun h₁ hns₁ hsb₁=>?_) S.kind)
 dsimp only at hns₁ hsb₁ ⊢
 have hsz:(s2.heap.push { cls:=.type "list",data:=.seq ([]:List Value).toArray }).objs.size=s2.heap.objs.size+1:=Heap.size_push ..
 rw [hsz] at hns₁ hsb₁ ⊢
 have old:∀ b o,s2.heap.get? b=some o→h₁.get? b=some o:=fun b o e=>hsb₁.extBut b o (Nat.ne_of_lt (Nat.lt_succ_of_lt (Heap.lt_size e))) (Heap.get?_push_of_some _ (Heap.get?_push_of_some _ e))
 have hacc:h₁.get? s2.heap.objs.size=some { cls:=.type "list",data:=.seq #[] }:=hsb₁.extBut _ _ (Nat.ne_of_lt (Nat.lt_succ_self _)) (Heap.get?_push_of_some _ (Heap.get?_push_size _ rfl))
 have I4:Inv (cxComp X scope cl (s2.heap.objs.size+1) (cN lv fr) fp s2 H2) [] (cS lv fr σ) (upd H2 s2.heap.objs.size (.lst [])) { s2 with heap:=h₁,toks:=s2.toks+([]:List (Str×Value)).length } :=
  zl2_ I S hf hlt hns₁ hacc old
 generalize hX':cxComp X scope cl (s2.heap.objs.size+1) (cN lv fr) fp s2 H2=X' at I4
 have eP:X'.prog=X.prog:=by rw [← hX']; rfl
 have ew:X'.w=X.w:=by rw [← hX']; rfl
 have eK:X'.K=X.K:=by rw [← hX']; rfl
 have eA:X'.A=X.A:=by rw [← hX']; rfl
 have ec:X'.calm=true:=by rw [← hX']; exact hc
 have ex:X'.xe=fun _ _=>False:=by rw [← hX']; rfl
 have een:X'.env=compEnvC scope cl (s2.heap.objs.size+1) X.env:=by rw [← hX']; rfl
 have hg':PG X' tg g:=hX' ▸ hg _ _ _ _
 have ht':PIf X' ifs tt:=hX' ▸ ht _ _ _ _
 have he':PE X' elt te:=hX' ▸ he _ _ _ _
 obtain ⟨W,⟨m0,w0⟩,turn⟩:=hq s2.heap.objs.size (I.hok.fresh (Nat.le_refl _))
 have st1:tn 0 h₁:=T.keep _ _ _ st fun b _ o e=>old b o e
 have f4:∀ b∈fp,FpOk X' [] (upd H2 s2.heap.objs.size (.lst [])) b:=fun b hb=>by
  obtain ⟨f0,f1,f2,f3,f4,f5⟩:=hf b hb
  have:=hlt b hb
  refine ⟨?_,?_,?_,.inl ?_,?_,?_⟩
  ·rw [zbW_ (Nat.ne_of_lt this)]; exact f0
  ·rw [een]; exact Nat.ne_of_lt (Nat.lt_succ_of_lt this)
  ·intro z
   have z':b∈frs X.stack:=by rw [← hX'] at z; exact z
   rcases List.mem_cons.mp (I.stkSub b z') with q | q
   ·exact f1 q
   ·exact f2 q
  ·rw [← hX']; exact hb
  ·intro x c e
   rw [een] at e
   exact f4 x c (zcU_ scope.names [] cl S.clos (fun x c e=>by cases e) x c e)
  ·intro p hp
   rw [← hX'] at hp
   exact absurd (show p∈([]:Pnn) from hp) (by simp)
 have stat:∀ {H':Hp},(∀ b∈fp,H' b=none)→∀ b∈fp,FpOk X' [] H' b:=fun hn b hb=>⟨hn b hb,(f4 b hb).2⟩
 have loop:∀ s₃:Shared,s₃={ s2 with heap:=h₁,toks:=s2.toks+([]:List (Str×Value)).length } →
   codeAny (model X.prog X.w) X.A (.compLoop (.ListComp elt [⟨tg,iter,ifs,0⟩] scope pos) 0 (.ref it) (.ref s2.heap.objs.size) (compEnvC scope cl (s2.heap.objs.size+1) X.env))
    (compPost (model X.prog X.w) X.A E use Q' (.ref s2.heap.objs.size) (s2.heap.objs.size+1)) s₃:=by
  rintro s₃ rfl
  refine zhE_ (fun n s'=>∃ i ys σ' H',Inv X' [] σ' H' s'∧tn i s'.heap∧(∀ b∈fp,H' b=none)∧W i n ys σ' H') ?_ m0 ⟨0,[],_,_,I4,st1,fun b hb=>(f4 b hb).1,w0⟩
  rintro n s3 ⟨i,ys,σ3,H3,I3,st3,fr3,w3⟩
  rcases turn i n ys σ3 H3 w3 with ⟨stop,qn⟩ | ⟨go,N,hN,step⟩
  ·have a0:=T.done X' eP ew eK ec i [] s3 σ3 H3 (fun _ _=>False) I3 (stat fr3) st3 stop
   rw [eA] at a0
   refine thn a0 fun r s4 ⟨hr,I4'⟩=>?_
   subst hr
   have un:Un (frs X.stack) fp H2 H3 s2.heap s4.heap:=by
    have:=I4'.base
    rw [← hX'] at this
    exact this
   have os:s4.os=s2.os:=by
    have:=I4'.os
    rw [← hX'] at this
    exact this
   have hok:HOk X.prog X.w H3 s4.heap:=by
    have:=I4'.hok
    rw [← hX'] at this
    exact this
   have J1:Inv X pins σ H3 s4:=I.call' os un hok I4'.bare fun b hb=>by
    obtain ⟨f0,f1,f2,f3,f4,f5⟩:=hf b hb
    exact ⟨f3,f1,f4,f5⟩
   obtain ⟨m,hn,_⟩:=I4'.loc
   have hn':s4.heap.Ns (s2.heap.objs.size+1) m:=by rw [een] at hn; exact hn
   have hCn:H3 (s2.heap.objs.size+1)=none:=by
    have:=I4'.free
    rw [een] at this; exact this
   have fC:FpOk X pins H3 (s2.heap.objs.size+1):=I.fpOk (Nat.le_succ _) hCn
   obtain ⟨oC,es,ep,hoC,hdC,rC⟩:=id hn'
   have J2:Inv X (pins++[(s2.heap.objs.size+1,oC)]) σ H3 s4:=J1.pins_of fun p hp=>by
    rcases List.mem_append.mp hp with hp | hp
    ·exact J1.pin p (List.mem_append_right _ hp)
    ·have e:p=(s2.heap.objs.size+1,oC):=by simpa using hp
     subst e
     exact ⟨hoC,hCn,fC.2.1,fC.2.2.1,fun v z=>by rw [hdC] at z; cases z⟩
   exact fin _ _ oC H3 s4 J2 (fun h e=>⟨m,oC,es,ep,e,hdC,rC⟩) fC qn
  ·have a0:=T.item X' eP ew eK ec i [] s3 σ3 H3 (fun _ _=>False) I3 (stat fr3) st3 go
   rw [eA] at a0
   refine thn a0 fun r s4 ⟨u,hr,h4⟩=>?_
   subst hr
   refine thn h4 fun _ s5 ⟨x,H5,I5,r5,y5,st5,fr5⟩=>?_
   have I5':=I5.pinned (stat fr5) (T.obj _ _ st5)
   have a1:=hg' _ s5 σ3 H5 x u _ I5' r5 (step x H5 y5)
   rw [eP,ew,eA,een,ex] at a1
   refine thn a1 fun _ s6 ⟨σ6,H6,I6,q6⟩=>?_
   have a2:=ht' _ s6 σ6 H6 _ I6 q6
   rw [eP,ew,eA,een,ex] at a2
   refine thn a2 fun ok s7 ⟨H7,I7,q7⟩=>?_
   have again:∀ {ys7:List V}{H7:Hp}{s7:Shared},Inv X' ([]++pinsAt fp s5.heap) σ6 H7 s7→N ys7 σ6 H7→∃ m,m<n∧∃ i ys σ' H',Inv X' [] σ' H' s7∧tn i s7.heap∧(∀ b∈fp,H' b=none)∧W i m ys σ' H':=fun {ys7 H7 s7} I7 n7=>by
    obtain ⟨m',hm,w7⟩:=hN ys7 σ6 H7 n7
    refine ⟨m',hm,i+1,ys7,σ6,H7,I7.unpinned,T.keep _ _ _ st5 fun b hb o e=>(I7.pin (b,o) (List.mem_append_right _ (List.mem_append_right _ (zc7_ hb e)))).1,fun b hb=>?_,w7⟩
    obtain ⟨o,e,d⟩:=T.obj _ _ st5 b hb
    exact (I7.pin (b,o) (List.mem_append_right _ (List.mem_append_right _ (zc7_ hb e)))).2.1
   cases ok with
   | false=>exact again I7 q7
   | true =>
    have a3:=he' _ s7 σ6 H7 _ I7 q7
    rw [eP,ew,eA,een,ex] at a3
    refine thn a3 fun y s8 ⟨v,H8,I8,r8,hD8,hl8,n8⟩=>?_
    have a4:=zbj_ (X:=X') _ s8 σ6 H8 (.ref s2.heap.objs.size) [v] (.ref s2.heap.objs.size) [y] (fun _ H9=>N (ys++[v]) σ6 H9) I8 rfl (.cons r8 .nil) ⟨_,_,_,rfl,rfl,hD8,hl8,n8⟩
    rw [eP,ew,eA,ex] at a4
    refine thn a4 fun _ s9 ⟨v9,H9,I9,_,n9⟩=>?_
    exact again I9 n9
 exact codeAny_compStart_list (loop _ rfl) (T.self _ 0 _ _ _ st1 (loop _ rfl))
noncomputable def tComp (lv:List Str) (fr:List (Str×Nat)) (wi:TI) (g:TG) (tt:TT) (te:TE):TE:=fun σ H Q=>wi σ H fun J H1=>tCompR J g tt te (cS lv fr σ) H1 Q
theorem zne_ {wi:TI}(hc:X.calm=true) (S:CScope X scope cl lv fr) (hi:PI X tg iter wi)
  (hg:∀ C fp s2 H2,PG (cxComp X scope cl C (cN lv fr) fp s2 H2) tg g) (ht:∀ C fp s2 H2,PIf (cxComp X scope cl C (cN lv fr) fp s2 H2) ifs tt) (he:∀ C fp s2 H2,PE (cxComp X scope cl C (cN lv fr) fp s2 H2) elt te)
  (hs:∀ x,foldedSetIterable iter X.env x=pure x:=by intro _; rfl):PE X (.ListComp elt [⟨tg,iter,ifs,0⟩] scope pos) (tComp lv fr wi g tt te):=by
 intro pins s σ H Q I h
 rw [eval_ListComp]
 refine wpAny_comprehension_free (use:=none) rfl hs (zgx_ S.clos) S.kind S.names ?_
 refine thn (hi pins s σ H _ I h) fun v s1 h1=>thn h1 fun itv s2 h2=>?_
 obtain ⟨it,fp,tn,J,H2,e,I2,T,st2,f2,q⟩:=h2
 subst e
 refine zfr_ I2 S T st2 f2 hc hg ht he q fun D C oC H' s' J1 hNs fC qD=>?_
 have hp:=J1.pin (C,oC) (List.mem_append_right _ (List.mem_append_right _ (List.mem_singleton.mpr rfl)))
 obtain ⟨m,hm⟩:=hNs s'.heap hp.1
 refine ⟨m,hm,fun h' hs'=>?_⟩
 exact ⟨.ref D,H',J1.unpinned.turned (t':=s'.toks) (fun b o hb e=>(hs'.2 b hb).trans e) fC.1 fC.2.1 fC.2.2.2.1 fC.2.2.2.2.1 fC.2.2.2.2.2,rfl,qD⟩
theorem zd8_ {wi:TI}{j:Nat}{y:Str}{py spos:Pos}(hc:X.calm=true) (S:CScope X scope cl lv fr) (hi:PI X tg iter wi)
  (hg:∀ C fp s2 H2,PG (cxComp X scope cl C (cN lv fr) fp s2 H2) tg g) (ht:∀ C fp s2 H2,PIf (cxComp X scope cl C (cN lv fr) fp s2 H2) ifs tt) (he:∀ C fp s2 H2,PE (cxComp X scope cl C (cN lv fr) fp s2 H2) elt te)
  (hy:PG X (.Name y py) (gName j))
  (hsw:swapsWith (.ListComp elt [⟨tg,iter,ifs,0⟩] scope pos) (some (.Name y py)) spos.line X.env=pure true:=by rfl)
  (hs:∀ x,foldedSetIterable iter X.env x=pure x:=by intro _; rfl):PS X (.Assign [.Name y py] (.ListComp elt [⟨tg,iter,ifs,0⟩] scope pos) spos) (tAsg (tComp lv fr wi g tt te) (gName j)):=by
 intro pins s σ H D I h
 rw [exec_Assign_Name_used _ _ _ _ hsw]
 refine wpAny_bind (wpAny_standAt (wpAny_bind ?_))
 show wpAny _ X.A (do let _ ← comprehension (.ListComp elt [⟨tg,iter,ifs,0⟩] scope pos) scope X.env _ (newList []) false (eval iter X.env) (some (assign (.Name y py) X.env))) _ _ s
 refine wpAny_bind (wpAny_mono (wpAny_comprehension_free (use:=some (assign (.Name y py) X.env)) (Q:=fun _ s'=>SP X pins D .next s') rfl hs (zgx_ S.clos) S.kind S.names ?_) (fun _ s' hq=>wpAny_pure (wpAny_pure hq)) fun _ _ e=>e)
 refine thn (hi pins s σ H _ I h) fun v s1 h1=>thn h1 fun itv s2 h2=>?_
 obtain ⟨it,fp,tn,J,H2,e,I2,T,st2,f2,q⟩:=h2
 subst e
 refine zfr_ I2 S T st2 f2 hc hg ht he q fun D' C oC H' s' J1 hNs fC qD=>?_
 show wpAny _ X.A (assign (.Name y py) X.env (.ref D')) _ _ _
 refine thn (hy _ s' σ H' (.ref D') (.ref D') _ J1 rfl qD) fun _ s3 ⟨σ3,H3,I3,q3⟩=>?_
 have hp:=I3.pin (C,oC) (List.mem_append_right _ (List.mem_append_right _ (List.mem_singleton.mpr rfl)))
 obtain ⟨m,hm⟩:=hNs s3.heap hp.1
 refine ⟨m,hm,fun h' hs'=>?_⟩
 have fC':FpOk X pins H3 C:=⟨hp.2.1,fC.2⟩
 exact ⟨σ3,H3,I3.unpinned.turned (t':=s3.toks) (fun b o hb e=>(hs'.2 b hb).trans e) fC'.1 fC'.2.1 fC'.2.2.2.1 fC'.2.2.2.2.1 fC'.2.2.2.2.2,q3⟩
end
end L2
namespace L2
open PySem PySem.Spec PyProof.Rows
noncomputable abbrev tx (l:List Nat):V:=.str ⟨l.toArray⟩
noncomputable def br (b:Bool) (A B:Prop):Prop:=(b=true→A)∧(b=false→B)
theorem zmU_ (a b:Str):a++b=⟨(a.cps.toList++b.cps.toList).toArray⟩:=by
 cases a; cases b
 show Str.mk (_++_)=_
 simp
theorem zch_ (a:Str):a=⟨a.cps.toList.toArray⟩:=by cases a; simp
noncomputable def cutL (l:List Nat) (lo hi:Option Int):List Nat:=(l.drop (HT.sIx l.length 0 lo)).take (HT.sIx l.length l.length hi-HT.sIx l.length 0 lo)
theorem zek_ (lo hi:Option Int) (n:Nat):Builtin.Str.strSliceIndices lo hi 1 n=sliceRange ((HT.sIx n 0 lo:Nat):Int) ((HT.sIx n n hi:Nat):Int) 1:=by
 unfold Builtin.Str.strSliceIndices
 simp only [show (1:Int) > 0 by decide,if_true]
 congr 1
 ·cases lo with
  | none=>simp [HT.sIx]
  | some i =>
   simp only [HT.sIx]
   by_cases h:i<0
   ·simp only [h,if_true]<;>lia
   ·simp only [h,if_false]<;>lia
 ·cases hi with
  | none=>simp [HT.sIx]
  | some i =>
   simp only [HT.sIx]
   by_cases h:i<0
   ·simp only [h,if_true]<;>lia
   ·simp only [h,if_false]<;>lia
theorem zil_ (x:Str) (lo hi:Option Int):(Builtin.Str.strSliceIndices lo hi 1 x.length).filterMap (x.cps[·]?)=cutL x.cps.toList lo hi:=by
 rw [zek_,sliceRange_one,pick_run]
 unfold cutL Str.length
 simp only [Array.length_toList]
theorem zfa_ (l:List Nat) (lo hi:Option Int):(cutL l lo hi).length≤l.length:=by
 unfold cutL
 rw [List.length_take,List.length_drop]
 lia
theorem zj0_ {l:List Nat}{lo hi:Option Int}(h:(cutL l lo hi).length=l.length):cutL l lo hi=l:=by
 unfold cutL at h ⊢
 rw [List.length_take,List.length_drop] at h
 have h1:HT.sIx l.length l.length hi≤l.length:=HT.sIx_le _ _ (Nat.le_refl _) _
 by_cases hl:l.length=0
 ·have:l=[]:=List.length_eq_zero_iff.mp hl
  subst this
  simp
 ·have h2:HT.sIx l.length 0 lo=0:=by lia
  rw [h2,List.drop_zero,List.take_of_length_le]
  lia
section
variable {X:Cx}
noncomputable def rSlS:V→Option Int→Option Int→Hp→VK→Prop:=fun x lo hi H Q=>match x with | .str z=>z.length≤sizeLine∧Q (tx (cutL z.cps.toList lo hi)) H | _=>False
theorem zej_ {v:Value}{o:Option Int}(p:IsPart v o):∃ l:Option (Int×Tok),v=partValue l∧l.map (·.1)=o:=by
 cases p with
 | none=>exact ⟨none,rfl,rfl⟩
 | int i t=>exact ⟨some (i,t),rfl,rfl⟩
theorem zof_:SlR X rSlS:=by
 intro pins s σ H x v vl vu lo hi sl Q I rx hs pl pu h
 cases x with
 | str z =>
  obtain ⟨hz,q⟩:=h
  obtain ⟨t,rfl⟩:=rx
  obtain ⟨l,rfl,rfl⟩:=zej_ pl
  obtain ⟨u,rfl,rfl⟩:=zej_ pu
  refine ⟨"str",_,F.slot_str_getitem.lookup,typeIs_str _ _ _,?_⟩
  refine wpAny_getItem_str_slice (l:=l) (u:=u) (st:=none) hs rfl ?_
  unfold sliceMade
  have e:slicePicked z l u none=Builtin.Str.strSliceIndices (l.map (·.1)) (u.map (·.1)) 1 z.length:=rfl
  rw [e]
  have hlen:(Builtin.Str.strSliceIndices (l.map (·.1)) (u.map (·.1)) 1 z.length).length=(cutL z.cps.toList (l.map (·.1)) (u.map (·.1))).length:=by
   rw [zek_,sliceRange_one,List.length_map,List.length_range]
   unfold cutL
   rw [List.length_take,List.length_drop]
   have h1:HT.sIx z.length z.length (u.map (·.1))≤z.length:=HT.sIx_le _ _ (Nat.le_refl _) _
   have h2:z.cps.toList.length=z.length:=by simp [Str.length]
   rw [h2]
   lia
  split
  ·rename_i hc
   have hc':(cutL z.cps.toList (l.map (·.1)) (u.map (·.1))).length=z.cps.toList.length:=by
    rw [← hlen]
    simpa [Str.length] using hc
   rw [zj0_ hc'] at q
   have q':Q (.str z) H:=by rw [zch_ z]; exact q
   exact ⟨.str z,H,I,⟨_,rfl⟩,q'⟩
  ·rw [zil_]
   have h3:=zfa_ z.cps.toList (l.map (·.1)) (u.map (·.1))
   have h2:z.cps.toList.length=z.length:=by simp [Str.length]
   refine ⟨?_,tx (cutL z.cps.toList (l.map (·.1)) (u.map (·.1))),H,I.tok _,⟨_,rfl⟩,q⟩
   show (cutL z.cps.toList (l.map (·.1)) (u.map (·.1))).toArray.size≤sizeLine
   rw [List.size_toArray]
   exact Nat.le_trans h3 (by rw [h2]; exact hz)
 | _=>exact h.elim
end
end L2
namespace L2
open PySem PySem.Spec PyProof.Rows
noncomputable def mVar (i:Nat):TE:=fun σ H Q=>match σ[i]? with | some (some v)=>Q v H | _=>False
section
variable {X:Cx}{a b c:Expr}{ta tb tc:TE}{pos:Pos}
theorem za_ (i:Nat) {x:Str}{pos:Pos}(hN:X.N[i]?=some x:=by rfl) (hv:Vis X.env.scope x:=by first | exact Or.inl rfl | exact Or.inr (Or.inl rfl) | exact Or.inr (Or.inr rfl)) (hd:(x == ("__debug__" : Str))=false:=by decide)
  (hcd:(x == ("__classdict__" : Str))=false:=by decide):PE X (.Name x pos) (mVar i):=by
 intro pins s σ H Q I h
 unfold mVar at h
 cases e:σ[i]? with
 | none=>rw [e] at h; exact h.elim
 | some o =>
  rw [e] at h
  cases o with
  | none=>exact h.elim
  | some v=>exact znN_ hN hv hd hcd pins s σ H Q I ⟨v,e,h⟩
theorem zbJ_ {x:Str}{l:List Nat}{j pos} (h:x=⟨l.toArray⟩:=by rfl):PE X (.Constant (.str x) j pos) (tC (tx l)):=h ▸ zoa_
noncomputable def mAdd:R2:=fun x y H Q=>match x,y with
 | .int i,.int j=>Q (.int (i+j)) H
 | .str a,.str b=>a.cps.toList.length+b.cps.toList.length≤sizeLine∧Q (tx (a.cps.toList++b.cps.toList)) H
 | .ref a,.ref b=>∃ xs zs,H a=some (.lst xs)∧H b=some (.lst zs)∧xs.length+zs.length≤sizeLine∧∀ p,H p=none→Q (.ref p) (upd H p (.lst (xs++zs)))
 | _,_=>False
theorem zaG_:OpR X (binaryOp .Add) mAdd:=by
 intro pins s σ H x y v u Q I rx ry h
 cases x<;>cases y<;>first
  | exact h.elim
  | exact zom_ pins s σ H _ _ v u Q I rx ry ⟨_,_,rfl,rfl,h⟩
  | exact zhI_ pins s σ H _ _ v u Q I rx ry ⟨_,_,rfl,rfl,by simpa [Str.length] using h.1,by rw [zmU_]; exact h.2⟩
  | (obtain ⟨xs,zs,h1,h2,h3,h4⟩:=h; exact znO_ pins s σ H _ _ v u Q I rx ry ⟨_,_,xs,zs,rfl,rfl,h1,h2,h3,h4⟩)
noncomputable def mI (C:Int→Int→Prop) (g:Int→Int→V):R2:=fun x y H Q=>match x,y with | .int i,.int j=>C i j∧Q (g i j) H | _,_=>False
noncomputable def mI0 (g:Int→Int→V):R2:=fun x y H Q=>match x,y with | .int i,.int j=>Q (g i j) H | _,_=>False
theorem opM {f:Value→Value→Sem Value}{C:Int→Int→Prop}{g:Int→Int→V}(h:OpR X f (rI C g)):OpR X f (mI C g):=by
 intro pins s σ H x y v u Q I rx ry q
 cases x<;>cases y<;>first | exact q.elim | exact h pins s σ H _ _ v u Q I rx ry ⟨_,_,rfl,rfl,q.1,q.2⟩
theorem opM0 {f:Value→Value→Sem Value}{g:Int→Int→V}(h:OpR X f (rI0 g)):OpR X f (mI0 g):=by
 intro pins s σ H x y v u Q I rx ry q
 cases x<;>cases y<;>first | exact q.elim | exact h pins s σ H _ _ v u Q I rx ry ⟨_,_,rfl,rfl,q⟩
noncomputable abbrev mSub:R2:=mI0 fun i j=>.int (i-j)
noncomputable abbrev mMod:R2:=mI (fun _ j=>0<j) fun i j=>.int (i % j)
theorem zfn_:OpR X (binaryOp .Sub) mSub:=opM0 zoF_
theorem zaj_:OpR X (binaryOp .Mod) mMod:=opM znX_
noncomputable def mEqB (x y:V):Option Bool:=match x,y with
 | .int i,.int j=>some (decide (i=j))
 | .str a,.str b=>some (decide (a.cps.toList=b.cps.toList))
 | .bl a,.bl b=>some (decide (a=b))
 | .non,.non=>some true
 | .non,.int _=>some false | .int _,.non=>some false | .non,.bl _=>some false | .bl _,.non=>some false | .non,.str _=>some false | .str _,.non=>some false
 | .int _,.str _=>some false | .str _,.int _=>some false | .bl _,.str _=>some false | .str _,.bl _=>some false
 | _,_=>none
theorem ziS_ {x y:V}{b:Bool}(h:mEqB x y=some b):scal x y=true∧decide (x=y)=b:=by
 cases x<;>cases y<;>first
  | (simp [mEqB] at h; done)
  | (refine ⟨rfl,?_⟩; have h':=Option.some.inj h; rw [← h']; first | rfl | (simp; done))
  | (rename_i a b'
     refine ⟨rfl,?_⟩
     have h':=Option.some.inj h
     rw [← h',decide_eq_decide]
     constructor
     ·intro e; cases e; rfl
     ·intro e; rw [zch_ a,zch_ b',e])
noncomputable def mEq:R2:=fun x y H Q=>match mEqB x y with | some b=>Q (.bl b) H | none=>False
noncomputable def mNe:R2:=fun x y H Q=>match mEqB x y with | some b=>Q (.bl (!b)) H | none=>False
theorem zoB_:OpR X (compareOp .Eq) mEq:=by
 intro pins s σ H x y v u Q I rx ry h
 unfold mEq at h
 cases e:mEqB x y with
 | none=>rw [e] at h; exact h.elim
 | some b =>
  rw [e] at h
  obtain ⟨h1,h2⟩:=ziS_ e
  exact op_eq pins s σ H x y v u Q I rx ry ⟨h1,by rw [h2]; exact h⟩
theorem zon_:OpR X (compareOp .NotEq) mNe:=by
 intro pins s σ H x y v u Q I rx ry h
 unfold mNe at h
 cases e:mEqB x y with
 | none=>rw [e] at h; exact h.elim
 | some b =>
  rw [e] at h
  obtain ⟨h1,h2⟩:=ziS_ e
  exact op_ne pins s σ H x y v u Q I rx ry ⟨h1,by rw [h2]; exact h⟩
noncomputable abbrev mGt:R2:=mI0 fun i j=>.bl (decide (j<i))
noncomputable abbrev mGe:R2:=mI0 fun i j=>.bl (decide (j≤i))
theorem zj9_:OpR X (compareOp .Gt) mGt:=opM0 op_gt
theorem zn0_:OpR X (compareOp .GtE) mGe:=opM0 op_ge
noncomputable def mIsB (x y:V):Option Bool:=match y with
 | .non=>some (decide (x=.non))
 | .bl b=>(match x with | .bl a=>some (decide (a=b)) | _=>none)
 | _=>none
noncomputable def mIs:R2:=fun x y H Q=>match mIsB x y with | some b=>Q (.bl b) H | none=>False
noncomputable def mIsNot:R2:=fun x y H Q=>match mIsB x y with | some b=>Q (.bl (!b)) H | none=>False
theorem zll_ {M:Model}{A:Around}{E:Value→Shared→Prop}{s:Shared}{a b:Bool}{Q:Value→Shared→Prop}(h:Q (.bool (decide (a=b))) s):wpAny M A (compareOp .Is (.bool a) (.bool b)) Q E s:=by
 cases a<;>cases b<;>exact wpAny_pure h
theorem zho_ {M:Model}{A:Around}{E:Value→Shared→Prop}{s:Shared}{a b:Bool}{Q:Value→Shared→Prop}(h:Q (.bool (!decide (a=b))) s):wpAny M A (compareOp .IsNot (.bool a) (.bool b)) Q E s:=by
 cases a<;>cases b<;>exact wpAny_pure h
theorem zdQ_:OpR X (compareOp .Is) mIs:=by
 intro pins s σ H x y v u Q I rx ry h
 unfold mIs mIsB at h
 cases y with
 | non=>exact zod_ pins s σ H x _ v u Q I rx ry ⟨rfl,h⟩
 | bl b =>
  cases x with
  | bl a=>cases rx; cases ry; exact zll_ ⟨.bl _,H,I,rfl,h⟩
  | _=>exact h.elim
 | _=>exact h.elim
theorem zjA_:OpR X (compareOp .IsNot) mIsNot:=by
 intro pins s σ H x y v u Q I rx ry h
 unfold mIsNot mIsB at h
 cases y with
 | non=>exact znl_ pins s σ H x _ v u Q I rx ry ⟨rfl,h⟩
 | bl b =>
  cases x with
  | bl a=>cases rx; cases ry; exact zho_ ⟨.bl _,H,I,rfl,h⟩
  | _=>exact h.elim
 | _=>exact h.elim
noncomputable def inS (l:List Nat) (t:List Nat):Bool:=match l with | [c]=>decide (c∈t) | _=>!(Builtin.Str.occurrences ⟨t.toArray⟩ ⟨l.toArray⟩ 0 t.length 1).isEmpty
theorem zkN_ (a b:Str):(!(Builtin.Str.occurrences b a 0 b.length 1).isEmpty)=inS a.cps.toList b.cps.toList:=by
 have e:b.length=b.cps.toList.length:=by simp [Str.length]
 unfold inS
 split
 ·rename_i c hc
  have ea:a=⟨#[c]⟩:=by rw [zch_ a,hc]
  rw [ea]
  exact StrLaws.found_one b c
 ·rw [← zch_,← zch_,e]
noncomputable def mIn (K:Fgg) (neg:Bool):R2:=fun x y H Q=>match y with
 | .str b=>(match x with | .str a=>Q (.bl (if neg then !inS a.cps.toList b.cps.toList else inS a.cps.toList b.cps.toList)) H | _=>False)
 | .ref p=>∃ xs,(SqL K H p xs∨SqT K H p xs)∧flatV x=true∧xs.all flatV=true∧Q (.bl (if neg then !inV x xs else inV x xs)) H
 | _=>False
theorem znU_:OpR X (compareOp .In) (mIn X.K false):=by
 intro pins s σ H x y v u Q I rx ry h
 unfold mIn at h
 cases y with
 | str b =>
  cases x with
  | str a=>exact zjM_ pins s σ H _ _ v u Q I rx ry ⟨_,_,rfl,rfl,by rw [zkN_]; exact h⟩
  | _=>exact h.elim
 | ref p =>
  obtain ⟨xs,h1,h2,h3,h4⟩:=h
  exact zjX_ pins s σ H _ _ v u Q I rx ry ⟨_,xs,rfl,h1,h2,h3,h4⟩
 | _=>exact h.elim
theorem zgV_:OpR X (compareOp .NotIn) (mIn X.K true):=by
 intro pins s σ H x y v u Q I rx ry h
 unfold mIn at h
 cases y with
 | str b =>
  cases x with
  | str a=>exact zgr_ pins s σ H _ _ v u Q I rx ry ⟨_,_,rfl,rfl,by rw [zkN_]; exact h⟩
  | _=>exact h.elim
 | ref p =>
  obtain ⟨xs,h1,h2,h3,h4⟩:=h
  exact zf9_ pins s σ H _ _ v u Q I rx ry ⟨_,xs,rfl,h1,h2,h3,h4⟩
 | _=>exact h.elim
noncomputable def mTest (t:TE):TT:=fun σ H Q=>t σ H fun x H'=>match x with | .bl k=>Q k H' | _=>False
noncomputable def mAndV (ta tb:TE):TE:=fun σ H Q=>ta σ H fun x H1=>match x with | .bl c=>br c (tb σ H1 Q) (Q (.bl false) H1) | _=>False
noncomputable def mAnd (t u:TT):TT:=fun σ H Q=>t σ H fun c H1=>br c (u σ H1 Q) (Q false H1)
noncomputable def mOr (t u:TT):TT:=fun σ H Q=>t σ H fun c H1=>br c (Q true H1) (u σ H1 Q)
variable {rest:List Expr}{tA tB':TT}
theorem zk0_ (ha:PE X a ta) (hb:PE X (.BoolOp .And (b::rest) pos) tb):PE X (.BoolOp .And (a::b::rest) pos) (mAndV ta tb):=by
 intro pins s σ H Q I h
 refine BoolOp_and (thn (ha pins s σ H _ I h) fun v s1 ⟨x,H1,I1,r1,q1⟩=>?_)
 cases x with
 | bl c =>
  cases r1
  refine wpAny_truthy_bool ?_
  cases c with
  | true=>exact hb pins s1 σ H1 Q I1 (q1.1 rfl)
  | false=>exact ⟨.bl false,H1,I1,rfl,q1.2 rfl⟩
 | _=>exact q1.elim
theorem zb3_ (ha:PT X a tA) (hb:PW X (.BoolOp .And (b::rest) pos) tB'):PW X (.BoolOp .And (a::b::rest) pos) (mAnd tA tB'):=by
 intro wh pins s σ H Q I h
 refine isTrue_and (thn (ha pins s σ H _ I h) fun c s1 ⟨H1,I1,q1⟩=>?_)
 cases c with
 | true=>exact hb wh pins s1 σ H1 Q I1 (q1.1 rfl)
 | false=>exact ⟨H1,I1,q1.2 rfl⟩
theorem zeZ_ (ha:PT X a tA) (hb:PW X (.BoolOp .Or (b::rest) pos) tB'):PW X (.BoolOp .Or (a::b::rest) pos) (mOr tA tB'):=by
 intro wh pins s σ H Q I h
 refine isTrue_or (thn (ha pins s σ H _ I h) fun c s1 ⟨H1,I1,q1⟩=>?_)
 cases c with
 | true=>exact ⟨H1,I1,q1.1 rfl⟩
 | false=>exact hb wh pins s1 σ H1 Q I1 (q1.2 rfl)
theorem zdx_ {e:Expr}{t:TE}(h:PE X e t) (he:∀ whole,isTrue e X.env whole=(do let v ← whole; standAt e.pos; holding [v] (truthy v)):=by intro _; rfl):PT X e (mTest t):=by
 intro pins s σ H Q I hw
 refine isTrue_plain (thn (h pins s σ H _ I hw) fun v s1 ⟨x,H1,I1,r1,q1⟩=>?_) (he _)
 cases x with
 | bl c=>cases r1; exact wpAny_truthy_bool ⟨H1,I1,q1⟩
 | _=>exact q1.elim
theorem zs_ {op:CmpOp}{r:R2}(ho:OpR X (compareOp op) r) (ha:PE X a ta) (hb:PE X b tb) (hm:behindInMarks op b=false:=by first | exact nobehind _ (by decide) (by decide) | rfl):PT X (.Compare a [op] [b] pos) (mTest (tOp r ta tb)):=by
 intro pins s σ H Q I hw
 refine wpAny_isTrue_Compare1 (binT ha hb I hw fun v u s2 x y H2 I2 rx ry q=>?_) hm
 refine thn (ho pins s2 σ H2 x y v u _ I2 rx ry q) fun c s3 ⟨z,H3,I3,r3,q3⟩=>?_
 cases z with
 | bl k=>cases r3; exact wpAny_truthy_bool ⟨H3,I3,q3⟩
 | _=>exact q3.elim
theorem zcA_ {op:CmpOp}{r:R2}(ho:OpR X (compareOp op) r) (ha:PE X a ta) (hb:PE X b tb) (hm:behindInMarks op b=false:=by first | exact nobehind _ (by decide) (by decide) | rfl):PE X (.Compare a [op] [b] pos) (tOp r ta tb):=znr_ ho ha hb hm
noncomputable def mIf (t:TT) (ta tb:TE):TE:=fun σ H Q=>t σ H fun c H1=>br c (ta σ H1 Q) (tb σ H1 Q)
theorem znA_ {c:Expr}(hc:PT X c tA) (ha:PE X a ta) (hb:PE X b tb):PE X (.IfExp c a b pos) (mIf tA ta tb):=by
 intro pins s σ H Q I h
 refine wpAny_IfExp (thn (hc pins s σ H _ I h) fun d s1 ⟨H1,I1,q1⟩=>?_)
 cases d with
 | true=>exact ha pins s1 σ H1 Q I1 (q1.1 rfl)
 | false=>exact hb pins s1 σ H1 Q I1 (q1.2 rfl)
noncomputable def mIfS (c:TT) (t u:TS):TS:=fun D σ H=>c σ H fun b H1=>br b (t D σ H1) (u D σ H1)
theorem zaw_ {c:Expr}{a b:List Stmt}{tc:TT}{t u:TS}(hc:PT X c tc) (ha:PSs X a t) (hb:PSs X b u):PS X (.If c a b pos) (mIfS tc t u):=by
 intro pins s σ H D I h
 refine wpAny_If (thn (hc pins s σ H _ I h) fun d s1 ⟨H1,I1,q1⟩=>?_)
 cases d with
 | true=>exact ha pins s1 σ H1 D I1 (q1.1 rfl)
 | false=>exact hb pins s1 σ H1 D I1 (q1.2 rfl)
end
end L2
namespace L2
open PySem PySem.Spec PyProof.Rows
section
variable {X:Cx}{a b c e o:Expr}{es:List Expr}{ta tb tc:TE}{t:TA}{pos:Pos}
noncomputable def mIx (K:Fgg):R2:=fun x y H Q=>match y with
 | .int i=>(match x with
  | .ref p=>∃ xs,(SqL K H p xs∨SqT K H p xs)∧(match atI xs i with | some v=>Q v H | none=>False)
  | .str z=>z.cps.toList.length≤sizeLine∧(match atI z.cps.toList i with | some c=>Q (tx [c]) H | none=>False)
  | _=>False)
 | _=>False
theorem ix_M:IxR X (mIx X.K):=by
 intro value slice pins s σ H x y v u Q I rx ry h hs0
 unfold mIx at h
 cases y with
 | int i =>
  cases x with
  | ref p =>
   obtain ⟨xs,hs,h⟩:=h
   cases ev:atI xs i with
   | none=>rw [ev] at h; exact h.elim
   | some w' =>
    rw [ev] at h
    rcases hs with hs | hs
    ·exact znw_ value slice pins s σ H _ _ v u Q I rx ry ⟨p,xs,i,w',rfl,rfl,hs,ev,h⟩ hs0
    ·exact zoE_ value slice pins s σ H _ _ v u Q I rx ry ⟨p,xs,i,w',rfl,rfl,hs,ev,h⟩ hs0
  | str z =>
   obtain ⟨hz,h⟩:=h
   cases ev:atI z.cps.toList i with
   | none=>rw [ev] at h; exact h.elim
   | some w' =>
    rw [ev] at h
    exact znV_ value slice pins s σ H _ _ v u Q I rx ry ⟨z,i,w',rfl,rfl,by simpa [Str.length] using hz,ev,h⟩ hs0
  | _=>exact h.elim
 | _=>exact h.elim
noncomputable def mSl (K:Fgg):V→Option Int→Option Int→Hp→VK→Prop:=fun x lo hi H Q=>match x with
 | .str z=>z.cps.toList.length≤sizeLine∧Q (tx (cutL z.cps.toList lo hi)) H
 | .ref a=>∃ xs,SqL K H a xs∧∀ p,H p=none→Q (.ref p) (upd H p (.lst (cutV xs lo hi)))
 | _=>False
theorem sl_M:SlR X (mSl X.K):=by
 intro pins s σ H x v vl vu lo hi sl Q I rx hs pl pu h
 unfold mSl at h
 cases x with
 | str z=>exact zof_ pins s σ H _ v vl vu lo hi sl Q I rx hs pl pu ⟨by simpa [Str.length] using h.1,h.2⟩
 | ref p =>
  obtain ⟨xs,h1,h2⟩:=h
  exact zmL_ pins s σ H _ v vl vu lo hi sl Q I rx hs pl pu ⟨p,xs,rfl,h1,h2⟩
 | _=>exact h.elim
noncomputable def mPart (t:TE):TO:=fun σ H Q=>t σ H fun x H1=>match x with | .int i=>Q (some i) H1 | _=>False
theorem po_M (h:PE X e ta):PO X (some e) (mPart ta):=by
 intro pins s σ H Q I hw
 rw [evalPart_some]
 refine thn (h pins s σ H _ I hw) fun u s1 ⟨x,H1,I1,r1,q1⟩=>?_
 cases x with
 | int i=>obtain ⟨t,rfl⟩:=r1; exact ⟨some i,H1,I1,.int i t,q1⟩
 | _=>exact q1.elim
noncomputable def mLen (K:Fgg):List V→Hp→VK→Prop:=fun xs H Q=>match xs with
 | [.str z]=>z.cps.toList.length≤sizeLine∧Q (.int z.cps.toList.length) H
 | [.ref p]=>∃ ys,(SqL K H p ys∨SqT K H p ys)∧Q (.int ys.length) H
 | _=>False
theorem zay_:CallR X (.builtin "len") (mLen X.K):=by
 intro pins s σ H xs us Q I r h
 unfold mLen at h
 split at h
 ·exact zf5_ pins s σ H _ us Q I r ⟨_,rfl,by simpa [Str.length] using h.1,by simpa [Str.length] using h.2⟩
 ·obtain ⟨ys,h1,h2⟩:=h
  exact zgg_ pins s σ H _ us Q I r ⟨_,ys,rfl,h1,h2⟩
 ·exact h.elim
noncomputable def mTwo (g:Int→Int→Int):List V→Hp→VK→Prop:=fun xs H Q=>match xs with | [.int i,.int j]=>Q (.int (g i j)) H | _=>False
theorem zjH_ (hc:X.calm=true):CallR X (.builtin "min") (mTwo min):=by
 intro pins s σ H xs us Q I r h
 unfold mTwo at h
 split at h
 ·rename_i i j
  refine zki_ hc pins s σ H _ us Q I r ⟨i,j,rfl,?_⟩
  have e:(if j<i then j else i)=min i j:=by split<;>lia
  rw [e]; exact h
 ·exact h.elim
noncomputable def tyS (K:Fgg) (H:Hp):V→String→Prop:=fun x T=>match x with
 | .non=>T = "NoneType" | .bl _=>T = "bool" | .int _=>T = "int" | .str _=>T = "str"
 | .ref p=>(T = "list" ∧ ∃ xs,H p=some (.lst xs))∨(T = "tuple" ∧ ∃ xs,H p=some (.tup xs))
 | _=>False
theorem zos_ {K:Fgg}{H:Hp}{x:V}{T:String}(h:tyS K H x T):TyOf K H x (.type T):=by
 unfold tyS at h
 cases x with
 | non=>subst h; exact .non
 | bl b=>subst h; exact .bl b
 | int i=>subst h; exact .int i
 | str z=>subst h; exact .str z
 | ref p =>
  rcases h with ⟨rfl,xs,h⟩ | ⟨rfl,xs,h⟩
  ·exact .lst h
  ·exact .tup h
 | _=>exact h.elim
noncomputable def isaB (T c:String):Option Bool :=
 if T=c then some true else if T = "bool" ∧ c = "int" then some true
 else if (T = "bool" ∨ T = "int" ∨ T = "str" ∨ T = "list" ∨ T = "tuple" ∨ T = "NoneType")∧(c = "bool" ∨ c = "int" ∨ c = "str" ∨ c = "list" ∨ c = "tuple" ∨ c = "dict") then some false else none
theorem zmi_ {K:Fgg}{T c:String}{b:Bool}(h:isaB T c=some b):PySem.W.kitOne K (.type T) (.type c)=some b:=by
 unfold isaB at h
 split at h
 ·rename_i e; subst e; cases h
  unfold PySem.W.kitOne
  rw [if_pos (by simp)]
 ·split at h
  ·rename_i e; obtain ⟨rfl,rfl⟩:=e; cases h; rfl
  ·split at h
   ·rename_i h1 h2 e
    cases h
    obtain ⟨e1,e2⟩:=e
    rcases e1 with rfl | rfl | rfl | rfl | rfl | rfl<;>rcases e2 with rfl | rfl | rfl | rfl | rfl | rfl<;>first | rfl | exact absurd rfl h1 | exact absurd ⟨rfl,rfl⟩ h2
   ·cases h
noncomputable def mIsa (K:Fgg):List V→Hp→VK→Prop:=fun xs H Q=>match xs with
 | [.int _,.ty c]=>(match isaB "int" c with | some b=>Q (.bl b) H | none=>False)
 | [.bl _,.ty c]=>(match isaB "bool" c with | some b=>Q (.bl b) H | none=>False)
 | [.str _,.ty c]=>(match isaB "str" c with | some b=>Q (.bl b) H | none=>False)
 | [.non,.ty c]=>(match isaB "NoneType" c with | some b=>Q (.bl b) H | none=>False)
 | [.ref p,.ty c]=>∃ T,tyS K H (.ref p) T∧(match isaB T c with | some b=>Q (.bl b) H | none=>False)
 | _=>False
theorem zff_:CallR X (.builtin "isinstance") (mIsa X.K):=by
 intro pins s σ H xs us Q I r h
 have key:∀ (x:V) (T c:String),xs=[x,.ty c]→tyS X.K H x T→(match isaB T c with | some b=>Q (.bl b) H | none=>False)→wpAny (model X.prog X.w) X.A (call (.builtin "isinstance") us) (EP X pins σ Q) X.xe s:=by
  intro x T c e ht hq
  subst e
  obtain ⟨u,w',rfl,r1,r2⟩:=vals2 r
  cases r2
  cases eb:isaB T c with
  | none=>rw [eb] at hq; exact hq.elim
  | some b =>
   rw [eb] at hq
   exact zkk_ I r1 (zos_ ht) (zmi_ eb) fun tk=>⟨.bl b,H,I.tok tk,rfl,hq⟩
 unfold mIsa at h
 split at h
 ·exact key _ "int" _ rfl rfl h
 ·exact key _ "bool" _ rfl rfl h
 ·exact key _ "str" _ rfl rfl h
 ·exact key _ "NoneType" _ rfl rfl h
 ·obtain ⟨T,h1,h2⟩:=h
  exact key _ T _ rfl h1 h2
 ·exact h.elim
noncomputable def findS (l:List Nat) (t:List Nat):Int:=Txt.find ⟨l.toArray⟩ ⟨t.toArray⟩
theorem zlv_ (l:List Nat) (c:Nat):findS l [c]=(match l.findIdx? (· == c) with | some i=>(i:Int) | none => -1):=by
 unfold findS
 rcases find_whole ⟨l.toArray⟩ ⟨[c].toArray⟩ with ⟨h1,h2⟩ | ⟨i,h1,h2,h3⟩
 ·rw [h1]
  have:l.findIdx? (· == c)=none:=by
   rw [List.findIdx?_eq_none_iff]
   intro x hx
   obtain ⟨j,hj⟩:=List.mem_iff_getElem?.mp hx
   by_cases hxc:x=c
   ·subst hxc
    exact absurd ((StrLaws.subAt_one ⟨l.toArray⟩ x j).mpr (by simpa using hj)) (h2 j)
   ·simpa using hxc
  rw [this]
 ·rw [h1]
  have hi:l[i]?=some c:=by simpa using (StrLaws.subAt_one ⟨l.toArray⟩ c i).mp h2
  have:l.findIdx? (· == c)=some i:=by
   obtain ⟨hlt,hget⟩:=List.getElem?_eq_some_iff.mp hi
   rw [List.findIdx?_eq_some_iff_getElem]
   refine ⟨hlt,by simp [hget],fun j hj=>?_⟩
   have hjl:j<l.length:=Nat.lt_trans hj hlt
   have hn:=h3 j hj
   intro hc
   have hc':l[j]=c:=by simpa using hc
   exact hn ((StrLaws.subAt_one ⟨l.toArray⟩ c j).mpr (by simp [hjl,hc']))
  rw [this]
noncomputable def mIndex:V→List V→Hp→VK→Prop:=fun x xs H Q=>match x,xs with | .str l,[.str t]=>findS l.cps.toList t.cps.toList ≠ -1∧Q (.int (findS l.cps.toList t.cps.toList)) H | _,_=>False
theorem zle_:MtR X "str.index" mIndex:=by
 intro pins s σ H x xs v us Q I rx rv h
 unfold mIndex at h
 split at h
 ·rename_i l t
  obtain ⟨k,rfl⟩:=rx
  obtain ⟨u,rfl,ru⟩:=rv.one
  obtain ⟨k',rfl⟩:=ru
  have e:Txt.find l t=findS l.cps.toList t.cps.toList:=by unfold findS; rw [← zch_,← zch_]
  rw [← e] at h
  unfold Txt.find at h
  cases ho:Builtin.Str.occurrences l t 0 l.length 1 with
  | nil=>rw [ho] at h; exact absurd rfl h.1
  | cons i rest =>
   rw [ho] at h
   exact SC.index ho ⟨.int _,H,I.tok _,⟨_,rfl⟩,h.2⟩
 ·exact h.elim
noncomputable def strsOf:List V→Option (List Str)
 | []=>some []
 | .str z::r=>(strsOf r).map (z::·)
 | _::_=>none
theorem zid_ {vs:List V}{zs:List Str}:strsOf vs=some zs→vs=zs.map V.str:=by
 induction vs generalizing zs with
 | nil=>intro h; cases h; rfl
 | cons v r ih =>
  intro h
  cases v with
  | str z =>
   unfold strsOf at h
   cases e:strsOf r with
   | none=>rw [e] at h; cases h
   | some y=>rw [e] at h; cases h; rw [ih e]; rfl
  | _=>cases h
noncomputable def joinS (sep:List Nat) (zs:List Str):List Nat:=(Txt.join ⟨sep.toArray⟩ zs).cps.toList
noncomputable def mJoin (K:Fgg):V→List V→Hp→VK→Prop:=fun x xs H Q=>match x,xs with
 | .str l,[.ref D]=>∃ vs,(SqL K H D vs)∧(match strsOf vs with | some zs=>JoinOk l zs=true∧Q (tx (joinS l.cps.toList zs)) H | none=>False)
 | _,_=>False
theorem zgS_:∀ {zs:List Str}{us:List Value},Vals (zs.map V.str) us→∃ l:List (Str×Tok),us=strValues l∧l.map (·.1)=zs
 | [],us,r=>by cases r; exact ⟨[],rfl,rfl⟩
 | z::zs,us,r=>by
  cases r with
  | cons r rr =>
   obtain ⟨t,rfl⟩:=r
   obtain ⟨l,rfl,hl⟩:=zgS_ rr
   exact ⟨(z,t)::l,rfl,by rw [List.map_cons,hl]⟩
theorem zk1_:MtR X "str.join" (mJoin X.K):=by
 intro pins s σ H x xs v us Q I rx rv h
 unfold mJoin at h
 split at h
 ·rename_i l D
  obtain ⟨k,rfl⟩:=rx
  obtain ⟨u,rfl,ru⟩:=rv.one
  cases ru
  obtain ⟨vs,hs,h⟩:=h
  cases ez:strsOf vs with
  | none=>rw [ez] at h; exact h.elim
  | some zs =>
   rw [ez] at h
   have ev:=zid_ ez
   subst ev
   obtain ⟨its,r,p,hz⟩:=I.list hs
   obtain ⟨lz,e1,e2⟩:=zgS_ r
   subst e1
   refine SC.join p.isList e2 h.1 fun t' k'=>⟨tx (joinS l.cps.toList zs),H,I.tok _,⟨t',?_⟩,h.2⟩
   unfold joinS
   rw [← zch_,← zch_]
 ·exact h.elim
end
theorem zlj_ (zs:List Str):joinS [] zs=(zs.map fun z=>z.cps.toList).flatten:=by
 unfold joinS Txt.join Builtin.Str.glued
 cases zs with
 | nil=>rfl
 | cons z r =>
  show ((r.foldl (fun acc p=>acc++#[]++p.cps) z.cps)).toList=_
  have:∀ (acc:Array Nat),(r.foldl (fun acc p=>acc++#[]++p.cps) acc).toList=acc.toList++(r.map fun z=>z.cps.toList).flatten:=by
   induction r with
   | nil=>intro acc; simp
   | cons y r ih=>intro acc; rw [List.foldl_cons,ih]; simp
  rw [this]
  simp
end L2
namespace L2
open PySem PySem.Spec PyProof.Rows
noncomputable def Gd (P:Program) (w:World) (K:Fgg) (mg:Str→Option Value) (base:Heap) (CX:CXT) (k:Nat) (x:Str) (ps:List Str) (sp:Sp):Prop :=
 ∃ f fd,FnOk P w K mg base CX k f fd ps sp∧mg x=some (.ref f)∧PySem.W.keepIn K (.ref f)=true∧Binds K fd ps []
noncomputable def Gc (mg:Str→Option Value) (x:Str) (v:V):Prop:=∃ u,mg x=some u∧RelV v u
noncomputable abbrev Gb (mg:Str→Option Value) (x:Str):Prop:=mg x=none
section
variable {X:Cx}{CX:CXT}{k:Nat}{x:Str}{ps:List Str}{sp:Sp}{p pos:Pos}{e:Expr}{es:List Expr}{t:TA}{tg:Expr}
theorem zo_ (G:Gd X.prog X.w X.K X.mg X.base CX0 k x ps sp) (hr:Room k X.A) (ha:PA X (e::es) t) (hg:Gl X x:=by rfl) (hdb:(x == ("__debug__" : Str))=false:=by decide)
  (he:starEach (e::es) X.env=(false,eval e X.env)::starEach es X.env:=by rfl) (hpl:(backTo pos (starEach es X.env)).any (·.1)=false:=by rfl) :
  PE X (.Call (.Name x p) (e::es) [] pos) (tCall sp [] E0 t):=by
 obtain ⟨f,fd,F,hm,hk,hb⟩:=G
 exact zkC_ F hr hg hm hk hb .nil pass0 ha hdb he hpl
theorem zfp_ {v:V}(h:Gc X.mg x v) (hg:Gl X x:=by rfl) (hd:(x == ("__debug__" : Str))=false:=by decide):PE X (.Name x pos) (tC v):=by
 obtain ⟨u,hm,r⟩:=h
 exact zmC_ hg hm r hd
theorem znH_ (T:String) (hm:Gb X.mg x) (hg:Gl X x:=by rfl) (hv:bootBuiltins x=some (.type T):=by rfl) (hn:x ≠ "__name__" := by decide) (hd:(x == ("__debug__" : Str))=false:=by decide):PE X (.Name x pos) (tC (.ty T)) :=
 zmA_ hg hm hv rfl hn hd
theorem ze3_ {id:String}{r:List V→Hp→VK→Prop}(hc:CallR X (.builtin id) r) (hm:Gb X.mg x) (ha:PA X (e::es) t) (hg:Gl X x:=by rfl) (hv:bootBuiltins x=some (.builtin id):=by rfl) (hn:x ≠ "__name__" := by decide) (hdb:(x == ("__debug__" : Str))=false:=by decide)
  (hs:starEach (e::es) X.env=(false,eval e X.env)::starEach es X.env:=by rfl) (hpl:(backTo pos (starEach es X.env)).any (·.1)=false:=by rfl):PE X (.Call (.Name x p) (e::es) [] pos) (tCB r t) :=
 zl9_ hc hg hm hv ha hn hdb hs hpl
theorem znY_ {o:Expr}{to:TE}{name:Str}{id:String}{r:V→List V→Hp→VK→Prop}{apos cpos:Pos}(slot:Slot "str" name id) (hty:typeOf (.builtin id)=pure (.type "method_descriptor")) (hm:MtR X id r) (ho:PE X o to) (ha:PA X (e::es) t)
  (h1:attributeBase o name X.env (eval o X.env)=eval o X.env:=by rfl) (h2:((((backTo cpos (starEach (e::es) X.env)).all fun x=>!x.fst) && (backToKw cpos (keywordEach [] X.env)).all fun x=>x.fst.isSome) && decide (((e::es).length+([]:List Keyword).length+if ([]:List Keyword).isEmpty=true then 0 else 1)<30))=true:=by rfl)
  (h3:(apos.endLine == cpos.line)=true:=by rfl) (h4:starEach (e::es) X.env=(false,eval e X.env)::starEach es X.env:=by rfl) (h5:((backTo cpos (starEach es X.env)).any fun x=>x.fst)=false:=by rfl) :
  PE X (.Call (.Attribute o name apos) (e::es) [] cpos) (tBM X.K "str" r to t):=zim_ PySem.F.plainAttrs_str slot hty hm ho ha h1 h2 h3 h4 h5
noncomputable def iAny (K:Fgg) (tl:TE):TI:=fun σ H R=>tl σ H fun x H1=>match x with
 | .str z=>R (Itp z.cps.toList.length (fun i=>tx [z.cps.toList.getD i 0])) H1
 | .ref a=>((∃ xs,SqL K H1 a xs)∧R (Itl K a) H1)∨((∃ xs,SqT K H1 a xs)∧R (Itt K a) H1)
 | _=>False
theorem zol_ (z:Str):sgn z=fun i=>tx [z.cps.toList.getD i 0]:=by
 funext i
 unfold sgn
 simp [Array.getD_eq_getD_getElem?,List.getD_eq_getElem?_getD]
theorem zdn_ {l:Expr}{tl:TE}(hl:PE X l tl):PI X tg l (iAny X.K tl):=by
 intro pins s σ H R I h
 refine thn (hl pins s σ H _ I h) fun v s1 ⟨x,H1,I1,r1,q1⟩=>?_
 have pt:∀ (v:V),PE X l (tC v)→PE X l (tC v):=fun _ h=>h
 cases x with
 | str z =>
  obtain ⟨t,rfl⟩:=r1
  refine wpAny_pyIter_strU ?_
  have q:R (Itp z.cps.size (sgn z)) H1:=by
   have e:z.cps.toList.length=z.cps.size:=by simp
   rw [zol_,← e]
   exact q1
  refine ⟨s1.heap.objs.size,[s1.heap.objs.size],_,_,H1,rfl,I1.kept (t':=s1.toks) fun b o e=>Heap.get?_push_of_some _ e,zlu_ _ z t,⟨Nat.zero_le _,⟨_,Heap.get?_push_size _ rfl,rfl,rfl⟩⟩,fun b hb=>?_,q⟩
  have e:b=s1.heap.objs.size:=by simpa using hb
  subst e
  exact I1.fpOk (Nat.le_refl _) (I1.hok.fresh (Nat.le_refl _))
 | ref a =>
  cases r1
  rcases q1 with ⟨⟨xs,hq⟩,q⟩ | ⟨⟨xs,hq⟩,q⟩
  ·obtain ⟨its,rv,p,hz⟩:=I1.list hq
   refine wpAny_pyIter_list p.isList ?_
   refine ⟨s1.heap.objs.size,[s1.heap.objs.size],_,_,H1,rfl,I1.kept (t':=s1.toks) fun b o e=>Heap.get?_push_of_some _ e,zjI_ a _,⟨_,Heap.get?_push_size _ rfl,rfl,rfl⟩,fun b hb=>?_,q⟩
   have e:b=s1.heap.objs.size:=by simpa using hb
   subst e
   exact I1.fpOk (Nat.le_refl _) (I1.hok.fresh (Nat.le_refl _))
  ·obtain ⟨its,rv,p,hz⟩:=I1.tuple hq
   refine wpAny_pyIter_tuple (show s1.heap.IsTuple a its.toArray from p) ?_
   refine ⟨s1.heap.objs.size,[s1.heap.objs.size],_,_,H1,rfl,I1.kept (t':=s1.toks) fun b o e=>Heap.get?_push_of_some _ e,zjf_ a _,⟨_,Heap.get?_push_size _ rfl,rfl,rfl⟩,fun b hb=>?_,q⟩
   have e:b=s1.heap.objs.size:=by simpa using hb
   subst e
   exact I1.fpOk (Nat.le_refl _) (I1.hok.fresh (Nat.le_refl _))
 | _=>exact q1.elim
noncomputable def mRng1 (ta:TA):TI:=fun σ H R=>ta σ H fun vs H1=>match vs with | [.int j] => -(2 ^ 62)≤j∧j<2 ^ 62∧R (Itr 0 j.toNat) H1 | _=>False
noncomputable def mRng2 (ta:TA):TI:=fun σ H R=>ta σ H fun vs H1=>match vs with | [.int i,.int j]=>(-(2 ^ 62)≤i∧i<2 ^ 62 ∧ -(2 ^ 62)≤j∧j<2 ^ 62)∧R (Itr i (j-i).toNat) H1 | _=>False
end
section
variable {X:Cx}{tg:Expr}
theorem zeP_ {a:Expr}{ta:TA}{p pos:Pos}(hm:Gb X.mg "range") (ha:PA X [a] ta) (hg:Gl X "range" := by rfl) (hs:starEach [a] X.env=[(false,eval a X.env)]:=by rfl):PI X tg (.Call (.Name "range" p) [a] [] pos) (mRng1 ta):=by
 intro pins s σ H R I h
 refine Call_ (zg4_ I hg hm boot_range (PyProof.Rows.callWith_type1 (thn (ha pos pins s σ H _ I h) fun us s1 ⟨vs,H1,I1,r1,q1⟩=>?_) hs rfl))
 dsimp only at q1
 split at q1
 ·obtain ⟨q2,q3,q⟩:=q1
  cases r1 with
  | cons r rr =>
   cases rr
   obtain ⟨t,rfl⟩:=r
   exact call_range_1 (zh6_ I1 (by lia) (by lia) q2 q3 (by simpa using q))
 ·exact q1.elim
theorem ziP_ {a b:Expr}{ta:TA}{p pos:Pos}(hm:Gb X.mg "range") (ha:PA X [a,b] ta) (hg:Gl X "range" := by rfl) (hs:starEach [a,b] X.env=[(false,eval a X.env),(false,eval b X.env)]:=by rfl) (hs2:starEach [b] X.env=[(false,eval b X.env)]:=by rfl) :
  PI X tg (.Call (.Name "range" p) [a,b] [] pos) (mRng2 ta):=by
 intro pins s σ H R I h
 refine Call_ (zg4_ I hg hm boot_range (PyProof.Rows.callWith_type1 (thn (ha pos pins s σ H _ I h) fun us s1 ⟨vs,H1,I1,r1,q1⟩=>?_) (by rw [hs,hs2]) (by rw [hs2]; rfl)))
 dsimp only at q1
 split at q1
 ·obtain ⟨⟨q1,q2,q3,q4⟩,q⟩:=q1
  cases r1 with
  | cons r rr =>
   cases rr with
   | cons r' rr =>
    cases rr
    obtain ⟨t,rfl⟩:=r
    obtain ⟨t',rfl⟩:=r'
    exact call_range_2 (zh6_ I1 q1 q2 q3 q4 q)
 ·exact q1.elim
variable {elts:List Expr}{kk:Nat}{tpos:Pos}
noncomputable def mNeg (ta:TE):TE:=fun σ H Q=>ta σ H fun x H1=>match x with | .int i=>Q (.int (-i)) H1 | _=>False
theorem zn3_ {a:Expr}{ta:TE}{pos:Pos}(ha:PE X a ta):PE X (.UnaryOp .USub a pos) (mNeg ta):=by
 intro pins s σ H Q I h
 refine UnaryOp_ (thn (ha pins s σ H _ I h) fun v s1 ⟨x,H1,I1,r1,q1⟩=>?_)
 cases x with
 | int i=>exact zoe_ pins s1 σ H1 _ v Q I1 r1 ⟨i,rfl,q1⟩
 | _=>exact q1.elim
end
theorem zcc_ {H:Hp}{p:Addr}(h:H p=none) (o:HO):Same H (upd H p o):=fun b u q=>by rw [zbW_ (zbP_ q h)]; exact q
end L2
namespace L2
open PySem PySem.Spec PyProof.Rows
theorem zcz_ {n:Nat}(h:n≤100000):n≤sizeLine:=by rw [sizeLine_eq]; lia
theorem zd2_ {zs:List Str}{sep:Str}(h:zs.length*(sep.length+1)≤100000) (h1:∀ z∈zs,z.length≤1):JoinOk sep zs=true:=by
 unfold JoinOk
 have key:∀ (l:List Str) (acc:Nat),(∀ z∈l,z.length≤1)→l.foldl (fun x1 x2=>x1+x2.length+sep.length) acc≤acc+l.length*(sep.length+1):=by
  intro l
  induction l with
  | nil=>intro acc _; simp
  | cons z r ih =>
   intro acc hz
   rw [List.foldl_cons]
   have h2:=ih (acc+z.length+sep.length) fun y hy=>hz y (List.mem_cons_of_mem _ hy)
   have h3:=hz z List.mem_cons_self
   rw [List.length_cons,Nat.add_mul]
   lia
 have q:=key zs 0 h1
 rw [List.foldl_toArray]
 unfold Builtin.Str.tooLong
 simp only [Bool.not_eq_true',decide_eq_false_iff_not]
 have:zs.foldl (fun x1 x2=>x1+x2.length+sep.length) 0≤100000:=by lia
 have hl:(100000:Nat)≤sizeLine:=by rw [sizeLine_eq]; lia
 lia
end L2
namespace L2
open PySem PySem.Spec PyProof.Rows
section
variable {X:Cx}{tg:Expr}
noncomputable def mSet:TSet:=fun o i v H Q=>match i with
 | .int k=>(match o with
  | .ref p=>∃ xs,H p=some (.lst xs)∧(match ixN xs.length k with | some j=>Q (upd H p (.lst (xs.set j v))) | none=>False)
  | _=>False)
 | _=>False
theorem set_M:PSet X mSet:=by
 intro pins s σ H o i v ov iv u Q I ro ri rv h
 unfold mSet at h
 cases i with
 | int k =>
  cases o with
  | ref p =>
   obtain ⟨xs,h1,h⟩:=h
   cases e:ixN xs.length k with
   | none=>rw [e] at h; exact h.elim
   | some j =>
    rw [e] at h
    exact zlL_ pins s σ H _ _ v ov iv u Q I ro ri rv ⟨p,xs,k,j,rfl,rfl,h1,e,h⟩
  | _=>exact h.elim
 | _=>exact h.elim
theorem zis_ {n:Nat}{k:Int}(h0:0≤k) (h1:k<n):ixN n k=some k.toNat:=by unfold ixN; rw [if_pos h0,if_pos h1]
end
section
variable {X:Cx}{x:Str}{p pos:Pos}{e:Expr}{es:List Expr}{t:TA}
theorem zk5_ (T:String) {r:List V→Hp→VK→Prop}(hc:CallR X (.type T) r) (hm:Gb X.mg x) (ha:PA X (e::es) t) (hg:Gl X x:=by rfl) (hv:bootBuiltins x=some (.type T):=by rfl) (hn:x ≠ "__name__" := by decide) (hdb:(x == ("__debug__" : Str))=false:=by decide)
  (hs:starEach (e::es) X.env=(false,eval e X.env)::starEach es X.env:=by rfl) (hpl:(backTo pos (starEach es X.env)).any (·.1)=false:=by rfl):PE X (.Call (.Name x p) (e::es) [] pos) (tCB r t) :=
 zjx_ hc hg hm hv ha hn hdb hs hpl
end
end L2
namespace L2
open PySem PySem.Spec PyProof.Rows
theorem zgu_ (l:List Nat):joinS [] (l.map fun c=>(⟨#[c]⟩:Str))=l:=by
 rw [L2.zlj_,List.map_map]
 induction l with
 | nil=>rfl
 | cons c r ih=>rw [List.map_cons,List.flatten_cons,ih]; rfl
end L2
namespace L2
open PySem PySem.Spec PyProof.Rows
end L2
namespace L2
open PySem PySem.Spec PyProof.Rows
structure FlyX (x T C:Addr) (H:Hp) (hb h:Heap):Prop where
 obj:∃ oe vs a0 oT ts,h.get? x=some oe∧(oe.cls=.ref C∧vs[0]?=some a0)∧oe.data=.fields vs∧vs[1]?=some (.ref T)∧T≠x∧h.get? T=some oT∧oT.data=.fields ts∧ts[3]?=some .none
 hx:H x=none
 hT:H T=none
 nx:hb.get? x=none
 nT:hb.get? T=none
noncomputable def CXx (P:Program) (w:World):CXT:=fun outer H s E e s'=>∃ x T C H',e=.ref x∧s'.os=s.os∧AllBare s'.gens∧Un (frs outer) [] H H' s.heap s'.heap∧HOk P w H' s'.heap ∧
 FlyX x T C H' s.heap s'.heap∧E (.ref C) none H'
theorem passX0 {P:Program}{w:World}{X:Cx}:Passes (CXx P w) X E0:=fun _ _ _ _ _ _ _ h=>by
 obtain ⟨_,_,_,_,_,_,_,_,_,_,h⟩:=h
 exact h.elim
theorem HOk.at_ {P:Program}{w:World}{H:Hp}{h:Heap}{a:Addr}{o:HO}(x:HOk P w H h) (e:H a=some o):∃ u,h.get? a=some u:=by
 have q:=x a o e
 clear e x
 induction o with
 | lst xs=>obtain ⟨_,_,_,_,e⟩:=q; exact ⟨_,e⟩
 | tup xs=>obtain ⟨_,_,_,o,e,_⟩:=q; exact ⟨_,e⟩
 | dK kvs=>obtain ⟨_,_,_,_,o,_,_,e,_⟩:=q; exact ⟨_,e⟩
 | dT kvs=>obtain ⟨_,_,_,_,o,_,_,e,_⟩:=q; exact ⟨_,e⟩
 | set S n=>obtain ⟨o,_,_,_,e,_⟩:=q; exact ⟨_,e⟩
 | ins C dx fs=>obtain ⟨_,_,_,e,_⟩:=q; exact ⟨_,e⟩
 | own y=>obtain ⟨_,e⟩:=q; exact ⟨_,e⟩
 | xd fs=>obtain ⟨_,⟨_,_,_,e,_⟩,_⟩:=q; exact ⟨_,e⟩
 | rng lo hi=>obtain ⟨_,_,_,e⟩:=q; exact ⟨_,e⟩
 | frz ob u _=>obtain ⟨e,_⟩:=q; exact ⟨_,e⟩
 | tbl ps=>exact ⟨_,(show h.get? a=some _ from q)⟩
 | met f y=>exact ⟨_,(show h.get? a=some _ from q)⟩
 | ext φ=>obtain ⟨_,⟨_,e⟩,_⟩:=q; exact ⟨_,e⟩
theorem HOk.none_at {P:Program}{w:World}{H:Hp}{h:Heap}{a:Addr}(x:HOk P w H h) (e:h.get? a=none):H a=none:=by
 cases q:H a with
 | none=>rfl
 | some o =>
  obtain ⟨u,z⟩:=x.at_ q
  rw [e] at z; cases z
section
variable {X:Cx}{pins:Pnn}{σ:St}{H:Hp}{s:Shared}
theorem zob_ (hst:X.stack=X.env::X.outer) {b:Addr}(h:b∈X.fs):b∈frs X.stack:=by
 rw [hst]
 unfold Cx.fs frs at *
 rw [List.filterMap_cons]
 split
 ·exact h
 ·exact List.mem_cons_of_mem _ h
theorem zgw_ (I:Inv X pins σ H s) (hst:X.stack=X.env::X.outer) (hex:X.ex=[]) {x C:Addr}{a0:Value}{ex:List Addr}{h2:Heap}(hxs:∀ b∈ex,H b=none∧X.s₀.heap.get? b=none) (hx:x∈ex)
  (L:Heap.LeftW (PySem.W.hideAll s.heap (frs X.stack++ex)) X.stack x (.ref C) a0 s.heap h2) :
  ∃ T,Un (frs X.outer) [] X.H₀ H X.s₀.heap h2∧HOk X.prog X.w H h2∧FlyX x T C H X.s₀.heap h2:=by
 obtain ⟨st,ff,⟨oe,vs,T,oT,ts,he,hc,hd,h1,hnT,hTe,hT,hdT,h3⟩,up⟩:=L
 have nex:∀ b:Addr,b∉X.ex:=fun b z=>by rw [hex] at z; cases z
 have keepS:∀ b o,s.heap.get? b=some o→b∉frs X.stack→b∉ex→h2.get? b=some o:=fun b o q n1 n2=>st b o (PySem.W.hideAll_get _ q fun z=>(List.mem_append.mp z).elim n1 n2)
 have slotS:∀ b o,s.heap.get? b=some o→b∈frs X.stack→∃ sl,h2.get? b=some { o with slots:=sl }:=fun b o q hb=>up b o q (by
  obtain ⟨_,o',q',d⟩:=I.stack.mem hb
  cases q.symm.trans q'
  exact d)
 have notL:∀ b o,X.s₀.heap.get? b=some o→b≠X.env.locals:=fun b o q=>Nat.ne_of_lt (Nat.lt_of_lt_of_le (Heap.lt_size q) I.ok.above)
 have notX:∀ b o,X.s₀.heap.get? b=some o→b∉ex:=fun b o q z=>by
  have:=(hxs b z).2
  rw [q] at this; cases this
 have notF:∀ b o,X.s₀.heap.get? b=some o→b∉X.fs→b∉frs X.stack:=fun b o q n z=>by
  rcases List.mem_cons.mp (I.stkSub b z) with e | e
  ·exact notL b o q e
  ·exact n e
 have young:∀ b,s.heap.get? b=none→X.s₀.heap.get? b=none:=fun b q=>by
  cases e:X.s₀.heap.get? b with
  | none=>rfl
  | some o =>
   obtain ⟨o',z⟩:=I.base.there b o e (nex b)
   rw [q] at z; cases z
 refine ⟨T,⟨fun b o q n hb _=>?_,fun b o q n hb _=>?_,fun b o q n _=>I.base.free b o q n (nex b),fun b o q _=>?_,I.base.tups,I.base.frzs,I.base.tbls⟩,fun a o e=>?_,⟨oe,vs,a0,oT,ts,he,hc,hd,h1,hTe,hT,hdT,h3⟩,(hxs x hx).1,?_,(hxs x hx).2,?_⟩
 ·exact keepS b o (I.base.keep b o q n hb (nex b)) (notF b o q hb) (notX b o q)
 ·obtain ⟨sl,e⟩:=I.base.slot b o q n hb (nex b)
  obtain ⟨sl',e'⟩:=slotS b _ e (zob_ hst hb)
  exact ⟨sl',e'⟩
 ·obtain ⟨o',e⟩:=I.base.there b o q (nex b)
  by_cases hb:b∈frs X.stack
  ·obtain ⟨sl',e'⟩:=slotS b _ e hb
   exact ⟨_,e'⟩
  ·exact ⟨o',keepS b o' e hb (notX b o q)⟩
 ·refine (I.hok a o e).stay (fun b u hb q=>?_) (fun _ q=>q) fun _ _ q=>q
  have tr:∃ o,H b=some o:=by
   rcases hb with rfl | hb
   ·exact ⟨_,e⟩
   ·exact ⟨_,hb⟩
  obtain ⟨ob,tr⟩:=tr
  refine keepS b u q (fun z=>?_) fun z=>?_
  ·rw [I.stkFree b z] at tr; cases tr
  ·rw [(hxs b z).1] at tr; cases tr
 all_goals
  by_cases hTx:T∈ex
  ·first | exact (hxs T hTx).1 | exact (hxs T hTx).2
  by_cases hTf:T∈frs X.stack
  ·obtain ⟨_,o',q',d⟩:=I.stack.mem hTf
   obtain ⟨sl,e'⟩:=slotS T o' q' hTf
   rw [hT] at e'
   cases e'
   exact absurd hdT (d ts)
  have q:s.heap.get? T=none:=by
   cases e:s.heap.get? T with
   | none=>rfl
   | some o =>
    rw [PySem.W.hideAll_get _ e fun z=>(List.mem_append.mp z).elim hTf hTx] at hnT
    cases hnT
  first | exact I.hok.none_at q | exact young T q
end
section
variable {P:Program}{w:World}{K:Fgg}{mg:Str→Option Value}{base:Heap}{N:List Str}{qual:Str}{scope:Scope}{f:Addr}{cd:Value}{A:Around}{outer:List Env}{s0:Shared}{H0:Hp}{E:XK}
theorem zns_ {l:List Env}{more:List Addr}:∀ env∈l,∀ a,env.frame=some a→a∈frs l++more:=fun env he a hf=>List.mem_append_left _ (List.mem_filterMap.mpr ⟨env,he,hf⟩)
noncomputable def Takes (X:Cx) (E:XK):Prop:=∀ (pins:Pnn) (σ:St) (H:Hp) (s:Shared) (h:Heap) (x C:Addr) (args:List Value),Inv X pins σ H s→Heap.MadeExcOf s.heap h x (.ref C) args→E (.ref C) none H→X.xe (.ref x) { s with heap:=h }
theorem zla_:Takes (cxOf (CXx P w) P w K mg base N qual scope f cd A outer s0 H0 E) E:=by
 intro pins σ H s h x C args I hx hE
 have I1:Inv (cxOf (CXx P w) P w K mg base N qual scope f cd A outer s0 H0 E) pins σ H { s with heap:=h }:=I.kept (t':=s.toks) hx.keeps
 obtain ⟨t,he,htn,ht⟩:=hx.there
 show wpAny _ _ (leaving _ _) _ _ _
 refine wpAny_leaving_firstW (base:=PySem.W.hideAll h (frs (envOfC qual scope s0.heap.objs.size f cd::outer)++[x])) (a0:=.ref t) I.ok.frames (PySem.W.funFrames_hide I1.stack zns_) rfl he (fun b o q=>PySem.W.of_hideAll _ q)
  (PySem.W.hideAll_none _ (List.mem_append_right _ List.mem_cons_self)) rfl rfl rfl fun h2 L=>?_
 obtain ⟨T,u,ok,fly⟩:=zgw_ (ex:=[x]) I1 rfl rfl (fun b hb=>by
  rw [List.mem_singleton.mp hb]
  refine ⟨I.hok.none_at hx.new,?_⟩
  cases e:s0.heap.get? x with
  | none=>exact e
  | some o =>
   obtain ⟨o',z⟩:=I.base.there x o e (fun z=>nomatch z)
   rw [hx.new] at z; cases z) List.mem_cons_self L
 exact ⟨x,T,C,H,rfl,I.os,I.bare,u,ok,fly,hE⟩
theorem ze8_:Passes (CXx P w) (cxOf (CXx P w) P w K mg base N qual scope f cd A outer s0 H0 E) E:=by
 intro pins σ H s e s' I h
 obtain ⟨x,T,C,H',rfl,os,bare,un,ok,fly,hE⟩:=h
 have I1:Inv (cxOf (CXx P w) P w K mg base N qual scope f cd A outer s0 H0 E) pins σ H' s':=I.call' (ch:=[]) os un ok bare (fun b z=>absurd z (by simp))
 obtain ⟨oe,vs,a0,oT,ts,he,hc,hd,h1,hTe,hT,hdT,h3⟩:=fly.obj
 show wpAny _ _ (leaving _ _) _ _ _
 refine wpAny_leaving_nextW (base:=PySem.W.hideAll s'.heap (frs (envOfC qual scope s0.heap.objs.size f cd::outer)++[x,T])) (cls:=.ref C) (a0:=a0) I.ok.frames (PySem.W.funFrames_hide I1.stack zns_) rfl
  ⟨oe,vs,T,oT,ts,he,hc,hd,h1,PySem.W.hideAll_none _ (List.mem_append_right _ (List.mem_cons_of_mem _ List.mem_cons_self)),hTe,hT,hdT,h3⟩ (fun b o q=>PySem.W.of_hideAll _ q)
  (PySem.W.hideAll_none _ (List.mem_append_right _ List.mem_cons_self)) fun h2 L=>?_
 have old:∀ b,s.heap.get? b=none→s0.heap.get? b=none:=fun b q=>by
  cases e:s0.heap.get? b with
  | none=>rfl
  | some o =>
   obtain ⟨o',z⟩:=I.base.there b o e (fun z=>nomatch z)
   rw [q] at z; cases z
 obtain ⟨T2,u,ok2,fly2⟩:=zgw_ (ex:=[x,T]) I1 rfl rfl (fun b hb=>by
  rcases List.mem_cons.mp hb with rfl | hb
  ·exact ⟨fly.hx,old _ fly.nx⟩
  ·rw [List.mem_singleton.mp hb]
   exact ⟨fly.hT,old _ fly.nT⟩) List.mem_cons_self L
 exact ⟨x,T2,C,H',rfl,I1.os,I1.bare,u,ok2,fly2,hE⟩
end
end L2
namespace L2
open PySem PySem.Spec PyProof.Rows
noncomputable abbrev bmV:List Value:=[.type "ValueError",.type "Exception",.type "BaseException",.type "object"]
noncomputable def excK (K:Fgg) (C:Addr):Bool:=PySem.W.excIn K C bmV "ValueError.__new__"
noncomputable def gA (K:Fgg) (x:Str):Addr:=match PySem.W.nsIn K mainGlobals x with | some (some (.ref c))=>c | _=>0
theorem gA_of {K:Fgg}{x:Str}{c:Addr}(h:PySem.W.nsIn K mainGlobals x=some (some (.ref c))):gA K x=c:=by unfold gA; rw [h]
theorem znq_ {K:Fgg}{h:Heap}{C:Addr}(kin:K.In h) (q:excK K C=true) :
  ∃ nm qn N bs bm hd sn sub ab col dd k0 k1 k2 k3 k5 mN,h.get? C=some (excClassObj nm qn C N bs bm hd sn sub ab col dd k0 k1 k2 k3 k5 "ValueError.__new__")∧h.Ns N mN∧mN "__init__" = none∧OwnTail h bmV bm:=by
 unfold excK PySem.W.excIn at q
 split at q
 case h_2=>cases q
 case h_1 dx cx slx at1 =>
  split at q
  case h_2=>cases q
  case h_1 Cx tl y0 y1 y2 y3 yn y5 m1 m2 =>
   rw [Bool.and_eq_true,Bool.and_eq_true,Bool.and_eq_true,Bool.and_eq_true,Bool.and_eq_true] at q
   obtain ⟨⟨⟨⟨⟨q1,q2⟩,q3⟩,q4⟩,q5⟩,q6⟩:=q
   replace q1:=beq_iff_eq.mp q1
   replace q2:=beq_iff_eq.mp q2
   replace q6:=beq_iff_eq.mp q6
   replace q3:cx.hasDel=false:=by simpa using q3
   subst q1 q2
   cases cx
   dsimp only at m1 q3 q5 q6
   subst m1 q3
   cases slx
   dsimp only at m2
   subst m2
   exact ⟨_,_,_,_,tl,_,_,_,_,_,dx,y0,y1,y2,y3,y5,_,kin _ _ at1,.of_isNs (PySem.W.isNs_of_in kin q5),PySem.W.nsMap_none_of_in kin q5 q6,PySem.W.tail_of_in kin q4⟩
section
variable {X:Cx}{E:XK}{C:Addr}{x:Str}{e:Expr}{es:List Expr}{t:TA}{np cpos pos:Pos}
noncomputable def tRaise (C:Addr) (E:XK) (t:TA):TS:=fun _ σ H=>t σ H fun vs H1=>vs.length≤100∧E (.ref C) none H1
theorem zlG_ (hT:Takes X E) (hcm:X.calm=true) (hq:excK X.K C=true) (hm:X.mg x=some (.ref C)) (ha:PA X (e::es) t) (hg:Gl X x:=by rfl) (hdb:(x == ("__debug__" : Str))=false:=by decide)
  (he:starEach (e::es) X.env=(false,eval e X.env)::starEach es X.env:=by rfl) (hpl:(backTo cpos (starEach es X.env)).any (·.1)=false:=by rfl) :
  PS X (.Raise (some (.Call (.Name x np) (e::es) [] cpos)) none pos) (tRaise C E t):=by
 intro pins s σ H D I h
 obtain ⟨nm,qn,N,bs,bm,hd,sn,sub,ab,col,dd,k0,k1,k2,k3,k5,mN,hC,hN,hni,TL⟩:=znq_ I.ok.mod.kin hq
 refine wpAny_Raise_call_subU (C:=C) (nm:=nm) (q:=qn) (N:=N) (bs:=bs) (bm:=bm) (hdct:=hd) (sn:=sn) (sub:=sub) (ab:=ab) (col:=col) (dd:=dd) (k0:=k0) (k1:=k1) (k2:=k2) (k3:=k3) (k5:=k5)
  PySem.F.excBase_ValueError (by decide) PySem.F.excBase_ValueError (mN:=mN) (TL.hasType rfl) (I.ok.hd hcm) (by rw [he]; show (false || (backTo cpos (starEach es X.env)).any (·.1))=false; rw [hpl]; rfl) hni (zhX_ I hg hm ⟨rfl,?_⟩ hdb)
 have h2:=ha cpos pins s σ H _ I h
 rw [he] at h2 ⊢
 refine Calls.evalArgs_plain (wpAny_mono h2 (fun us s1 q=>?_) fun _ _ y=>y)
 obtain ⟨vs,H1,I1,r,hl,q⟩:=q
 refine ⟨rfl,?_,I1.bk _ _ hC,hN.keeps I1.bk,TL.keeps I1.bk,fun h' a hmade=>hT pins σ H1 s1 h' a C _ I1 hmade q⟩
 show us.length≤sizeLine
 rw [← r.length]
 exact Nat.le_trans hl (by rw [sizeLine_eq]; decide)
end
section
variable {X:Cx}{a:Expr}{ta:TE}{pos:Pos}
noncomputable def mRepr:V→Hp→VK→Prop:=fun x H Q=>match x with | .str z=>(reprText z).length≤sizeLine∧Q (.str (reprText z)) H | _=>False
theorem znR_ (ha:PE X a ta):PE X (.FormattedValue a 114 none pos) (tUn mRepr ta):=by
 intro pins s σ H Q I h
 refine wpAny_FormattedValue_repr (thn (ha pins s σ H _ I h) fun v s1 ⟨x,H1,I1,r1,q1⟩=>?_)
 cases x with
 | str z =>
  obtain ⟨k,rfl⟩:=r1
  refine wpAny_pyReprObj_gives (T := "str") (typeIs_str _ _ _) PySem.F.slot_str_repr PySem.F.entry_str_repr (PySem.F.args_str_repr_1 _) (gives_str_repr z k) ?_ rfl q1.1
  exact wpAny_formatField_str ⟨.str (reprText z),H1,I1.tok _,⟨_,rfl⟩,q1.2⟩ ⟨.str (reprText z),H1,(I1.tok _).tok _,⟨_,rfl⟩,q1.2⟩ q1.1
 | _=>exact q1.elim
noncomputable abbrev TJ:=Str→St→Hp→(Str→Hp→Prop)→Prop
noncomputable def PJ (X:Cx) (vs:List Expr) (t:TJ):Prop:=∀ (acc:Str) (pins:Pnn) (s:Shared) (σ:St) (H:Hp) (Q:Str→Shared→Prop) (R:Str→Hp→Prop),Inv X pins σ H s→t acc σ H R→(∀ out s1 H1,Inv X pins σ H1 s1→R out H1→Q out s1) →
 Joins (model X.prog X.w) X.A X.xe (evalEach vs X.env) acc Q s
noncomputable def tJ0:TJ:=fun acc _ H R=>R acc H
noncomputable def tJ1 (ta:TE) (tr:TJ):TJ:=fun acc σ H R=>ta σ H fun x H1=>match x with | .str z=>(acc++z).length≤sizeLine∧tr (acc++z) σ H1 R | _=>False
theorem zow_:PJ X [] tJ0:=fun acc pins s σ H Q R I h hq=>hq acc s H I h
theorem zko_ {vs:List Expr}{tr:TJ}(ha:PE X a ta) (hr:PJ X vs tr) (he:evalEach (a::vs) X.env=eval a X.env::evalEach vs X.env:=by rfl):PJ X (a::vs) (tJ1 ta tr):=by
 intro acc pins s σ H Q R I h hq
 rw [he]
 refine wpAny_mono (ha pins s σ H _ I h) (fun v s1 q=>?_) fun _ _ y=>y
 obtain ⟨x,H1,I1,r1,q1⟩:=q
 cases x with
 | str z =>
  obtain ⟨k,rfl⟩:=r1
  exact ⟨z,k,rfl,q1.1,hr (acc++z) pins s1 σ H1 Q R I1 q1.2 hq⟩
 | _=>exact q1.elim
noncomputable def tJoin (tj:TJ):TE:=fun σ H Q=>tj Str.empty σ H fun out H1=>out.length≤sizeLine∧Q (.str out) H1
theorem zkb_ {b:Expr}{vs:List Expr}{tj:TJ}(h:PJ X (a::b::vs) tj):PE X (.JoinedStr (a::b::vs) pos) (tJoin tj):=by
 intro pins s σ H Q I q
 refine wpAny_JoinedStr (h Str.empty pins s σ H _ _ I q fun out s1 H1 I1 q1=>⟨q1.1,.str out,H1,I1.tok _,⟨_,rfl⟩,q1.2⟩)
end
end L2
namespace LX
open PySem PySem.W PySem.Calls PyProof.Rows Builtin Builtin.ObjectAttr Builtin.Getset_descriptor
section
variable {prog:Program}{w:World}{A:Around}{K:Frag}{x D:Addr}
end
end LX
namespace L2
open PySem PySem.Spec PyProof.Rows
end L2
namespace L2
open PySem PySem.Spec PyProof.Rows
section
variable {X:Cx}{k:Nat}{x:Str}{ps:List Str}{sp:Sp}{E:XK}{p pos:Pos}{e:Expr}{es:List Expr}{t:TA}
theorem zee_ (G:Gd X.prog X.w X.K X.mg X.base (CXx X.prog X.w) k x ps sp) (hr:Room k X.A) (hx:Passes (CXx X.prog X.w) X E) (ha:PA X (e::es) t) (hg:Gl X x:=by rfl) (hdb:(x == ("__debug__" : Str))=false:=by decide)
  (he:starEach (e::es) X.env=(false,eval e X.env)::starEach es X.env:=by rfl) (hpl:(backTo pos (starEach es X.env)).any (·.1)=false:=by rfl) :
  PE X (.Call (.Name x p) (e::es) [] pos) (tCall sp [] E t):=by
 obtain ⟨f,fd,F,hm,hk,hb⟩:=G
 exact zkC_ F hr hg hm hk hb .nil hx ha hdb he hpl
end
noncomputable def XP (X:Cx) (pins:Pnn) (W:St→XK) (e:Value) (s':Shared):Prop:=∃ σ' Hb sb,Inv X pins σ' Hb sb∧CXx X.prog X.w X.stack Hb sb (W σ') e s'
noncomputable abbrev TX:=Ends→(St→XK)→St→Hp→Prop
section
variable {X:Cx}{st:Stmt}{rest:List Stmt}{t u:TX}{k:Nat}{x:Str}{ps:List Str}{sp:Sp}{p pos pos':Pos}{e:Expr}{es:List Expr}{ta:TA}
end
section
variable {X:Cx}{pins:Pnn}{σ:St}{Hb H':Hp}{sb s1:Shared}{x T C:Addr}
end
end L2
namespace L2
open PySem PySem.Spec PyProof.Rows
section
variable {X:Cx}{body:List Stmt}{tb:TX}{ts:TS}{S:Addr}{sx n:Str}{i:Nat}{b₀:Stmt}{suite:List Stmt}{np hpos pos:Pos}
noncomputable def gone (i:Nat) (D:Ends):Ends:={ nx:=fun σ H=>D.nx (σ.set i none) H,rt:=D.rt,bk:=fun σ H=>D.bk (σ.set i none) H,ct:=fun σ H=>D.ct (σ.set i none) H }
end
end L2
namespace L2
open PySem PySem.Spec PyProof.Rows
section
variable {P:Program}{w:World}{K:Fgg}{mg:Str→Option Value}{base:Heap}
theorem Fun.okX {x qual:Str}{st:Stmt}{f:Addr}{fd:FuncData}{N ps:List Str}{k:Nat}{sp:Sp}(F:Fun K x qual st f fd) (S:FnScope N ps (defScope st)) (len:∀ vs H Q E,sp vs H Q E→vs.length=ps.length)
  (hbody:∀ (cdv:Value) (A:Around) (outer:List Env) (s:Shared) (H:Hp) (vs:List V) (Q:VK) (E:XK),Room k (A.deeper (envOfC qual (defScope st) s.heap.objs.size f cdv))→sp vs H Q E →
   ∃ t,PSs (cxOf (CXx P w) P w K mg base N qual (defScope st) f cdv A outer s H E) (defBody st) t∧t { nx:=fun _ H'=>Q .non H',rt:=Q } (start N vs) H):FnOk P w K mg base (CXx P w) (k+1) f fd ps sp:=by
 obtain ⟨oc,od,kV,doc,pm,an,cdv,ct,osl,rfl,lk,hcd⟩:=F.ex
 exact fn_of lk hcd S len fun A outer s H vs Q E hr hsp=>hbody cdv A outer s H vs Q E hr hsp
end
section
variable {X:Cx}{k:Nat}{x:Str}{ps:List Str}{sp:Sp}{p pos:Pos}{e:Expr}{es:List Expr}{t:TA}
end
end L2
namespace L2
open PySem PySem.Spec PyProof.Rows
section
variable {X:Cx}{k:Nat}{x:Str}{ps:List Str}{sp:Sp}{p pos pos':Pos}{e:Expr}{es:List Expr}{ta:TA}{i:Nat}{y:Str}{py:Pos}
end
noncomputable def SG:List Nat:=[32,48,49,50,51,52,53,54,55,56,57,65,66,67,68,69,70,71,72,73,74,75,76,77,78,79,80,81,82,83,84,85,86,87,88,89,90]
noncomputable def rk (l:List Nat):Option Nat:=match l with | [c]=>SG.findIdx? (· == c) | _=>none
end L2
namespace L2
open PySem PySem.Spec PyProof.Rows
section
variable {X:Cx}
end
section
variable {X:Cx}
noncomputable def intsV (lo hi:Int):List V:=(List.range (hi-lo).toNat).map fun (i:Nat)=>V.int (lo+i)
noncomputable def mList (K:Fgg):List V→Hp→VK→Prop:=fun xs H Q=>match xs with
 | [.ref p]=>(∃ ys,(SqL K H p ys∨SqT K H p ys)∧∀ l,H l=none→Q (.ref l) (upd H l (.lst ys))) ∨
   (∃ lo hi,H p=some (.rng lo hi)∧(-50000≤lo∧lo≤50000 ∧ -50000≤hi∧hi≤50000)∧∀ l,H l=none→Q (.ref l) (upd H l (.lst (intsV lo hi))))
 | _=>False
theorem zl1_ {lo:Int}:∀ {n:Nat}{us:List Value},us.length=n→(∀ (j:Nat) (v:Value),us[j]?=some v→∃ t,v=Value.int (lo+j) t)→Vals ((List.range n).map fun (i:Nat)=>V.int (lo+i)) us
 | n,us,hl,h=>by
  refine paired_of (by rw [List.length_map,List.length_range,hl]) fun j x u hx hu=>?_
  rw [List.getElem?_map] at hx
  cases e:(List.range n)[j]? with
  | none=>rw [e] at hx; cases hx
  | some i =>
   rw [e] at hx; cases hx
   have:=List.getElem?_eq_some_iff.mp e
   obtain ⟨hj,ej⟩:=this
   rw [List.getElem_range] at ej
   subst ej
   exact h j u hu
 where paired_of:∀ {xs:List V}{us:List Value},xs.length=us.length→(∀ (j:Nat) x u,xs[j]?=some x→us[j]?=some u→RelV x u)→Vals xs us
 | [],[],_,_=>.nil
 | x::xs,u::us,hl,h=>.cons (h 0 x u rfl rfl) (paired_of (Nat.succ.inj hl) fun j x u a b=>h (j+1) x u a b)
theorem zce_ (hc:X.calm=true):CallR X (.type "list") (mList X.K):=by
 intro pins s σ H xs us Q I r h
 unfold mList at h
 split at h
 ·rename_i p
  rcases h with ⟨ys,hq,q⟩ | ⟨lo,hi,hp,⟨h1,h2,h3,h4⟩,q⟩
  ·exact zf2_ pins s σ H _ us Q I r ⟨p,ys,rfl,hq,q⟩
  ·obtain ⟨u,rfl,rx⟩:=vals1 r
   cases rx
   obtain ⟨t,u,v,e⟩:=I.hok p _ hp
   have hn:Builtin.Range.rangeSize lo hi 1=(((hi-lo).toNat:Nat):Int):=by rw [rangeSize_one]; split<;>lia
   refine call_list_range (I.ok.hd hc) e (small_one (by lia) (by lia) (by lia) (by lia)) hn (by lia) fun h' tk acc c' kp e' ⟨hs,hi'⟩=>?_
   refine ⟨.ref s.heap.objs.size,_,I.laid (o:=.lst (intsV lo hi)) (t':=tk) kp (Nat.le_refl _) ?_,rfl,q _ (I.hok.fresh (Nat.le_refl _))⟩
   refine ⟨?_,acc.toList,c',zl1_ (by simpa using hs) (fun j v hv=>?_),by simpa using e'⟩
   ·unfold intsV; rw [List.length_map,List.length_range]; exact zcz_ (by lia)
   ·obtain ⟨t,ht⟩:=hi' j v (by simpa using hv)
    exact ⟨t,by rw [ht]; simp⟩
 ·exact h.elim
end
inductive EqD (K:Fgg) (H:Hp):Nat→V→V→Bool→Prop
 | flat {x y:V}(hx:flatV x=true) (hy:flatV y=true):EqD K H 0 x y (eqV x y)
 | lst {n:Nat}{p q:Addr}{xs ys:List V}(e:Nat→Bool) (hp:SqL K H p xs) (hq:SqL K H q ys) (hl:xs.length=ys.length) (h:∀ (i:Nat) x y,xs[i]?=some x→ys[i]?=some y→EqD K H n x y (e i)):EqD K H (n+1) (.ref p) (.ref q) ((List.range xs.length).all e)
 | lstN {n:Nat}{p q:Addr}{xs ys:List V}(hp:SqL K H p xs) (hq:SqL K H q ys) (hl:xs.length≠ys.length):EqD K H n (.ref p) (.ref q) false
 | tup {n:Nat}{p q:Addr}{xs ys:List V}(e:Nat→Bool) (hp:SqT K H p xs) (hq:SqT K H q ys) (h:∀ (i:Nat) x y,xs[i]?=some x→ys[i]?=some y→EqD K H n x y (e i)):EqD K H (n+1) (.ref p) (.ref q) ((List.range (min xs.length ys.length)).all e && xs.length == ys.length)
 | lt {n:Nat}{p q:Addr}{xs ys:List V}(hp:SqL K H p xs) (hq:SqT K H q ys):EqD K H n (.ref p) (.ref q) false
 | tl {n:Nat}{p q:Addr}{xs ys:List V}(hp:SqT K H p xs) (hq:SqL K H q ys):EqD K H n (.ref p) (.ref q) false
 | lf {n:Nat}{p:Addr}{xs:List V}{y:V}(hp:SqL K H p xs) (hy:flatV y=true):EqD K H n (.ref p) y false
 | fl {n:Nat}{p:Addr}{xs:List V}{y:V}(hp:SqL K H p xs) (hy:flatV y=true):EqD K H n y (.ref p) false
 | tf {n:Nat}{p:Addr}{xs:List V}{y:V}(hp:SqT K H p xs) (hy:flatV y=true):EqD K H n (.ref p) y false
 | ft {n:Nat}{p:Addr}{xs:List V}{y:V}(hp:SqT K H p xs) (hy:flatV y=true):EqD K H n y (.ref p) false
 | up {n:Nat}{x y:V}{b:Bool}(h:EqD K H n x y b):EqD K H (n+1) x y b
section
variable {X:Cx}{pins:Pnn}{σ:St}{H:Hp}{s:Shared}
theorem zdv_ {xs:List V}{us:List Value}(r:Vals xs us) {i:Nat}(h:i<us.toArray.size):∃ x,xs[i]?=some x∧RelV x us.toArray[i]:=by
 have hi:i<us.length:=by simpa using h
 have hl:=r.length
 obtain ⟨u,hu,ru⟩:=r.get (List.getElem?_eq_getElem (show i<xs.length by lia))
 refine ⟨_,List.getElem?_eq_getElem (by lia),?_⟩
 rw [List.getElem?_eq_getElem hi] at hu
 cases hu
 simpa using ru
theorem ziJ_ (I:Inv X pins σ H s) {n:Nat}{x y:V}{b:Bool}(h:EqD X.K H n x y b):x=y→b=true:=by
 induction h with
 | flat hx hy =>
  rename_i x y
  rintro rfl
  cases x<;>first | (cases hx; done) | (simp [eqV]; done) | rfl
 | lst e hp hq hl h ih =>
  rename_i n p q xs ys
  intro e0
  cases e0
  have exy:=I.list_inj hp hq
  subst exy
  rw [List.all_eq_true]
  intro i hi
  have hi:=List.mem_range.mp hi
  exact ih i _ _ (List.getElem?_eq_getElem hi) (List.getElem?_eq_getElem hi) rfl
 | lstN hp hq hl =>
  intro e0
  cases e0
  exact absurd (by rw [I.list_inj hp hq]) hl
 | tup e hp hq h ih =>
  rename_i n p q xs ys
  intro e0
  cases e0
  have exy:=I.tuple_inj hp hq
  subst exy
  rw [Bool.and_eq_true,List.all_eq_true]
  refine ⟨?_,by simp⟩
  intro i hi
  have hi:=List.mem_range.mp hi
  have hi:i<xs.length:=by lia
  exact ih i _ _ (List.getElem?_eq_getElem hi) (List.getElem?_eq_getElem hi) rfl
 | lt hp hq =>
  intro e0
  cases e0
  obtain ⟨its,r1,p1,z1⟩:=I.list hp
  obtain ⟨its2,r2,p2,z2⟩:=I.tuple hq
  exact absurd rfl (SeqAt.ne_of_list_tuple p1.isList p2)
 | tl hp hq =>
  intro e0
  cases e0
  obtain ⟨its,r1,p1,z1⟩:=I.tuple hp
  obtain ⟨its2,r2,p2,z2⟩:=I.list hq
  exact absurd rfl (SeqAt.ne_of_list_tuple p2.isList p1)
 | lf hp hy=>rintro rfl; cases hy
 | fl hp hy=>rintro rfl; cases hy
 | tf hp hy=>rintro rfl; cases hy
 | ft hp hy=>rintro rfl; cases hy
 | up h ih=>exact ih
theorem zjt_ (I:Inv X pins σ H s) {n:Nat}{x y:V}{b:Bool}(h:EqD X.K H n x y b):∀ (A:Around) (v u:Value),A.units+n<cLine→RelV x v→RelV y u →
  SeqAt.EqAt A s v u b∧(∀ p q,x=.ref p→y=.ref q→SeqAt.RcAt A s v u b):=by
 induction h with
 | flat hx hy =>
  intro A v u _ rx ry
  refine ⟨zlo_ rx ry hx hy,fun p q e _=>?_⟩
  subst e; cases hx
 | lst e hp hq hl h ih =>
  rename_i n p q xs ys
  intro A v u hu rx ry
  cases rx; cases ry
  obtain ⟨its,r1,p1,z1⟩:=I.list hp
  obtain ⟨its2,r2,p2,z2⟩:=I.list hq
  have l1:=r1.length
  have l2:=r2.length
  have rc:SeqAt.RcAt A s (.ref p) (.ref q) ((List.range xs.length).all e):=by
   have:=SeqAt.RcAt.lists (A:=A) (e:=e) p1.isList p2.isList (by simp only [List.size_toArray]; lia) (by lia) (fun j h1 h2=>by
    obtain ⟨x,ex,rx⟩:=zdv_ r1 h1
    obtain ⟨y,ey,ry⟩:=zdv_ r2 h2
    exact (ih j x y ex ey A.in1 _ _ (by show A.units+1+n<_; lia) rx ry).1)
   rw [List.size_toArray,← l1] at this
   exact this
  refine ⟨?_,fun _ _ _ _=>rc⟩
  by_cases hpq:p=q
  ·subst hpq
   have exy:=I.list_inj hp hq
   subst exy
   have:(List.range xs.length).all e=true:=by
    rw [List.all_eq_true]
    intro i hi
    have hi:=List.mem_range.mp hi
    exact ziJ_ I (h i _ _ (List.getElem?_eq_getElem hi) (List.getElem?_eq_getElem hi)) rfl
   rw [this]
   exact SeqAt.EqAt.same _
  ·exact .of_refs hpq rc
 | lstN hp hq hl =>
  rename_i n p q xs ys
  intro A v u hu rx ry
  cases rx; cases ry
  obtain ⟨its,r1,p1,z1⟩:=I.list hp
  obtain ⟨its2,r2,p2,z2⟩:=I.list hq
  have l1:=r1.length
  have l2:=r2.length
  have rc:SeqAt.RcAt A s (.ref p) (.ref q) false:=SeqAt.RcAt.lists_lengths p1.isList p2.isList (by simp only [List.size_toArray,bne_iff_ne,ne_eq]; lia) (by lia)
  refine ⟨.of_refs (fun e=>?_) rc,fun _ _ _ _=>rc⟩
  subst e
  exact hl (by rw [I.list_inj hp hq])
 | tup e hp hq h ih =>
  rename_i n p q xs ys
  intro A v u hu rx ry
  cases rx; cases ry
  obtain ⟨its,r1,p1,z1⟩:=I.tuple hp
  obtain ⟨its2,r2,p2,z2⟩:=I.tuple hq
  have l1:=r1.length
  have l2:=r2.length
  have rc:SeqAt.RcAt A s (.ref p) (.ref q) ((List.range (min xs.length ys.length)).all e && xs.length == ys.length):=by
   have:=SeqAt.RcAt.tuples (A:=A) (e:=e) (show s.heap.IsTuple p its.toArray from p1) (show s.heap.IsTuple q its2.toArray from p2) (by lia) (fun j h1 h2=>by
    obtain ⟨x,ex,rx⟩:=zdv_ r1 h1
    obtain ⟨y,ey,ry⟩:=zdv_ r2 h2
    exact (ih j x y ex ey A.in1 _ _ (by show A.units+1+n<_; lia) rx ry).1)
   rw [List.size_toArray,List.size_toArray,← l1,← l2] at this
   exact this
  refine ⟨?_,fun _ _ _ _=>rc⟩
  by_cases hpq:p=q
  ·subst hpq
   have exy:=I.tuple_inj hp hq
   subst exy
   have:((List.range (min xs.length xs.length)).all e && xs.length == xs.length)=true:=by
    rw [Bool.and_eq_true,List.all_eq_true]
    refine ⟨?_,by simp⟩
    intro i hi
    have hi:=List.mem_range.mp hi
    have hi:i<xs.length:=by lia
    exact ziJ_ I (h i _ _ (List.getElem?_eq_getElem hi) (List.getElem?_eq_getElem hi)) rfl
   rw [this]
   exact SeqAt.EqAt.same _
  ·exact .of_refs hpq rc
 | lt hp hq =>
  intro A v u hu rx ry
  cases rx; cases ry
  obtain ⟨its,r1,p1,z1⟩:=I.list hp
  obtain ⟨its2,r2,p2,z2⟩:=I.tuple hq
  exact ⟨.list_tuple p1.isList p2 (by lia),fun _ _ _ _=>.list_tuple p1.isList p2 (by lia)⟩
 | tl hp hq =>
  intro A v u hu rx ry
  cases rx; cases ry
  obtain ⟨its,r1,p1,z1⟩:=I.tuple hp
  obtain ⟨its2,r2,p2,z2⟩:=I.list hq
  exact ⟨.tuple_list p1 p2.isList (by lia),fun _ _ _ _=>.tuple_list p1 p2.isList (by lia)⟩
 | lf hp hy =>
  rename_i n p xs y
  intro A v u hu rx ry
  cases rx
  obtain ⟨its,r1,p1,z1⟩:=I.list hp
  refine ⟨?_,fun _ _ _ e=>by subst e; cases hy⟩
  cases y with
  | non=>cases ry; exact .list_none p1.isList (by lia)
  | bl b=>cases ry; exact .list_bool b p1.isList (by lia)
  | int b=>obtain ⟨t,rfl⟩:=ry; exact .list_int b t p1.isList (by lia)
  | str b=>obtain ⟨t,rfl⟩:=ry; exact .list_str b t p1.isList (by lia)
  | _=>cases hy
 | fl hp hy =>
  rename_i n p xs y
  intro A v u hu rx ry
  cases ry
  obtain ⟨its,r1,p1,z1⟩:=I.list hp
  refine ⟨?_,fun _ _ e _=>by subst e; cases hy⟩
  cases y with
  | non=>cases rx; exact .none_list p1.isList (by lia)
  | bl b=>cases rx; exact .bool_list b p1.isList (by lia)
  | int b=>obtain ⟨t,rfl⟩:=rx; exact .int_list b t p1.isList (by lia)
  | str b=>obtain ⟨t,rfl⟩:=rx; exact .str_list b t p1.isList (by lia)
  | _=>cases hy
 | tf hp hy =>
  rename_i n p xs y
  intro A v u hu rx ry
  cases rx
  obtain ⟨its,r1,p1,z1⟩:=I.tuple hp
  refine ⟨?_,fun _ _ _ e=>by subst e; cases hy⟩
  cases y with
  | non=>cases ry; exact .tuple_none p1 (by lia)
  | bl b=>cases ry; exact .tuple_bool b p1 (by lia)
  | int b=>obtain ⟨t,rfl⟩:=ry; exact .tuple_int b t p1 (by lia)
  | str b=>obtain ⟨t,rfl⟩:=ry; exact .tuple_str b t p1 (by lia)
  | _=>cases hy
 | ft hp hy =>
  rename_i n p xs y
  intro A v u hu rx ry
  cases ry
  obtain ⟨its,r1,p1,z1⟩:=I.tuple hp
  refine ⟨?_,fun _ _ e _=>by subst e; cases hy⟩
  cases y with
  | non=>cases rx; exact .none_tuple p1 (by lia)
  | bl b=>cases rx; exact .bool_tuple b p1 (by lia)
  | int b=>obtain ⟨t,rfl⟩:=rx; exact .int_tuple b t p1 (by lia)
  | str b=>obtain ⟨t,rfl⟩:=rx; exact .str_tuple b t p1 (by lia)
  | _=>cases hy
 | up h ih =>
  intro A v u hu rx ry
  exact ih A v u (by lia) rx ry
end
section
variable {X:Cx}
noncomputable def mEqK (K:Fgg):R2:=fun x y H Q=>match x,y with
 | .ref p,.ref q=>∃ n b,n≤50∧EqD K H n (.ref p) (.ref q) b∧Q (.bl b) H
 | _,_=>mEq x y H Q
noncomputable def mNeK (K:Fgg):R2:=fun x y H Q=>match x,y with
 | .ref p,.ref q=>∃ n b,n≤50∧EqD K H n (.ref p) (.ref q) b∧Q (.bl (!b)) H
 | _,_=>mNe x y H Q
theorem za9_ (hu:X.A.units+60<cLine):OpR X (compareOp .Eq) (mEqK X.K):=by
 intro pins s σ H x y v u Q I rx ry h
 unfold mEqK at h
 split at h
 ·rename_i p q
  obtain ⟨n,b,hn,h,q⟩:=h
  have:=(zjt_ I h X.A v u (by lia) rx ry).2 _ _ rfl rfl
  exact this X.prog X.w X.xe _ ⟨.bl b,H,I,rfl,q⟩
 ·exact zoB_ pins s σ H x y v u Q I rx ry h
end
section
variable {X:Cx}{pins:Pnn}{σ:St}{H:Hp}{s:Shared}
theorem zoI_ (I:Inv X pins σ H s) {n:Nat}{x y:V}{b:Bool}(h:EqD X.K H n x y b):∀ (A:Around) (v u:Value),A.units+n<cLine→RelV x v→RelV y u→∀ p q,x=.ref p→y=.ref q→SeqAt.RcNeAt A s v u (!b):=by
 induction h with
 | flat hx hy=>intro A v u _ rx ry p q e _; subst e; cases hx
 | lst e hp hq hl h ih =>
  rename_i n p q xs ys
  intro A v u hu rx ry _ _ _ _
  cases rx; cases ry
  obtain ⟨its,r1,p1,z1⟩:=I.list hp
  obtain ⟨its2,r2,p2,z2⟩:=I.list hq
  have l1:=r1.length
  have l2:=r2.length
  have:=SeqAt.RcNeAt.lists (A:=A) (e:=e) p1.isList p2.isList (by simp only [List.size_toArray]; lia) (by lia) (fun j h1 h2=>by
   obtain ⟨x,ex,rx⟩:=zdv_ r1 h1
   obtain ⟨y,ey,ry⟩:=zdv_ r2 h2
   exact (zjt_ I (h j x y ex ey) A.in1 _ _ (by show A.units+1+n<_; lia) rx ry).1)
  rw [List.size_toArray,← l1] at this
  exact this
 | lstN hp hq hl =>
  intro A v u hu rx ry _ _ _ _
  cases rx; cases ry
  obtain ⟨its,r1,p1,z1⟩:=I.list hp
  obtain ⟨its2,r2,p2,z2⟩:=I.list hq
  have l1:=r1.length
  have l2:=r2.length
  exact SeqAt.RcNeAt.lists_lengths p1.isList p2.isList (by simp only [List.size_toArray,bne_iff_ne,ne_eq]; lia) (by lia)
 | tup e hp hq h ih =>
  rename_i n p q xs ys
  intro A v u hu rx ry _ _ _ _
  cases rx; cases ry
  obtain ⟨its,r1,p1,z1⟩:=I.tuple hp
  obtain ⟨its2,r2,p2,z2⟩:=I.tuple hq
  have l1:=r1.length
  have l2:=r2.length
  have:=SeqAt.RcNeAt.tuples (A:=A) (e:=e) (show s.heap.IsTuple p its.toArray from p1) (show s.heap.IsTuple q its2.toArray from p2) (by lia) (fun j h1 h2=>by
   obtain ⟨x,ex,rx⟩:=zdv_ r1 h1
   obtain ⟨y,ey,ry⟩:=zdv_ r2 h2
   exact (zjt_ I (h j x y ex ey) A.in1 _ _ (by show A.units+1+n<_; lia) rx ry).1)
  rw [List.size_toArray,List.size_toArray,← l1,← l2] at this
  exact this
 | lt hp hq =>
  intro A v u hu rx ry _ _ _ _
  cases rx; cases ry
  obtain ⟨its,r1,p1,z1⟩:=I.list hp
  obtain ⟨its2,r2,p2,z2⟩:=I.tuple hq
  exact .list_tuple p1.isList p2 (by lia)
 | tl hp hq =>
  intro A v u hu rx ry _ _ _ _
  cases rx; cases ry
  obtain ⟨its,r1,p1,z1⟩:=I.tuple hp
  obtain ⟨its2,r2,p2,z2⟩:=I.list hq
  exact .tuple_list p1 p2.isList (by lia)
 | lf hp hy=>intro A v u hu rx ry _ _ _ e; subst e; cases hy
 | fl hp hy=>intro A v u hu rx ry _ _ e _; subst e; cases hy
 | tf hp hy=>intro A v u hu rx ry _ _ _ e; subst e; cases hy
 | ft hp hy=>intro A v u hu rx ry _ _ e _; subst e; cases hy
 | up h ih=>intro A v u hu rx ry; exact ih A v u (by lia) rx ry
theorem zhf_ (hu:X.A.units+60<cLine):OpR X (compareOp .NotEq) (mNeK X.K):=by
 intro pins s σ H x y v u Q I rx ry h
 unfold mNeK at h
 split at h
 ·rename_i p q
  obtain ⟨n,b,hn,h,q⟩:=h
  have:=zoI_ I h X.A v u (by lia) rx ry _ _ rfl rfl
  exact this X.prog X.w X.xe _ ⟨.bl (!b),H,I,rfl,q⟩
 ·exact zon_ pins s σ H x y v u Q I rx ry h
end
theorem Room.u60 {k:Nat}{A:Around}(r:Room k A):A.units+60<cLine:=by have:=r.units; lia
end L2
namespace LX
open PySem Builtin Builtin.Str
section
variable {prog:Program}{w:World}{A:Around}{E:Value→Shared→Prop}{s:Shared}{x:Str}{t:Tok}{Q:Value→Shared→Prop}
end
end LX
namespace L2
open PySem PySem.Spec PyProof.Rows
section
variable {X:Cx}
end
section
variable {X:Cx}{a b c d:Expr}{ta tb tc td:TE}{pos:Pos}
end
end L2
namespace L2
open PySem PySem.Spec PyProof.Rows
section
variable {κ:Type} [DecidableEq κ]
noncomputable def valV (kvs:List (κ×V)) (k:κ):Option V:=(kvs.find? fun kv=>decide (kv.1=k)).map (·.2)
noncomputable def putK (kvs:List (κ×V)) (k:κ) (v:V):List (κ×V) :=
 if (kvs.any fun kv=>decide (kv.1=k))=true then kvs.map (fun kv=>if kv.1=k then (kv.1,v) else kv) else kvs++[(k,v)]
theorem zgo_ {p:κ×V}{r:List (κ×V)}{k:κ}(e:p.1=k):valV (p::r) k=some p.2:=by simp [valV,List.find?_cons,e]
theorem zga_ {p:κ×V}{r:List (κ×V)}{k:κ}(e:¬ p.1=k):valV (p::r) k=valV r k:=by simp [valV,List.find?_cons,e]
theorem ziV_ (k:κ):∀ kvs:List (κ×V),(kvs.any fun kv=>decide (kv.1=k))=(valV kvs k).isSome
 | []=>rfl
 | p::r=>by
  rw [List.any_cons]
  by_cases e:p.1=k
  ·simp only [zgo_ e,decide_eq_true e,Bool.true_or,Option.isSome_some]
  ·rw [zga_ e,decide_eq_false e,Bool.false_or]; exact ziV_ k r
theorem zds_ (kvs:List (κ×V)) (k:κ) (v:V):(putK kvs k v).length≤kvs.length+1:=by
 unfold putK
 split
 ·rw [List.length_map]; lia
 ·rw [List.length_append,List.length_cons,List.length_nil]; lia
theorem RelO.isSome_eq {o:Option V}{u:Option Value}(r:RelO o u):o.isSome=u.isSome:=by
 cases o with
 | none=>cases u with
  | none=>rfl
  | some _=>exact (show False from r).elim
 | some _=>cases u with
  | none=>exact (show False from r).elim
  | some _=>rfl
theorem RelO.getD {o:Option V}{u:Option Value}{d:V}{d':Value}(r:RelO o u) (rd:RelV d d'):RelV (o.getD d) (u.getD d'):=by
 cases o with
 | none=>cases u with
  | none=>exact rd
  | some _=>exact (show False from r).elim
 | some _=>cases u with
  | none=>exact (show False from r).elim
  | some _=>exact r
theorem KV.val {kvs:List (κ×V)}{vs:List (κ×Value)}(r:KV kvs vs) (k:κ):RelO (valV kvs k) (valueAt vs k):=by
 unfold KV at r
 induction r with
 | nil=>exact True.intro
 | @cons p q ps qs h t ih =>
  obtain ⟨h1,h2⟩:=h
  by_cases e:p.1=k
  ·have e':q.1=k:=h1.symm.trans e
   have b:valueAt (q::qs) k=some q.2:=by simp [valueAt,List.find?_cons,e']
   rw [zgo_ e,b]; exact h2
  ·have e':¬ q.1=k:=fun z=>e (h1.trans z)
   have b:valueAt (q::qs) k=valueAt qs k:=by simp [valueAt,List.find?_cons,e']
   rw [zga_ e,b]; exact ih
theorem KV.any {kvs:List (κ×V)}{vs:List (κ×Value)}(r:KV kvs vs) (k:κ):(kvs.any fun kv=>decide (kv.1=k))=vs.any fun kv=>decide (kv.1=k):=by
 unfold KV at r
 induction r with
 | nil=>rfl
 | cons h t ih=>rw [List.any_cons,List.any_cons,ih,h.1]
theorem KV.repl {kvs:List (κ×V)}{vs:List (κ×Value)}(r:KV kvs vs) (k:κ) {y:V}{u:Value}(ry:RelV y u) :
  KV (kvs.map fun kv=>if kv.1=k then (kv.1,y) else kv) (vs.map fun kv=>if kv.1=k then (kv.1,u) else kv):=by
 unfold KV at r ⊢
 induction r with
 | nil=>exact .nil
 | @cons p q ps qs h t ih =>
  rw [List.map_cons,List.map_cons]
  refine .cons ?_ ih
  obtain ⟨h1,h2⟩:=h
  by_cases e:p.1=k
  ·rw [if_pos e,if_pos (h1.symm.trans e)]; exact ⟨h1,ry⟩
  ·rw [if_neg e,if_neg (fun z=>e (h1.trans z))]; exact ⟨h1,h2⟩
theorem KV.put {kvs:List (κ×V)}{vs:List (κ×Value)}(r:KV kvs vs) (k:κ) {y:V}{u:Value}(ry:RelV y u):KV (putK kvs k y) (stored vs k u):=by
 unfold putK stored
 rw [r.any k]
 by_cases e:(vs.any fun kv=>decide (kv.1=k))=true
 ·rw [if_pos e,if_pos e]; exact r.repl k ry
 ·rw [if_neg e,if_neg e]; exact Paired.snoc r ⟨rfl,ry⟩
theorem KV.length {kvs:List (κ×V)}{vs:List (κ×Value)}(r:KV kvs vs):kvs.length=vs.length:=Paired.length r
end
theorem zmb_ {P:Program}{w:World}{k:Key}{u:Value}(r:RelV (kV k) u):(mixKind P w).is k u=true:=by
 cases k with
 | inl i=>obtain ⟨t,e⟩:=(show ∃ t,u=Value.int i t from r); subst e; exact zhj_ P w i t
 | inr x=>obtain ⟨t,e⟩:=(show ∃ t,u=Value.str x t from r); subst e; exact zhm_ P w x t
theorem zgR_ {P:Program}{w:World}:∀ {ks:List Key}{us:List Value},Vals (ks.map kV) us→ItemsAre (mixKind P w) ks us
 | [],_,r=>by rw [List.map_nil] at r; cases r; exact .nil
 | k::ks,_,r=>by
  rw [List.map_cons] at r
  cases r with
  | cons h t=>exact .cons (zmb_ h) (zgR_ t)
noncomputable abbrev KT (H:Hp):List (List Key×V)→List (List Key×Addr×Value)→Prop:=Paired fun p q=>p.1=q.1∧H q.2.1=some (.tup (p.1.map kV))∧RelV p.2 q.2.2
theorem KT.val {H:Hp}{kvs:List (List Key×V)}{xs:List (List Key×Addr×Value)}(r:KT H kvs xs) (k:List Key):RelO (valV kvs k) ((atKey xs k).map (·.2)):=by
 induction r with
 | nil=>exact True.intro
 | @cons p q ps qs h t ih =>
  obtain ⟨h1,_,h2⟩:=h
  by_cases e:p.1=k
  ·have e':q.1=k:=h1.symm.trans e
   have b:atKey (q::qs) k=some q.2:=by simp [atKey,List.find?_cons,e']
   rw [zgo_ e,b]; exact h2
  ·have e':¬ q.1=k:=fun z=>e (h1.trans z)
   have b:atKey (q::qs) k=atKey qs k:=by simp [atKey,List.find?_cons,e']
   rw [zga_ e,b]; exact ih
theorem KT.repl {H:Hp}{kvs:List (List Key×V)}{xs:List (List Key×Addr×Value)}(r:KT H kvs xs) (k:List Key) {y:V}{u:Value}(ry:RelV y u) :
  KT H (kvs.map fun kv=>if kv.1=k then (kv.1,y) else kv) (xs.map (putAt k u)):=by
 induction r with
 | nil=>exact .nil
 | @cons p q ps qs h t ih =>
  rw [List.map_cons,List.map_cons]
  refine .cons ?_ ih
  obtain ⟨h1,h2,h3⟩:=h
  unfold putAt
  by_cases e:p.1=k
  ·rw [if_pos e,if_pos (h1.symm.trans e)]; exact ⟨h1,h2,ry⟩
  ·rw [if_neg e,if_neg (fun z=>e (h1.trans z))]; exact ⟨h1,h2,h3⟩
theorem KT.put {H:Hp}{kvs:List (List Key×V)}{xs:List (List Key×Addr×Value)}(r:KT H kvs xs) (k:List Key) {b:Addr}{y:V}{u:Value}(hb:H b=some (.tup (k.map kV))) (ry:RelV y u) :
  KT H (putK kvs k y) (storedH xs k b u):=by
 have e:(kvs.any fun kv=>decide (kv.1=k))=(atKey xs k).isSome:=by
  rw [ziV_,(r.val k).isSome_eq,Option.isSome_map]
 unfold putK storedH
 rw [e]
 by_cases q:(atKey xs k).isSome=true
 ·rw [if_pos q,if_pos q]; exact r.repl k ry
 ·rw [if_neg q,if_neg q]; exact Paired.snoc r ⟨rfl,hb,ry⟩
theorem KT.keeps {H H':Hp}{kvs:List (List Key×V)}{xs:List (List Key×Addr×Value)}(r:KT H kvs xs) (ht:∀ b ys,H b=some (.tup ys)→H' b=some (.tup ys)):KT H' kvs xs :=
 Paired.mapP r fun _ _ z=>⟨z.1,ht _ _ z.2.1,z.2.2⟩
section
variable {P:Program}{w:World}{H:Hp}{h:Heap}{a:Addr}
theorem rd_of {u:HO}(ok:HOk P w H h) (e:Rd H a u):ObjOk P w H h a u:=e.ok ok
theorem zkp_ {kvs:List (Key×V)}(ok:HOk P w H h) (e:Rd H a (.dK kvs)):kvs.length≤sizeLine∧(a == sysModules)=false∧∃ vs,KV kvs vs∧h.DictOf (mixKind P w) a vs :=
 show ObjOk P w H h a (.dK kvs) from rd_of ok e
theorem zmd_ {kvs:List (Key×V)}(ok:HOk P w H h) (e:H a=some (.dK kvs)):kvs.length≤sizeLine∧(a == sysModules)=false∧∃ vs,KV kvs vs∧h.DictOf (mixKind P w) a vs:=zkp_ ok (.inl e)
theorem zgW_ {ks:List Key}(ok:HOk P w H h) (e:H a=some (.tup (ks.map kV))):(tupleKind (mixKind P w)).is h ks a:=by
 obtain ⟨_,its,r,o,h1,h2,n,h3⟩:=(show ObjOk P w H h a (.tup (ks.map kV)) from ok a _ e)
 exact ⟨o,its.toArray,n,h1,h2,h3,by simpa using zgR_ r⟩
theorem zly_ {kvs:List (List Key×V)}(ok:HOk P w H h) (e:Rd H a (.dT kvs)):kvs.length≤sizeLine∧(a == sysModules)=false ∧
  ∃ xs,KT H kvs xs∧h.DictOfH (tupleKind (mixKind P w)) a xs:=by
 obtain ⟨z,y,xs,r,o,es,ep,h1,h2,h3,h4,h5⟩:=(show ObjOk P w H h a (.dT kvs) from rd_of ok e)
 refine ⟨z,y,xs,r,o,es,ep,h1,h2,h3,h4,fun x hx=>?_,h5⟩
 have all:∀ {l:List (List Key×V)}{m:List (List Key×Addr×Value)},KT H l m→∀ x∈m,(tupleKind (mixKind P w)).is h x.1 x.2.1:=by
  intro l m q
  induction q with
  | nil=>intro x hx; exact nomatch hx
  | @cons p q ps qs hq t ih =>
   intro x hx
   rcases List.mem_cons.mp hx with e | hx
   ·subst e
    exact zgW_ ok (by rw [← hq.1]; exact hq.2.1)
   ·exact ih x hx
 exact all r x hx
theorem dt_of {kvs:List (List Key×V)}(ok:HOk P w H h) (e:H a=some (.dT kvs)):kvs.length≤sizeLine∧(a == sysModules)=false ∧
  ∃ xs,KT H kvs xs∧h.DictOfH (tupleKind (mixKind P w)) a xs:=zly_ ok (.inl e)
end
noncomputable def DGet (H:Hp) (a:Addr) (y:V) (r:Option V):Prop :=
 (∃ kvs k,Rd H a (.dK kvs)∧y=kV k∧r=valV kvs k)∨∃ kvs k b,Rd H a (.dT kvs)∧y=.ref b∧H b=some (.tup (k.map kV))∧r=valV kvs k
noncomputable def DPut (H:Hp) (a:Addr) (y v:V) (H':Hp):Prop :=
 (∃ kvs k,H a=some (.dK kvs)∧y=kV k∧kvs.length<sizeLine∧H'=upd H a (.dK (putK kvs k v))) ∨
 ∃ kvs k b,H a=some (.dT kvs)∧y=.ref b∧H b=some (.tup (k.map kV))∧kvs.length<sizeLine∧H'=upd H a (.dT (putK kvs k v))
theorem DGet.k {H:Hp}{a:Addr}{kvs:List (Key×V)}{k:Key}(e:H a=some (.dK kvs)):DGet H a (kV k) (valV kvs k):=.inl ⟨kvs,k,.inl e,rfl,rfl⟩
theorem DPut.k {H:Hp}{a:Addr}{kvs:List (Key×V)}{k:Key}{v:V}(e:H a=some (.dK kvs)) (hl:kvs.length<sizeLine):DPut H a (kV k) v (upd H a (.dK (putK kvs k v))):=.inl ⟨kvs,k,e,rfl,hl,rfl⟩
section
variable {X:Cx}{pins:Pnn}{σ:St}{H:Hp}{s:Shared}{a:Addr}{y v:V}{u r:Value}{o:Option V}{A:Around}{E:Value→Shared→Prop}
theorem Inv.big (I:Inv X pins σ H s):sysModules<s.heap.objs.size:=by
 have h:mainGlobals<s.heap.objs.size:=(I.mod.glob.keeps I.bk).lt
 exact Nat.lt_trans (by decide) h
theorem zjT_ {Q:Value→Shared→Prop}(hu:A.units+1<cLine) (I:Inv X pins σ H s) (g:DGet H a y (some v)) (ry:RelV y u) (h:∀ w' s',Inv X pins σ H s'→RelV v w'→Q w' s') :
  wpAny (model X.prog X.w) A (getItem (.ref a) u) Q E s:=by
 rcases g with ⟨kvs,k,e,ey,l⟩ | ⟨kvs,k,b,e,ey,eb,l⟩
 ·subst ey
  obtain ⟨z,hd,vs,rel,dd⟩:=zkp_ I.hok e
  obtain ⟨w',hw,rw'⟩:=RelO.some_of (v:=v) (o:=valueAt vs k) (by rw [l]; exact rel.val k)
  exact wpAny_getItem_of (zmb_ ry) dd.mapOf hw (h w' _ (I.tok _) rw')
 ·subst ey
  cases (show u=Value.ref b from ry)
  obtain ⟨z,hd,xs,rel,dd⟩:=zly_ I.hok e
  obtain ⟨w',hw,rw'⟩:=RelO.some_of (v:=v) (o:=(atKey xs k).map (·.2)) (by rw [l]; exact rel.val k)
  obtain ⟨p,hp,hp2⟩:=Option.map_eq_some_iff.mp hw
  refine wpAny_getItem_heap (tupleKind_room_in1 hu) (zgW_ I.hok eb) dd hp ?_
  rw [hp2]
  exact h w' _ (I.tok _) rw'
theorem zmW_ {Q:Value→Shared→Prop}(hu:A.units+1<cLine) (I:Inv X pins σ H s) (g:DGet H a y o) (ry:RelV y u) (h:∀ s',Inv X pins σ H s'→Q (.bool (!o.isSome)) s') :
  wpAny (model X.prog X.w) A (compareOp .NotIn u (.ref a)) Q E s:=by
 rcases g with ⟨kvs,k,e,ey,l⟩ | ⟨kvs,k,b,e,ey,eb,l⟩
 ·subst ey
  obtain ⟨z,hd,vs,rel,dd⟩:=zkp_ I.hok e
  refine wpAny_notIn_of (zmb_ ry) hd dd.mapOf ?_
  rw [← (rel.val k).isSome_eq,← l]
  exact h _ (I.tok _)
 ·subst ey
  cases (show u=Value.ref b from ry)
  obtain ⟨z,hd,xs,rel,dd⟩:=zly_ I.hok e
  refine wpAny_notIn_heap (tupleKind_room_in1 hu) (zgW_ I.hok eb) hd dd ?_
  have q:=(rel.val k).isSome_eq
  rw [Option.isSome_map] at q
  rw [← q,← l]
  exact h _ (I.tok _)
theorem zi5_ {h':Heap}{t':Nat}{ob:HO}(I:Inv X pins σ H s) (mu:Mut (H a)) (hs:Heap.SameBut a s.heap h') (he:∃ q,h'.get? a=some q) (new:ObjOk X.prog X.w (upd H a ob) h' a ob) :
  Inv X pins σ (upd H a ob) { s with heap:=h',toks:=t' } :=
 I.write (x:=a) (e:=a) mu (.inl rfl) (fun b q hb z=>(hs.2 b hb).trans z) he new
theorem zmX_ {P:Program}{w:World}{H':Hp}{h':Heap}{kvs:List (Key×V)}{vs:List (Key×Value)}(z:kvs.length≤sizeLine) (hd:(a == sysModules)=false) (rel:KV kvs vs) (dd:h'.DictOf (mixKind P w) a vs) :
  ObjOk P w H' h' a (.dK kvs):=⟨z,hd,vs,rel,dd⟩
theorem zj7_ {H':Hp}{Q:Unit→Shared→Prop}(hu:A.units+1<cLine) (I:Inv X pins σ H s) (g:DPut H a y v H') (ry:RelV y u) (rv:RelV v r) (h:∀ s',Inv X pins σ H' s'→Q () s') :
  wpAny (model X.prog X.w) A (setItem (.ref a) u r) Q E s:=by
 rcases g with ⟨kvs,k,e,ey,l,eH⟩ | ⟨kvs,k,b,e,ey,eb,l,eH⟩
 ·subst ey eH
  obtain ⟨z,hd,vs,rel,dd⟩:=zmd_ I.hok e
  have hz:vs.length≤sizeLine:=by rw [← rel.length]; exact z
  have hl:(putK kvs k v).length≤sizeLine:=by have:=zds_ kvs k v; lia
  refine wpAny_setItem_pairs (hsz:=hz) (zmb_ ry) dd fun h' dd' hs=>h _ ?_
  have he:∃ q,h'.get? a=some q:=let ⟨q,_,_,hq,_⟩:=dd'; ⟨q,hq⟩
  exact zi5_ I (by rw [e]; exact True.intro) hs he (zmX_ hl hd (rel.put k rv) dd')
 ·subst ey eH
  cases (show u=Value.ref b from ry)
  obtain ⟨z,hd,xs,rel,dd⟩:=dt_of I.hok e
  have hz:xs.length≤sizeLine:=by rw [← Paired.length rel]; exact z
  have hl:(putK kvs k v).length≤sizeLine:=by have:=zds_ kvs k v; lia
  refine wpAny_setItem_heap (hsz:=hz) (tupleKind_room_in1 hu) (zgW_ I.hok eb) dd fun h' dd' hs=>h _ ?_
  obtain ⟨q,es,ep,hq,h2,h3,h4,_,h5⟩:=dd'
  refine zi5_ I (by rw [e]; exact True.intro) hs ⟨q,hq⟩ ⟨hl,hd,_,(rel.put k eb rv).keeps fun c ys ec=>?_,q,es,ep,hq,h2,h3,h4,h5⟩
  rw [zbW_ (ne_of ec e (fun z=>nomatch z))]
  exact ec
end
section
variable {X:Cx}{pins:Pnn}{σ:St}{H:Hp}{s:Shared}{a:Addr}{kvs:List (Key×V)}{k:Key}{u:Value}{A:Around}{E:Value→Shared→Prop}
end
noncomputable def NoSl (i:Expr):Prop:=∀ ov iv,subscripted i false ov iv=operate [ov,iv] (getItem ov iv)
theorem zms_ {prog:Program}{w:World}{A:Around}{E:Value→Shared→Prop}{s:Shared}{env:Env}{value slice:Expr}{pos:Pos}{T id:String}{Q:Value→Shared→Prop}
  (hl:typeLookup (.type T) "__getitem__" = pure (some (.builtin id))) (hs:NoSl slice)
  (h:wpAny (model prog w) A (eval value env) (fun o s₁=>wpAny (model prog w) A (eval slice env) (fun i s₂=>s₂.TypeIs o T∧wpAny (model prog w) A (getItem o i) Q E s₂) E s₁) E s) :
  wpAny (model prog w) A (eval (.Subscript value slice pos) env) Q E s:=by
 refine Subscript_ (wpAny_mono h (fun o s₁ h₁=>wpAny_mono h₁ (fun i s₂ h₂=>?_) fun _ _ x=>x) fun _ _ x=>x)
 obtain ⟨hT,h₂⟩:=h₂
 unfold subscriptTail
 refine wpAny_bind ?_
 rw [getitemInPython_of_ne hT.not_modules]
 refine wpAny_bind (wpAny_specialOf hT hl ?_)
 have fin:wpAny (model prog w) A (subscripted slice false o i) (fun r s₃=>wpAny (model prog w) A (letTemporaryGo value o r>>=fun _=>pure r) Q E s₃) E s₂:=by
  rw [hs o i]
  exact wpAny_operating (wpAny_mono h₂ (fun r s₃ h₃=>wpAny_bind (wpAny_letTemporaryGo (wpAny_pure h₃))) fun _ _ x=>x)
 first
  | exact wpAny_pure (wpAny_bind fin)
  | exact wpAny_bind (wpAny_pure (wpAny_bind fin))
  | exact wpAny_bind fin
theorem zhv_ {X:Cx}{pins:Pnn}{σ:St}{H:Hp}{s:Shared}{a:Addr}{y:V}{o:Option V}(I:Inv X pins σ H s) (g:DGet H a y o):s.TypeIs (.ref a) "dict" := by
 rcases g with ⟨kvs,k,e,_,_⟩ | ⟨kvs,k,b,e,_,_,_⟩
 ·obtain ⟨_,_,vs,_,dd⟩:=zkp_ I.hok e
  exact dd.typeIs
 ·obtain ⟨_,_,xs,_,dd⟩:=zly_ I.hok e
  exact dd.typeIs
section
variable {X:Cx}{o i e value:Expr}{pos pos' tpos:Pos}{td ty tv:TE}
end
theorem zib_ {P:Program}{w:World}{H:Hp}(h:Heap) (hb:sysModules<h.objs.size):ObjOk P w H (h.push { cls:=.type "dict",data:=.dict #[] }) h.objs.size (.dK []) :=
 ⟨Nat.zero_le _,beq_eq_false_iff_ne.mpr (Ne.symm (Nat.ne_of_lt hb)),[],.nil,Heap.DictOf.new h⟩
noncomputable def tDNewK:TE:=fun _ H Q=>∀ p,H p=none→Q (.ref p) (upd H p (.dK []))
section
variable {X:Cx}{pos:Pos}
theorem zlS_:PE X (.Dict [] [] pos) tDNewK:=fun pins s σ H Q I h =>
 wpAny_Dict_empty ⟨.ref s.heap.objs.size,_,I.laid (a:=s.heap.objs.size) (o:=.dK []) (t':=s.toks) (fun _ _ q=>Heap.get?_push_of_some _ q) (Nat.le_refl _) (zib_ s.heap I.big),rfl,h _ (I.hok.fresh (Nat.le_refl _))⟩
end
structure M1 (X:Cx) (o:Expr) (m:Str) (apos:Pos) (e:Expr) (cpos:Pos):Prop where
 base:attributeBase o m X.env (eval o X.env)=eval o X.env
 few:((backTo cpos (starEach [e] X.env)).all (fun x=>!x.1) && (backToKw cpos (keywordEach [] X.env)).all (fun x=>x.1.isSome)
  && decide (([e]:List Expr).length+([]:List Keyword).length+(if ([]:List Keyword).isEmpty then 0 else 1)<30))=true
 line:(apos.endLine == cpos.line)=true
 trees:backTo cpos (starEach [e] X.env)=[(false,eval e X.env)]
structure M2 (X:Cx) (o:Expr) (m:Str) (apos:Pos) (e f:Expr) (cpos:Pos):Prop where
 base:attributeBase o m X.env (eval o X.env)=eval o X.env
 few:((backTo cpos (starEach [e,f] X.env)).all (fun x=>!x.1) && (backToKw cpos (keywordEach [] X.env)).all (fun x=>x.1.isSome)
  && decide (([e,f]:List Expr).length+([]:List Keyword).length+(if ([]:List Keyword).isEmpty then 0 else 1)<30))=true
 line:(apos.endLine == cpos.line)=true
 trees:backTo cpos (starEach [e,f] X.env)=[(false,eval e X.env),(false,eval f X.env)]
noncomputable def IsD (H:Hp) (a:Addr):Prop:=(∃ kvs,Rd H a (.dK kvs))∨∃ kvs,Rd H a (.dT kvs)
theorem zlT_ {X:Cx}{pins:Pnn}{σ:St}{H:Hp}{s:Shared}{a:Addr}(I:Inv X pins σ H s) (d:IsD H a) :
  s.TypeIs (.ref a) "dict" ∧ (∀ b,Value.ref a=.ref b→∃ ob,s.heap.get? b=some ob∧ob.dict=none)∧(a == sysModules)=false:=by
 rcases d with ⟨kvs,e⟩ | ⟨kvs,e⟩
 ·obtain ⟨_,hd,vs,_,dd⟩:=zkp_ I.hok e
  refine ⟨dd.typeIs,fun b q=>?_,hd⟩
  cases q
  obtain ⟨ob,_,_,h1,h2,_⟩:=dd
  exact ⟨ob,h1,h2.2.1⟩
 ·obtain ⟨_,hd,xs,_,dd⟩:=zly_ I.hok e
  refine ⟨dd.typeIs,fun b q=>?_,hd⟩
  cases q
  obtain ⟨ob,_,_,h1,h2,_⟩:=dd
  exact ⟨ob,h1,h2.2.1⟩
section
variable {X:Cx}{pins:Pnn}{σ:St}{H:Hp}{s:Shared}{a:Addr}{y d:V}{u r:Value}{o:Option V}{A:Around}{E:Value→Shared→Prop}
theorem zoA_ {Q:Value→Shared→Prop}(hu:A.units+1<cLine) (I:Inv X pins σ H s) (g:DGet H a y o) (ry:RelV y u) (h:∀ w' s',Inv X pins σ H s'→RelV (o.getD .non) w'→Q w' s') :
  wpAny (model X.prog X.w) A (call (.builtin "dict.get") [.ref a,u]) Q E s:=by
 rcases g with ⟨kvs,k,e,ey,l⟩ | ⟨kvs,k,b,e,ey,eb,l⟩
 ·subst ey
  obtain ⟨z,hd,vs,rel,dd⟩:=zkp_ I.hok e
  refine call_meetsIn PySem.F.slot_dict_get dd.typeIs PySem.F.entry_dict_get (PySem.F.args_dict_get_2 _ _) (meets_dict_get (mixKind X.prog X.w) a (zmb_ ry) hd) ⟨_,dd.mapOf,h _ _ (I.tok _) ?_⟩
  rw [l]
  exact (rel.val k).getD rfl
 ·subst ey
  cases (show u=Value.ref b from ry)
  obtain ⟨z,hd,xs,rel,dd⟩:=zly_ I.hok e
  refine call_meetsIn PySem.F.slot_dict_get dd.typeIs PySem.F.entry_dict_get (PySem.F.args_dict_get_2 _ _) (meetsH_dict_get (tupleKind (mixKind X.prog X.w)) a b hd) ⟨tupleKind_room_in1 hu,k,xs,zgW_ I.hok eb,dd,h _ _ (I.tok _) ?_⟩
  rw [l]
  exact (rel.val k).getD rfl
theorem zoz_ {Q:Value→Shared→Prop}(hu:A.units+1<cLine) (I:Inv X pins σ H s) (g:DGet H a y o) (ry:RelV y u) (rd:RelV d r) (h:∀ w' s',Inv X pins σ H s'→RelV (o.getD d) w'→Q w' s') :
  wpAny (model X.prog X.w) A (call (.builtin "dict.get") [.ref a,u,r]) Q E s:=by
 rcases g with ⟨kvs,k,e,ey,l⟩ | ⟨kvs,k,b,e,ey,eb,l⟩
 ·subst ey
  obtain ⟨z,hd,vs,rel,dd⟩:=zkp_ I.hok e
  refine call_meetsIn PySem.F.slot_dict_get dd.typeIs PySem.F.entry_dict_get (PySem.F.args_dict_get_3 _ _ _) (meets_dict_get_default (mixKind X.prog X.w) a (zmb_ ry) hd r) ⟨_,dd.mapOf,h _ _ (I.tok _) ?_⟩
  rw [l]
  exact (rel.val k).getD rd
 ·subst ey
  cases (show u=Value.ref b from ry)
  obtain ⟨z,hd,xs,rel,dd⟩:=zly_ I.hok e
  refine call_meetsIn PySem.F.slot_dict_get dd.typeIs PySem.F.entry_dict_get (PySem.F.args_dict_get_3 _ _ _) (meetsH_dict_get_default (tupleKind (mixKind X.prog X.w)) a b hd r) ⟨tupleKind_room_in1 hu,k,xs,zgW_ I.hok eb,dd,h _ _ (I.tok _) ?_⟩
  rw [l]
  exact (rel.val k).getD rd
end
section
variable {X:Cx}{o e f:Expr}{apos cpos:Pos}{td ty tx:TE}
end
section
variable {X:Cx}{pins:Pnn}{σ:St}{H:Hp}{s:Shared}{a:Addr}{kvs:List (Key×V)}{A:Around}{E:Value→Shared→Prop}
end
section
variable {X:Cx}{pins:Pnn}{σ:St}{H:Hp}{s:Shared}{a:Addr}{y:V}{u:Value}{A:Around}{E:Value→Shared→Prop}
namespace L2
open PySem PySem.Spec PyProof.Rows
section
variable {X:Cx}
end
section
variable {κ:Type} [DecidableEq κ]
end
end L2
end
end L2
namespace L2
open PySem PySem.Spec PyProof.Rows
section
variable {X:Cx}
noncomputable def insV (xs:List V) (k:Nat) (y:V):List V:=xs.take k++y::xs.drop k
noncomputable def mInsert:V→List V→Hp→VK→Prop:=fun x vs H Q=>match x,vs with
 | .ref l,[.int i,y]=>∃ xs,H l=some (.lst xs)∧xs.length<sizeLine∧(0≤i∧i<2 ^ 62)∧Q .non (upd H l (.lst (insV xs (min i.toNat xs.length) y)))
 | _,_=>False
theorem zj6_:MtR X "list.insert" mInsert:=by
 intro pins s σ H x vs v us Q I rx rv h
 unfold mInsert at h
 split at h
 ·rename_i l i y
  obtain ⟨xs,hH,hz,⟨h0,h1⟩,q⟩:=h
  cases rx
  obtain ⟨u1,u2,rfl,⟨t,rfl⟩,r2⟩:=vals2 rv
  obtain ⟨z,its,n,r,hl,e⟩:=I.lstM hH
  have hfit:¬ (!Builtin.List.listFitsIndex i)=true:=by
   unfold Builtin.List.listFitsIndex
   simp
   lia
  refine call_meets F.slot_list_insert ⟨_,e,rfl⟩ F.entry_list_insert (F.args_list_insert_3 _ _ _) (AutoSeq1.list_insert_list_int_val_1 l its.toArray n i t u2 hfit (by rw [List.size_toArray]; lia)) ⟨e,?_⟩
  have hk:(if i<0 then (i+(its.toArray.size:Int)).toNat else min i.toNat its.toArray.size)=min i.toNat xs.length:=by
   rw [if_neg (by lia),List.size_toArray,hl]
  refine ⟨.non,_,I.lset (its':=its.take (min i.toNat xs.length)++u2::its.drop (min i.toNat xs.length)) hH e ?_ ((r.take _).append (.cons r2 (r.drop _))) ?_,rfl,q⟩
  ·show ((its.toArray.extract 0 (if i<0 then (i+(its.toArray.size:Int)).toNat else min i.toNat its.toArray.size)).push u2++its.toArray.extract (if i<0 then (i+(its.toArray.size:Int)).toNat else min i.toNat its.toArray.size))=_
   rw [hk]
   simp
   exact List.take_of_length_le (by rw [List.length_drop]; lia)
  ·rw [List.length_append,List.length_cons,List.length_take,List.length_drop]
   lia
 ·exact h.elim
end
section
variable {X:Cx}{elts:List Expr}{kk:Nat}{tpos:Pos}
end
theorem zlK_ (its:List Value):(List.range its.length).filterMap (fun k=>its[its.length-1-k]?)=its.reverse:=by
 have h:(List.range its.length).map (fun k=>its[its.length-1-k]?)=its.reverse.map some:=by
  refine List.ext_getElem (by simp) fun i h1 h2=>?_
  rw [List.length_map,List.length_range] at h1
  rw [List.getElem_map,List.getElem_range,List.getElem_map,List.getElem_reverse,List.getElem?_eq_getElem (by lia)]
 have e:(List.range its.length).filterMap (fun k=>its[its.length-1-k]?)=((List.range its.length).map (fun k=>its[its.length-1-k]?)).filterMap id:=by
  rw [List.filterMap_map]; rfl
 rw [e,h,List.filterMap_map]
 exact List.filterMap_some
theorem zc2_ {α β:Type}{f g:α→Option β}:∀ {l:List α},(∀ a∈l,f a=g a)→l.filterMap f=l.filterMap g
 | [],_=>rfl
 | a::l,h=>by rw [List.filterMap_cons,List.filterMap_cons,h a List.mem_cons_self,zc2_ fun b hb=>h b (List.mem_cons_of_mem _ hb)]
theorem ziR_:∀ {xs:List V}{us:List Value},Vals xs us→Vals xs.reverse us.reverse
 | _,_,.nil=>.nil
 | x::xs,u::us,.cons r t=>by rw [List.reverse_cons,List.reverse_cons]; exact (ziR_ t).append (.cons r .nil)
theorem zfw_ (its:List Value):slicePick its.toArray none none (some (-1))=its.reverse.toArray:=by
 unfold slicePick
 have hb:sliceBounds none none (some (-1)) its.toArray.size=((its.length:Int)-1,-1,-1):=by
  simp [sliceBounds]
 rw [hb]
 congr 1
 unfold sliceRange
 simp only
 rw [List.filterMap_map,← zlK_ its]
 have hc:(if (-1:Int) > 0 then (if (its.length:Int)-1 < -1 then (-1-((its.length:Int)-1) + -1-1) / -1 else 0) else if (its.length:Int)-1 > -1 then ((its.length:Int)-1 - -1 - -1-1) / - -1 else 0)=(its.length:Int):=by
  rw [if_neg (by decide)]
  split
  ·rw [show (- -1:Int)=1 by decide,Int.ediv_one]; lia
  ·lia
 rw [hc,Int.toNat_natCast]
 refine zc2_ fun k hk=>?_
 have hk:=List.mem_range.mp hk
 show its.toArray[((its.length:Int)-1 + -1*(k:Int)).toNat]?=its[its.length-1-k]?
 rw [show ((its.length:Int)-1 + -1*(k:Int)).toNat=its.length-1-k by lia]
 simp
section
variable {X:Cx}{e st:Expr}{te:TE}{ts:TO}{pos p2:Pos}
noncomputable def tRev (K:Fgg) (te:TE) (ts:TO):TE:=fun σ H Q=>te σ H fun x H1=>ts σ H1 fun o H2=>o=some (-1)∧match x with
 | .ref a=>∃ xs,SqL K H2 a xs∧∀ p,H2 p=none→Q (.ref p) (upd H2 p (.lst xs.reverse))
 | _=>False
theorem zn4_ (he:PE X e te) (hs:PO X (some st) ts):PE X (.Subscript e (.Slice none none (some st) p2) pos) (tRev X.K te ts):=by
 intro pins s σ H Q I h
 refine Subscript_ (thn (he pins s σ H _ I h) fun v s1 ⟨x,H1,I1,r1,q1⟩=>?_)
 have pn:∀ (s:Shared) (Q':Value→Shared→Prop),Q' .none s→wpAny (model X.prog X.w) X.A (evalPart none X.env) Q' X.xe s:=fun s Q' q=>by rw [evalPart_none]; exact wpAny_pure q
 refine wpAny_Slice (pn _ _ (pn _ _ ?_))
 refine thn (hs pins s1 σ H1 _ I1 q1) fun vst s3 ⟨o,H3,I3,po,eo,q3⟩=>?_
 subst eo
 cases x with
 | ref a =>
  obtain ⟨xs,hx,q⟩:=q3
  cases r1
  have I4:Inv X pins σ H3 { s3 with heap:=s3.heap.push { cls:=.type "slice",data:=.fields #[.none,.none,vst] } }:=I3.kept (t':=s3.toks) fun b ob q=>Heap.get?_push_of_some _ q
  obtain ⟨its,r,ht,hz⟩:=I4.list hx
  have hlen:=r.length
  show wpAny (model X.prog X.w) X.A (subscriptTail e (.Slice none none (some st) p2) (.ref a) (.ref s3.heap.objs.size)) (EP X pins σ Q) X.xe { s3 with heap:=s3.heap.push { cls:=.type "slice",data:=.fields #[.none,.none,vst] } }
  refine tail_any (ops:=[.ref a,.ref s3.heap.objs.size]) ht.isList.typeIs slot_list_getitem.lookup ?_ (by with_unfolding_all rfl)
  refine wpAny_getItem_list_slice ht.isList (Heap.IsSliceOf.new ..) .none .none po (by simp) ?_ (by rw [List.size_toArray]<;>lia)
  rw [zfw_]
  refine ⟨.ref _,_,I4.laid (t':=s3.toks) (o:=.lst xs.reverse) (fun b ob q=>Heap.get?_push_of_some _ q) (Nat.le_refl _) ?_,rfl,q _ (I4.hok.fresh (Nat.le_refl _))⟩
  refine ⟨by rw [List.length_reverse]; exact hz,its.reverse,0,?_,Heap.get?_push_size _ rfl⟩
  exact ziR_ r
 | _=>exact q3.elim
end
end L2
namespace L2
open PySem PySem.Spec PyProof.Rows
noncomputable def keyV:V→Option Key
 | .int i=>some (.inl i)
 | .str z=>some (.inr z)
 | _=>none
theorem zm5_ {y:V}{k:Key}(h:keyV y=some k):y=kV k:=by
 cases y<;>first | (cases h; rfl) | cases h
noncomputable def atD (x y:V) (H:Hp) (R:Addr→List (Key×V)→Key→Prop):Prop:=match x with
 | .ref a=>(match keyV y with | some k=>∃ kvs,H a=some (.dK kvs)∧R a kvs k | none=>False)
 | _=>False
theorem zhz_ {x y:V}{H:Hp}{R:Addr→List (Key×V)→Key→Prop}(h:atD x y H R):∃ a kvs k,x=.ref a∧y=kV k∧H a=some (.dK kvs)∧R a kvs k:=by
 unfold atD at h
 cases x with
 | ref a =>
  cases e:keyV y with
  | none=>rw [e] at h; exact h.elim
  | some k =>
   rw [e] at h
   obtain ⟨kvs,h1,h2⟩:=h
   exact ⟨a,kvs,k,rfl,zm5_ e,h1,h2⟩
 | _=>exact h.elim
noncomputable def mDGet (td ty:TE):TE:=fun σ H Q=>td σ H fun x H1=>ty σ H1 fun y H2=>atD x y H2 fun _ kvs k=>∃ v,valV kvs k=some v∧Q v H2
noncomputable def mDIn (neg:Bool) (ty td:TE):TE:=fun σ H Q=>ty σ H fun y H1=>td σ H1 fun x H2=>atD x y H2 fun _ kvs k=>Q (.bl (if neg then !(valV kvs k).isSome else (valV kvs k).isSome)) H2
noncomputable def mDPut (td ty tv:TE):TS:=fun D σ H=>tv σ H fun v H1=>td σ H1 fun x H2=>ty σ H2 fun y H3=>atD x y H3 fun a kvs k=>kvs.length<sizeLine∧D.nx σ (upd H3 a (.dK (putK kvs k v)))
section
variable {X:Cx}{o i e value:Expr}{pos pos' tpos:Pos}{td ty tv:TE}
theorem zhP_ (hu:X.A.units+60<cLine) (ho:PE X o td) (hi:PE X i ty) (hs:NoSl i:=by exact fun _ _=>rfl):PE X (.Subscript o i pos) (mDGet td ty):=by
 intro pins s σ H Q I h
 refine zms_ PySem.F.slot_dict_getitem.lookup hs (thn (ho pins s σ H _ I h) fun u s1 ⟨x,H1,I1,rx,q1⟩=>thn (hi pins s1 σ H1 _ I1 q1) fun iv s2 ⟨y,H2,I2,ry,q2⟩=>?_)
 obtain ⟨a,kvs,k,rfl,rfl,hd,v,hv,q⟩:=zhz_ q2
 obtain rfl:u=Value.ref a:=rx
 have g:DGet H2 a (kV k) (some v):=by rw [← hv]; exact DGet.k hd
 exact ⟨zhv_ I2 g,zjT_ (by lia) I2 g ry fun w' s3 I3 rw'=>⟨v,H2,I3,rw',q⟩⟩
theorem zh8_ (hu:X.A.units+60<cLine) (hi:PE X i ty) (ho:PE X o td):PC X .NotIn i o (mDIn true ty td):=by
 intro pins s σ H Q I h
 refine thn (hi pins s σ H _ I h) fun iv s1 ⟨y,H1,I1,ry,q1⟩=>thn (ho pins s1 σ H1 _ I1 q1) fun u s2 ⟨x,H2,I2,rx,q2⟩=>?_
 obtain ⟨a,kvs,k,rfl,rfl,hd,q⟩:=zhz_ q2
 obtain rfl:u=Value.ref a:=rx
 exact zmW_ (by lia) I2 (DGet.k (k:=k) hd) ry fun s3 I3=>⟨.bl (!(valV kvs k).isSome),H2,I3,rfl,q⟩
theorem zeM_ (hu:X.A.units+60<cLine) (ho:PE X o td) (hi:PE X i ty) (hv:PE X value tv) (hs:swapsWith value (some (.Subscript o i pos')) pos.line X.env=pure false:=by rfl) :
  PS X (.Assign [.Subscript o i pos'] value pos) (mDPut td ty tv):=by
 intro pins s σ H D I h
 refine wpAny_Assign_Subscript (thn (hv pins s σ H _ I h) fun r s1 ⟨v,H1,I1,rv,q1⟩=>thn (ho pins s1 σ H1 _ I1 q1) fun u s2 ⟨x,H2,I2,rx,q2⟩=>thn (hi pins s2 σ H2 _ I2 q2) fun iv s3 ⟨y,H3,I3,ry,q3⟩=>?_) hs
 obtain ⟨a,kvs,k,rfl,rfl,hd,hl,q⟩:=zhz_ q3
 obtain rfl:u=Value.ref a:=rx
 exact zj7_ (by lia) I3 (DPut.k hd hl) ry rv fun s4 I4=>⟨σ,_,I4,q⟩
end
section
variable {X:Cx}{o e f:Expr}{apos cpos:Pos}{td ty tx':TE}
noncomputable def mDGet1 (td ty:TE):TE:=fun σ H Q=>td σ H fun x H1=>(match x with | .ref a=>∃ kvs,H1 a=some (.dK kvs) | _=>False)∧ty σ H1 fun y H2=>atD x y H2 fun _ kvs k=>Q ((valV kvs k).getD .non) H2
noncomputable def mDGet2 (td ty tx':TE):TE:=fun σ H Q=>td σ H fun x H1=>(match x with | .ref a=>∃ kvs,H1 a=some (.dK kvs) | _=>False)∧ty σ H1 fun y H2=>tx' σ H2 fun z H3=>atD x y H3 fun _ kvs k=>Q ((valV kvs k).getD z) H3
theorem zke_ (hu:X.A.units+60<cLine) (ho:PE X o td) (he:PE X e ty) (m:M1 X o "get" apos e cpos:=by exact ⟨rfl,rfl,rfl,rfl⟩):PE X (.Call (.Attribute o "get" apos) [e] [] cpos) (mDGet1 td ty):=by
 intro pins s σ H Q I h
 refine wpAny_Call_method m.base m.few m.line PySem.F.plainAttrs_dict PySem.F.slot_dict_get PySem.F.type_dict_get (thn (ho pins s σ H _ I h) fun u s1 ⟨x,H1,I1,rx,hx,q1⟩=>?_)
 cases x with
 | ref a =>
  obtain ⟨kvs0,hd0⟩:=hx
  obtain rfl:u=Value.ref a:=rx
  obtain ⟨t1,t2,_⟩:=zlT_ I1 (.inl ⟨kvs0,.inl hd0⟩)
  refine ⟨t1,t2,?_⟩
  rw [m.trees]
  refine Calls.callWith_builtin rfl (Calls.evalArgs_plain (Calls.spliced_cons (thn (he pins s1 σ H1 _ I1 q1) fun iv s2 ⟨y,H2,I2,ry,q2⟩=>Calls.spliced_nil ?_)))
  obtain ⟨a',kvs,k,ea,rfl,hd,q⟩:=zhz_ q2
  cases ea
  exact zoA_ (by lia) I2 (DGet.k (k:=k) hd) ry fun w' s3 I3 rw'=>⟨_,H2,I3,rw',q⟩
 | _=>exact hx.elim
theorem zjK_ (hu:X.A.units+60<cLine) (ho:PE X o td) (he:PE X e ty) (hf:PE X f tx') (m:M2 X o "get" apos e f cpos:=by exact ⟨rfl,rfl,rfl,rfl⟩):PE X (.Call (.Attribute o "get" apos) [e,f] [] cpos) (mDGet2 td ty tx'):=by
 intro pins s σ H Q I h
 refine wpAny_Call_method m.base m.few m.line PySem.F.plainAttrs_dict PySem.F.slot_dict_get PySem.F.type_dict_get (thn (ho pins s σ H _ I h) fun u s1 ⟨x,H1,I1,rx,hx,q1⟩=>?_)
 cases x with
 | ref a =>
  obtain ⟨kvs0,hd0⟩:=hx
  obtain rfl:u=Value.ref a:=rx
  obtain ⟨t1,t2,_⟩:=zlT_ I1 (.inl ⟨kvs0,.inl hd0⟩)
  refine ⟨t1,t2,?_⟩
  rw [m.trees]
  refine Calls.callWith_builtin rfl (Calls.evalArgs_plain (Calls.spliced_cons (thn (he pins s1 σ H1 _ I1 q1) fun iv s2 ⟨y,H2,I2,ry,q2⟩ =>
   Calls.spliced_cons (thn (hf pins s2 σ H2 _ I2 q2) fun fv s3 ⟨z,H3,I3,rz,q3⟩=>Calls.spliced_nil ?_))))
  obtain ⟨a',kvs,k,ea,rfl,hd,q⟩:=zhz_ q3
  cases ea
  exact zoz_ (by lia) I3 (DGet.k (k:=k) hd) ry rz fun w' s4 I4 rw'=>⟨_,H3,I4,rw',q⟩
 | _=>exact hx.elim
end
section
variable {X:Cx}{o i:Expr}{pos:Pos}{td ty:TE}
theorem zlr_ {op:CmpOp}{a b:Expr}{t:TE}(h:PC X op a b t) (h1:behindInMarks op b=false):PT X (.Compare a [op] [b] pos) (mTest t):=by
 intro pins s σ H Q I hw
 refine wpAny_isTrue_Compare1 (thn (h pins s σ H _ I hw) fun v s1 q=>thn q fun u s2 q=>thn q fun c s3 ⟨x,H1,I1,r,q⟩=>?_) h1
 cases x with
 | bl k=>cases r; exact wpAny_truthy_bool ⟨H1,I1,q⟩
 | _=>exact q.elim
theorem zfN_ (hu:X.A.units+60<cLine) (hi:PE X i ty) (ho:PE X o td) (h1:behindInMarks .NotIn o=false:=by rfl):PT X (.Compare i [.NotIn] [o] pos) (mTest (mDIn true ty td)):=zlr_ (zh8_ hu hi ho) h1
end
end L2
namespace L2
open PySem PySem.Spec PyProof.Rows
inductive Mo (α:Type) where
 | ok (a:α) | ex (c:String) | no
namespace Mo
variable {α β γ:Type}
noncomputable def bind (x:Mo α) (f:α→Mo β):Mo β:=match x with | .ok a=>f a | .ex c=>.ex c | .no=>.no
theorem ok_bind (a:α) (f:α→Mo β):(Mo.ok a).bind f=f a:=rfl
noncomputable def noex (x:Mo α):Mo α:=match x with | .ok a=>.ok a | _=>.no
noncomputable def lim (n:Nat) (k:Mo α):Mo α:=if n≤sizeLine then k else .no
theorem lim_ok {n:Nat}{k:Mo α}(h:n≤100000):lim n k=k:=if_pos (zcz_ h)
noncomputable def grd (p:Prop) [Decidable p] (k:Mo α):Mo α:=if p then k else .no
theorem grd_ok {p:Prop} [Decidable p] {k:Mo α}(h:p):grd p k=k:=if_pos h
noncomputable def opt (x:Option α):Mo α:=match x with | some a=>.ok a | none=>.no
end Mo
noncomputable def un (F h:Hp):Hp:=fun p=>match F p with | some o=>some o | none=>h p
noncomputable def Dj (F h:Hp):Prop:=∀ p,F p=none∨h p=none
noncomputable def Jn (h1 h2 h:Hp):Prop:=∀ p,(h1 p=none∧h p=h2 p)∨(h2 p=none∧h p=h1 p)
noncomputable def Ext (F H F' H':Hp):Prop:=Same F F'∧Same F' H'∧Same H H'∧∀ p,F p=none→F' p≠none→H p=none
theorem Ext.refl {F H:Hp}(h:Same F H):Ext F H F H:=⟨Same.refl _,h,Same.refl _,fun p a b=>absurd a b⟩
theorem Ext.trans {F H F1 H1 F2 H2:Hp}(a:Ext F H F1 H1) (b:Ext F1 H1 F2 H2):Ext F H F2 H2:=by
 obtain ⟨a1,a2,a3,a4⟩:=a
 obtain ⟨b1,b2,b3,b4⟩:=b
 refine ⟨a1.trans b1,b2,a3.trans b3,fun p hp hq=>?_⟩
 cases e:F1 p with
 | none=>exact a3.free (b4 p e hq)
 | some o=>exact a4 p hp (by rw [e]; exact Option.some_ne_none _)
theorem Ext.heap {F H H':Hp}(h:Same F H) (g:Same H H'):Ext F H F H':=⟨Same.refl _,h.trans g,g,fun p a b=>absurd a b⟩
theorem Ext.new {F H:Hp}(h:Same F H) {p:Addr}{o:HO}(hp:H p=none):Ext F H (upd F p o) (upd H p o):=by
 refine ⟨zcc_ (h.free hp) _,fun b u e=>?_,zcc_ hp _,fun q a b=>?_⟩
 ·unfold upd at e ⊢
  split
  ·rename_i z; rw [if_pos z] at e; exact e
  ·rename_i z; rw [if_neg z] at e; exact h _ _ e
 ·unfold upd at b
  split at b
  ·rename_i z; rw [z]; exact hp
  ·exact absurd a b
structure Ty (α:Type) where
 R:α→V→Hp→Prop
 mono:∀ {a v H H'},Same H H'→R a v H→R a v H'
noncomputable def Tups (H H':Hp):Prop:=∀ p xs,H p=some (.tup xs)→H' p=some (.tup xs)
noncomputable def Imm {α:Type}(T:Ty α):Prop:=∀ {a v H H'},Tups H H'→T.R a v H→T.R a v H'
noncomputable abbrev tyInt:Ty Int:=⟨fun a v _=>v=.int a,fun _ h=>h⟩
noncomputable abbrev tyStr:Ty (List Nat):=⟨fun a v _=>v=tx a,fun _ h=>h⟩
noncomputable abbrev tyBl:Ty Bool:=⟨fun a v _=>v=.bl a,fun _ h=>h⟩
noncomputable abbrev tyNon:Ty Unit:=⟨fun _ v _=>v=.non,fun _ h=>h⟩
theorem zP_:Imm tyInt:=fun _ h=>h
theorem zA_:Imm tyStr:=fun _ h=>h
theorem zcP_:Imm tyBl:=fun _ h=>h
noncomputable abbrev tyOpt {α:Type}(T:Ty α):Ty (Option α):=⟨fun a v H=>match a with | none=>v=.non | some x=>T.R x v H∧v≠.non,fun {a v H H'} g h=>by cases a with | none=>exact h | some x=>exact ⟨T.mono g h.1,h.2⟩⟩
theorem zgD_ {α:Type}{T:Ty α}(i:Imm T):Imm (tyOpt T):=fun {a v H H'} g h=>by cases a with | none=>exact h | some x=>exact ⟨i g h.1,h.2⟩
structure Cs (γ:Type) where
 R:γ→List V→Hp→Prop
 mono:∀ {c vs H H'},Same H H'→R c vs H→R c vs H'
noncomputable abbrev csLast {α:Type}(T:Ty α):Cs α:=⟨fun a vs H=>∃ v,vs=[v]∧T.R a v H,fun g ⟨v,e,h⟩=>⟨v,e,T.mono g h⟩⟩
noncomputable abbrev csCons {α γ:Type}(T:Ty α) (C:Cs γ):Cs (α×γ):=⟨fun a vs H=>∃ v us,vs=v::us∧T.R a.1 v H∧C.R a.2 us H,fun g ⟨v,us,e,h,q⟩=>⟨v,us,e,T.mono g h,C.mono g q⟩⟩
noncomputable abbrev tyTup {γ:Type}(C:Cs γ):Ty γ:=⟨fun c v H=>∃ p us,v=.ref p∧H p=some (.tup us)∧C.R c us H,fun g ⟨p,us,e,h,q⟩=>⟨p,us,e,g _ _ h,C.mono g q⟩⟩
noncomputable abbrev Prs {α:Type}(T:Ty α) (H:Hp) (xs:List α) (vs:List V):Prop:=Paired (fun x v=>T.R x v H) xs vs
theorem zb8_ {α β:Type}{R R':α→β→Prop}(h:∀ a b,R a b→R' a b):∀ {xs:List α}{ys:List β},Paired R xs ys→Paired R' xs ys
 | _,_,.nil=>.nil
 | _,_,.cons a t=>.cons (h _ _ a) (zb8_ h t)
theorem Prs.mono {α:Type}{T:Ty α}{H H':Hp}{xs:List α}{vs:List V}(g:Same H H') (h:Prs T H xs vs):Prs T H' xs vs:=zb8_ (fun _ _ r=>T.mono g r) h
theorem Prs.imm {α:Type}{T:Ty α}(i:Imm T) {H H':Hp}{xs:List α}{vs:List V}(g:Tups H H') (h:Prs T H xs vs):Prs T H' xs vs:=zb8_ (fun _ _ r=>i g r) h
noncomputable abbrev tyL {α:Type}(T:Ty α):Ty (List α):=⟨fun xs v H=>∃ p vs,v=.ref p∧H p=some (.lst vs)∧Prs T H xs vs,fun g ⟨p,vs,e,h,q⟩=>⟨p,vs,e,g _ _ h,q.mono g⟩⟩
noncomputable abbrev tySc (K:Fgg):Ty (List Int):=⟨fun xs v H=>∃ p,v=.ref p∧SqL K H p (xs.map V.int),fun g ⟨p,e,h⟩=>⟨p,e,g.seq h⟩⟩
structure Own (α:Type) where
 O:α→V→Hp→Hp→Prop
 fr:Ty α
 mono:∀ {a v F F' h},Same F F'→O a v F h→O a v F' h
 frz:∀ {a v F h},Dj F h→O a v F h→fr.R a v (un F h)
 notup:∀ {a v F h},O a v F h→∀ p xs,h p≠some (.tup xs)
noncomputable def ImmO {α:Type}(O:Own α):Prop:=∀ {a v F F' h},Tups F F'→O.O a v F h→O.O a v F' h
theorem zc3_ {F h:Hp}:Same F (un F h):=fun p o e=>by unfold un; rw [e]
theorem zhd_ {F h:Hp}(d:Dj F h):Same h (un F h):=fun p o e=>by
 unfold un
 rcases d p with z | z
 ·rw [z]; exact e
 ·rw [z] at e; cases e
noncomputable abbrev owF {α:Type}(T:Ty α):Own α:=⟨fun a v F h=>(∀ p,h p=none)∧T.R a v F,T,fun g ⟨e,h⟩=>⟨e,T.mono g h⟩,fun _ ⟨_,h⟩=>T.mono zc3_ h,fun ⟨e,_⟩ p xs z=>by rw [e] at z; cases z⟩
theorem zbk_ {α:Type}{T:Ty α}(i:Imm T):ImmO (owF T):=fun g ⟨e,h⟩=>⟨e,i g h⟩
noncomputable def one (p:Addr) (o:HO):Hp:=fun q=>if q=p then some o else none
theorem zaQ_ {p:Addr}{o:HO}:one p o p=some o:=if_pos rfl
noncomputable abbrev owL {α:Type}(T:Ty α):Own (List α):=⟨fun xs v F h=>∃ p vs,v=.ref p∧h=one p (.lst vs)∧Prs T F xs vs,tyL T,fun g ⟨p,vs,e,z,q⟩=>⟨p,vs,e,z,q.mono g⟩,
 fun d ⟨p,vs,e,z,q⟩=>⟨p,vs,e,zhd_ d _ _ (by rw [z]; exact zaQ_),q.mono zc3_⟩,
 fun ⟨p,vs,e,z,q⟩ b xs y=>by rw [z] at y; unfold one at y; split at y<;>cases y⟩
theorem za0_ {α:Type}{T:Ty α}(i:Imm T):ImmO (owL T):=fun g ⟨p,vs,e,z,q⟩=>⟨p,vs,e,z,q.imm i g⟩
inductive Sl:Type 1 where
 | dead
 | fz {α:Type}(T:Ty α) (a:α)
 | ow {α:Type}(O:Own α) (a:α)
noncomputable def Sl.P:Sl→Option V→Hp→Hp→Prop
 | .dead,_,_,_=>True
 | .fz T a,o,F,_=>∃ v,o=some v∧T.R a v F
 | .ow O a,o,F,h=>∃ v,o=some v∧O.O a v F h
noncomputable def Sl.Z:Sl→Option V→Hp→Prop
 | .dead,_,_=>True
 | .fz T a,o,F=>∃ v,o=some v∧T.R a v F
 | .ow O a,o,F=>∃ v,o=some v∧O.fr.R a v F
noncomputable def Sl.cold:Sl→Sl
 | .ow _ _=>.dead
 | s=>s
noncomputable def Hold:List Sl→St→Hp→Hp→Prop
 | [],[],_,_=>True
 | s::L,o::σ,F,h=>∃ h1 h2,Jn h1 h2 h∧s.P o F h1∧Hold L σ F h2
 | _,_,_,_=>False
noncomputable def HoldF (L:List Sl) (σ:St) (F:Hp):Prop:=∀ (i:Nat) (s:Sl),L[i]?=some s→s.Z (σ[i]?.join) F
theorem Sl.P.mono {s:Sl}{o:Option V}{F F' h:Hp}(g:Same F F') (q:s.P o F h):s.P o F' h:=by
 cases s with
 | dead=>exact q
 | fz T a=>obtain ⟨v,e,r⟩:=q; exact ⟨v,e,T.mono g r⟩
 | ow O a=>obtain ⟨v,e,r⟩:=q; exact ⟨v,e,O.mono g r⟩
theorem Sl.Z.mono {s:Sl}{o:Option V}{F F':Hp}(g:Same F F') (q:s.Z o F):s.Z o F':=by
 cases s with
 | dead=>exact q
 | fz T a=>obtain ⟨v,e,r⟩:=q; exact ⟨v,e,T.mono g r⟩
 | ow O a=>obtain ⟨v,e,r⟩:=q; exact ⟨v,e,O.fr.mono g r⟩
theorem HoldF.mono {L:List Sl}{σ:St}{F F':Hp}(g:Same F F') (q:HoldF L σ F):HoldF L σ F':=fun i s e=>(q i s e).mono g
theorem Hold.mono:∀ {L:List Sl}{σ:St}{F F' h:Hp},Same F F'→Hold L σ F h→Hold L σ F' h
 | [],[],_,_,_,_,q=>q
 | s::L,o::σ,F,F',h,g,⟨h1,h2,j,p,r⟩=>⟨h1,h2,j,p.mono g,r.mono g⟩
 | [],_::_,_,_,_,_,q=>q.elim
 | _::_,[],_,_,_,_,q=>q.elim
theorem Hold.len:∀ {L:List Sl}{σ:St}{F h:Hp},Hold L σ F h→L.length=σ.length
 | [],[],_,_,_=>rfl
 | s::L,o::σ,F,h,⟨h1,h2,j,p,r⟩=>by rw [List.length_cons,List.length_cons,r.len]
 | [],_::_,_,_,q=>q.elim
 | _::_,[],_,_,q=>q.elim
theorem Jn.l {h1 h2 h:Hp}(j:Jn h1 h2 h):Same h1 h:=fun p o e=>by
 rcases j p with ⟨a,b⟩ | ⟨a,b⟩
 ·rw [a] at e; cases e
 ·rw [b]; exact e
theorem Jn.r {h1 h2 h:Hp}(j:Jn h1 h2 h):Same h2 h:=fun p o e=>by
 rcases j p with ⟨a,b⟩ | ⟨a,b⟩
 ·rw [b]; exact e
 ·rw [a] at e; cases e
theorem Jn.dj {h1 h2 h:Hp}(j:Jn h1 h2 h):Dj h1 h2:=fun p=>by
 rcases j p with ⟨a,b⟩ | ⟨a,b⟩
 ·exact .inl a
 ·exact .inr a
theorem zkG_ {h1 h2:Hp}(d:Dj h1 h2):Jn h1 h2 (un h1 h2):=fun p=>by
 unfold un
 rcases d p with a | a
 ·rw [a]; exact .inl ⟨rfl,rfl⟩
 ·refine .inr ⟨a,?_⟩
  cases h1 p with
  | none=>exact a
  | some o=>rfl
theorem Hold.at:∀ {L:List Sl}{σ:St}{F h:Hp}(i:Nat) {s:Sl},Hold L σ F h→L[i]?=some s →
  ∃ o h1 h2,σ[i]?=some o∧Jn h1 h2 h∧s.P o F h1∧∀ s' o' h1' h',Jn h1' h2 h'→s'.P o' F h1'→Hold (L.set i s') (σ.set i o') F h'
 | [],_,_,_,_,_,_,e=>by cases e
 | s::L,[],_,_,_,_,q,_=>q.elim
 | s::L,o::σ,F,h,0,t,⟨h1,h2,j,p,r⟩,e=>by
  cases e
  exact ⟨o,h1,h2,rfl,j,p,fun s' o' h1' h' j' p'=>⟨h1',h2,j',p',r⟩⟩
 | s::L,o::σ,F,h,i+1,t,⟨h1,h2,j,p,r⟩,e=>by
  obtain ⟨o1,k1,k2,e1,j1,p1,f⟩:=Hold.at i r (by simpa using e)
  have d1:Dj h1 k1:=fun p=>by
   rcases j.dj p with a | a
   ·exact .inl a
   ·exact .inr (j1.l.free a)
  have d2:Dj h1 k2:=fun p=>by
   rcases j.dj p with a | a
   ·exact .inl a
   ·exact .inr (j1.r.free a)
  refine ⟨o1,k1,un h1 k2,by simpa using e1,fun p=>?_,p1,fun s' o' k1' h' j' p'=>?_⟩
  ·rcases j p with ⟨a,b⟩ | ⟨a,b⟩
   ·rcases j1 p with ⟨c,d⟩ | ⟨c,d⟩
    ·refine .inl ⟨c,?_⟩; unfold un; rw [a,b,d]
    ·refine .inr ⟨?_,by rw [b,d]⟩; unfold un; rw [a,c]
   ·refine .inl ⟨j1.l.free a,?_⟩
    have:k2 p=none:=j1.r.free a
    unfold un; rw [b]
    cases h1 p with
    | none=>rw [this]
    | some u=>rfl
  ·have dd:Dj k1' k2:=fun p=>by
    rcases j' p with ⟨a,b⟩ | ⟨a,b⟩
    ·exact .inl a
    ·right; unfold un at a
     cases z:h1 p with
     | none=>rw [z] at a; exact a
     | some u=>rw [z] at a; cases a
   refine ⟨h1,un k1' k2,fun p=>?_,p,f s' o' k1' _ (zkG_ dd) p'⟩
   rcases j' p with ⟨a,b⟩ | ⟨a,b⟩
   ·unfold un at b ⊢
    cases z:h1 p with
    | none=>rw [z] at b; exact .inl ⟨rfl,by rw [b,a]⟩
    | some u =>
     rw [z] at b
     refine .inr ⟨?_,b⟩
     rw [a]
     rcases d2 p with y | y
     ·rw [y] at z; cases z
     ·exact y
   ·unfold un at a
    cases z:h1 p with
    | some u=>rw [z] at a; cases a
    | none =>
     rw [z] at a
     refine .inl ⟨rfl,?_⟩
     unfold un; rw [b]
     cases k1' p with
     | none=>exact a.symm
     | some u=>rfl
theorem Hold.froz {L:List Sl}{σ:St}{F h:Hp}(d:Dj F h) (q:Hold L σ F h):HoldF L σ (un F h):=by
 intro i s e
 obtain ⟨o,h1,h2,e1,j,p,_⟩:=q.at i e
 rw [e1]
 have d1:Dj F h1:=fun p=>by
  rcases d p with a | a
  ·exact .inl a
  ·exact .inr (j.l.free a)
 cases s with
 | dead=>trivial
 | fz T a=>obtain ⟨v,e2,r⟩:=p; exact ⟨v,e2,T.mono zc3_ r⟩
 | ow O a =>
  obtain ⟨v,e2,r⟩:=p
  refine ⟨v,e2,O.fr.mono (fun p u z=>?_) (O.frz d1 r)⟩
  unfold un at z ⊢
  cases y:F p with
  | some w=>rw [y] at z; exact z
  | none=>rw [y] at z; exact j.l _ _ z
theorem Hold.coldF {L:List Sl}{σ:St}{F h:Hp}(q:Hold L σ F h):HoldF (L.map Sl.cold) σ F:=by
 intro i s e
 rw [List.getElem?_map] at e
 cases e1:L[i]? with
 | none=>rw [e1] at e; cases e
 | some t =>
  rw [e1] at e
  cases e
  obtain ⟨o,h1,h2,e2,j,p,_⟩:=q.at i e1
  rw [e2]
  cases t with
  | dead=>trivial
  | fz T a=>obtain ⟨v,e2,r⟩:=p; exact ⟨v,e2,r⟩
  | ow O a=>trivial
end L2
namespace L2
open PySem PySem.Spec PyProof.Rows
noncomputable def After {α:Type}(K:Fgg) (r:Mo α) (E:XK) (F H:Hp) (k:α→Hp→Hp→Prop):Prop:=match r with
 | .ok a=>∀ F' H',Ext F H F' H'→k a F' H'
 | .ex c=>∀ F' H',Ext F H F' H'→E (.ref (gA K c)) none H'
 | .no=>False
section
variable {K:Fgg}{E:XK}{α β γ ρ:Type}{F H:Hp}
theorem After.bind {r:Mo α}{f:α→Mo β}{k:β→Hp→Hp→Prop}(h:After K (r.bind f) E F H k):After K r E F H fun a F1 H1=>After K (f a) E F1 H1 k:=by
 cases r with
 | ok a =>
  intro F1 H1 x
  have h':After K (f a) E F H k:=h
  cases e:f a with
  | ok b=>rw [e] at h'; exact fun F2 H2 y=>h' F2 H2 (x.trans y)
  | ex c=>rw [e] at h'; exact fun F2 H2 y=>h' F2 H2 (x.trans y)
  | no=>rw [e] at h'; exact h'
 | ex c=>exact h
 | no=>exact h
theorem After.imp {r:Mo α}{k k':α→Hp→Hp→Prop}(h:After K r E F H k) (g:∀ a F' H',Ext F H F' H'→k a F' H'→k' a F' H'):After K r E F H k':=by
 cases r with
 | ok a=>exact fun F' H' x=>g a F' H' x (h F' H' x)
 | ex c=>exact h
 | no=>exact h
theorem After.ok {a:α}{k:α→Hp→Hp→Prop}(hs:Same F H) (h:After K (.ok a) E F H k):k a F H:=h F H (.refl hs)
theorem After.noex {r:Mo α}{k:α→Hp→Hp→Prop}(h:After K r.noex E F H k):After K r E0 F H k:=by
 cases r with
 | ok a=>exact h
 | ex c=>exact h.elim
 | no=>exact h
theorem After.lim {n:Nat}{r:Mo α}{k:α→Hp→Hp→Prop}(h:After K (Mo.lim n r) E F H k):n≤sizeLine∧After K r E F H k:=by
 unfold Mo.lim at h
 split at h
 ·exact ⟨by assumption,h⟩
 ·exact h.elim
theorem After.grd {p:Prop} [Decidable p] {r:Mo α}{k:α→Hp→Hp→Prop}(h:After K (Mo.grd p r) E F H k):p∧After K r E F H k:=by
 unfold Mo.grd at h
 split at h
 ·exact ⟨by assumption,h⟩
 ·exact h.elim
theorem After.opt {x:Option α}{k:α→Hp→Hp→Prop}(h:After K (Mo.opt x) E F H k):∃ a,x=some a∧After K (.ok a) E F H k:=by
 cases x with
 | none=>exact h.elim
 | some a=>exact ⟨a,rfl,h⟩
noncomputable def EvF (K:Fgg) (e:TE) (E:XK) (L:List Sl) (r:Mo α) (T:Ty α):Prop :=
 ∀ σ F H (Q:VK),HoldF L σ F→Same F H→After K r E F H (fun a F' H'=>∀ v,T.R a v F'→Q v H')→e σ H Q
noncomputable def OwnK (O:Own α) (H:Hp) (Q:VK) (a:α) (F' H':Hp):Prop:=∀ v h,(∀ p,h p≠none→H p=none)→Dj F' h→Same h H'→O.O a v F' h→Q v H'
noncomputable def EvO (K:Fgg) (e:TE) (E:XK) (L:List Sl) (r:Mo α) (O:Own α):Prop :=
 ∀ σ F H (Q:VK),HoldF L σ F→Same F H→After K r E F H (OwnK O H Q)→e σ H Q
noncomputable def EvT (K:Fgg) (t:TT) (E:XK) (L:List Sl) (r:Mo Bool):Prop :=
 ∀ σ F H (Q:Bool→Hp→Prop),HoldF L σ F→Same F H→After K r E F H (fun b _ H'=>Q b H')→t σ H Q
noncomputable def EvA (K:Fgg) (t:TA) (E:XK) (L:List Sl) (r:Mo γ) (C:Cs γ):Prop :=
 ∀ σ F H (Q:List V→Hp→Prop),HoldF L σ F→Same F H→After K r E F H (fun c F' H'=>∀ vs,C.R c vs F'→Q vs H')→t σ H Q
variable {L:List Sl}{e e1 e2:TE}{T:Ty α}{r:Mo α}
theorem EvO.fr {O:Own α}(h:EvO K e E L r O):EvF K e E L r O.fr:=by
 intro σ F H Q hL hs q
 refine h σ F H Q hL hs ?_
 cases r with
 | ok a =>
  intro F' H' x v h' fresh d s o
  refine q (un F' h') H' ⟨x.1.trans zc3_,fun p o e=>?_,x.2.2.1,fun p a b=>?_⟩ v (O.frz d o)
  ·unfold un at e
   cases z:F' p with
   | some w=>rw [z] at e; cases e; exact x.2.1 _ _ z
   | none=>rw [z] at e; exact s _ _ e
  ·unfold un at b
   cases z:F' p with
   | some w=>exact x.2.2.2 p a (by rw [z]; exact Option.some_ne_none _)
   | none=>rw [z] at b; exact fresh p b
 | ex c=>exact q
 | no=>exact q
theorem EvF.ow (h:EvF K e E L r T):EvO K e E L r (owF T):=by
 intro σ F H Q hL hs q
 refine h σ F H Q hL hs (q.imp fun a F' H' x k v hv=>?_)
 exact k v (fun _=>none) (fun p z=>absurd rfl z) (fun p=>.inr rfl) (fun p o z=>by cases z) ⟨fun _=>rfl,hv⟩
theorem ev_c {v:V}{a:α}(h:∀ F,T.R a v F):EvF K (tC v) E L (.ok a) T:=fun σ F H Q hL hs q=>q.ok hs v (h F)
theorem zl_ (i:Int):EvF K (tC (.int i)) E L (.ok i) tyInt:=ev_c fun _=>rfl
theorem zaH_ (l:List Nat):EvF K (tC (tx l)) E L (.ok l) tyStr:=ev_c fun _=>rfl
theorem zkS_ (b:Bool):EvF K (tC (.bl b)) E L (.ok b) tyBl:=ev_c fun _=>rfl
theorem zdC_:EvF K (tC .non) E L (.ok ()) tyNon:=ev_c fun _=>rfl
theorem zdX_ {β:Type}{T:Ty β}:EvF K (tC .non) E L (.ok (none:Option β)) (tyOpt T):=ev_c fun _=>rfl
theorem zcT_ (hn:∀ a v F,T.R a v F→v≠.non) (h:EvF K e E L r T):EvF K e E L (r.bind fun a=>.ok (some a)) (tyOpt T):=by
 intro σ F H Q hL hs q
 exact h σ F H Q hL hs (q.bind.imp fun a F1 H1 x k v hv=>k.ok x.2.1 v ⟨hv,hn _ _ _ hv⟩)
theorem zc_ (i:Nat) {a:α}(h:L[i]?=some (.fz T a)):EvF K (mVar i) E L (.ok a) T:=by
 intro σ F H Q hL hs q
 obtain ⟨v,e,r⟩:=hL i _ h
 unfold mVar
 cases z:σ[i]? with
 | none=>rw [z] at e; cases e
 | some o =>
  rw [z] at e
  cases (show o=some v from e)
  exact q.ok hs v r
theorem zkK_ (i:Nat) {O:Own α}{a:α}(h:L[i]?=some (.ow O a)):EvF K (mVar i) E L (.ok a) O.fr:=by
 intro σ F H Q hL hs q
 obtain ⟨v,e,r⟩:=hL i _ h
 unfold mVar
 cases z:σ[i]? with
 | none=>rw [z] at e; cases e
 | some o =>
  rw [z] at e
  cases (show o=some v from e)
  exact q.ok hs v r
noncomputable def Op2 (K:Fgg) (m:R2) (E:XK) (T1:Ty α) (T2:Ty β) (g:α→β→Mo γ) (T:Ty γ):Prop :=
 ∀ a b x y F H (Q:VK),Same F H→T1.R a x F→T2.R b y F→After K (g a b) E F H (fun c F' H'=>∀ v,T.R c v F'→Q v H')→m x y H Q
noncomputable def Op2O (K:Fgg) (m:R2) (E:XK) (T1:Ty α) (T2:Ty β) (g:α→β→Mo γ) (O:Own γ):Prop :=
 ∀ a b x y F H (Q:VK),Same F H→T1.R a x F→T2.R b y F→After K (g a b) E F H (OwnK O H Q)→m x y H Q
theorem OwnK.back {O:Own α}{H H1:Hp}{Q:VK}{a:α}{F' H':Hp}(g:Same H H1) (h:OwnK O H Q a F' H'):OwnK O H1 Q a F' H' :=
 fun v k fresh d s o=>h v k (fun p z=>g.free (fresh p z)) d s o
theorem zx_ {m:R2}{T1:Ty α}{T2:Ty β}{T:Ty γ}{g:α→β→Mo γ}{r1:Mo α}{r2:Mo β}(hop:Op2 K m E T1 T2 g T) (h1:EvF K e1 E L r1 T1) (h2:EvF K e2 E L r2 T2) :
  EvF K (tOp m e1 e2) E L (r1.bind fun a=>r2.bind fun b=>g a b) T:=by
 intro σ F H Q hL hs q
 refine h1 σ F H _ hL hs (q.bind.imp fun a F1 H1 x1 k1 v1 hv1=>?_)
 refine h2 σ F1 H1 _ (hL.mono x1.1) x1.2.1 (k1.bind.imp fun b F2 H2 x2 k2 v2 hv2=>?_)
 exact hop a b v1 v2 F2 H2 Q x2.2.1 (T1.mono x2.1 hv1) hv2 k2
theorem zi3_ {m:R2}{T1:Ty α}{T2:Ty β}{O:Own γ}{g:α→β→Mo γ}{r1:Mo α}{r2:Mo β}(hop:Op2O K m E T1 T2 g O) (h1:EvF K e1 E L r1 T1) (h2:EvF K e2 E L r2 T2) :
  EvO K (tOp m e1 e2) E L (r1.bind fun a=>r2.bind fun b=>g a b) O:=by
 intro σ F H Q hL hs q
 refine h1 σ F H _ hL hs (q.bind.imp fun a F1 H1 x1 k1 v1 hv1=>?_)
 refine h2 σ F1 H1 _ (hL.mono x1.1) x1.2.1 (k1.bind.imp fun b F2 H2 x2 k2 v2 hv2=>?_)
 exact hop a b v1 v2 F2 H2 Q x2.2.1 (T1.mono x2.1 hv1) hv2 (k2.imp fun c F3 H3 x3 k3=>k3.back (x1.2.2.1.trans x2.2.2.1))
theorem zoH_ {g:Int→Int→V}{f:Int→Int→α}(h:∀ i j F,T.R (f i j) (g i j) F):Op2 K (mI0 g) E tyInt tyInt (fun i j=>.ok (f i j)) T:=by
 intro a b x y F H Q hs hx hy q
 cases hx; cases hy
 exact q.ok hs _ (h a b F)
theorem op_i {C:Int→Int→Prop} [∀ i j,Decidable (C i j)] {g:Int→Int→V}{f:Int→Int→α}(h:∀ i j F,T.R (f i j) (g i j) F):Op2 K (mI C g) E tyInt tyInt (fun i j=>.grd (C i j) (.ok (f i j))) T:=by
 intro a b x y F H Q hs hx hy q
 cases hx; cases hy
 obtain ⟨c,q⟩:=q.grd
 exact ⟨c,q.ok hs _ (h a b F)⟩
instance (i j:Int):Decidable (CMul i j):=inferInstanceAs (Decidable (_∨_))
instance (i j:Int):Decidable (CDiv i j):=inferInstanceAs (Decidable (_∧_))
instance (i j:Int):Decidable (CPow i j):=inferInstanceAs (Decidable (_∧_∧_))
theorem zbN_:Op2 K mAdd E tyInt tyInt (fun i j=>.ok (i+j)) tyInt:=by
 intro a b x y F H Q hs hx hy q
 cases hx; cases hy
 exact q.ok hs _ rfl
theorem zfx_:Op2 K mSub E tyInt tyInt (fun i j=>.ok (i-j)) tyInt:=zoH_ fun _ _ _=>rfl
theorem zam_:Op2 K mMod E tyInt tyInt (fun i j=>.grd (0<j) (.ok (i % j))) tyInt:=op_i (C:=fun _ j=>0<j) fun _ _ _=>rfl
theorem zjZ_:Op2 K mGt E tyInt tyInt (fun i j=>.ok (decide (j<i))) tyBl:=zoH_ fun _ _ _=>rfl
theorem zoj_:Op2 K mGe E tyInt tyInt (fun i j=>.ok (decide (j≤i))) tyBl:=zoH_ fun _ _ _=>rfl
theorem zi2_:Op2 K mAdd E tyStr tyStr (fun i j=>.lim (i.length+j.length) (.ok (i++j))) tyStr:=by
 intro a b x y F H Q hs hx hy q
 cases hx; cases hy
 obtain ⟨c,q⟩:=q.lim
 exact ⟨c,q.ok hs _ rfl⟩
theorem Prs.append {xs ys:List α}{vs us:List V}(a:Prs T H xs vs) (b:Prs T H ys us):Prs T H (xs++ys) (vs++us):=by
 induction a with
 | nil=>exact b
 | cons r t ih=>exact .cons r ih
theorem Prs.len {xs:List α}{vs:List V}(a:Prs T H xs vs):xs.length=vs.length:=Paired.length a
theorem Prs.get {xs:List α}{vs:List V}(a:Prs T H xs vs) (i:Nat):(xs[i]?=none∧vs[i]?=none)∨∃ x v,xs[i]?=some x∧vs[i]?=some v∧T.R x v H:=by
 induction a generalizing i with
 | nil=>exact .inl ⟨rfl,rfl⟩
 | cons r t ih =>
  cases i with
  | zero=>exact .inr ⟨_,_,rfl,rfl,r⟩
  | succ i=>simpa using ih i
theorem Prs.take {xs:List α}{vs:List V}(a:Prs T H xs vs) (n:Nat):Prs T H (xs.take n) (vs.take n):=by
 induction a generalizing n with
 | nil=>rw [List.take_nil,List.take_nil]; exact .nil
 | cons r t ih =>
  cases n with
  | zero=>exact .nil
  | succ n=>exact .cons r (ih n)
theorem Prs.drop {xs:List α}{vs:List V}(a:Prs T H xs vs) (n:Nat):Prs T H (xs.drop n) (vs.drop n):=by
 induction a generalizing n with
 | nil=>rw [List.drop_nil,List.drop_nil]; exact .nil
 | cons r t ih =>
  cases n with
  | zero=>exact .cons r t
  | succ n=>exact ih n
theorem Prs.rev {xs:List α}{vs:List V}(a:Prs T H xs vs):Prs T H xs.reverse vs.reverse:=by
 induction a with
 | nil=>exact .nil
 | cons r t ih=>rw [List.reverse_cons,List.reverse_cons]; exact Prs.append ih (.cons r .nil)
theorem Prs.set {xs:List α}{vs:List V}(a:Prs T H xs vs) (i:Nat) {x:α}{v:V}(q:T.R x v H):Prs T H (xs.set i x) (vs.set i v):=by
 induction a generalizing i with
 | nil=>exact .nil
 | cons r t ih =>
  cases i with
  | zero=>exact .cons q t
  | succ i=>exact .cons r (ih i)
theorem zif_ {vs:List V}{xs:List α}{p:Addr}{F' H':Hp}{Q:VK}(hp:H p=none) (h2:H' p=some (.lst vs)) (hf:F' p=none) (hr:Prs T F' xs vs) (q:OwnK (owL T) H Q xs F' H'):Q (.ref p) H':=by
 refine q (.ref p) (one p (.lst vs)) (fun b z=>?_) (fun b=>?_) (fun b o z=>?_) ⟨p,vs,rfl,rfl,hr⟩
 ·unfold one at z; split at z
  ·rename_i e; rw [e]; exact hp
  ·exact absurd rfl z
 ·unfold one; split
  ·rename_i e; rw [e]; exact .inl hf
  ·exact .inr rfl
 ·unfold one at z; split at z
  ·rename_i e; rw [e]; cases z; exact h2
  ·cases z
theorem zdb_ {vs:List V}{xs:List α}{p:Addr}{Q:VK}(hs:Same F H) (hp:H p=none) (hr:Prs T F xs vs) (q:After K (.ok xs) E F H (OwnK (owL T) H Q)):Q (.ref p) (upd H p (.lst vs)) :=
 zif_ hp zaR_ (hs.free hp) hr (q F _ (.heap hs (zcc_ hp _)))
theorem zgE_:Op2O K mAdd E (tyL T) (tyL T) (fun i j=>.lim (i.length+j.length) (.ok (i++j))) (owL T):=by
 rintro a b x y F H Q hs ⟨p,vs,rfl,h1,r1⟩ ⟨p2,us,rfl,h2,r2⟩ q
 obtain ⟨c,q⟩:=q.lim
 exact ⟨vs,us,hs _ _ h1,hs _ _ h2,by rw [← r1.len,← r2.len]; exact c,fun p hp=>zdb_ hs hp (r1.append r2) q⟩
theorem zf_ (h:EvF K e E L r T):EvA K (tCons e tNil) E L r (csLast T):=by
 intro σ F H Q hL hs q
 exact h σ F H _ hL hs (q.imp fun a F1 H1 x k v hv=>k [v] ⟨v,rfl,hv⟩)
theorem zk_ {ta:TA}{r2:Mo γ}{C:Cs γ}(h:EvF K e E L r T) (h2:EvA K ta E L r2 C):EvA K (tCons e ta) E L (r.bind fun a=>r2.bind fun c=>.ok (a,c)) (csCons T C):=by
 intro σ F H Q hL hs q
 refine h σ F H _ hL hs (q.bind.imp fun a F1 H1 x1 k1 v1 hv1=>?_)
 refine h2 σ F1 H1 _ (hL.mono x1.1) x1.2.1 (k1.bind.imp fun c F2 H2 x2 k2 vs hvs=>?_)
 exact k2.ok x2.2.1 (v1::vs) ⟨v1,vs,rfl,T.mono x2.1 hv1,hvs⟩
noncomputable def Ct (K:Fgg) (C:Cs γ) (f:γ→Mo ρ) (O:Own ρ):Sp:=fun vs H Q E=>∃ F c,Same F H∧C.R c vs F∧After K (f c) E F H (OwnK O H Q)
theorem ziX_ {C:Cs γ}{f:γ→Mo ρ}{O:Own ρ}{ta:TA}{r:Mo γ}(h:EvA K ta E L r C):EvO K (tCall (Ct K C f O) [] E ta) E L (r.bind f) O:=by
 intro σ F H Q hL hs q
 refine h σ F H _ hL hs (q.bind.imp fun c F1 H1 x1 k1 vs hvs=>?_)
 rw [List.append_nil]
 exact ⟨F1,c,x1.2.1,hvs,k1.imp fun r F2 H2 x2 k2=>k2.back x1.2.2.1⟩
theorem zbd_ {C:Cs γ}{f:γ→Mo ρ}{O:Own ρ}{ta:TA}{r:Mo γ}(h:EvA K ta E L r C):EvO K (tCall (Ct K C f O) [] E0 ta) E L (r.bind fun c=>(f c).noex) O:=by
 intro σ F H Q hL hs q
 refine h σ F H _ hL hs (q.bind.imp fun c F1 H1 x1 k1 vs hvs=>?_)
 rw [List.append_nil]
 exact ⟨F1,c,x1.2.1,hvs,k1.noex.imp fun r F2 H2 x2 k2=>k2.back x1.2.2.1⟩
noncomputable def Bl (K:Fgg) (m:List V→Hp→VK→Prop) (E:XK) (C:Cs γ) (g:γ→Mo α) (T:Ty α):Prop :=
 ∀ c vs F H (Q:VK),Same F H→C.R c vs F→After K (g c) E F H (fun c F' H'=>∀ v,T.R c v F'→Q v H')→m vs H Q
noncomputable def BlO (K:Fgg) (m:List V→Hp→VK→Prop) (E:XK) (C:Cs γ) (g:γ→Mo α) (O:Own α):Prop :=
 ∀ c vs F H (Q:VK),Same F H→C.R c vs F→After K (g c) E F H (OwnK O H Q)→m vs H Q
theorem zgv_ {m:List V→Hp→VK→Prop}{C:Cs γ}{g:γ→Mo α}{ta:TA}{r:Mo γ}(hb:Bl K m E C g T) (h:EvA K ta E L r C):EvF K (tCB m ta) E L (r.bind g) T:=by
 intro σ F H Q hL hs q
 exact h σ F H _ hL hs (q.bind.imp fun c F1 H1 x1 k1 vs hvs=>hb c vs F1 H1 Q x1.2.1 hvs k1)
theorem ze7_ {m:List V→Hp→VK→Prop}{C:Cs γ}{g:γ→Mo α}{O:Own α}{ta:TA}{r:Mo γ}(hb:BlO K m E C g O) (h:EvA K ta E L r C):EvO K (tCB m ta) E L (r.bind g) O:=by
 intro σ F H Q hL hs q
 exact h σ F H _ hL hs (q.bind.imp fun c F1 H1 x1 k1 vs hvs=>hb c vs F1 H1 Q x1.2.1 hvs (k1.imp fun a F2 H2 x2 k2=>k2.back x1.2.2.1))
theorem zkx_:Bl K (mLen K) E (csLast tyStr) (fun l=>.lim l.length (.ok (l.length:Int))) tyInt:=by
 rintro c vs F H Q hs ⟨v,rfl,rfl⟩ q
 obtain ⟨z,q⟩:=q.lim
 exact ⟨z,q.ok hs _ rfl⟩
theorem zcB_:Bl K (mLen K) E (csLast (tyL T)) (fun l=>.ok (l.length:Int)) tyInt:=by
 rintro c vs F H Q hs ⟨v,rfl,p,us,rfl,h,r⟩ q
 exact ⟨us,.inl (.of (hs _ _ h)),q.ok hs _ (by rw [r.len])⟩
theorem zlt_:Bl K (mLen K) E (csLast (tySc K)) (fun l=>.ok (l.length:Int)) tyInt:=by
 rintro c vs F H Q hs ⟨v,rfl,p,rfl,h⟩ q
 exact ⟨_,.inl (hs.seq h),q.ok hs _ (by rw [List.length_map])⟩
theorem znQ_:Bl K (mTwo min) E (csCons tyInt (csLast tyInt)) (fun c=>.ok (min c.1 c.2)) tyInt:=by
 rintro c vs F H Q hs ⟨v,us,rfl,rfl,w,rfl,rfl⟩ q
 exact q.ok hs _ rfl
theorem zfR_:BlO K (mList K) E (csLast (tyL T)) (fun l=>.ok l) (owL T):=by
 rintro c vs F H Q hs ⟨v,rfl,p,us,rfl,h,r⟩ q
 exact .inl ⟨us,.inl (.of (hs _ _ h)),fun l hl=>zdb_ hs hl r q⟩
theorem zkO_ {xs:List Int}:Prs tyInt H xs (xs.map V.int):=by
 induction xs with
 | nil=>exact .nil
 | cons x xs ih=>exact .cons rfl ih
theorem zfb_:Op2 K (mIx K) E tyStr tyInt (fun l i=>.lim l.length (.opt ((atI l i).map fun c=>[c]))) tyStr:=by
 rintro a b x y F H Q hs rfl rfl q
 obtain ⟨z,q⟩:=q.lim
 obtain ⟨l,e,q⟩:=q.opt
 refine ⟨z,?_⟩
 show (match atI a b with | some c=>Q (tx [c]) H | none=>False)
 cases e1:atI a b with
 | none=>rw [e1] at e; cases e
 | some c=>rw [e1] at e; cases e; exact q.ok hs _ rfl
theorem zkr_ {xs:List α}{vs:List V}(r:Prs T H xs vs) {i:Int}{x:α}(e:atI xs i=some x):∃ v,atI vs i=some v∧T.R x v H:=by
 unfold atI at e ⊢
 rw [← r.len]
 cases e1:ixN xs.length i with
 | none=>rw [e1] at e; cases e
 | some j =>
  rw [e1] at e
  rcases r.get j with ⟨a,b⟩ | ⟨y,v,a,b,c⟩
  ·have:xs[j]?=some x:=e
   rw [a] at this; cases this
  ·have:xs[j]?=some x:=e
   rw [a] at this; cases this
   exact ⟨v,b,c⟩
theorem zcD_:Op2 K (mIx K) E (tyL T) tyInt (fun l i=>.opt (atI l i)) T:=by
 rintro a b x y F H Q hs ⟨p,vs,rfl,h,r⟩ rfl q
 obtain ⟨l,e,q⟩:=q.opt
 refine ⟨vs,.inl (.of (hs _ _ h)),?_⟩
 obtain ⟨v,e2,rv⟩:=zkr_ r e
 rw [e2]
 exact q.ok hs v rv
theorem zmJ_:Op2 K (mIx K) E (tySc K) tyInt (fun l i=>.opt (atI l i)) tyInt:=by
 rintro a b x y F H Q hs ⟨p,rfl,h⟩ rfl q
 obtain ⟨l,e,q⟩:=q.opt
 refine ⟨_,.inl (hs.seq h),?_⟩
 obtain ⟨v,e2,rv⟩:=zkr_ (H:=F) zkO_ e
 rw [e2]
 exact q.ok hs v rv
noncomputable def CsAt (C:Cs γ) (i:Nat) (T:Ty α) (pr:γ→α):Prop:=∀ {c vs H},C.R c vs H→∃ v,vs[i]?=some v∧T.R (pr c) v H
theorem ziF_:CsAt (csLast T) 0 T id:=fun ⟨v,e,h⟩=>⟨v,by rw [e]; rfl,h⟩
theorem at_0 {C:Cs γ}:CsAt (csCons T C) 0 T Prod.fst:=fun ⟨v,us,e,h,q⟩=>⟨v,by rw [e]; rfl,h⟩
theorem at_s {C:Cs γ}{i:Nat}{pr:γ→α}{T':Ty β}(h:CsAt C i T pr):CsAt (csCons T' C) (i+1) T (fun c=>pr c.2):=fun ⟨v,us,e,_,q⟩=>by
 obtain ⟨w,e2,r⟩:=h q
 exact ⟨w,by rw [e]; exact e2,r⟩
theorem zgl_ {C:Cs γ}{i:Nat}{pr:γ→α}{r:Mo γ}(ha:CsAt C i T pr) (h:EvF K e E L r (tyTup C)):EvF K (tOp (mIx K) e (tC (.int i))) E L (r.bind fun c=>.ok (pr c)) T:=by
 intro σ F H Q hL hs q
 refine h σ F H _ hL hs (q.bind.imp fun c F1 H1 x1 k1 v1 ⟨p,us,ev,hp,hc⟩=>?_)
 subst ev
 obtain ⟨w,e2,rw'⟩:=ha hc
 refine ⟨us,.inr (.of (x1.2.1 _ _ hp)),?_⟩
 have e3:atI us (i:Int)=some w:=by
  unfold atI
  rw [zis_ (by lia) (by have:=(List.getElem?_eq_some_iff.mp e2).1; lia)]
  simpa using e2
 rw [e3]
 exact k1.ok x1.2.1 w rw'
end
end L2
namespace L2
open PySem PySem.Spec PyProof.Rows
section
variable {K:Fgg}{E:XK}{α β γ ρ:Type}{F H:Hp}{L:List Sl}{e e1 e2:TE}{T:Ty α}{r:Mo α}
variable {t t1 t2:TT}{b b1 b2:Mo Bool}
theorem zI_ (h:EvF K e E L b tyBl):EvT K (mTest e) E L b:=by
 intro σ F H Q hL hs q
 refine h σ F H _ hL hs (q.imp fun a F1 H1 x k v hv=>?_)
 cases hv
 exact k
theorem zfY_ (h:EvT K t E L b):EvT K (tNot t) E L (b.bind fun c=>.ok (!c)):=by
 intro σ F H Q hL hs q
 exact h σ F H _ hL hs (q.bind.imp fun a F1 H1 x k=>k.ok x.2.1)
theorem zdD_ (h1:EvT K t1 E L b1) (h2:EvT K t2 E L b2):EvT K (mAnd t1 t2) E L (b1.bind fun c=>if c then b2 else .ok false):=by
 intro σ F H Q hL hs q
 refine h1 σ F H _ hL hs (q.bind.imp fun a F1 H1 x k=>⟨fun c=>?_,fun c=>?_⟩)
 ·rw [if_pos c] at k; exact h2 σ F1 H1 _ (hL.mono x.1) x.2.1 k
 ·rw [if_neg (by rw [c]; decide)] at k; exact k.ok x.2.1
theorem zjQ_ (h1:EvT K t1 E L b1) (h2:EvT K t2 E L b2):EvT K (mOr t1 t2) E L (b1.bind fun c=>if c then .ok true else b2):=by
 intro σ F H Q hL hs q
 refine h1 σ F H _ hL hs (q.bind.imp fun a F1 H1 x k=>⟨fun c=>?_,fun c=>?_⟩)
 ·rw [if_pos c] at k; exact k.ok x.2.1
 ·rw [if_neg (by rw [c]; decide)] at k; exact h2 σ F1 H1 _ (hL.mono x.1) x.2.1 k
theorem znE_ (h1:EvF K e1 E L b1 tyBl) (h2:EvF K e2 E L b2 tyBl):EvF K (mAndV e1 e2) E L (b1.bind fun c=>if c then b2 else .ok false) tyBl:=by
 intro σ F H Q hL hs q
 refine h1 σ F H _ hL hs (q.bind.imp fun a F1 H1 x k v hv=>?_)
 cases hv
 refine ⟨fun c=>?_,fun c=>?_⟩
 ·rw [if_pos c] at k; exact h2 σ F1 H1 _ (hL.mono x.1) x.2.1 k
 ·rw [if_neg (by rw [c]; decide)] at k; exact k.ok x.2.1 _ rfl
theorem zoC_ {r:Mo Int}(h1:EvF K e1 E L r tyInt):EvF K (mNeg e1) E L (r.bind fun c=>.ok (-c)) tyInt:=by
 intro σ F H Q hL hs q
 refine h1 σ F H _ hL hs (q.bind.imp fun a F1 H1 x k v hv=>?_)
 cases hv
 exact k.ok x.2.1 _ rfl
theorem ev_if {r1 r2:Mo α}(ht:EvT K t E L b) (h1:EvF K e1 E L r1 T) (h2:EvF K e2 E L r2 T):EvF K (mIf t e1 e2) E L (b.bind fun c=>if c then r1 else r2) T:=by
 intro σ F H Q hL hs q
 refine ht σ F H _ hL hs (q.bind.imp fun a F1 H1 x k=>⟨fun c=>?_,fun c=>?_⟩)
 ·rw [if_pos c] at k; exact h1 σ F1 H1 _ (hL.mono x.1) x.2.1 k
 ·rw [if_neg (by rw [c]; decide)] at k; exact h2 σ F1 H1 _ (hL.mono x.1) x.2.1 k
theorem After.more {k:α→Hp→Hp→Prop}(h:After K r E F H k):After K r E F H fun a F1 H1=>∀ F2 H2,Ext F1 H1 F2 H2→k a F2 H2:=by
 cases r with
 | ok a=>exact fun F1 H1 x F2 H2 y=>h F2 H2 (x.trans y)
 | ex c=>exact h
 | no=>exact h
noncomputable def CsN (C:Cs γ) (n:Nat):Prop:=∀ {c vs H},C.R c vs H→vs.length=n
theorem zg_:CsN (csLast T) 1:=fun ⟨v,e,_⟩=>by rw [e]; rfl
theorem ze_ {C:Cs γ}{n:Nat}(h:CsN C n):CsN (csCons T C) (n+1):=fun ⟨v,us,e,_,q⟩=>by rw [e,List.length_cons,h q]
theorem zoc_ {ta:TA}{C:Cs γ}{r:Mo γ}{n:Nat}(hl:CsN C n) (h:EvA K ta E L r C) (hn:n≤100:=by decide):EvF K (tTup ta) E L r (tyTup C):=by
 intro σ F H Q hL hs q
 refine h σ F H _ hL hs (q.more.imp fun c F1 H1 x1 k1 vs hvs=>⟨zcz_ (by rw [hl hvs]; lia),fun p hp=>?_⟩)
 have x:=Ext.new (o:=.tup vs) x1.2.1 hp
 exact k1 _ _ x _ ⟨p,vs,rfl,zaR_,C.mono x.1 hvs⟩
noncomputable def CsL (C:Cs γ) (T:Ty α) (f:γ→List α):Prop:=∀ {c vs H},C.R c vs H→Prs T H (f c) vs
theorem zbG_:CsL (csLast T) T fun a=>[a]:=fun ⟨v,e,h⟩=>by rw [e]; exact .cons h .nil
theorem zb2_ {C:Cs γ}{f:γ→List α}(h:CsL C T f):CsL (csCons T C) T fun c=>c.1::f c.2:=fun ⟨v,us,e,q,z⟩=>by rw [e]; exact .cons q (h z)
theorem zeB_ {ta:TA}{C:Cs γ}{r:Mo γ}{n:Nat}{f:γ→List α}(hl:CsN C n) (hf:CsL C T f) (h:EvA K ta E L r C) (hn:n≤100:=by decide):EvO K (tLst ta) E L (r.bind fun c=>.ok (f c)) (owL T):=by
 intro σ F H Q hL hs q
 refine h σ F H _ hL hs (q.bind.imp fun c F1 H1 x1 k1 vs hvs=>⟨zcz_ (by rw [hl hvs]; lia),fun p hp=>?_⟩)
 exact zdb_ x1.2.1 hp (hf hvs) (k1.imp fun a F2 H2 x2 k2=>k2.back x1.2.2.1)
theorem zcQ_ (T:Ty α):EvO K (tLst tNil) E L (.ok []) (owL T):=by
 intro σ F H Q hL hs q
 exact ⟨Nat.zero_le _,fun p hp=>zdb_ hs hp (T:=T) .nil q⟩
noncomputable def EvP (K:Fgg) (t:TO) (E:XK) (L:List Sl) (r:Mo (Option Int)):Prop :=
 ∀ σ F H (Q:Option Int→Hp→Prop),HoldF L σ F→Same F H→After K r E F H (fun b _ H'=>Q b H')→t σ H Q
theorem zkQ_:EvP K tNoPart E L (.ok none):=fun σ F H Q hL hs q=>q.ok hs
theorem zhD_ {r:Mo Int}(h:EvF K e E L r tyInt):EvP K (mPart e) E L (r.bind fun i=>.ok (some i)):=by
 intro σ F H Q hL hs q
 refine h σ F H _ hL hs (q.bind.imp fun a F1 H1 x k v hv=>?_)
 cases hv
 exact k.ok x.2.1
noncomputable def cutG (xs:List α) (lo hi:Option Int):List α:=(xs.drop (HT.sIx xs.length 0 lo)).take (HT.sIx xs.length xs.length hi-HT.sIx xs.length 0 lo)
theorem zk6_ {xs:List α}{vs:List V}(q:Prs T H xs vs) (lo hi:Option Int):Prs T H (cutG xs lo hi) (cutV vs lo hi):=by
 unfold cutG cutV
 rw [← q.len]
 exact (q.drop _).take _
variable {tl th:TO}{rl rh:Mo (Option Int)}
theorem znF_ {r:Mo (List Nat)}(h:EvF K e E L r tyStr) (hl:EvP K tl E L rl) (hh:EvP K th E L rh):EvF K (tSl (mSl K) e tl th) E L (r.bind fun l=>rl.bind fun a=>rh.bind fun b=>.lim l.length (.ok (cutG l a b))) tyStr:=by
 intro σ F H Q hL hs q
 refine h σ F H _ hL hs (q.bind.imp fun l F1 H1 x1 k1 v hv=>?_)
 refine hl σ F1 H1 _ (hL.mono x1.1) x1.2.1 (k1.bind.imp fun a F2 H2 x2 k2=>?_)
 refine hh σ F2 H2 _ (hL.mono (x1.1.trans x2.1)) x2.2.1 (k2.bind.imp fun b F3 H3 x3 k3=>?_)
 cases hv
 obtain ⟨z,k3⟩:=k3.lim
 exact ⟨z,k3.ok x3.2.1 _ rfl⟩
theorem zhn_ {r:Mo (List α)}(h:EvF K e E L r (tyL T)) (hl:EvP K tl E L rl) (hh:EvP K th E L rh):EvO K (tSl (mSl K) e tl th) E L (r.bind fun l=>rl.bind fun a=>rh.bind fun b=>.ok (cutG l a b)) (owL T):=by
 intro σ F H Q hL hs q
 refine h σ F H _ hL hs (q.bind.imp fun l F1 H1 x1 k1 v hv=>?_)
 refine hl σ F1 H1 _ (hL.mono x1.1) x1.2.1 (k1.bind.imp fun a F2 H2 x2 k2=>?_)
 refine hh σ F2 H2 _ (hL.mono (x1.1.trans x2.1)) x2.2.1 (k2.bind.imp fun b F3 H3 x3 k3=>?_)
 obtain ⟨p,vs,rfl,hp,hr⟩:=hv
 have x:=x2.1.trans x3.1
 exact ⟨vs,.of (x3.2.1 _ _ (x _ _ hp)),fun q hq=>zdb_ x3.2.1 hq (zk6_ (hr.mono x) a b) (k3.imp fun _ _ _ _ z=>z.back ((x1.2.2.1.trans x2.2.2.1).trans x3.2.2.1))⟩
theorem zkJ_ {r:Mo (List Int)}(h:EvF K e E L r (tySc K)) (hl:EvP K tl E L rl) (hh:EvP K th E L rh):EvO K (tSl (mSl K) e tl th) E L (r.bind fun l=>rl.bind fun a=>rh.bind fun b=>.ok (cutG l a b)) (owL tyInt):=by
 intro σ F H Q hL hs q
 refine h σ F H _ hL hs (q.bind.imp fun l F1 H1 x1 k1 v hv=>?_)
 refine hl σ F1 H1 _ (hL.mono x1.1) x1.2.1 (k1.bind.imp fun a F2 H2 x2 k2=>?_)
 refine hh σ F2 H2 _ (hL.mono (x1.1.trans x2.1)) x2.2.1 (k2.bind.imp fun b F3 H3 x3 k3=>?_)
 obtain ⟨p,rfl,hp⟩:=hv
 have x:=x2.1.trans x3.1
 exact ⟨_,x3.2.1.seq (x.seq hp),fun q hq=>zdb_ x3.2.1 hq (zk6_ zkO_ a b) (k3.imp fun _ _ _ _ z=>z.back ((x1.2.2.1.trans x2.2.2.1).trans x3.2.2.1))⟩
theorem znM_ {r:Mo (List α)}(h:EvF K e E L r (tyL T)) (hl:EvP K tl E L (.ok (some (-1)))):EvO K (tRev K e tl) E L (r.bind fun l=>.ok l.reverse) (owL T):=by
 intro σ F H Q hL hs q
 refine h σ F H _ hL hs (q.bind.imp fun l F1 H1 x1 k1 v hv=>?_)
 refine hl σ F1 H1 _ (hL.mono x1.1) x1.2.1 (fun F2 H2 x2=>?_)
 obtain ⟨p,vs,rfl,hp,hr⟩:=hv
 refine ⟨rfl,vs,.of (x2.2.1 _ _ (x2.1 _ _ hp)),fun q hq=>?_⟩
 refine zif_ hq zaR_ (x2.2.1.free hq) (hr.mono x2.1).rev (((k1 F2 _ ?_)).back (x1.2.2.1.trans x2.2.2.1))
 exact x2.trans (.heap x2.2.1 (zcc_ hq _))
structure EqT (K:Fgg) (T:Ty α) (n:Nat) (q:α→α→Bool):Prop where
 eq:∀ {a b x y H},T.R a x H→T.R b y H→EqD K H n x y (q a b)
theorem zir_:EqT K tyInt 0 (fun a b=>decide (a=b)):=⟨by
 rintro a b x y H rfl rfl
 have:eqV (.int a) (.int b)=decide (a=b):=by unfold eqV; exact rfl
 rw [← this]; exact .flat rfl rfl⟩
theorem zgB_:EqT K tyStr 0 (fun a b=>decide (a=b)):=⟨by
 rintro a b x y H rfl rfl
 have:eqV (tx a) (tx b)=decide (a=b):=by
  unfold eqV
  rw [Bool.eq_iff_iff,decide_eq_true_iff]
  constructor
  ·intro h
   have h:=eq_of_beq h
   injection h with h
   have:=congrArg Array.toList h
   simpa using this
  ·rintro rfl; exact beq_self_eq_true _
 rw [← this]; exact .flat rfl rfl⟩
noncomputable def eqL (q:α→α→Bool):List α→List α→Bool
 | [],[]=>true
 | x::xs,y::ys=>q x y && eqL q xs ys
 | _,_=>false
theorem zk3_ {q:α→α→Bool}:∀ {xs ys:List α},xs.length≠ys.length→eqL q xs ys=false
 | [],[],h=>absurd rfl h
 | [],_::_,_=>rfl
 | _::_,[],_=>rfl
 | x::xs,y::ys,h=>by unfold eqL; rw [zk3_ (by simpa using h),Bool.and_false]
theorem zkt_ {q:α→α→Bool}:∀ {xs ys:List α},xs.length=ys.length→eqL q xs ys=(List.range xs.length).all fun i=>match xs[i]?,ys[i]? with | some x,some y=>q x y | _,_=>true
 | [],[],_=>rfl
 | x::xs,y::ys,h=>by
  unfold eqL
  rw [List.length_cons,List.range_succ_eq_map,List.all_cons,List.all_map,zkt_ (by simpa using h)]
  rfl
theorem zfM_ {q:α→α→Bool} [DecidableEq α] (hq:∀ a b,q a b=decide (a=b)):∀ xs ys:List α,eqL q xs ys=decide (xs=ys)
 | [],[]=>rfl
 | [],_::_=>rfl
 | _::_,[]=>rfl
 | x::xs,y::ys=>by unfold eqL; rw [hq,zfM_ hq]; simp
theorem zkE_ {n:Nat}{q:α→α→Bool}(h:EqT K T n q):EqT K (tyL T) (n+1) (eqL q):=⟨by
 rintro a b x y H ⟨p,vs,rfl,hp,hr⟩ ⟨p2,us,rfl,hp2,hr2⟩
 by_cases hl:a.length=b.length
 ·rw [zkt_ hl,hr.len]
  refine .lst _ (.of hp) (.of hp2) (by rw [← hr.len,← hr2.len,hl]) fun i x y hx hy=>?_
  rcases hr.get i with ⟨_,z⟩ | ⟨x1,v1,e1,e2,r1⟩
  ·rw [z] at hx; cases hx
  rcases hr2.get i with ⟨_,z⟩ | ⟨x2,v2,e3,e4,r2⟩
  ·rw [z] at hy; cases hy
  rw [e2] at hx; cases hx
  rw [e4] at hy; cases hy
  simp only [e1,e3]
  exact h.eq r1 r2
 ·rw [zk3_ hl]
  exact .lstN (.of hp) (.of hp2) (by rw [← hr.len,← hr2.len]; exact hl)⟩
structure EqC (K:Fgg) (C:Cs γ) (n m:Nat) (q:γ→γ→Bool):Prop where
 eq:∀ {a b xs ys H},C.R a xs H→C.R b ys H→xs.length=m∧ys.length=m∧∃ e:Nat→Bool,(∀ i x y,xs[i]?=some x→ys[i]?=some y→EqD K H n x y (e i))∧(List.range m).all e=q a b
theorem EqD.le {H:Hp}{n m:Nat}{x y:V}{b:Bool}(h:EqD K H n x y b) (g:n≤m):EqD K H m x y b:=by
 induction g with
 | refl=>exact h
 | step _ ih=>exact .up ih
theorem zl3_ {n:Nat}{q:α→α→Bool}(h:EqT K T n q):EqC K (csLast T) n 1 q:=⟨by
 rintro a b xs ys H ⟨v,rfl,hv⟩ ⟨u,rfl,hu⟩
 refine ⟨rfl,rfl,fun _=>q a b,fun i x y hx hy=>?_,by simp [List.range_succ]⟩
 cases i with
 | zero=>cases hx; cases hy; exact h.eq hv hu
 | succ i=>cases hx⟩
theorem zlh_ {C:Cs γ}{n m k:Nat}{q:α→α→Bool}{q':γ→γ→Bool}(h:EqT K T n q) (h':EqC K C k m q'):EqC K (csCons T C) (max n k) (m+1) (fun a b=>q a.1 b.1 && q' a.2 b.2):=⟨by
 rintro a b xs ys H ⟨v,us,rfl,hv,hc⟩ ⟨u,ws,rfl,hu,hc'⟩
 obtain ⟨l1,l2,e,he,ea⟩:=h'.eq hc hc'
 refine ⟨by rw [List.length_cons,l1],by rw [List.length_cons,l2],fun i=>match i with | 0=>q a.1 b.1 | j+1=>e j,fun i x y hx hy=>?_,?_⟩
 ·cases i with
  | zero=>cases hx; cases hy; exact (h.eq hv hu).le (Nat.le_max_left _ _)
  | succ i=>exact (he i x y (by simpa using hx) (by simpa using hy)).le (Nat.le_max_right _ _)
 ·rw [List.range_succ_eq_map,List.all_cons,List.all_map,← ea]; rfl⟩
theorem zmZ_ {n:Nat}{q:α→α→Bool}(h:EqT K T n q) (hn:n≤50:=by decide) (hr:∀ {a x H},T.R a x H→∃ p,x=.ref p):Op2 K (mEqK K) E T T (fun a b=>.ok (q a b)) tyBl:=by
 intro a b x y F H Q hs hx hy k
 have hd:=h.eq (T.mono hs hx) (T.mono hs hy)
 obtain ⟨p,rfl⟩:=hr hx
 obtain ⟨p2,rfl⟩:=hr hy
 exact ⟨n,_,hn,hd,k.ok hs _ rfl⟩
theorem zni_ {n:Nat}{q:α→α→Bool}(h:EqT K T n q) (hn:n≤50:=by decide) (hr:∀ {a x H},T.R a x H→∃ p,x=.ref p):Op2 K (mNeK K) E T T (fun a b=>.ok (!(q a b))) tyBl:=by
 intro a b x y F H Q hs hx hy k
 have hd:=h.eq (T.mono hs hx) (T.mono hs hy)
 obtain ⟨p,rfl⟩:=hr hx
 obtain ⟨p2,rfl⟩:=hr hy
 exact ⟨n,_,hn,hd,k.ok hs _ rfl⟩
theorem ref_l {a:List α}{x:V}{H:Hp}(h:(tyL T).R a x H):∃ p,x=.ref p:=by obtain ⟨p,_,e,_⟩:=h; exact ⟨p,e⟩
theorem zlz_ {n:Nat}{q:α→α→Bool}(h:EqT K (tyL T) n (eqL q)) (hn:n≤50:=by decide):Op2 K (mEqK K) E (tyL T) (tyL T) (fun a b=>.ok (eqL q a b)) tyBl:=zmZ_ h hn ref_l
theorem znC_ {n:Nat}{q:α→α→Bool}(h:EqT K (tyL T) n (eqL q)) (hn:n≤50:=by decide):Op2 K (mNeK K) E (tyL T) (tyL T) (fun a b=>.ok (!(eqL q a b))) tyBl:=zni_ h hn ref_l
theorem ze4_:Op2 K (mEqK K) E tyInt tyInt (fun a b=>.ok (decide (a=b))) tyBl:=by
 rintro a b x y F H Q hs rfl rfl k
 exact k.ok hs _ rfl
theorem zou_:Op2 K (mNeK K) E tyInt tyInt (fun a b=>.ok (!decide (a=b))) tyBl:=by
 rintro a b x y F H Q hs rfl rfl k
 exact k.ok hs _ rfl
theorem zm6_:Op2 K (mEqK K) E tyBl tyBl (fun a b=>.ok (decide (a=b))) tyBl:=by
 rintro a b x y F H Q hs rfl rfl k
 exact k.ok hs _ rfl
theorem zdA_:Op2 K (mEqK K) E tyStr tyStr (fun a b=>.ok (decide (a=b))) tyBl:=by
 rintro a b x y F H Q hs rfl rfl k
 exact k.ok hs _ rfl
theorem zoD_:Op2 K (mNeK K) E tyStr tyStr (fun a b=>.ok (!decide (a=b))) tyBl:=by
 rintro a b x y F H Q hs rfl rfl k
 exact k.ok hs _ rfl
theorem zcg_:Op2 K mIs E (tyOpt T) tyNon (fun a _=>.ok a.isNone) tyBl:=by
 rintro a b x y F H Q hs hx rfl k
 have:decide (x=.non)=a.isNone:=by
  cases a with
  | none=>cases hx; rfl
  | some a=>exact decide_eq_false hx.2
 show (match mIsB x .non with | some b=>Q (.bl b) H | none=>False)
 have e:mIsB x .non=some (decide (x=.non)):=rfl
 rw [e,this]
 exact k.ok hs _ rfl
theorem zlX_:Op2 K mIsNot E (tyOpt T) tyNon (fun a _=>.ok a.isSome) tyBl:=by
 rintro a b x y F H Q hs hx rfl k
 have:(!decide (x=.non))=a.isSome:=by
  cases a with
  | none=>cases hx; rfl
  | some a=>rw [decide_eq_false hx.2]; rfl
 show (match mIsB x .non with | some b=>Q (.bl (!b)) H | none=>False)
 have e:mIsB x .non=some (decide (x=.non)):=rfl
 rw [e]
 show Q (.bl (!decide (x=.non))) H
 rw [this]
 exact k.ok hs _ rfl
theorem zoG_:Op2 K (mIn K false) E tyStr tyStr (fun a b=>.ok (inS a b)) tyBl:=by
 rintro a b x y F H Q hs rfl rfl k
 exact k.ok hs _ rfl
structure Flt (T:Ty α) (q:α→α→Bool):Prop where
 flat:∀ {a x H},T.R a x H→flatV x=true
 eq:∀ {a b x y H},T.R a x H→T.R b y H→eqV x y=q a b
theorem zkM_:Flt tyInt (fun a b=>decide (a=b)):=⟨fun h=>by cases h; rfl,fun h h'=>by cases h; cases h'; unfold eqV; exact rfl⟩
theorem znx_:Flt tyStr (fun a b=>decide (a=b)):=⟨fun h=>by cases h; rfl,fun {a b x y H} h h'=>by
 cases h; cases h'
 unfold eqV
 rw [Bool.eq_iff_iff,decide_eq_true_iff]
 constructor
 ·intro h
  have h:=eq_of_beq h
  injection h with h
  simpa using congrArg Array.toList h
 ·rintro rfl; exact beq_self_eq_true _⟩
theorem zmR_ {q:α→α→Bool}(f:Flt T q) {H:Hp}{a:α}{x:V}(ha:T.R a x H) {xs:List α}{vs:List V}(r:Prs T H xs vs):vs.all flatV=true∧inV x vs=xs.any fun y=>q y a:=by
 induction r with
 | nil=>exact ⟨rfl,rfl⟩
 | cons r t ih =>
  refine ⟨by rw [List.all_cons,f.flat r,ih.1]; rfl,?_⟩
  unfold inV at ih ⊢
  rw [List.any_cons,List.any_cons,f.eq r ha,ih.2]
theorem zkH_ {q:α→α→Bool}(f:Flt T q):Op2 K (mIn K true) E T (tyL T) (fun a b=>.ok (!(b.any fun y=>q y a))) tyBl:=by
 rintro a b x y F H Q hs hx ⟨p,vs,rfl,hp,hr⟩ k
 obtain ⟨h1,h2⟩:=zmR_ f hx hr
 refine ⟨vs,.inl (.of (hs _ _ hp)),f.flat hx,h1,?_⟩
 rw [h2]
 exact k.ok hs _ rfl
noncomputable def TyN (K:Fgg) (T:Ty α) (n:String):Prop:=∀ {a x H},T.R a x H→tyS K H x n
theorem zn7_:TyN K tyStr "str" := fun h=>by cases h; rfl
theorem tn_l:TyN K (tyL T) "list" := fun ⟨p,vs,e,h,_⟩=>by subst e; exact .inl ⟨rfl,vs,h⟩
theorem zm0_ {x:V}{n c:String}{bb:Bool}{Q:VK}(h:tyS K H x n) (hb:isaB n c=some bb) (q:Q (.bl bb) H):mIsa K [x,.ty c] H Q:=by
 cases x with
 | non=>cases (show n=_ from h); show (match isaB "NoneType" c with | some b=>Q (.bl b) H | none=>False); rw [hb]; exact q
 | bl _=>cases (show n=_ from h); show (match isaB "bool" c with | some b=>Q (.bl b) H | none=>False); rw [hb]; exact q
 | int _=>cases (show n=_ from h); show (match isaB "int" c with | some b=>Q (.bl b) H | none=>False); rw [hb]; exact q
 | str _=>cases (show n=_ from h); show (match isaB "str" c with | some b=>Q (.bl b) H | none=>False); rw [hb]; exact q
 | ref p=>exact ⟨n,h,by rw [hb]; exact q⟩
 | _=>exact h.elim
theorem zj5_ {n c:String}{bb:Bool}(hn:TyN K T n) (h:EvF K e E L r T) (hb:isaB n c=some bb:=by decide):EvF K (tCB (mIsa K) (tCons e (tCons (tC (.ty c)) tNil))) E L (r.bind fun _=>.ok bb) tyBl:=by
 intro σ F H Q hL hs q
 refine h σ F H _ hL hs (q.bind.imp fun l F1 H1 x1 k1 v hv=>?_)
 exact zm0_ (hn (T.mono x1.2.1 hv)) hb (k1.ok x1.2.1 _ rfl)
noncomputable def Me (K:Fgg) (m:V→List V→Hp→VK→Prop) (E:XK) (C:Cs γ) (g:List Nat→γ→Mo α) (T:Ty α):Prop :=
 ∀ l c vs F H (Q:VK),Same F H→C.R c vs F→After K (g l c) E F H (fun c F' H'=>∀ v,T.R c v F'→Q v H')→m (tx l) vs H Q
theorem zog_ {m:V→List V→Hp→VK→Prop}{C:Cs γ}{g:List Nat→γ→Mo α}{ta:TA}{r0:Mo (List Nat)}{r:Mo γ}(hb:Me K m E C g T) (h0:EvF K e E L r0 tyStr) (h:EvA K ta E L r C):EvF K (tBM K "str" m e ta) E L (r0.bind fun l=>r.bind fun c=>g l c) T:=by
 intro σ F H Q hL hs q
 refine h0 σ F H _ hL hs (q.bind.imp fun l F1 H1 x1 k1 v hv=>?_)
 cases hv
 refine ⟨rfl,h σ F1 H1 _ (hL.mono x1.1) x1.2.1 (k1.bind.imp fun c F2 H2 x2 k2 vs hvs=>hb l c vs F2 H2 Q x2.2.1 hvs k2)⟩
theorem zk9_:Me K mIndex E (csLast tyStr) (fun l c=>.grd (findS l c ≠ -1) (.ok (findS l c))) tyInt:=by
 rintro l c vs F H Q hs ⟨v,rfl,rfl⟩ k
 obtain ⟨z,k⟩:=k.grd
 exact ⟨z,k.ok hs _ rfl⟩
end
end L2
namespace L2
open PySem PySem.Spec PyProof.Rows
section
variable {K:Fgg}{E:XK}{α β γ ρ S S' B:Type}{F H:Hp}{L:List Sl}{e e1 e2:TE}{T:Ty α}{r:Mo α}
noncomputable def setL (L:List Sl) (ss:List (Nat×Sl)):List Sl:=ss.foldl (fun L q=>L.set q.1 q.2) L
noncomputable def setS (σ:St) (ss:List (Nat×Option V)):St:=ss.foldl (fun L q=>L.set q.1 q.2) σ
inductive Plain (F:Hp):List (Nat×Sl)→List (Nat×Option V)→Prop
 | nil:Plain F [] []
 | cons {α:Type}{T:Ty α}{a:α}{i:Nat}{v:V}{ss vs} (h:T.R a v F) (t:Plain F ss vs):Plain F ((i,.fz T a)::ss) ((i,some v)::vs)
noncomputable def TgR (K:Fgg) (g:TG) (T:Ty α) (ss:α→List (Nat×Sl)):Prop :=
 ∀ a v σ F H (Q:St→Hp→Prop),Same F H→T.R a v F→(∀ vs,Plain F (ss a) vs→Q (setS σ vs) H)→g v σ H Q
theorem zaE_ (i:Nat):TgR K (gName i) T fun a=>[(i,.fz T a)]:=by
 intro a v σ F H Q hs hv q
 exact q [(i,some v)] (.cons hv .nil)
theorem zgt_ {σ:St}{i j:Nat}{o:Option V}(h:i<σ.length):((σ.set i o)[j]?).join=if i=j then o else (σ[j]?).join:=by
 rw [List.getElem?_set]
 split
 ·rename_i e; subst e; first | rfl | (rw [if_pos h]; rfl)
 ·rfl
theorem zkl_ {σ:St}{i:Nat}{s:Sl}{o:Option V}(hl:L.length=σ.length) (h:HoldF L σ F) (hs:s.Z o F):HoldF (L.set i s) (σ.set i o) F:=by
 intro j t e
 rw [List.getElem?_set] at e
 split at e
 ·rename_i z; subst z
  split at e
  ·rename_i y; cases e
   rw [zgt_ (by rw [← hl]; exact y),if_pos rfl]; exact hs
  ·cases e
 ·rename_i z
  by_cases y:i<σ.length
  ·rw [zgt_ y,if_neg z]; exact h j t e
  ·rw [List.set_eq_of_length_le (by lia)]; exact h j t e
theorem zeG_ {ss:List (Nat×Sl)}{vs:List (Nat×Option V)}(p:Plain F ss vs):∀ {L:List Sl}{σ:St},L.length=σ.length→HoldF L σ F→HoldF (setL L ss) (setS σ vs) F∧(setS σ vs).length=σ.length∧(setL L ss).length=L.length:=by
 induction p with
 | nil=>exact fun hl h=>⟨h,rfl,rfl⟩
 | cons hv t ih =>
  rename_i T a i v ss vs
  intro L σ hl h
  obtain ⟨a1,b,c⟩:=ih (L:=L.set i (.fz T a)) (σ:=σ.set i (some v)) (by rw [List.length_set,List.length_set]; exact hl) (zkl_ (s:=.fz T a) hl h ⟨v,rfl,hv⟩)
  exact ⟨a1,b.trans (by rw [List.length_set]),c.trans (by rw [List.length_set])⟩
noncomputable def DeadAt (L:List Sl) (is:List Nat):Prop:=∀ i∈is,∀ s,L[i]?=some s→s=.dead
theorem zhV_ {ss:List (Nat×Sl)}{vs:List (Nat×Option V)}(p:Plain F ss vs):∀ {L:List Sl}{σ:St},L.length=σ.length→DeadAt L (ss.map (·.1))→HoldF L σ F→HoldF L (setS σ vs) F:=by
 induction p with
 | nil=>exact fun hl d h=>h
 | cons hv t ih =>
  rename_i i v ss vs
  intro L σ hl d h
  refine ih (σ:=σ.set i (some v)) (by rw [List.length_set]; exact hl) (fun j hj=>d j (List.mem_cons_of_mem _ hj)) fun j s e=>?_
  by_cases y:i<σ.length
  ·rw [zgt_ y]
   split
   ·rename_i z; subst z
    rw [d i List.mem_cons_self s e]; trivial
   ·exact h j s e
  ·rw [List.set_eq_of_length_le (by lia)]; exact h j s e
theorem zhU_ {ss:List (Nat×Sl)}{vs:List (Nat×Option V)}(p:Plain F ss vs) {j:Nat}:∀ {σ:St},j∉ss.map (·.1)→(setS σ vs)[j]?=σ[j]?:=by
 induction p with
 | nil=>exact fun _=>rfl
 | cons hv t ih =>
  rename_i i v ss vs
  intro σ hj
  have h1:i≠j:=fun z=>hj (by rw [← z]; exact List.mem_cons_self)
  have h2:=ih (σ:=σ.set i (some v)) fun z=>hj (List.mem_cons_of_mem _ z)
  exact h2.trans (List.getElem?_set_ne h1)
structure Yl (K:Fgg) (J:It) (xs:List α) (T:Ty α) (F1:Hp):Prop where
 go:∀ i H x,Same F1 H→xs[i]?=some x→J.go i H∧∀ v H',J.yld i H v H'→∀ F,Same F1 F→Same F H→∃ F',Ext F H F' H'∧T.R x v F'
 stop:∀ H,Same F1 H→J.stop xs.length H
noncomputable def EvI (K:Fgg) (wi:TI) (E:XK) (L:List Sl) (r:Mo (List α)) (T:Ty α):Prop :=
 ∀ σ F H (R:It→Hp→Prop),HoldF L σ F→Same F H→After K r E F H (fun xs F' H'=>∀ J,Yl K J xs T F'→R J H')→wi σ H R
theorem zor_ {r:Mo (List Nat)}(h:EvF K e E L r tyStr):EvI K (iAny K e) E L (r.bind fun l=>.ok (l.map fun c=>[c])) tyStr:=by
 intro σ F H R hL hs q
 refine h σ F H _ hL hs (q.bind.imp fun l F1 H1 x1 k1 v hv=>?_)
 cases hv
 refine k1.ok x1.2.1 _ ⟨fun i H x hH hx=>?_,fun H hH=>?_⟩
 ·rw [List.getElem?_map] at hx
  cases e:l[i]? with
  | none=>rw [e] at hx; cases hx
  | some c =>
   rw [e] at hx; cases hx
   have hi:=(List.getElem?_eq_some_iff.mp e).1
   refine ⟨hi,?_⟩
   rintro v H' ⟨rfl,rfl⟩ F _ hF
   refine ⟨F,.refl hF,?_⟩
   show tx [l.getD i 0]=tx [c]
   rw [List.getD_eq_getElem?_getD,e]; rfl
 ·show l.length≤(l.map fun c=>[c]).length
  rw [List.length_map]; exact Nat.le_refl _
theorem ei_l {r:Mo (List α)}(h:EvF K e E L r (tyL T)):EvI K (iAny K e) E L r T:=by
 intro σ F H R hL hs q
 refine h σ F H _ hL hs (q.imp fun l F1 H1 x1 k1 v hv=>?_)
 obtain ⟨p,vs,rfl,hp,hr⟩:=hv
 refine .inl ⟨⟨vs,.of (x1.2.1 _ _ hp)⟩,k1 _ ⟨fun i H x hH hx=>?_,fun H hH=>⟨vs,.of (hH _ _ hp),by rw [hr.len]; exact Nat.le_refl _⟩⟩⟩
 rcases hr.get i with ⟨a,_⟩ | ⟨y,u,a,b,c⟩
 ·rw [a] at hx; cases hx
 ·rw [a] at hx; cases hx
  refine ⟨⟨vs,u,.of (hH _ _ hp),b⟩,?_⟩
  rintro v H' ⟨rfl,z⟩ F hF hF'
  have e:=z vs (.of (hH _ _ hp))
  rw [b] at e; cases e
  exact ⟨F,.refl hF',T.mono hF c⟩
noncomputable def rngI (lo:Int) (n:Nat):List Int:=(List.range n).map fun (i:Nat)=>lo+i
theorem zm4_ {lo:Int}{n:Nat}{F1:Hp}:Yl K (Itr lo n) (rngI lo n) tyInt F1:=by
 refine ⟨fun i H x hH hx=>?_,fun H hH=>?_⟩
 ·unfold rngI at hx
  rw [List.getElem?_map] at hx
  cases e:(List.range n)[i]? with
  | none=>rw [e] at hx; cases hx
  | some c =>
   rw [e] at hx; cases hx
   obtain ⟨hi,e⟩:=List.getElem?_eq_some_iff.mp e
   rw [List.getElem_range] at e; subst e
   rw [List.length_range] at hi
   refine ⟨hi,?_⟩
   rintro v H' ⟨rfl,rfl⟩ F _ hF
   exact ⟨F,.refl hF,rfl⟩
 ·show n≤_
  unfold rngI; rw [List.length_map,List.length_range]; exact Nat.le_refl _
theorem zgH_ {r:Mo Int}{ta:TA}(h:EvA K ta E L r (csLast tyInt)):EvI K (mRng1 ta) E L (r.bind fun j=>.grd (-(2 ^ 62)≤j∧j<2 ^ 62) (.ok (rngI 0 j.toNat))) tyInt:=by
 intro σ F H R hL hs q
 refine h σ F H _ hL hs (q.bind.imp fun l F1 H1 x1 k1 v hv=>?_)
 obtain ⟨u,rfl,rfl⟩:=hv
 obtain ⟨z,k1⟩:=k1.grd
 exact ⟨z.1,z.2,k1.ok x1.2.1 _ zm4_⟩
theorem zkW_ {r:Mo (Int×Int)}{ta:TA}(h:EvA K ta E L r (csCons tyInt (csLast tyInt))):EvI K (mRng2 ta) E L (r.bind fun c=>.grd (-(2 ^ 62)≤c.1∧c.1<2 ^ 62 ∧ -(2 ^ 62)≤c.2∧c.2<2 ^ 62) (.ok (rngI c.1 (c.2-c.1).toNat))) tyInt:=by
 intro σ F H R hL hs q
 refine h σ F H _ hL hs (q.bind.imp fun l F1 H1 x1 k1 v hv=>?_)
 obtain ⟨u,us,rfl,rfl,w,rfl,rfl⟩:=hv
 obtain ⟨z,k1⟩:=k1.grd
 exact ⟨z,k1.ok x1.2.1 _ zm4_⟩
noncomputable def compM (f:α→Mo (Option β)):List α→List β→Mo (List β)
 | [],acc=>.ok acc
 | x::xs,acc=>(f x).bind fun o=>match o with | none=>compM f xs acc | some y=>.lim (acc.length+1) (compM f xs (acc++[y]))
theorem zeX_ {f:α→Mo (Option β)}{g:α→β}:∀ {xs:List α}{acc:List β},(∀ x∈xs,f x=.ok (some (g x)))→acc.length+xs.length≤100000→compM f xs acc=.ok (acc++xs.map g)
 | [],acc,_,_=>by unfold compM; rw [List.map_nil,List.append_nil]
 | x::xs,acc,h,hl=>by
  rw [List.length_cons] at hl
  unfold compM
  rw [h x List.mem_cons_self,Mo.ok_bind]
  show Mo.lim _ _=_
  rw [Mo.lim_ok (by lia),zeX_ (fun y hy=>h y (List.mem_cons_of_mem _ hy)) (by rw [List.length_append,List.length_singleton]; lia)]
  simp
theorem zbF_ {f:α→Mo (Option β)}{g:α→Option β}:∀ {xs:List α}{acc:List β},(∀ x∈xs,f x=.ok (g x))→acc.length+xs.length≤100000→compM f xs acc=.ok (acc++xs.filterMap g)
 | [],acc,_,_=>by unfold compM; rw [List.filterMap_nil,List.append_nil]
 | x::xs,acc,h,hl=>by
  rw [List.length_cons] at hl
  unfold compM
  rw [h x List.mem_cons_self,Mo.ok_bind,List.filterMap_cons]
  cases e:g x with
  | none=>exact zbF_ (fun y hy=>h y (List.mem_cons_of_mem _ hy)) (by lia)
  | some z =>
   show Mo.lim _ _=_
   rw [Mo.lim_ok (by lia),zbF_ (fun y hy=>h y (List.mem_cons_of_mem _ hy)) (by rw [List.length_append,List.length_singleton]; lia)]
   simp
theorem zd7_ {f:α→Mo (Option α)}{g:α→Bool}{xs acc:List α}(h:∀ x∈xs,f x=.ok (if g x then some x else none)) (hl:acc.length+xs.length≤100000):compM f xs acc=.ok (acc++xs.filter g):=by
 rw [zbF_ h hl]
 congr 2
 induction xs with
 | nil=>rfl
 | cons x xs ih =>
  rw [List.filterMap_cons,List.filter_cons]
  cases e:g x with
  | true=>simp only [if_true]; rw [ih (fun y hy=>h y (List.mem_cons_of_mem _ hy)) (by rw [List.length_cons] at hl; lia)]
  | false=>exact ih (fun y hy=>h y (List.mem_cons_of_mem _ hy)) (by rw [List.length_cons] at hl; lia)
noncomputable def cL (lv:List Str) (fr:List (Str×Nat)) (L:List Sl):List Sl:=lv.map (fun _=>Sl.dead)++fr.map fun q=>(L[q.2]?).getD .dead
theorem zfF_ {lv:List Str}{fr:List (Str×Nat)}{σ:St}(h:HoldF L σ F):HoldF (cL lv fr L) (cS lv fr σ) F:=by
 intro i s e
 unfold cL at e
 unfold cS
 by_cases hi:i<lv.length
 ·rw [List.getElem?_append_left (by rw [List.length_map]; exact hi),List.getElem?_map,List.getElem?_eq_getElem hi] at e
  cases e; trivial
 ·rw [List.getElem?_append_right (by rw [List.length_map]; lia),List.length_map,List.getElem?_map] at e
  rw [List.getElem?_append_right (by rw [List.length_map]; lia),List.length_map,List.getElem?_map]
  cases z:fr[i-lv.length]? with
  | none=>rw [z] at e; cases e
  | some q =>
   rw [z] at e
   have e:(L[q.2]?).getD .dead=s:=by simpa using e
   show Sl.Z s (σ[q.2]?).join F
   cases y:L[q.2]? with
   | none=>rw [y] at e; rw [← e]; trivial
   | some t=>rw [y] at e; cases e; exact h _ _ y
theorem zii_ {lv:List Str}{fr:List (Str×Nat)}{σ:St}:(cL lv fr L).length=(cS lv fr σ).length:=by unfold cL cS; simp
noncomputable def cond1 (c:Mo Bool) (f:Mo β):Mo (Option β):=(c.bind fun b=>if b then f.bind fun y=>.ok (some y) else .ok none).noex
theorem zic_ {lv:List Str}{fr:List (Str×Nat)}{wi:TI}{g:TG}{tt:TT}{te:TE}{r:Mo (List α)}{ss:α→List (Nat×Sl)}{c:α→Mo Bool}{f:α→Mo β}{T':Ty β}
  (hi:EvI K wi E L r T) (hg:TgR K g T ss) (hd:∀ a,DeadAt (cL lv fr L) ((ss a).map (·.1))) (ht:∀ a,EvT K tt E0 (setL (cL lv fr L) (ss a)) (c a)) (he:∀ a,EvF K te E0 (setL (cL lv fr L) (ss a)) (f a) T') :
  EvO K (tComp lv fr wi g tt te) E L (r.bind fun xs=>compM (fun x=>cond1 (c x) (f x)) xs []) (owL T'):=by
 intro σ F0 H0 Q hL hs q
 refine hi σ F0 H0 _ hL hs (q.bind.imp fun xs F1 H1 x1 k1 J Y D hD=>?_)
 have hL1:=hL.mono x1.1
 refine ⟨fun i m ys σ' H'=>m=xs.length-i∧i≤xs.length∧∃ acc Fi,Ext F1 H1 Fi H'∧Fi D=none∧H' D=some (.lst ys)∧Prs T' Fi acc ys∧HoldF (cL lv fr L) σ' F1∧σ'.length=(cL lv fr L).length∧After K (compM (fun x=>cond1 (c x) (f x)) (xs.drop i) acc) E F1 H1 (OwnK (owL T') H0 Q),
  ⟨_,rfl,Nat.zero_le _,[],F1,.heap x1.2.1 (zcc_ hD _),x1.2.1.free hD,zaR_,.nil,zfF_ hL1,zii_.symm,k1⟩,?_⟩
 rintro i m ys σ' H' ⟨rfl,hi,acc,Fi,xi,hDi,hy,hp,hσ,hln,A⟩
 by_cases hlt:i<xs.length
 ·right
  have ex:xs[i]?=some xs[i]:=List.getElem?_eq_getElem hlt
  obtain ⟨g1,g2⟩:=Y.go i H' xs[i] (xi.1.trans xi.2.1) ex
  refine ⟨g1,fun ys' σ'' H''=>i+1≤xs.length∧∃ acc Fi,Ext F1 H1 Fi H''∧Fi D=none∧H'' D=some (.lst ys')∧Prs T' Fi acc ys'∧HoldF (cL lv fr L) σ'' F1∧σ''.length=(cL lv fr L).length∧After K (compM (fun x=>cond1 (c x) (f x)) (xs.drop (i+1)) acc) E F1 H1 (OwnK (owL T') H0 Q),fun ys' σ'' H'' z=>⟨xs.length-(i+1),by lia,rfl,z⟩,fun v H2 hyl=>?_⟩
  obtain ⟨F2,x2,hv⟩:=g2 v H2 hyl Fi xi.1 xi.2.1
  have keep:∀ {Fa Ha Fb Hb:Hp},Ext Fa Ha Fb Hb→Fa D=none→Ha D=some (.lst ys)→Fb D=none∧Hb D=some (.lst ys):=by
   intro Fa Ha Fb Hb x h1 h2
   refine ⟨?_,x.2.2.1 _ _ h2⟩
   cases z:Fb D with
   | none=>rfl
   | some o=>have:=x.2.2.2 D h1 (by rw [z]; exact Option.some_ne_none _); rw [h2] at this; cases this
  obtain ⟨hD2,hy2⟩:=keep x2 hDi hy
  refine hg xs[i] v σ' F2 H2 _ x2.2.1 hv fun vs hpl=>?_
  have hσ2:HoldF (cL lv fr L) σ' F2:=hσ.mono (xi.1.trans x2.1)
  obtain ⟨a1,a2,a3⟩:=zeG_ hpl hln.symm hσ2
  have hσd:HoldF (cL lv fr L) (setS σ' vs) F1:=by
   have hdead:=hd xs[i]
   refine fun j s e=>?_
   have h1:=zhV_ hpl hln.symm hdead hσ2
   by_cases hj:∃ q∈(ss xs[i]).map (·.1),q=j
   ·obtain ⟨q,hq,rfl⟩:=hj
    rw [hdead q hq s e]; trivial
   ·have:((setS σ' vs)[j]?)=σ'[j]?:=by
     exact zhU_ hpl (fun hq=>hj ⟨j,hq,rfl⟩)
    rw [this]; exact hσ j s e
  have hdrop:xs.drop i=xs[i]::xs.drop (i+1):=List.drop_eq_getElem_cons hlt
  rw [hdrop] at A
  unfold compM at A
  cases ec:c xs[i] with
  | no=>unfold cond1 at A; rw [ec] at A; exact A.elim
  | ex cc=>unfold cond1 at A; rw [ec] at A; exact A.elim
  | ok bb =>
   refine ht xs[i] _ F2 H2 _ a1 x2.2.1 ?_
   rw [ec]
   intro F3 H3 x3
   obtain ⟨hD3,hy3⟩:=keep x3 hD2 hy2
   have x13:=(xi.trans x2).trans x3
   cases bb with
   | false =>
    rw [if_neg (by decide)]
    refine ⟨hlt,acc,F3,x13,hD3,hy3,hp.mono (x2.1.trans x3.1),hσd,by rw [a2]; exact hln,?_⟩
    unfold cond1 at A; rw [ec] at A
    exact A
   | true =>
    rw [if_pos rfl]
    cases ef:f xs[i] with
    | no=>unfold cond1 at A; rw [ec,ef] at A; exact A.elim
    | ex cc=>unfold cond1 at A; rw [ec,ef] at A; exact A.elim
    | ok y =>
     unfold cond1 at A; rw [ec,ef] at A
     have A':After K (Mo.lim (acc.length+1) (compM (fun x=>cond1 (c x) (f x)) (xs.drop (i+1)) (acc++[y]))) E F1 H1 (OwnK (owL T') H0 Q):=A
     obtain ⟨hz,A'⟩:=A'.lim
     refine he xs[i] _ F3 H3 _ (a1.mono x3.1) x3.2.1 ?_
     rw [ef]
     intro F4 H4 x4 v4 hv4
     obtain ⟨hD4,hy4⟩:=keep x4 hD3 hy3
     have hlen:=hp.len
     refine ⟨hy4,by lia,hlt,acc++[y],F4,?_,hD4,zaR_,(hp.mono ((x2.1.trans x3.1).trans x4.1)).append (.cons hv4 .nil),hσd,by rw [a2]; exact hln,A'⟩
     have x14:=x13.trans x4
     refine ⟨x14.1,fun b o z=>?_,fun b o z=>?_,x14.2.2.2⟩
     ·unfold upd; split
      ·rename_i w; rw [w,hD4] at z; cases z
      ·exact x14.2.1 _ _ z
     ·unfold upd; split
      ·rename_i w; rw [w,hD] at z; cases z
      ·exact x14.2.2.1 _ _ z
 ·left
  have e:i=xs.length:=by lia
  subst e
  refine ⟨Y.stop H' (xi.1.trans xi.2.1),?_⟩
  rw [List.drop_length] at A
  have A':OwnK (owL T') H0 Q acc Fi H':=A Fi H' xi
  exact zif_ (x1.2.2.1.free hD) hy hDi hp A'
end
end L2
namespace L2
open PySem PySem.Spec PyProof.Rows
inductive Out (ρ B S:Type) where
 | nx (s:S) | rt (r:ρ) | bk (b:B) | ct (b:B)
noncomputable def Okk (F0 H0 F h H:Hp):Prop:=Ext F0 H0 F H∧Dj F h∧Same h H∧(∀ p,h p≠none→H0 p=none)∧∀ p xs,h p≠some (.tup xs)
section
variable {K:Fgg}{E:XK}{α β γ ρ S S' B B':Type}{F0 H0 F h H:Hp}{L:List Sl}{e e1 e2:TE}{T:Ty α}{r:Mo α}{O:Own ρ}
noncomputable def Fin (K:Fgg) (r:Mo (Out ρ B S)) (E:XK) (LS:S→List Sl) (LB:B→List Sl) (O:Own ρ) (F0 H0:Hp) (D:Ends):Prop:=match r with
 | .ok (.nx s)=>∀ σ F h H,Hold (LS s) σ F h→Okk F0 H0 F h H→D.nx σ H
 | .ok (.bk b)=>∀ σ F h H,Hold (LB b) σ F h→Okk F0 H0 F h H→D.bk σ H
 | .ok (.ct b)=>∀ σ F h H,Hold (LB b) σ F h→Okk F0 H0 F h H→D.ct σ H
 | .ok (.rt a)=>∀ v F h H,Okk F0 H0 F h H→O.O a v F h→D.rt v H
 | .ex c=>∀ F h H,Okk F0 H0 F h H→E (.ref (gA K c)) none H
 | .no=>False
noncomputable def EvS (K:Fgg) (t:TS) (E:XK) (L:List Sl) (r:Mo (Out ρ B S)) (LS:S→List Sl) (LB:B→List Sl) (O:Own ρ):Prop :=
 ∀ F0 H0 σ F h H (D:Ends),Hold L σ F h→Okk F0 H0 F h H→Fin K r E LS LB O F0 H0 D→t D σ H
variable {t u:TS}{LS:S→List Sl}{LS':S'→List Sl}{LB:B→List Sl}
noncomputable def thenO (r:Mo (Out ρ B S)) (k:S→Mo (Out ρ B S')):Mo (Out ρ B S'):=r.bind fun o=>match o with | .nx s=>k s | .rt a=>.ok (.rt a) | .bk b=>.ok (.bk b) | .ct b=>.ok (.ct b)
theorem zbn_ {r:Mo (Out ρ B S)}{k:S→Mo (Out ρ B S')}(h1:EvS K t E L r LS LB O) (h2:∀ s,EvS K u E (LS s) (k s) LS' LB O):EvS K (tSeq t u) E L (thenO r k) LS' LB O:=by
 intro F0 H0 σ F h H D hL ok fin
 refine h1 F0 H0 σ F h H { D with nx:=u D } hL ok ?_
 cases r with
 | no=>exact fin
 | ex c=>exact fin
 | ok o =>
  cases o with
  | nx s=>exact fun σ F h H hL ok=>h2 s F0 H0 σ F h H D hL ok fin
  | rt a=>exact fin
  | bk b=>exact fin
  | ct b=>exact fin
theorem Okk.thaw (ok:Okk F0 H0 F h H):Same (un F h) H:=fun p o e=>by
 unfold un at e
 cases z:F p with
 | some w=>rw [z] at e; cases e; exact ok.1.2.1 _ _ z
 | none=>rw [z] at e; exact ok.2.2.1 _ _ e
noncomputable def less (G h:Hp):Hp:=fun p=>match h p with | none=>G p | some _=>none
theorem zj4_ {G h:Hp}{p:Addr}(e:h p=none):less G h p=G p:=by unfold less; rw [e]
theorem Okk.back (ok:Okk F0 H0 F h H) {G' H':Hp}(x:Ext (un F h) H G' H'):Okk F0 H0 (less G' h) h H'∧Same F (less G' h)∧Tups G' (less G' h):=by
 obtain ⟨o1,o2,o3,o4,o5⟩:=ok
 have hs:Same F (less G' h):=fun p o e=>by
  have hp:h p=none:=by
   rcases o2 p with z | z
   ·rw [z] at e; cases e
   ·exact z
  rw [zj4_ hp]; exact x.1 _ _ (zc3_ _ _ e)
 refine ⟨⟨⟨o1.1.trans hs,fun p o e=>?_,o1.2.2.1.trans x.2.2.1,fun p a b=>?_⟩,fun p=>?_,fun p o e=>?_,o4,o5⟩,hs,fun p xs e=>?_⟩
 ·unfold less at e
  split at e
  ·exact x.2.1 _ _ e
  ·cases e
 ·unfold less at b
  split at b
  ·rename_i z
   cases y:un F h p with
   | none=>exact o1.2.2.1.free (x.2.2.2 p y b)
   | some o =>
    unfold un at y
    cases w:F p with
    | some _=>exact o1.2.2.2 p a (by rw [w]; exact Option.some_ne_none _)
    | none=>rw [w,z] at y; cases y
  ·exact absurd rfl b
 ·unfold less
  cases z:h p with
  | none=>exact .inr rfl
  | some o=>exact .inl rfl
 ·exact x.2.1 _ _ (x.1 _ _ (zhd_ o2 _ _ e))
 ·unfold less
  cases z:h p with
  | none=>exact e
  | some o =>
   have:=x.1 _ _ (zhd_ o2 _ _ z)
   rw [e] at this; cases this
   exact absurd z (o5 p xs)
theorem zbg_ {r:Mo α}{k:α→Mo (Out ρ B S)}{G:Hp}{D:Ends}{kk:α→Hp→Hp→Prop}(ok:Okk F0 H0 F h H) (G1:Hp) (hG:G1=un F h∨G1=F) (fin:Fin K (r.bind k) E LS LB O F0 H0 D)
  (hk:∀ a F' H',r=.ok a→Ext G1 H F' H'→kk a F' H'):After K r E G1 H kk:=by
 cases r with
 | ok a=>exact fun F' H' x=>hk a F' H' rfl x
 | no=>exact fin
 | ex c =>
  intro F' H' x
  rcases hG with rfl | rfl
  ·exact fin _ _ _ (ok.back x).1
  ·refine fin F' h H' ⟨ok.1.trans x,fun p=>?_,ok.2.2.1.trans x.2.2.1,ok.2.2.2.1,ok.2.2.2.2⟩
   cases z:h p with
   | none=>exact .inr rfl
   | some o =>
    left
    rcases ok.2.1 p with y | y
    ·cases w:F' p with
     | none=>rfl
     | some o'=>have:=x.2.2.2 p y (by rw [w]; exact Option.some_ne_none _); rw [ok.2.2.1 _ _ z] at this; cases this
    ·rw [y] at z; cases z
theorem Okk.cold (ok:Okk F0 H0 F h H) {F' H':Hp}(x:Ext F H F' H'):Okk F0 H0 F' h H':=by
 refine ⟨ok.1.trans x,fun p=>?_,ok.2.2.1.trans x.2.2.1,ok.2.2.2.1,ok.2.2.2.2⟩
 cases z:h p with
 | none=>exact .inr rfl
 | some o =>
  left
  rcases ok.2.1 p with y | y
  ·cases w:F' p with
   | none=>rfl
   | some o'=>have:=x.2.2.2 p y (by rw [w]; exact Option.some_ne_none _); rw [ok.2.2.1 _ _ z] at this; cases this
  ·rw [y] at z; cases z
theorem zdE_ {i:Nat}{s:Sl}{σ:St}{a:α}{v:V}(hi:L[i]?=some s) (hL:Hold L σ F h) (hv:T.R a v F):Hold (L.set i (.fz T a)) (σ.set i (some v)) F h:=by
 obtain ⟨o,h1,h2,_,j,_,f⟩:=hL.at i hi
 exact f (.fz T a) (some v) h1 h j ⟨v,rfl,hv⟩
theorem zj1_ {i:Nat}{s:Sl}{σ:St}{a:α}{v:V}{O1:Own α}{hn:Hp}(ok:Okk F0 H0 F h H) (hi:L[i]?=some s) (hL:Hold L σ F h) (fresh:∀ p,hn p≠none→H0 p=none) (dj:Dj F hn) (dh:Dj hn h) (hs:Same hn H) (hv:O1.O a v F hn) :
  ∃ h',Hold (L.set i (.ow O1 a)) (σ.set i (some v)) F h'∧Okk F0 H0 F h' H:=by
 obtain ⟨o,h1,h2,_,j,_,f⟩:=hL.at i hi
 have d2:Dj hn h2:=fun p=>by
  rcases dh p with z | z
  ·exact .inl z
  ·exact .inr (j.r.free z)
 refine ⟨un hn h2,f (.ow O1 a) (some v) hn _ (zkG_ d2) ⟨v,rfl,hv⟩,ok.1,fun p=>?_,fun p o e=>?_,fun p e=>?_,fun p xs e=>?_⟩
 ·unfold un
  cases z:hn p with
  | some w =>
   rcases dj p with y | y
   ·exact .inl y
   ·rw [y] at z; cases z
  | none =>
   rcases ok.2.1 p with y | y
   ·exact .inl y
   ·exact .inr (j.r.free y)
 ·unfold un at e
  cases z:hn p with
  | some w=>rw [z] at e; cases e; exact hs _ _ z
  | none=>rw [z] at e; exact ok.2.2.1 _ _ (j.r _ _ e)
 ·unfold un at e
  cases z:hn p with
  | some w=>exact fresh p (by rw [z]; exact Option.some_ne_none _)
  | none =>
   rw [z] at e
   cases y:h2 p with
   | none=>exact absurd y e
   | some w=>exact ok.2.2.2.1 p (by rw [j.r _ _ y]; exact Option.some_ne_none _)
 ·unfold un at e
  cases z:hn p with
  | some w=>rw [z] at e; cases e; exact O1.notup hv p xs z
  | none=>rw [z] at e; exact ok.2.2.2.2 p xs (j.r _ _ e)
theorem zdj_ {i:Nat}{s:Sl}{k:α→Mo (Out ρ B S)}(hi:L[i]?=some s) (hT:Imm T) (he:EvF K e E L r T) (hk:∀ a,EvS K u E (L.set i (.fz T a)) (k a) LS LB O):EvS K (tSeq (tAsg e (gName i)) u) E L (r.bind k) LS LB O:=by
 intro F0 H0 σ F h H D hL ok fin
 refine he σ (un F h) H _ (hL.froz ok.2.1) ok.thaw (zbg_ (G:=F) ok _ (.inl rfl) fin fun a F' H' hr x v hv=>?_)
 obtain ⟨o,hs,ht⟩:=ok.back x
 rw [hr] at fin
 exact hk a F0 H0 _ _ h H' D (zdE_ hi (hL.mono hs) (hT ht hv)) o fin
theorem zfj_ {i:Nat}{s:Sl}{k:α→Mo (Out ρ B S)}(hi:L[i]?=some s) (he:EvF K e E (L.map Sl.cold) r T) (hk:∀ a,EvS K u E (L.set i (.fz T a)) (k a) LS LB O):EvS K (tSeq (tAsg e (gName i)) u) E L (r.bind k) LS LB O:=by
 intro F0 H0 σ F h H D hL ok fin
 refine he σ F H _ hL.coldF ok.1.2.1 (zbg_ (G:=F) ok _ (.inr rfl) fin fun a F' H' hr x v hv=>?_)
 rw [hr] at fin
 exact hk a F0 H0 _ _ h H' D (zdE_ hi (hL.mono x.1) hv) (ok.cold x) fin
theorem zn2_ {hn h:Hp}(hh:Same h H) (fresh:∀ p,hn p≠none→H p=none):Dj hn h:=fun p=>by
 cases z:hn p with
 | none=>exact .inl rfl
 | some w =>
  have:=fresh p (by rw [z]; exact Option.some_ne_none _)
  exact .inr (hh.free this)
theorem zaS_ {i:Nat}{s:Sl}{O1:Own α}{k:α→Mo (Out ρ B S)}(hi:L[i]?=some s) (hO:ImmO O1) (he:EvO K e E L r O1) (hk:∀ a,EvS K u E (L.set i (.ow O1 a)) (k a) LS LB O):EvS K (tSeq (tAsg e (gName i)) u) E L (r.bind k) LS LB O:=by
 intro F0 H0 σ F h H D hL ok fin
 refine he σ (un F h) H _ (hL.froz ok.2.1) ok.thaw (zbg_ (G:=F) ok _ (.inl rfl) fin fun a F' H' hr x v hn fresh dj hsn hv=>?_)
 obtain ⟨o,hs,ht⟩:=ok.back x
 rw [hr] at fin
 have dj':Dj (less F' h) hn:=fun p=>by
  unfold less
  cases z:h p with
  | none=>exact dj p
  | some w=>exact .inl rfl
 obtain ⟨h',a1,a2⟩:=zj1_ o hi (hL.mono hs) (fun p z=>ok.1.2.2.1.free (fresh p z)) dj' (zn2_ ok.2.2.1 fresh) hsn (hO ht hv)
 exact hk a F0 H0 _ _ h' H' D a1 a2 fin
theorem zdu_ {α:Type}{l:List α}{i:Nat}{o:α}(h:l[i]?=some o):l.set i o=l:=by
 obtain ⟨hi,e⟩:=List.getElem?_eq_some_iff.mp h
 rw [← e]; exact List.set_getElem_self hi
theorem zio_ {i:Nat}{O1:Own α}{a:α}{r:Mo (Out ρ B S)}(hi:L[i]?=some (.ow O1 a)) (hk:EvS K u E (L.set i (.fz O1.fr a)) r LS LB O):EvS K u E L r LS LB O:=by
 intro F0 H0 σ F h H D hL ok fin
 obtain ⟨o,h1,h2,e1,j,⟨v,e2,hv⟩,f⟩:=hL.at i hi
 obtain ⟨o1,o2,o3,o4,o5⟩:=ok
 have dj1:Dj F h1:=fun p=>by
  rcases o2 p with z | z
  ·exact .inl z
  ·exact .inr (j.l.free z)
 have dj2:Dj F h2:=fun p=>by
  rcases o2 p with z | z
  ·exact .inl z
  ·exact .inr (j.r.free z)
 have g1:Hold (L.set i (.dead)) σ F h2:=by
  have:=f .dead o (fun _=>none) h2 (fun p=>.inl ⟨rfl,rfl⟩) trivial
  rwa [zdu_ e1] at this
 have g2:Hold (L.set i (.fz O1.fr a)) σ (un F h1) h2:=by
  have g3:=g1.mono (zc3_ (h:=h1))
  have hi':(L.set i Sl.dead)[i]?=some .dead:=by
   rw [List.getElem?_set_self]
   exact (List.getElem?_eq_some_iff.mp hi).1
  have:=zdE_ (T:=O1.fr) hi' g3 (O1.frz dj1 hv)
  rw [List.set_set] at this
  subst e2
  rwa [zdu_ e1] at this
 refine hk F0 H0 σ _ h2 H D g2 ⟨⟨o1.1.trans zc3_,fun p o e=>?_,o1.2.2.1,fun p a b=>?_⟩,fun p=>?_,j.r.trans o3,fun p z=>?_,fun p xs e=>o5 p xs (j.r _ _ e)⟩ fin
 ·unfold un at e
  cases z:F p with
  | some w=>rw [z] at e; cases e; exact o1.2.1 _ _ z
  | none=>rw [z] at e; exact o3 _ _ (j.l _ _ e)
 ·unfold un at b
  cases z:F p with
  | some w=>exact o1.2.2.2 p a (by rw [z]; exact Option.some_ne_none _)
  | none =>
   rw [z] at b
   cases y:h1 p with
   | none=>exact absurd y b
   | some w=>exact o4 p (by rw [j.l _ _ y]; exact Option.some_ne_none _)
 ·unfold un
  cases z:F p with
  | some w =>
   rcases dj2 p with y | y
   ·rw [y] at z; cases z
   ·exact .inr y
  | none=>exact j.dj p
 ·cases y:h2 p with
  | none=>exact absurd y z
  | some w=>exact o4 p (by rw [j.r _ _ y]; exact Option.some_ne_none _)
theorem zdr_ {r:Mo ρ}(hO:ImmO O) (he:EvO K e E L r O):EvS K (tRet e) E L (r.bind fun a=>.ok (.rt a)) LS LB O:=by
 intro F0 H0 σ F h H D hL ok fin
 refine he σ (un F h) H _ (hL.froz ok.2.1) ok.thaw (zbg_ (G:=F) ok _ (.inl rfl) fin fun a F' H' hr x v hn fresh dj hsn hv=>?_)
 obtain ⟨o,hs,ht⟩:=ok.back x
 rw [hr] at fin
 refine fin v _ hn H' ⟨o.1,fun p=>?_,hsn,fun p z=>ok.1.2.2.1.free (fresh p z),O.notup hv⟩ (hO ht hv)
 unfold less
 cases z:h p with
 | none=>exact dj p
 | some w=>exact .inl rfl
theorem zdo_ {r:Mo ρ}(he:EvO K e E (L.map Sl.cold) r O):EvS K (tRet e) E L (r.bind fun a=>.ok (.rt a)) LS LB O:=by
 intro F0 H0 σ F h H D hL ok fin
 refine he σ F H _ hL.coldF ok.1.2.1 (zbg_ (G:=F) ok _ (.inr rfl) fin fun a F' H' hr x v hn fresh dj hsn hv=>?_)
 rw [hr] at fin
 exact fin v _ hn H' ⟨ok.1.trans x,dj,hsn,fun p z=>ok.1.2.2.1.free (fresh p z),O.notup hv⟩ hv
theorem zfC_ {i:Nat}{a:ρ}(hi:L[i]?=some (.ow O a)):EvS K (tRet (mVar i)) E L (.ok (.rt a)) LS LB O:=by
 intro F0 H0 σ F h H D hL ok fin
 obtain ⟨o,h1,h2,e1,j,⟨v,e2,hv⟩,f⟩:=hL.at i hi
 subst e2
 show mVar i σ H D.rt
 unfold mVar
 rw [e1]
 obtain ⟨o1,o2,o3,o4,o5⟩:=ok
 refine fin v F h1 H ⟨o1,fun p=>?_,j.l.trans o3,fun p z=>?_,O.notup hv⟩ hv
 ·rcases o2 p with z | z
  ·exact .inl z
  ·exact .inr (j.l.free z)
 ·cases y:h1 p with
  | none=>exact absurd y z
  | some w=>exact o4 p (by rw [j.l _ _ y]; exact Option.some_ne_none _)
theorem s_if {c:TT}{b:Mo Bool}{r1 r2:Mo (Out ρ B S)}(hc:EvT K c E L b) (h1:EvS K t E L r1 LS LB O) (h2:EvS K u E L r2 LS LB O):EvS K (mIfS c t u) E L (b.bind fun c=>if c then r1 else r2) LS LB O:=by
 intro F0 H0 σ F h H D hL ok fin
 refine hc σ (un F h) H _ (hL.froz ok.2.1) ok.thaw (zbg_ (G:=F) ok _ (.inl rfl) fin fun a F' H' hr x=>?_)
 obtain ⟨o,hs,ht⟩:=ok.back x
 rw [hr] at fin
 have fin':Fin K (if a then r1 else r2) E LS LB O F0 H0 D:=fin
 refine ⟨fun z=>?_,fun z=>?_⟩
 ·rw [if_pos z] at fin'; exact h1 F0 H0 σ _ h H' D (hL.mono hs) o fin'
 ·rw [if_neg (by rw [z]; decide)] at fin'; exact h2 F0 H0 σ _ h H' D (hL.mono hs) o fin'
inductive Sub:List Sl→List Sl→Prop
 | nil:Sub [] []
 | same {s:Sl}{L L':List Sl}(h:Sub L L'):Sub (s::L) (s::L')
 | dead {s:Sl}{L L':List Sl}(h:Sub L L'):Sub (s::L) (.dead::L')
theorem Sub.hold {L L':List Sl}(w:Sub L L'):∀ {σ:St}{F h:Hp},Hold L σ F h→Hold L' σ F h:=by
 induction w with
 | nil=>exact fun h=>h
 | same _ ih =>
  intro σ F h q
  cases σ with
  | nil=>exact q.elim
  | cons o σ=>obtain ⟨h1,h2,j,p,r⟩:=q; exact ⟨h1,h2,j,p,ih r⟩
 | dead _ ih =>
  intro σ F h q
  cases σ with
  | nil=>exact q.elim
  | cons o σ=>obtain ⟨h1,h2,j,p,r⟩:=q; exact ⟨h1,h2,j,trivial,ih r⟩
theorem zm_ {s:S}(w:Sub L (LS s)):EvS K tNext E L (.ok (.nx s)) LS LB O:=fun F0 H0 σ F h H D hL ok fin=>fin σ F h H (w.hold hL) ok
theorem zcX_ {r:Mo (Out ρ B S)}(h:EvS K (tSeq t tNext) E L r LS LB O):EvS K t E L r LS LB O:=h
noncomputable def forO (step:S→α→Mo (Out ρ S S)):List α→S→Mo (Out ρ B S)
 | [],s=>.ok (.nx s)
 | x::xs,s=>(step s x).bind fun o=>match o with | .nx s'=>forO step xs s' | .ct s'=>forO step xs s' | .bk s'=>.ok (.nx s') | .rt a=>.ok (.rt a)
theorem zh7_ {ss:List (Nat×Sl)}{vs:List (Nat×Option V)}(p:Plain F ss vs):∀ {L:List Sl}{σ:St},Hold L σ F h→Hold (setL L ss) (setS σ vs) F h:=by
 induction p with
 | nil=>exact fun h=>h
 | cons hv t ih =>
  rename_i T a i v ss vs
  intro L σ q
  refine ih (L:=L.set i (.fz T a)) (σ:=σ.set i (some v)) ?_
  by_cases hi:i<L.length
  ·exact zdE_ (List.getElem?_eq_getElem hi) q hv
  ·rw [List.set_eq_of_length_le (by lia),List.set_eq_of_length_le (by have:=q.len; lia)]; exact q
theorem Okk.rebase {F1 H1:Hp}(x:Ext F0 H0 F1 H1) (ok:Okk F0 H0 F h H) (s:Same F1 F):Okk F1 H0 F h H:=by
 obtain ⟨o1,o2,o3,o4,o5⟩:=ok
 refine ⟨⟨s,o1.2.1,o1.2.2.1,fun p a b=>o1.2.2.2 p (x.1.free a) b⟩,o2,o3,o4,o5⟩
theorem Okk.unbase {F1 H1:Hp}(x:Ext F0 H0 F1 H1) (ok:Okk F1 H0 F h H):Okk F0 H0 F h H:=by
 obtain ⟨o1,o2,o3,o4,o5⟩:=ok
 refine ⟨⟨x.1.trans o1.1,o1.2.1,o1.2.2.1,fun p a b=>?_⟩,o2,o3,o4,o5⟩
 cases z:F1 p with
 | none=>exact o1.2.2.2 p z b
 | some w=>exact x.2.2.2 p a (by rw [z]; exact Option.some_ne_none _)
theorem zfV_ {wi:TI}{g:TG}{tb:TS}{s0:S}{r:Mo (List α)}{ss:α→List (Nat×Sl)}{step:S→α→Mo (Out ρ S S)}(hi:EvI K wi E ((LS s0).map Sl.cold) r T) (hg:TgR K g T ss)
  (hb:∀ s a,EvS K tb E (setL (LS s) (ss a)) (step s a) LS LS O):EvS K (tFor wi g tb) E (LS s0) (r.bind fun xs=>forO step xs s0) LS LB O:=by
 intro F0 H0 σ F h H D hL ok fin
 refine hi σ F H _ hL.coldF ok.1.2.1 (zbg_ (G:=F) ok _ (.inr rfl) fin fun xs F1 H1 hr x1 J Y=>?_)
 rw [hr] at fin
 have xx:=ok.1.trans x1
 refine ⟨fun i m σ H=>m=xs.length-i∧i≤xs.length∧∃ s F h,Hold (LS s) σ F h∧Okk F1 H0 F h H∧Fin K (forO (B:=B) step (xs.drop i) s) E LS LB O F0 H0 D,
  ⟨_,rfl,Nat.zero_le _,s0,F1,h,hL.mono x1.1,(ok.cold x1).rebase xx (Same.refl _),fin⟩,?_⟩
 rintro i m σ H ⟨rfl,hi,s,F,h,hL,ok,fin⟩
 have s1:Same F1 H:=ok.1.1.trans ok.1.2.1
 by_cases hlt:i<xs.length
 ·right
  obtain ⟨g1,g2⟩:=Y.go i H xs[i] s1 (List.getElem?_eq_getElem hlt)
  refine ⟨g1,fun σ' H'=>i+1≤xs.length∧∃ s F h,Hold (LS s) σ' F h∧Okk F1 H0 F h H'∧Fin K (forO (B:=B) step (xs.drop (i+1)) s) E LS LB O F0 H0 D,fun σ' H' z=>⟨xs.length-(i+1),by lia,rfl,z⟩,fun v H2 hy=>?_⟩
  obtain ⟨F2,x2,hv⟩:=g2 v H2 hy F ok.1.1 ok.1.2.1
  refine hg xs[i] v σ F2 H2 _ x2.2.1 hv fun vs hp=>?_
  refine hb s xs[i] F1 H0 _ F2 h H2 _ (zh7_ hp (hL.mono x2.1)) (ok.cold x2) ?_
  rw [List.drop_eq_getElem_cons hlt] at fin
  unfold forO at fin
  cases e:step s xs[i] with
  | no=>rw [e] at fin; exact fin
  | ex c=>rw [e] at fin; exact fun F h H ok=>fin F h H (ok.unbase xx)
  | ok o =>
   rw [e] at fin
   cases o with
   | nx s'=>exact fun σ' F' h' H' hL' ok'=>⟨hlt,s',F',h',hL',ok',fin⟩
   | ct s'=>exact fun σ' F' h' H' hL' ok'=>⟨hlt,s',F',h',hL',ok',fin⟩
   | bk s'=>exact fun σ' F' h' H' hL' ok'=>fin σ' F' h' H' hL' (ok'.unbase xx)
   | rt a=>exact fun v F h H ok=>fin v F h H (ok.unbase xx)
 ·left
  have e:i=xs.length:=by lia
  subst e
  rw [List.drop_length] at fin
  exact ⟨Y.stop H s1,fin σ F h H hL (ok.unbase xx)⟩
noncomputable def whileO (c:S→Mo Bool) (step:S→Mo (Out ρ S S)):Nat→S→Mo (Out ρ B S)
 | 0,_=>.no
 | n+1,s=>(c s).bind fun b=>if b then (step s).bind fun o=>match o with | .nx s'=>whileO c step n s' | .ct s'=>whileO c step n s' | .bk s'=>.ok (.nx s') | .rt a=>.ok (.rt a) else .ok (.nx s)
theorem zkX_ {tc:TT}{tb:TS}{s0:S}(n:Nat) {c:S→Mo Bool}{step:S→Mo (Out ρ S S)}(hc:∀ s,EvT K tc E (LS s) (c s)) (hb:∀ s,EvS K tb E (LS s) (step s) LS LS O) :
  EvS K (tWhile tc tb) E (LS s0) (whileO c step n s0) LS LB O:=by
 intro F0 H0 σ F h H D hL ok fin
 refine ⟨fun m σ H=>∃ s F h,Hold (LS s) σ F h∧Okk F0 H0 F h H∧Fin K (whileO (B:=B) c step m s) E LS LB O F0 H0 D,⟨n,s0,F,h,hL,ok,fin⟩,?_⟩
 rintro m σ H ⟨s,F,h,hL,ok,fin⟩
 cases m with
 | zero=>exact fin.elim
 | succ m =>
  unfold whileO at fin
  refine hc s σ (un F h) H _ (hL.froz ok.2.1) ok.thaw (zbg_ (G:=F) ok _ (.inl rfl) fin fun a F' H' hr x=>?_)
  obtain ⟨o,hs,ht⟩:=ok.back x
  rw [hr] at fin
  cases a with
  | false=>rw [if_neg (by decide)]; exact fin σ _ h H' (hL.mono hs) o
  | true =>
   rw [if_pos rfl]
   refine ⟨fun σ' H''=>∃ s F h,Hold (LS s) σ' F h∧Okk F0 H0 F h H''∧Fin K (whileO (B:=B) c step m s) E LS LB O F0 H0 D,fun σ' H'' z=>⟨m,Nat.lt_succ_self _,z⟩,?_⟩
   refine hb s F0 H0 σ _ h H' _ (hL.mono hs) o ?_
   have fin':Fin K ((step s).bind fun o=>match o with | .nx s'=>whileO (B:=B) c step m s' | .ct s'=>whileO c step m s' | .bk s'=>.ok (.nx s') | .rt a=>.ok (.rt a)) E LS LB O F0 H0 D:=fin
   cases e:step s with
   | no=>rw [e] at fin'; exact fin'
   | ex c=>rw [e] at fin'; exact fin'
   | ok o =>
    rw [e] at fin'
    cases o with
    | nx s'=>exact fun σ' F' h' H' hL' ok'=>⟨s',F',h',hL',ok',fin'⟩
    | ct s'=>exact fun σ' F' h' H' hL' ok'=>⟨s',F',h',hL',ok',fin'⟩
    | bk s'=>exact fin'
    | rt a=>exact fin'
theorem zca_ {i:Nat}{σ:St}{xs:List α}(hL:Hold L σ F h) (hi:L[i]?=some (.ow (owL T) xs)) (ok:Okk F0 H0 F h H) :
  ∃ p vs,σ[i]?=some (some (.ref p))∧H p=some (.lst vs)∧Prs T F xs vs∧∀ xs' vs',Prs T F xs' vs'→∃ h',Hold (L.set i (.ow (owL T) xs')) σ F h'∧Okk F0 H0 F h' (upd H p (.lst vs')):=by
 obtain ⟨o,h1,h2,e1,j,⟨v,e2,p,vs,rfl,rfl,hr⟩,f⟩:=hL.at i hi
 subst e2
 obtain ⟨o1,o2,o3,o4,o5⟩:=ok
 have hp:h p=some (.lst vs):=j.l _ _ zaQ_
 have h2p:h2 p=none:=by
  rcases j.dj p with z | z
  ·rw [zaQ_] at z; cases z
  ·exact z
 have Fp:F p=none:=by
  rcases o2 p with z | z
  ·exact z
  ·rw [hp] at z; cases z
 have H0p:H0 p=none:=o4 p (by rw [hp]; exact Option.some_ne_none _)
 refine ⟨p,vs,e1,o3 _ _ hp,hr,fun xs' vs' hr'=>?_⟩
 have d2:Dj (one p (.lst vs')) h2:=fun q=>by
  unfold one; split
  ·rename_i z; rw [z]; exact .inr h2p
  ·exact .inl rfl
 have g:=f (.ow (owL T) xs') (some (.ref p)) (one p (.lst vs')) _ (zkG_ d2) ⟨_,rfl,p,vs',rfl,rfl,hr'⟩
 rw [zdu_ e1] at g
 refine ⟨_,g,⟨o1.1,fun q o z=>?_,fun q o z=>?_,o1.2.2.2⟩,fun q=>?_,fun q o z=>?_,fun q z=>?_,fun q ys z=>?_⟩
 ·unfold upd; split
  ·rename_i w; rw [w,Fp] at z; cases z
  ·exact o1.2.1 _ _ z
 ·unfold upd; split
  ·rename_i w; rw [w,H0p] at z; cases z
  ·exact o1.2.2.1 _ _ z
 ·by_cases w:q=p
  ·rw [w]; exact .inl Fp
  ·unfold un one; simp only [if_neg w]
   rcases o2 q with z | z
   ·exact .inl z
   ·exact .inr (j.r.free z)
 ·unfold un one at z
  unfold upd
  by_cases w:q=p
  ·rw [if_pos w]; simp only [if_pos w] at z; exact z
  ·rw [if_neg w]; simp only [if_neg w] at z; exact o3 _ _ (j.r _ _ z)
 ·unfold un one at z
  by_cases w:q=p
  ·rw [w]; exact H0p
  ·simp only [if_neg w] at z
   cases y:h2 q with
   | none=>exact absurd y z
   | some u=>exact o4 q (by rw [j.r _ _ y]; exact Option.some_ne_none _)
 ·unfold un one at z
  by_cases w:q=p
  ·simp only [if_pos w] at z; cases z
  ·simp only [if_neg w] at z; exact o5 q ys (j.r _ _ z)
theorem zdz_ {i:Nat}{σ:St}{v:V}{Q:VK}(e:σ[i]?=some (some v)) (q:Q v H):mVar i σ H Q:=by unfold mVar; rw [e]; exact q
theorem zdZ_ {n:Nat}{r:Mo (Out ρ B S)}{D:Ends}(h:Fin K (Mo.lim n r) E LS LB O F0 H0 D):n≤sizeLine∧Fin K r E LS LB O F0 H0 D:=by
 unfold Mo.lim at h
 split at h
 ·exact ⟨by assumption,h⟩
 ·exact h.elim
theorem zkR_ {x:Option α}{k:α→Mo (Out ρ B S)}{D:Ends}(h:Fin K ((Mo.opt x).bind k) E LS LB O F0 H0 D):∃ a,x=some a∧Fin K (k a) E LS LB O F0 H0 D:=by
 cases x with
 | none=>exact h.elim
 | some a=>exact ⟨a,rfl,h⟩
theorem zcI_ {i:Nat}{xs:List α}{k:α→Mo (Out ρ B S)}(hi:L[i]?=some (.ow (owL T) xs)) (hT:Imm T) (he:EvF K e E L r T) (hk:∀ a,EvS K u E (L.set i (.ow (owL T) (xs++[a]))) (k a) LS LB O) :
  EvS K (tSeq (tDrop (tBM K "list" rAppend (mVar i) (tCons e tNil))) u) E L (r.bind fun a=>.lim (xs.length+1) (k a)) LS LB O:=by
 intro F0 H0 σ F h H D hL ok fin
 obtain ⟨p,vs,e1,hp,hr,_⟩:=zca_ hL hi ok
 show mVar i σ H fun x H1=>tyV K "list" x H1∧tCons e tNil σ H1 fun xs H2=>rAppend x xs H2 (fun _ H3=>u D σ H3)
 refine zdz_ e1 ⟨.inl ⟨rfl,vs,.of hp⟩,?_⟩
 refine he σ (un F h) H _ (hL.froz ok.2.1) ok.thaw (zbg_ (G:=F) ok _ (.inl rfl) fin fun a F' H' hra x v hv=>?_)
 obtain ⟨o,hs,ht⟩:=ok.back x
 rw [hra] at fin
 obtain ⟨hz,fin⟩:=zdZ_ (show Fin K (Mo.lim (xs.length+1) (k a)) E LS LB O F0 H0 D from fin)
 obtain ⟨p',vs',e1',hp',hr',mm⟩:=zca_ (hL.mono hs) hi o
 rw [e1] at e1'; cases e1'
 obtain ⟨h',a1,a2⟩:=mm (xs++[a]) (vs'++[v]) (hr'.append (.cons (hT ht hv) .nil))
 exact ⟨p,vs',v,rfl,rfl,hp',by rw [← hr'.len]; lia,hk a F0 H0 σ _ h' _ D a1 a2 fin⟩
theorem zma_ {i:Nat}{xs:List α}{r:Mo (List α)}{k:List α→Mo (Out ρ B S)}(hi:L[i]?=some (.ow (owL T) xs)) (hT:Imm T) (he:EvF K e E L r (tyL T)) (hk:∀ a,EvS K u E (L.set i (.ow (owL T) (xs++a))) (k a) LS LB O) :
  EvS K (tSeq (tDrop (tBM K "list" rExtend (mVar i) (tCons e tNil))) u) E L (r.bind fun a=>.lim (xs.length+a.length) (k a)) LS LB O:=by
 intro F0 H0 σ F h H D hL ok fin
 obtain ⟨p,vs,e1,hp,hr,_⟩:=zca_ hL hi ok
 show mVar i σ H fun x H1=>tyV K "list" x H1∧tCons e tNil σ H1 fun xs H2=>rExtend x xs H2 (fun _ H3=>u D σ H3)
 refine zdz_ e1 ⟨.inl ⟨rfl,vs,.of hp⟩,?_⟩
 refine he σ (un F h) H _ (hL.froz ok.2.1) ok.thaw (zbg_ (G:=F) ok _ (.inl rfl) fin fun a F' H' hra x v ⟨p2,us,ev,hp2,hr2⟩=>?_)
 obtain ⟨o,hs,ht⟩:=ok.back x
 rw [hra] at fin
 subst ev
 obtain ⟨hz,fin⟩:=zdZ_ (show Fin K (Mo.lim (xs.length+a.length) (k a)) E LS LB O F0 H0 D from fin)
 obtain ⟨p',vs',e1',hp',hr',mm⟩:=zca_ (hL.mono hs) hi o
 rw [e1] at e1'; cases e1'
 obtain ⟨h',a1,a2⟩:=mm (xs++a) (vs'++us) (hr'.append (hr2.imm hT ht))
 exact ⟨p,p2,vs',us,rfl,rfl,hp',x.2.1 _ _ hp2,by rw [← hr'.len,← hr2.len]; exact hz,hk a F0 H0 σ _ h' _ D a1 a2 fin⟩
theorem zmn_ {i:Nat}{xs:List α}{ei:TE}{ri:Mo Int}{k:List α→Mo (Out ρ B S)}(hi:L[i]?=some (.ow (owL T) xs)) (hT:Imm T) (he:EvF K e E L r T) (hei:EvF K ei E L ri tyInt) (hk:∀ a,EvS K u E (L.set i (.ow (owL T) a)) (k a) LS LB O) :
  EvS K (tSeq (tAsg e (gSub (mVar i) ei mSet)) u) E L (r.bind fun a=>ri.bind fun j=>(Mo.opt ((ixN xs.length j).map fun n=>xs.set n a)).bind k) LS LB O:=by
 intro F0 H0 σ F h H D hL ok fin
 refine he σ (un F h) H _ (hL.froz ok.2.1) ok.thaw (zbg_ (G:=F) ok _ (.inl rfl) fin fun a F' H' hra x v hv=>?_)
 obtain ⟨o,hs,ht⟩:=ok.back x
 rw [hra] at fin
 have hL':=hL.mono hs
 obtain ⟨p,vs,e1,hp,hr,_⟩:=zca_ hL' hi o
 refine zdz_ e1 ?_
 have hv':=hT ht hv
 refine hei σ (un _ h) H' _ (hL'.froz o.2.1) o.thaw (zbg_ (G:=F) o _ (.inl rfl) fin fun j F2 H2 hrj x2 v2 hv2=>?_)
 cases hv2
 obtain ⟨o',hs',ht'⟩:=o.back x2
 rw [hrj] at fin
 obtain ⟨ys,ey,fin⟩:=zkR_ fin
 obtain ⟨p',vs',e1',hp',hr',mm⟩:=zca_ (hL'.mono hs') hi o'
 rw [e1] at e1'; cases e1'
 cases ej:ixN xs.length j with
 | none=>rw [ej] at ey; cases ey
 | some n =>
  rw [ej] at ey; cases ey
  obtain ⟨h',a1,a2⟩:=mm (xs.set n a) (vs'.set n v) (hr'.set n (T.mono hs' hv'))
  refine ⟨vs',hp',?_⟩
  rw [← hr'.len,ej]
  exact hk _ F0 H0 σ _ h' _ D a1 a2 fin
noncomputable def fnO (r:Mo (Out ρ Unit Unit)):Mo ρ:=r.bind fun o=>match o with | .rt a=>.ok a | _=>.no
inductive Args (F:Hp):List V→List Sl→Prop
 | nil:Args F [] []
 | cons {α:Type}{T:Ty α}{a:α}{v:V}{vs ss} (h:T.R a v F) (t:Args F vs ss):Args F (v::vs) (.fz T a::ss)
theorem Args.hold {vs:List V}{ss:List Sl}(a:Args F vs ss) (n:Nat):Hold (ss++List.replicate n .dead) (vs.map some++List.replicate n none) F (fun _=>none):=by
 induction a with
 | nil =>
  induction n with
  | zero=>trivial
  | succ n ih=>exact ⟨fun _=>none,fun _=>none,fun p=>.inl ⟨rfl,rfl⟩,trivial,ih⟩
 | cons hv t ih=>exact ⟨fun _=>none,fun _=>none,fun p=>.inl ⟨rfl,rfl⟩,⟨_,rfl,hv⟩,ih⟩
noncomputable def CsS (C:Cs γ) (ss:γ→List Sl):Prop:=∀ {c vs F},C.R c vs F→Args F vs (ss c)
theorem zJ_:CsS (csLast T) fun a=>[.fz T a]:=fun ⟨v,e,h⟩=>by rw [e]; exact .cons h .nil
theorem zD_ {C:Cs γ}{ss:γ→List Sl}(h:CsS C ss):CsS (csCons T C) fun c=>.fz T c.1::ss c.2:=fun ⟨v,us,e,q,z⟩=>by rw [e]; exact .cons q (h z)
theorem zju_ (hs:Same F H):Okk F H F (fun _=>none) H:=by
 refine ⟨.refl hs,fun p=>.inr rfl,fun p o e=>?_,fun p e=>absurd rfl e,fun p xs e=>?_⟩
 ·cases e
 ·cases e
theorem zdt_ {t:XK→TS}{C:Cs γ}{ss:γ→List Sl}{f:γ→Mo (Out ρ Unit Unit)}{N:List Str}(n m:Nat) (hn:CsN C n) (hm:N.length-n=m) (hC:CsS C ss) (h:∀ c E,EvS K (t E) E (ss c++List.replicate m .dead) (f c) (fun _:Unit=>[]) (fun _:Unit=>[]) O) :
  ∀ vs H Q E,Ct K C (fun c=>fnO (f c)) O vs H Q E→t E { nx:=fun _ H'=>Q .non H',rt:=Q } (start N vs) H:=by
 rintro vs H Q E ⟨F,c,hs,hc,q⟩
 have hstart:start N vs=vs.map some++List.replicate m none:=by unfold start; rw [hn hc,hm]
 rw [hstart]
 refine h c E F H _ F (fun _=>none) H _ ((hC hc).hold m) (zju_ hs) ?_
 have q:After K (fnO (f c)) E F H (OwnK O H Q):=q
 cases e:f c with
 | no=>rw [e] at q; exact q
 | ex cc=>rw [e] at q; exact fun F h H ok=>q F H ok.1
 | ok o =>
  rw [e] at q
  cases o with
  | nx s=>exact q.elim
  | bk s=>exact q.elim
  | ct s=>exact q.elim
  | rt a=>exact fun v F' h' H' ok hv=>q F' H' ok.1 v h' (fun p z=>ok.2.2.2.1 p z) ok.2.1 ok.2.2.1 hv
end
end L2
namespace L2
open PySem PySem.Spec PyProof.Rows
section
variable {K:Fgg}{E:XK}{α β γ ρ S S' B B':Type}{F0 H0 F h H:Hp}{L L':List Sl}{e e1 e2:TE}{T:Ty α}{r:Mo α}{O:Own ρ}{t u:TS}{LS:S→List Sl}{LS':S'→List Sl}{LB:B→List Sl}
noncomputable def CDivG (i j:Int):Prop:=0<j∧Builtin.divisionGoesByPylong i j=false
instance (i j:Int):Decidable (CDivG i j):=inferInstanceAs (Decidable (_∧_))
instance (i j:Int):Decidable (IntMulOk i j):=inferInstanceAs (Decidable (¬ _))
noncomputable abbrev mMulG:R2:=mI IntMulOk fun i j=>.int (i*j)
noncomputable abbrev mDivG:R2:=mI CDivG fun i j=>.int (i / j)
theorem zmy_ {X:Cx}:OpR X (binaryOp .Mult) mMulG:=opM (opI fun _ _ _ _ _ _ _ hc q=>mul_int q hc)
theorem zc8_ {X:Cx}:OpR X (binaryOp .FloorDiv) mDivG:=opM (opI fun i j _ _ _ _ _ hc q=>by
 have h1:(0:Int)<j:=hc.1
 exact floordiv_int (by lia) (by rw [Int.fdiv_eq_ediv_of_nonneg i (by lia)]; exact q) (.inl hc.2))
theorem zbX_:Op2 K mDivG E tyInt tyInt (fun i j=>.grd (CDivG i j) (.ok (i / j))) tyInt:=op_i fun _ _ _=>rfl
theorem zlf_ {Pq:α→Prop}:∀ q∈([]:List α),Pq q:=fun q h=>by cases h
theorem zgC_ {Pq:α→Prop}{a:α}{l:List α}(h:Pq a) (t:∀ q∈l,Pq q):∀ q∈a::l,Pq q:=List.forall_mem_cons.mpr ⟨h,t⟩
theorem zmV_:EvS K t E L (.no:Mo (Out ρ B S)) LS LB O:=fun _ _ _ _ _ _ _ _ _ fin=>fin.elim
theorem zb4_ {r:Mo (Out ρ B S)}(w:Sub L L') (hk:EvS K t E L' r LS LB O):EvS K t E L r LS LB O:=fun F0 H0 σ F h H D hL ok fin=>hk F0 H0 σ F h H D (w.hold hL) ok fin
theorem at_ {r:Mo (Out ρ B S)}(L:List Sl) (hk:EvS K t E L r LS LB O):EvS K t E L r LS LB O:=hk
theorem zbc_ (i:Nat) {xs:List α}(h:L[i]?=some (.ow (owL T) xs)):EvF K (mVar i) E L (.ok xs) (tyL T):=zkK_ i h
theorem zks_:EvT K tTrue E L (.ok true):=fun σ F H Q hL hs q=>q.ok hs
theorem dead1 {L:List Sl}:DeadAt (.dead::L) [0]:=fun i hi s e=>by
 cases (List.mem_singleton.mp hi); cases e; rfl
theorem zmT_ {a:List Nat}{v:V}{F:Hp}(h:tyStr.R a v F):v≠.non:=by cases h; exact fun z=>V.noConfusion z
theorem nn_l {a:List α}{v:V}{F:Hp}(h:(tyL T).R a v F):v≠.non:=by obtain ⟨p,vs,rfl,_⟩:=h; exact fun z=>V.noConfusion z
theorem zn6_ {C:Cs γ}{a:γ}{v:V}{F:Hp}(h:(tyTup C).R a v F):v≠.non:=by obtain ⟨p,vs,rfl,_⟩:=h; exact fun z=>V.noConfusion z
noncomputable def insL (xs:List α) (j:Int) (a:α):List α:=xs.take j.toNat++a::xs.drop j.toNat
theorem zmD_ {p:Prop} [Decidable p] {r:Mo (Out ρ B S)}{D:Ends}(h:Fin K (Mo.grd p r) E LS LB O F0 H0 D):p∧Fin K r E LS LB O F0 H0 D:=by
 unfold Mo.grd at h
 split at h
 ·exact ⟨by assumption,h⟩
 ·exact h.elim
theorem znu_ {xs:List α}{vs:List V}(q:Prs T H xs vs) (n:Nat) {a:α}{v:V}(hv:T.R a v H):Prs T H (xs.take n++a::xs.drop n) (vs.take n++v::vs.drop n):=(q.take n).append (.cons hv (q.drop n))
theorem zlA_ {i:Nat}{xs:List α}{ei:TE}{ri:Mo Int}{k:Int→α→Mo (Out ρ B S)}(hi:L[i]?=some (.ow (owL T) xs)) (hT:Imm T) (hei:EvF K ei E L ri tyInt) (he:EvF K e E L r T) (hk:∀ j a,EvS K u E (L.set i (.ow (owL T) (insL xs j a))) (k j a) LS LB O) :
  EvS K (tSeq (tDrop (tBM K "list" mInsert (mVar i) (tCons ei (tCons e tNil)))) u) E L (ri.bind fun j=>r.bind fun a=>.grd (0≤j∧j≤xs.length) (.lim (xs.length+1) (k j a))) LS LB O:=by
 intro F0 H0 σ F h H D hL ok fin
 obtain ⟨p,vs,e1,hp,hr,_⟩:=zca_ hL hi ok
 show mVar i σ H fun x H1=>tyV K "list" x H1∧tCons ei (tCons e tNil) σ H1 fun xs H2=>mInsert x xs H2 (fun _ H3=>u D σ H3)
 refine zdz_ e1 ⟨.inl ⟨rfl,vs,.of hp⟩,?_⟩
 refine hei σ (un F h) H _ (hL.froz ok.2.1) ok.thaw (zbg_ (G:=F) ok _ (.inl rfl) fin fun j F1 H1 hrj x1 v1 hv1=>?_)
 cases hv1
 obtain ⟨o,hs,ht⟩:=ok.back x1
 rw [hrj] at fin
 have hL':=hL.mono hs
 refine he σ (un _ h) H1 _ (hL'.froz o.2.1) o.thaw (zbg_ (G:=F) o _ (.inl rfl) fin fun a F2 H2 hra x2 v hv=>?_)
 obtain ⟨o',hs',ht'⟩:=o.back x2
 rw [hra] at fin
 obtain ⟨hj,fin⟩:=zmD_ (show Fin K (Mo.grd (0≤j∧j≤xs.length) (Mo.lim (xs.length+1) (k j a))) E LS LB O F0 H0 D from fin)
 obtain ⟨hz,fin⟩:=zdZ_ fin
 obtain ⟨p',vs',e1',hp',hr',mm⟩:=zca_ (hL'.mono hs') hi o'
 rw [e1] at e1'; cases e1'
 obtain ⟨h',a1,a2⟩:=mm (insL xs j a) (vs'.take j.toNat++v::vs'.drop j.toNat) (znu_ hr' _ (hT ht' hv))
 have hl:=hr'.len
 have hm:min j.toNat vs'.length=j.toNat:=by lia
 refine ⟨vs',hp',by lia,⟨hj.1,by rw [sizeLine_eq] at hz; lia⟩,?_⟩
 rw [hm]
 exact hk j a F0 H0 σ _ h' _ D a1 a2 fin
end
end L2
namespace L2
open PySem PySem.Spec PyProof.Rows
section
variable {α β γ ρ S S' B:Type}
@[simp] theorem Mo.okB (a:α) (f:α→Mo β):(Mo.ok a).bind f=f a:=of_eq_true (eq_self _)
@[simp] theorem Mo.exB (c:String) (f:α→Mo β):(Mo.ex c:Mo α).bind f=.ex c:=of_eq_true (eq_self _)
@[simp] theorem Mo.noB (f:α→Mo β):(Mo.no:Mo α).bind f=.no:=of_eq_true (eq_self _)
@[simp] theorem Mo.noexO (a:α):(Mo.ok a).noex=.ok a:=of_eq_true (eq_self _)
@[simp] theorem Mo.optS (a:α):Mo.opt (some a)=.ok a:=of_eq_true (eq_self _)
@[simp] theorem zlq_ (s:S) (k:S→Mo (Out ρ B S')):thenO (.ok (.nx s)) k=k s:=of_eq_true (eq_self _)
@[simp] theorem zlB_ (a:ρ) (k:S→Mo (Out ρ B S')):thenO (.ok (.rt a)) k=.ok (.rt a):=of_eq_true (eq_self _)
@[simp] theorem zlZ_ (b:B) (k:S→Mo (Out ρ B S')):thenO (.ok (.bk b)) k=.ok (.bk b):=of_eq_true (eq_self _)
@[simp] theorem zl5_ (b:B) (k:S→Mo (Out ρ B S')):thenO (.ok (.ct b)) k=.ok (.ct b):=of_eq_true (eq_self _)
@[simp] theorem zox_ (a:ρ):fnO (.ok (.rt a))=.ok a:=of_eq_true (eq_self _)
@[simp] theorem zmc_ (step:S→α→Mo (Out ρ S S)) (s:S):forO (B:=B) step [] s=.ok (.nx s):=of_eq_true (eq_self _)
theorem zgF_ (step:S→α→Mo (Out ρ S S)) (x:α) (xs:List α) (s:S):forO (B:=B) step (x::xs) s=(step s x).bind fun o=>match o with | .nx s'=>forO step xs s' | .ct s'=>forO step xs s' | .bk s'=>.ok (.nx s') | .rt a=>.ok (.rt a):=rfl
theorem zkD_ {step:S→α→Mo (Out ρ S S)}{x:α}{xs:List α}{s s':S}(h:step s x=.ok (.nx s')):forO (B:=B) step (x::xs) s=forO step xs s':=by rw [zgF_,h]; rfl
theorem zlm_ {step:S→α→Mo (Out ρ S S)}{x:α}{xs:List α}{s:S}{a:ρ}(h:step s x=.ok (.rt a)):forO (B:=B) step (x::xs) s=.ok (.rt a):=by rw [zgF_,h]; rfl
theorem zix_ {step:S→α→Mo (Out ρ S S)}(P:List α→S→Prop):∀ {xs:List α}(done:List α) {s:S},P done s→(∀ d x s,(∃ r,done++xs=d++x::r)→P d s→∃ s',step s x=.ok (.nx s')∧P (d++[x]) s')→∃ s',forO (B:=B) step xs s=.ok (.nx s')∧P (done++xs) s'
 | [],done,s,h0,_=>⟨s,rfl,by rw [List.append_nil]; exact h0⟩
 | x::xs,done,s,h0,h=>by
  obtain ⟨s1,e1,p1⟩:=h done x s ⟨xs,rfl⟩ h0
  obtain ⟨s2,e2,p2⟩:=zix_ P (xs:=xs) (done++[x]) p1 fun d y s ⟨r,hr⟩ hp=>h d y s ⟨r,by rw [← hr]; simp⟩ hp
  exact ⟨s2,by rw [zkD_ e1,e2],by simpa using p2⟩
theorem zgU_ {step:Unit→α→Mo (Out ρ Unit Unit)}{p:α→Bool}{a:α→ρ}:∀ {xs:List α},(∀ x∈xs,step () x=if p x then .ok (.rt (a x)) else .ok (.nx ()))→forO (B:=B) step xs ()=match xs.find? p with | some x=>.ok (.rt (a x)) | none=>.ok (.nx ())
 | [],_=>rfl
 | x::xs,h=>by
  have h1:=h x List.mem_cons_self
  rw [List.find?_cons]
  cases e:p x with
  | true=>rw [e,if_pos rfl] at h1; rw [zlm_ h1]
  | false=>rw [e,if_neg (by decide)] at h1; rw [zkD_ h1,zgU_ fun y hy=>h y (List.mem_cons_of_mem _ hy)]
open PySem PySem.Spec PyProof.Rows in
theorem zme_ {a j:Int}(h0:0<j) (h:j.natAbs.log2<9000):CDivG a j:=by
 refine ⟨h0,?_⟩
 unfold Builtin.divisionGoesByPylong
 simp only
 rw [Bool.and_eq_false_iff]
 left
 rw [decide_eq_false_iff_not]
 split<;>lia
theorem log2_lt {n k:Nat}(h:n<2 ^ k):n.log2<k∨n=0:=by
 by_cases hz:n=0
 ·exact .inr hz
 ·exact .inl ((Nat.log2_lt hz).mpr h)
theorem zmx_ {a j:Int}(h0:0<j) (h:j<2 ^ 1000):CDivG a j:=by
 refine zme_ h0 ?_
 have h1:j.natAbs<2 ^ 1000:=by
  have:((2:Int) ^ 1000)=((2 ^ 1000:Nat):Int):=by rw [Int.natCast_pow]; rfl
  rw [this] at h
  lia
 rcases log2_lt h1 with h | h
 ·lia
 ·rw [h]; decide
open PySem PySem.Spec PyProof.Rows in
theorem zdS_ {i j:Int}(h : -(2 ^ 64)<i∧i<2 ^ 64 ∨ -(2 ^ 64)<j∧j<2 ^ 64):IntMulOk i j:=CMul.ok h
@[simp] theorem zng_ {a j:Int}{k:Mo α}(h0:0<j) (h1:j<1073741824):Mo.grd (CDivG a j) k=k:=Mo.grd_ok (zmx_ h0 (by lia))
@[simp] theorem grd_T {k:Mo α} [Decidable True]:Mo.grd True k=k:=Mo.grd_ok trivial
@[simp] theorem zgL_ {j:Int}{k:Mo α}(h0:0<j):Mo.grd (0<j) k=k:=Mo.grd_ok h0
open PySem PySem.Spec PyProof.Rows in
@[simp] theorem zlU_ {i j:Int}{k:Mo α}(h0 : -18446744073709551616<i) (h1:i<18446744073709551616):Mo.grd (IntMulOk i j) k=k:=Mo.grd_ok (zdS_ (.inl ⟨by lia,by lia⟩))
theorem zbe_ (lo:Int) (n:Nat):(rngI lo n).length=n:=by unfold rngI; rw [List.length_map,List.length_range]
theorem zeb_ {lo x:Int}{n:Nat}:x∈rngI lo n↔lo≤x∧x<lo+n:=by
 unfold rngI
 simp only [List.mem_map,List.mem_range]
 constructor
 ·rintro ⟨a,h,rfl⟩; lia
 ·rintro ⟨h1,h2⟩; exact ⟨(x-lo).toNat,by lia,by lia⟩
theorem zfB_ {xs:List α}{k:Int}(h0:0≤k):atI xs k=xs[k.toNat]?:=by
 unfold atI ixN
 rw [if_pos h0]
 split
 ·rfl
 ·rename_i h
  rw [List.getElem?_eq_none (by lia)]; rfl
theorem zco_ {xs:List α}{k:Int}(h0:0≤k) (h1:k<xs.length):∃ x,atI xs k=some x∧x∈xs:=by
 rw [zfB_ h0,List.getElem?_eq_getElem (show k.toNat<xs.length by lia)]
 exact ⟨_,rfl,List.getElem_mem _⟩
theorem zea_ {q:α→α→Bool}(hq:∀ a,q a a=true):∀ xs:List α,eqL q xs xs=true
 | []=>rfl
 | x::xs=>by unfold eqL; rw [hq,zea_ hq xs]; rfl
theorem zlk_ (xs:List α) (lo hi:Option Int):(cutG xs lo hi).length≤xs.length:=by
 unfold cutG; rw [List.length_take,List.length_drop]; lia
end
end L2
namespace L2
open PySem PySem.Spec PyProof.Rows
section
variable {K:Fgg}{E:XK}{α β γ ρ S S' B B':Type}{F0 H0 F h H:Hp}{L L':List Sl}{e e1 e2:TE}{T:Ty α}{r:Mo α}{O:Own ρ}{t u:TS}{LS:S→List Sl}{LS':S'→List Sl}{LB:B→List Sl}
noncomputable def OwIn (T:Ty α) (F:Hp):List (List α)→List V→Hp→Prop
 | [],[],h=>∀ p,h p=none
 | xs::xss,v::vs,h=>∃ h1 h2,Jn h1 h2 h∧(owL T).O xs v F h1∧OwIn T F xss vs h2
 | _,_,_=>False
theorem OwIn.mono:∀ {xss:List (List α)}{vs:List V}{F F' h:Hp},Same F F'→OwIn T F xss vs h→OwIn T F' xss vs h
 | [],[],_,_,_,_,q=>q
 | xs::xss,v::vs,F,F',h,g,⟨h1,h2,j,o,r⟩=>⟨h1,h2,j,(owL T).mono g o,r.mono g⟩
 | [],_::_,_,_,_,_,q=>q.elim
 | _::_,[],_,_,_,_,q=>q.elim
theorem OwIn.imm (i:Imm T):∀ {xss:List (List α)}{vs:List V}{F F' h:Hp},Tups F F'→OwIn T F xss vs h→OwIn T F' xss vs h
 | [],[],_,_,_,_,q=>q
 | xs::xss,v::vs,F,F',h,g,⟨h1,h2,j,o,r⟩=>⟨h1,h2,j,za0_ i g o,r.imm i g⟩
 | [],_::_,_,_,_,_,q=>q.elim
 | _::_,[],_,_,_,_,q=>q.elim
theorem OwIn.notup:∀ {xss:List (List α)}{vs:List V}{F h:Hp},OwIn T F xss vs h→∀ p xs,h p≠some (.tup xs)
 | [],[],_,_,q,p,xs=>by rw [q p]; exact fun z=>by cases z
 | xs::xss,v::vs,F,h,⟨h1,h2,j,o,r⟩,p,ys=>by
  rcases j p with ⟨_,b⟩ | ⟨_,b⟩
  ·rw [b]; exact r.notup p ys
  ·rw [b]; exact (owL T).notup o p ys
 | [],_::_,_,_,q,_,_=>q.elim
 | _::_,[],_,_,q,_,_=>q.elim
theorem OwIn.len:∀ {xss:List (List α)}{vs:List V}{F h:Hp},OwIn T F xss vs h→xss.length=vs.length
 | [],[],_,_,_=>rfl
 | xs::xss,v::vs,F,h,⟨h1,h2,j,o,r⟩=>by rw [List.length_cons,List.length_cons,r.len]
 | [],_::_,_,_,q=>q.elim
 | _::_,[],_,_,q=>q.elim
theorem OwIn.prs:∀ {xss:List (List α)}{vs:List V}{F h G:Hp},Same F G→Same h G→OwIn T F xss vs h→Prs (tyL T) G xss vs
 | [],[],_,_,_,_,_,_=>.nil
 | xs::xss,v::vs,F,h,G,gF,gh,⟨h1,h2,j,⟨p,us,e,z,q⟩,r⟩=>by
  refine .cons ⟨p,us,e,gh _ _ (j.l _ _ (by rw [z]; exact zaQ_)),q.mono gF⟩ (r.prs gF (j.r.trans gh))
 | [],_::_,_,_,_,_,_,q=>q.elim
 | _::_,[],_,_,_,_,_,q=>q.elim
noncomputable abbrev owLL (T:Ty α):Own (List (List α)):=⟨fun xss v F h=>∃ p vs h2,v=.ref p∧Jn (one p (.lst vs)) h2 h∧OwIn T F xss vs h2,tyL (tyL T),fun g ⟨p,vs,h2,e,j,q⟩=>⟨p,vs,h2,e,j,q.mono g⟩,
 fun d ⟨p,vs,h2,e,j,q⟩=>⟨p,vs,e,zhd_ d _ _ (j.l _ _ zaQ_),q.prs zc3_ (j.r.trans (zhd_ d))⟩,
 fun ⟨p,vs,h2,e,j,q⟩ b xs y=>by
  rcases j b with ⟨_,z⟩ | ⟨_,z⟩
  ·rw [z] at y; exact q.notup b xs y
  ·rw [z] at y; unfold one at y; split at y<;>cases y⟩
theorem zml_ (i:Imm T):ImmO (owLL T):=fun g ⟨p,vs,h2,e,j,q⟩=>⟨p,vs,h2,e,j,q.imm i g⟩
theorem OwIn.at:∀ {xss:List (List α)}{vs:List V}{F h:Hp}(i:Nat) {xs:List α},OwIn T F xss vs h→xss[i]?=some xs →
  ∃ p us h2,vs[i]?=some (.ref p)∧Jn (one p (.lst us)) h2 h∧Prs T F xs us∧∀ xs' us' h',Prs T F xs' us'→Jn (one p (.lst us')) h2 h'→OwIn T F (xss.set i xs') vs h'
 | [],_,_,_,_,_,_,e=>by cases e
 | xs::xss,[],_,_,_,_,q,_=>q.elim
 | xs::xss,v::vs,F,h,0,ys,⟨h1,h2,j,⟨p,us,ev,z,q⟩,r⟩,e=>by
  cases e
  subst ev z
  exact ⟨p,us,h2,rfl,j,q,fun xs' us' h' q' j'=>⟨_,h2,j',⟨p,us',rfl,rfl,q'⟩,r⟩⟩
 | xs::xss,v::vs,F,h,i+1,ys,⟨h1,h2,j,o,r⟩,e=>by
  obtain ⟨p,us,k2,e1,j1,q1,f⟩:=OwIn.at i r (by simpa using e)
  have d2:Dj h1 k2:=fun q=>by
   rcases j.dj q with a | a
   ·exact .inl a
   ·exact .inr (j1.r.free a)
  have h1p:h1 p=none:=by
   rcases j.dj p with a | a
   ·exact a
   ·have:=j1.l p _ zaQ_; rw [a] at this; cases this
  refine ⟨p,us,un h1 k2,by simpa using e1,fun q=>?_,q1,fun xs' us' h' q' j'=>?_⟩
  ·rcases j q with ⟨a,b⟩ | ⟨a,b⟩
   ·rcases j1 q with ⟨c,d⟩ | ⟨c,d⟩
    ·refine .inl ⟨c,?_⟩; unfold un; rw [a,b,d]
    ·refine .inr ⟨?_,by rw [b,d]⟩; unfold un; rw [a,c]
   ·refine .inl ⟨j1.l.free a,?_⟩
    have:k2 q=none:=j1.r.free a
    unfold un; rw [b]
    cases h1 q with
    | none=>rw [this]
    | some u=>rfl
  ·have dd:Dj (one p (.lst us')) k2:=fun q=>by
    unfold one; split
    ·rename_i z; rw [z]
     rcases j1.dj p with a | a
     ·rw [zaQ_] at a; cases a
     ·exact .inr a
    ·exact .inl rfl
   refine ⟨h1,un (one p (.lst us')) k2,fun q=>?_,o,f xs' us' _ q' (zkG_ dd)⟩
   rcases j' q with ⟨a,b⟩ | ⟨a,b⟩
   ·unfold un at b ⊢
    rw [a]
    cases z:h1 q with
    | none=>rw [z] at b; exact .inl ⟨rfl,b⟩
    | some w =>
     rw [z] at b
     refine .inr ⟨?_,b⟩
     rcases d2 q with y | y
     ·rw [y] at z; cases z
     ·exact y
   ·unfold un at a
    cases z:h1 q with
    | some w=>rw [z] at a; cases a
    | none =>
     rw [z] at a
     refine .inl ⟨rfl,?_⟩
     unfold un; rw [b]
     cases one p (.lst us') q with
     | none=>exact a.symm
     | some w=>rfl
theorem zl7_ {n:Nat}{j:Int}{k:Nat}(h:ixN n j=some k):k<n:=by
 unfold ixN at h
 split at h
 ·split at h
  ·cases h; lia
  ·cases h
 ·split at h
  ·cases h; lia
  ·cases h
theorem zkz_ {p:Addr}{o':HO}{h1' hr h':Hp}(ok:Okk F0 H0 F h H) (hp:h p≠none) (nt:∀ xs,o'≠.tup xs) (h':Hp) (hh:∀ q,h' q=if q=p then some o' else h q):Okk F0 H0 F h' (upd H p o'):=by
 obtain ⟨o1,o2,o3,o4,o5⟩:=ok
 have Fp:F p=none:=by
  rcases o2 p with z | z
  ·exact z
  ·exact absurd z hp
 have H0p:H0 p=none:=o4 p hp
 refine ⟨⟨o1.1,fun q o z=>?_,fun q o z=>?_,o1.2.2.2⟩,fun q=>?_,fun q o z=>?_,fun q z=>?_,fun q ys z=>?_⟩
 ·unfold upd; split
  ·rename_i w; rw [w,Fp] at z; cases z
  ·exact o1.2.1 _ _ z
 ·unfold upd; split
  ·rename_i w; rw [w,H0p] at z; cases z
  ·exact o1.2.2.1 _ _ z
 ·rw [hh]; split
  ·rename_i w; rw [w]; exact .inl Fp
  ·exact o2 q
 ·rw [hh] at z; unfold upd
  split at z
  ·rename_i w; rw [if_pos w]; exact z
  ·rename_i w; rw [if_neg w]; exact o3 _ _ z
 ·rw [hh] at z; split at z
  ·rename_i w; rw [w]; exact H0p
  ·exact o4 q z
 ·rw [hh] at z; split at z
  ·exact nt ys (by injection z)
  ·exact o5 q ys z
theorem zgO_ {i:Nat}{σ:St}{xss:List (List α)}{j:Nat}{xs:List α}(hL:Hold L σ F h) (hi:L[i]?=some (.ow (owLL T) xss)) (hj:xss[j]?=some xs) (ok:Okk F0 H0 F h H) :
  ∃ p vs q us,σ[i]?=some (some (.ref p))∧H p=some (.lst vs)∧xss.length=vs.length∧vs[j]?=some (.ref q)∧H q=some (.lst us)∧Prs T F xs us ∧
   ∀ xs' us',Prs T F xs' us'→∃ h',Hold (L.set i (.ow (owLL T) (xss.set j xs'))) σ F h'∧Okk F0 H0 F h' (upd H q (.lst us')):=by
 obtain ⟨o,h1,h2,e1,jj,⟨v,e2,p,vs,k2,rfl,jk,inn⟩,f⟩:=hL.at i hi
 subst e2
 obtain ⟨q,us,m2,e3,jm,hr,g⟩:=inn.at j hj
 have hq1:k2 q=some (.lst us):=jm.l _ _ zaQ_
 have hq2:h1 q=some (.lst us):=jk.r _ _ hq1
 have hq:h q=some (.lst us):=jj.l _ _ hq2
 have hp:h p=some (.lst vs):=jj.l _ _ (jk.l _ _ zaQ_)
 refine ⟨p,vs,q,us,e1,ok.2.2.1 _ _ hp,inn.len,e3,ok.2.2.1 _ _ hq,hr,fun xs' us' hr'=>?_⟩
 have pq:p≠q:=fun z=>by
  rcases jk.dj p with a | a
  ·rw [zaQ_] at a; cases a
  ·rw [z,hq1] at a; cases a
 let k2':Hp:=fun b=>if b=q then some (.lst us') else k2 b
 let h1':Hp:=fun b=>if b=q then some (.lst us') else h1 b
 let h':Hp:=fun b=>if b=q then some (.lst us') else h b
 have j1:Jn (one q (.lst us')) m2 k2':=fun b=>by
  show _∨_
  by_cases z:b=q
  ·right
   have:m2 b=none:=by
    rcases jm.dj b with a | a
    ·rw [z,zaQ_] at a; cases a
    ·exact a
   refine ⟨this,?_⟩
   show (if b=q then _ else _)=one q _ b
   rw [if_pos z]; unfold one; rw [if_pos z]
  ·left
   refine ⟨by unfold one; rw [if_neg z],?_⟩
   show (if b=q then _ else _)=_
   rw [if_neg z]
   rcases jm b with ⟨_,c⟩ | ⟨a,c⟩
   ·exact c
   ·rw [c,a]; unfold one; rw [if_neg z]
 have j2:Jn (one p (.lst vs)) k2' h1':=fun b=>by
  by_cases z:b=q
  ·left
   refine ⟨by unfold one; rw [if_neg (fun y=>pq (by rw [← y,z]))],?_⟩
   show (if b=q then _ else _)=(if b=q then _ else _)
   rw [if_pos z,if_pos z]
  ·rcases jk b with ⟨a,c⟩ | ⟨a,c⟩
   ·refine .inl ⟨a,?_⟩
    show (if b=q then _ else _)=(if b=q then _ else _)
    rw [if_neg z,if_neg z]; exact c
   ·refine .inr ⟨?_,?_⟩
    ·show (if b=q then _ else _)=_
     rw [if_neg z]; exact a
    ·show (if b=q then _ else _)=_
     rw [if_neg z]; exact c
 have j3:Jn h1' h2 h':=fun b=>by
  by_cases z:b=q
  ·right
   have:h2 b=none:=by
    rcases jj.dj b with a | a
    ·rw [z,hq2] at a; cases a
    ·exact a
   refine ⟨this,?_⟩
   show (if b=q then _ else _)=(if b=q then _ else _)
   rw [if_pos z,if_pos z]
  ·rcases jj b with ⟨a,c⟩ | ⟨a,c⟩
   ·refine .inl ⟨?_,?_⟩
    ·show (if b=q then _ else _)=_
     rw [if_neg z]; exact a
    ·show (if b=q then _ else _)=_
     rw [if_neg z]; exact c
   ·refine .inr ⟨a,?_⟩
    show (if b=q then _ else _)=(if b=q then _ else _)
    rw [if_neg z,if_neg z]; exact c
 have gg:=f (.ow (owLL T) (xss.set j xs')) (some (.ref p)) h1' h' j3 ⟨_,rfl,p,vs,k2',rfl,j2,g xs' us' k2' hr' j1⟩
 rw [zdu_ e1] at gg
 exact ⟨h',gg,zkz_ (h1':=h) (hr:=h) (h':=h) ok (by rw [hq]; exact Option.some_ne_none _) (fun xs z=>by cases z) h' fun b=>rfl⟩
noncomputable def appN (xss:List (List α)) (j:Nat) (a:α):List (List α):=match xss[j]? with | some xs=>xss.set j (xs++[a]) | none=>xss
theorem zjN_ {i:Nat}{xss:List (List α)}{ei:TE}{ri:Mo Int}{k:Nat→α→Mo (Out ρ B S)}(hi:L[i]?=some (.ow (owLL T) xss)) (hT:Imm T) (hei:EvF K ei E L ri tyInt) (he:EvF K e E L r T) (hk:∀ j a,EvS K u E (L.set i (.ow (owLL T) (appN xss j a))) (k j a) LS LB O) :
  EvS K (tSeq (tDrop (tBM K "list" rAppend (tOp (mIx K) (mVar i) ei) (tCons e tNil))) u) E L (ri.bind fun j=>(Mo.opt (ixN xss.length j)).bind fun n=>r.bind fun a=>.lim ((xss[n]?.getD []).length+1) (k n a)) LS LB O:=by
 intro F0 H0 σ F h H D hL ok fin
 show mVar i σ H fun o H0'=>ei σ H0' fun y H1=>mIx K o y H1 fun x H1=>tyV K "list" x H1∧tCons e tNil σ H1 fun xs H2=>rAppend x xs H2 (fun _ H3=>u D σ H3)
 obtain ⟨o0,g1,g2,e0,_,⟨v0,e00,p0,vs0,_,rfl,_,_⟩,_⟩:=hL.at i hi
 subst e00
 refine zdz_ e0 ?_
 refine hei σ (un F h) H _ (hL.froz ok.2.1) ok.thaw (zbg_ (G:=F) ok _ (.inl rfl) fin fun j F1 H1 hrj x1 v1 hv1=>?_)
 cases hv1
 obtain ⟨o,hs,ht⟩:=ok.back x1
 rw [hrj] at fin
 have hL':=hL.mono hs
 obtain ⟨n,en,fin⟩:=zkR_ fin
 have hn:=zl7_ en
 obtain ⟨p,vs,q,us,e1,hp,hlen,e3,hq,hr,_⟩:=zgO_ hL' hi (List.getElem?_eq_getElem hn) o
 rw [e0] at e1; cases e1
 refine ⟨vs,.inl (.of hp),?_⟩
 have ea:atI vs j=some (.ref q):=by unfold atI; rw [← hlen,en]; exact e3
 rw [ea]
 refine ⟨.inl ⟨rfl,us,.of hq⟩,?_⟩
 refine he σ (un _ h) H1 _ (hL'.froz o.2.1) o.thaw (zbg_ (G:=F) o _ (.inl rfl) fin fun a F2 H2 hra x2 v hv=>?_)
 obtain ⟨o',hs',ht'⟩:=o.back x2
 rw [hra] at fin
 obtain ⟨hz,fin⟩:=zdZ_ (show Fin K (Mo.lim ((xss[n]?.getD []).length+1) (k n a)) E LS LB O F0 H0 D from fin)
 obtain ⟨p',vs',q',us',e1',hp',hlen',e3',hq',hr',mm⟩:=zgO_ (hL'.mono hs') hi (List.getElem?_eq_getElem hn) o'
 rw [e0] at e1'; cases e1'
 have:vs'=vs:=by
  have h1:=x2.2.2.1 _ _ hp
  rw [hp'] at h1; injection h1 with h1; injection h1
 subst this
 rw [e3] at e3'; cases e3'
 have:us'=us:=by
  have h1:=x2.2.2.1 _ _ hq
  rw [hq'] at h1; injection h1 with h1; injection h1
 subst this
 obtain ⟨h',a1,a2⟩:=mm (xss[n]++[a]) (us'++[v]) (hr'.append (.cons (hT ht' hv) .nil))
 have ex:appN xss n a=xss.set n (xss[n]++[a]):=by unfold appN; rw [List.getElem?_eq_getElem hn]
 have hk':=hk n a
 rw [ex] at hk'
 rw [List.getElem?_eq_getElem hn] at hz
 have hl:=hr'.len
 exact ⟨q,us',v,rfl,rfl,hq',by simp only [Option.getD_some] at hz; lia,hk' F0 H0 σ _ h' _ D a1 a2 fin⟩
end
end L2
namespace L2
open PySem PySem.Spec PyProof.Rows
section
variable {K:Fgg}{E:XK}{α β γ ρ S S' B B':Type}{F0 H0 F h H:Hp}{L L':List Sl}{e e1 e2:TE}{T:Ty α}{r:Mo α}{O:Own ρ}{t u:TS}{LS:S→List Sl}{LS':S'→List Sl}{LB:B→List Sl}
theorem OwIn.snoc:∀ {xss:List (List α)}{vs:List V}{h h1 h':Hp}{xs:List α}{v:V},OwIn T F xss vs h→(owL T).O xs v F h1→Jn h h1 h'→OwIn T F (xss++[xs]) (vs++[v]) h'
 | [],[],h,h1,h',xs,v,q,o,j=>by
  refine ⟨h',fun _=>none,fun p=>.inr ⟨rfl,rfl⟩,?_,fun _=>rfl⟩
  have:h'=h1:=by
   funext p
   rcases j p with ⟨a,b⟩ | ⟨a,b⟩
   ·exact b
   ·rw [b,q p,a]
  rw [this]; exact o
 | ys::xss,w::vs,h,h1,h',xs,v,⟨k1,k2,jk,o1,r1⟩,o,j=>by
  have d:Dj k2 h1:=fun p=>by
   rcases j.dj p with a | a
   ·exact .inl (jk.r.free a)
   ·exact .inr a
  refine ⟨k1,un k2 h1,fun p=>?_,o1,r1.snoc o (zkG_ d)⟩
  rcases j p with ⟨a,b⟩ | ⟨a,b⟩
  ·have z1:k1 p=none:=jk.l.free a
   have z2:k2 p=none:=jk.r.free a
   refine .inl ⟨z1,?_⟩
   unfold un; rw [z2]; exact b
  ·rcases jk p with ⟨c,dd⟩ | ⟨c,dd⟩
   ·refine .inl ⟨c,?_⟩
    unfold un; rw [b,dd]
    cases z:k2 p with
    | none=>exact a.symm
    | some w=>rfl
   ·refine .inr ⟨?_,by rw [b,dd]⟩
    unfold un; rw [c]; exact a
 | [],_::_,_,_,_,_,_,q,_,_=>q.elim
 | _::_,[],_,_,_,_,_,q,_,_=>q.elim
theorem zlp_ {lv:List Str}{fr:List (Str×Nat)}{wi:TI}{g:TG}{tt:TT}{te:TE}{r:Mo (List α)}{ss:α→List (Nat×Sl)}{c:α→Mo Bool}{f:α→Mo (List β)}{T':Ty β}
  (hi:EvI K wi E L r T) (hg:TgR K g T ss) (hd:∀ a,DeadAt (cL lv fr L) ((ss a).map (·.1))) (ht:∀ a,EvT K tt E0 (setL (cL lv fr L) (ss a)) (c a)) (he:∀ a,EvO K te E0 (setL (cL lv fr L) (ss a)) (f a) (owL T')) :
  EvO K (tComp lv fr wi g tt te) E L (r.bind fun xs=>compM (fun x=>cond1 (c x) (f x)) xs []) (owLL T'):=by
 intro σ F0 H0 Q hL hs q
 refine hi σ F0 H0 _ hL hs (q.bind.imp fun xs F1 H1 x1 k1 J Y D hD=>?_)
 have hL1:=hL.mono x1.1
 refine ⟨fun i m ys σ' H'=>m=xs.length-i∧i≤xs.length∧∃ acc Fi hh,Ext F1 H1 Fi H'∧Fi D=none∧hh D=none∧H' D=some (.lst ys)∧OwIn T' Fi acc ys hh∧Dj Fi hh∧Same hh H'∧(∀ p,hh p≠none→H1 p=none)∧HoldF (cL lv fr L) σ' F1∧σ'.length=(cL lv fr L).length∧After K (compM (fun x=>cond1 (c x) (f x)) (xs.drop i) acc) E F1 H1 (OwnK (owLL T') H0 Q),
  ⟨_,rfl,Nat.zero_le _,[],F1,fun _=>none,.heap x1.2.1 (zcc_ hD _),x1.2.1.free hD,rfl,zaR_,fun _=>rfl,fun _=>.inr rfl,(fun p o z=>by cases z),fun p z=>absurd rfl z,zfF_ hL1,zii_.symm,k1⟩,?_⟩
 rintro i m ys σ' H' ⟨rfl,hi,acc,Fi,hh,xi,hDi,hDh,hy,hp,dj,sh,fresh,hσ,hln,A⟩
 by_cases hlt:i<xs.length
 ·right
  have ex:xs[i]?=some xs[i]:=List.getElem?_eq_getElem hlt
  obtain ⟨g1,g2⟩:=Y.go i H' xs[i] (xi.1.trans xi.2.1) ex
  refine ⟨g1,fun ys' σ'' H''=>i+1≤xs.length∧∃ acc Fi hh,Ext F1 H1 Fi H''∧Fi D=none∧hh D=none∧H'' D=some (.lst ys')∧OwIn T' Fi acc ys' hh∧Dj Fi hh∧Same hh H''∧(∀ p,hh p≠none→H1 p=none)∧HoldF (cL lv fr L) σ'' F1∧σ''.length=(cL lv fr L).length∧After K (compM (fun x=>cond1 (c x) (f x)) (xs.drop (i+1)) acc) E F1 H1 (OwnK (owLL T') H0 Q),fun ys' σ'' H'' z=>⟨xs.length-(i+1),by lia,rfl,z⟩,fun v H2 hyl=>?_⟩
  obtain ⟨F2,x2,hv⟩:=g2 v H2 hyl Fi xi.1 xi.2.1
  have keep:∀ {Fa Ha Fb Hb:Hp},Ext Fa Ha Fb Hb→Fa D=none→Ha D=some (.lst ys)→Dj Fa hh→Same hh Ha→(Fb D=none∧Hb D=some (.lst ys))∧Dj Fb hh∧Same hh Hb:=by
   intro Fa Ha Fb Hb x h1 h2 h3 h4
   refine ⟨⟨?_,x.2.2.1 _ _ h2⟩,fun p=>?_,h4.trans x.2.2.1⟩
   ·cases z:Fb D with
    | none=>rfl
    | some o=>have:=x.2.2.2 D h1 (by rw [z]; exact Option.some_ne_none _); rw [h2] at this; cases this
   ·cases y:hh p with
    | none=>exact .inr rfl
    | some w =>
     left
     rcases h3 p with z | z
     ·cases zz:Fb p with
      | none=>rfl
      | some o=>have:=x.2.2.2 p z (by rw [zz]; exact Option.some_ne_none _); rw [h4 _ _ y] at this; cases this
     ·rw [z] at y; cases y
  obtain ⟨⟨hD2,hy2⟩,dj2,sh2⟩:=keep x2 hDi hy dj sh
  refine hg xs[i] v σ' F2 H2 _ x2.2.1 hv fun vs hpl=>?_
  have hσ2:HoldF (cL lv fr L) σ' F2:=hσ.mono (xi.1.trans x2.1)
  obtain ⟨a1,a2,a3⟩:=zeG_ hpl hln.symm hσ2
  have hσd:HoldF (cL lv fr L) (setS σ' vs) F1:=by
   have hdead:=hd xs[i]
   refine fun j s e=>?_
   by_cases hj:∃ q∈(ss xs[i]).map (·.1),q=j
   ·obtain ⟨q,hq,rfl⟩:=hj
    rw [hdead q hq s e]; trivial
   ·have:((setS σ' vs)[j]?)=σ'[j]?:=zhU_ hpl (fun hq=>hj ⟨j,hq,rfl⟩)
    rw [this]; exact hσ j s e
  have hdrop:xs.drop i=xs[i]::xs.drop (i+1):=List.drop_eq_getElem_cons hlt
  rw [hdrop] at A
  unfold compM at A
  cases ec:c xs[i] with
  | no=>unfold cond1 at A; rw [ec] at A; exact A.elim
  | ex cc=>unfold cond1 at A; rw [ec] at A; exact A.elim
  | ok bb =>
   refine ht xs[i] _ F2 H2 _ a1 x2.2.1 ?_
   rw [ec]
   intro F3 H3 x3
   obtain ⟨⟨hD3,hy3⟩,dj3,sh3⟩:=keep x3 hD2 hy2 dj2 sh2
   have x13:=(xi.trans x2).trans x3
   cases bb with
   | false =>
    rw [if_neg (by decide)]
    refine ⟨hlt,acc,F3,hh,x13,hD3,hDh,hy3,hp.mono (x2.1.trans x3.1),dj3,sh3,fresh,hσd,by rw [a2]; exact hln,?_⟩
    unfold cond1 at A; rw [ec] at A
    exact A
   | true =>
    rw [if_pos rfl]
    cases ef:f xs[i] with
    | no=>unfold cond1 at A; rw [ec,ef] at A; exact A.elim
    | ex cc=>unfold cond1 at A; rw [ec,ef] at A; exact A.elim
    | ok y =>
     unfold cond1 at A; rw [ec,ef] at A
     have A':After K (Mo.lim (acc.length+1) (compM (fun x=>cond1 (c x) (f x)) (xs.drop (i+1)) (acc++[y]))) E F1 H1 (OwnK (owLL T') H0 Q):=A
     obtain ⟨hz,A'⟩:=A'.lim
     refine he xs[i] _ F3 H3 _ (a1.mono x3.1) x3.2.1 ?_
     rw [ef]
     intro F4 H4 x4 v4 hn fr4 dj4n sn4 hv4
     obtain ⟨⟨hD4,hy4⟩,dj4,sh4⟩:=keep x4 hD3 hy3 dj3 sh3
     have hlen:=hp.len
     have hnD:hn D=none:=by
      cases z:hn D with
      | none=>rfl
      | some w=>have:=fr4 D (by rw [z]; exact Option.some_ne_none _); rw [hy3] at this; cases this
     have djn:Dj hh hn:=fun p=>by
      cases z:hn p with
      | none=>exact .inr rfl
      | some w=>exact .inl (sh3.free (fr4 p (by rw [z]; exact Option.some_ne_none _)))
     have x14:=x13.trans x4
     refine ⟨hy4,by lia,hlt,acc++[y],F4,un hh hn,?_,hD4,by unfold un; rw [hDh]; exact hnD,zaR_,(hp.mono ((x2.1.trans x3.1).trans x4.1)).snoc hv4 (zkG_ djn),fun p=>?_,fun p o z=>?_,fun p z=>?_,hσd,by rw [a2]; exact hln,A'⟩
     ·refine ⟨x14.1,fun b o z=>?_,fun b o z=>?_,x14.2.2.2⟩
      ·unfold upd; split
       ·rename_i w; rw [w,hD4] at z; cases z
       ·exact x14.2.1 _ _ z
      ·unfold upd; split
       ·rename_i w; rw [w,hD] at z; cases z
       ·exact x14.2.2.1 _ _ z
     ·unfold un
      cases z:hh p with
      | some w =>
       rcases dj4 p with y | y
       ·exact .inl y
       ·rw [y] at z; cases z
      | none=>exact dj4n p
     ·have hpD:p≠D:=fun w=>by
       unfold un at z; rw [w,hDh,hnD] at z; cases z
      unfold upd; rw [if_neg hpD]
      unfold un at z
      cases w:hh p with
      | some o'=>rw [w] at z; cases z; exact sh4 _ _ w
      | none=>rw [w] at z; exact sn4 _ _ z
     ·unfold un at z
      cases w:hh p with
      | some o'=>exact fresh p (by rw [w]; exact Option.some_ne_none _)
      | none=>rw [w] at z; exact x13.2.2.1.free (fr4 p z)
 ·left
  have e:i=xs.length:=by lia
  subst e
  refine ⟨Y.stop H' (xi.1.trans xi.2.1),?_⟩
  rw [List.drop_length] at A
  have A':OwnK (owLL T') H0 Q acc Fi H':=A Fi H' xi
  have dD:Dj (one D (.lst ys)) hh:=fun p=>by
   unfold one; split
   ·rename_i w; rw [w]; exact .inr hDh
   ·exact .inl rfl
  refine A' (.ref D) (un (one D (.lst ys)) hh) (fun p z=>?_) (fun p=>?_) (fun p o z=>?_) ⟨D,ys,hh,rfl,zkG_ dD,hp⟩
  ·unfold un one at z
   by_cases w:p=D
   ·rw [w]; exact x1.2.2.1.free hD
   ·simp only [if_neg w] at z; exact x1.2.2.1.free (fresh p z)
  ·by_cases w:p=D
   ·rw [w]; exact .inl hDi
   ·unfold un one; simp only [if_neg w]; exact dj p
  ·unfold un one at z
   by_cases w:p=D
   ·simp only [if_pos w] at z; rw [w]; cases z; exact hy
   ·simp only [if_neg w] at z; exact sh _ _ z
@[irreducible] def fuelW:Nat:=100000
theorem ziL_:fuelW=100000:=by unfold fuelW; rfl
noncomputable def mLtS:R2:=fun x y H Q=>match x,y with
 | .int i,.int j=>Q (.bl (decide (i<j))) H
 | .str i,.str j=>Q (.bl (decide (i.cps.toList<j.cps.toList))) H
 | _,_=>False
theorem zmN_ {X:Cx}:OpR X (compareOp .Lt) mLtS:=by
 intro pins s σ H x y v u Q I rx ry h
 cases x<;>cases y<;>first
  | exact h.elim
  | exact op_lt pins s σ H _ _ v u Q I rx ry ⟨_,_,rfl,rfl,h⟩
  | exact zj3_ pins s σ H _ _ v u Q I rx ry ⟨_,_,rfl,rfl,h⟩
end
end L2
namespace L2
open PySem PySem.Spec PyProof.Rows
section
variable {α:Type}
theorem zal_ {S B ρ:Type}{step:S→α→Mo (Out ρ S S)}{xs:List α}{s:S}{G:Mo (Out ρ B S)→Prop}(P:List α→S→Prop) (h0:P [] s) (hs:∀ d x s,(∃ r,xs=d++x::r)→P d s→∃ s',step s x=.ok (.nx s')∧P (d++[x]) s') (hk:∀ s',P xs s'→G (.ok (.nx s'))):G (forO step xs s):=by
 obtain ⟨s',e,p⟩:=zix_ (B:=B) P (xs:=xs) [] h0 (fun d x s hr hp=>hs d x s hr hp)
 rw [e]
 exact hk s' p
theorem zeF_ {ρ B:Type}{c:Int→Mo Bool}{step:Int→Mo (Out ρ Int Int)}{f:Nat→Nat}(p:Nat→Bool):∀ (m n:Nat),n<m→(∀ i,0<i→i≤n→c (i:Nat)=.ok (p i)∧step (i:Nat)=.ok (.nx ((i:Int)-1)))→c ((0:Nat):Int)=.ok false→(∀ i,i<n→f (i+1)=if p (i+1) then f i else i+1)→f 0=0→whileO (B:=B) c step m (n:Nat)=.ok (.nx ((f n:Nat):Int))
 | 0,n,h,_,_,_,_=>absurd h (Nat.not_lt_zero _)
 | m+1,0,_,_,h0,_,f0=>by unfold whileO; rw [h0,Mo.okB,if_neg (by decide),f0]
 | m+1,n+1,hn,hs,h0,hf,f0=>by
  unfold whileO
  obtain ⟨h1,h2⟩:=hs (n+1) (by lia) (Nat.le_refl _)
  rw [h1,Mo.okB,hf n (by lia)]
  cases p (n+1) with
  | false=>rfl
  | true =>
   rw [if_pos rfl,if_pos rfl,h2,Mo.okB]
   have e:((n+1:Nat):Int)-1=(n:Nat):=by lia
   rw [e]
   exact zeF_ p m n (by lia) (fun i h h'=>hs i h (by lia)) h0 (fun i h=>hf i (by lia)) f0
noncomputable def insK (k:α→Nat) (x:α) (ys:List α):List α:=ys.filter (fun y=>decide (k y≤k x))++x::ys.filter (fun y=>decide (k x<k y))
noncomputable def sK (k:α→Nat) (xs:List α):List α:=xs.foldl (fun acc x=>insK k x acc) []
noncomputable def Srt (k:α→Nat) (ys:List α):Prop:=ys.Pairwise fun a b=>k a≤k b
theorem zb6_ (k:α→Nat) (xs:List α) (x:α):sK k (xs++[x])=insK k x (sK k xs):=by unfold sK; rw [List.foldl_append]; rfl
theorem zbw_ {P:List α→Prop}(h0:P []) (hs:∀ xs x,P xs→P (xs++[x])) (xs:List α):P xs:=by
 have:∀ n (xs:List α),xs.length=n→P xs:=by
  intro n
  induction n with
  | zero=>intro xs e; rw [List.length_eq_zero_iff.mp e]; exact h0
  | succ n ih =>
   intro xs e
   have hne:xs≠[]:=fun z=>by rw [z] at e; cases e
   rw [← List.dropLast_concat_getLast hne]
   exact hs _ _ (ih _ (by rw [List.length_dropLast,e]; rfl))
 exact this _ xs rfl
theorem zdL_ {k:α→Nat}{ys:List α}(h:Srt k ys) (m:Nat):ys=ys.filter (fun y=>decide (k y≤m))++ys.filter (fun y=>decide (m<k y)):=by
 induction ys with
 | nil=>rfl
 | cons y ys ih =>
  obtain ⟨h1,h2⟩:=List.pairwise_cons.mp h
  by_cases hy:k y≤m
  ·rw [List.filter_cons_of_pos (by simpa using hy),List.filter_cons_of_neg (by simpa using hy),List.cons_append,← ih h2]
  ·have e:(y::ys).filter (fun y=>decide (k y≤m))=[]:=by
    rw [List.filter_eq_nil_iff]
    intro z hz
    rcases List.mem_cons.mp hz with rfl | hz
    ·simpa using hy
    ·have:=h1 z hz; simp; lia
   have e2:(y::ys).filter (fun y=>decide (m<k y))=y::ys:=by
    rw [List.filter_eq_self]
    intro z hz
    rcases List.mem_cons.mp hz with rfl | hz
    ·simp; lia
    ·have:=h1 z hz; simp; lia
   rw [e,e2,List.nil_append]
theorem znz_ {k:α→Nat}{ys:List α}(h:Srt k ys) (x:α):Srt k (insK k x ys):=by
 unfold insK Srt
 rw [List.pairwise_append]
 refine ⟨List.Pairwise.filter _ h,?_,?_⟩
 ·rw [List.pairwise_cons]
  refine ⟨fun a ha=>?_,List.Pairwise.filter _ h⟩
  have:=(List.mem_filter.mp ha).2
  simp at this; lia
 ·intro a ha b hb
  have h1:=(List.mem_filter.mp ha).2
  simp at h1
  rcases List.mem_cons.mp hb with rfl | hb
  ·exact h1
  ·have h2:=(List.mem_filter.mp hb).2
   simp at h2; lia
theorem zjE_ (k:α→Nat) (xs:List α):Srt k (sK k xs):=by
 induction xs using zbw_ with
 | h0=>exact List.Pairwise.nil
 | hs xs x ih=>rw [zb6_]; exact znz_ ih x
theorem zlH_ {k:α→Nat}{x y:α}{ys:List α}:y∈insK k x ys↔y=x∨y∈ys:=by
 unfold insK
 simp only [List.mem_append,List.mem_cons,List.mem_filter,decide_eq_true_eq]
 constructor
 ·rintro (h | h | h)
  ·exact .inr h.1
  ·exact .inl h
  ·exact .inr h.1
 ·rintro (h | h)
  ·exact .inr (.inl h)
  ·by_cases z:k y≤k x
   ·exact .inl ⟨h,z⟩
   ·exact .inr (.inr ⟨h,by lia⟩)
theorem zhe_ {k:α→Nat}{y:α}(xs:List α):y∈sK k xs↔y∈xs:=by
 induction xs using zbw_ with
 | h0=>rfl
 | hs xs x ih=>rw [zb6_,zlH_,ih,List.mem_append,List.mem_singleton]; exact or_comm
theorem zls_ (k:α→Nat) (x:α) (ys:List α):(insK k x ys).length=ys.length+1:=by
 unfold insK
 rw [List.length_append,List.length_cons]
 induction ys with
 | nil=>rfl
 | cons y ys ih =>
  by_cases hy:k y≤k x
  ·rw [List.filter_cons_of_pos (by simpa using hy),List.filter_cons_of_neg (by simpa using hy)]; simp only [List.length_cons]; lia
  ·rw [List.filter_cons_of_neg (by simpa using hy),List.filter_cons_of_pos (by simp; lia)]; simp only [List.length_cons]; lia
theorem ziu_ (k:α→Nat) (xs:List α):(sK k xs).length=xs.length:=by
 induction xs using zbw_ with
 | h0=>rfl
 | hs xs x ih=>rw [zb6_,zls_,ih,List.length_append,List.length_singleton]
theorem sK_id {k:α→Nat}{ys:List α}(h:Srt k ys):sK k ys=ys:=by
 induction ys using zbw_ with
 | h0=>rfl
 | hs xs x ih =>
  obtain ⟨h1,_,h3⟩:=List.pairwise_append.mp h
  rw [zb6_,ih h1]
  unfold insK
  have e1:xs.filter (fun y=>decide (k y≤k x))=xs:=by
   rw [List.filter_eq_self]; intro y hy; simpa using h3 y hy x (List.mem_singleton.mpr rfl)
  have e2:xs.filter (fun y=>decide (k x<k y))=[]:=by
   rw [List.filter_eq_nil_iff]; intro y hy; have:=h3 y hy x (List.mem_singleton.mpr rfl); simp; lia
  rw [e1,e2]
theorem zhO_ {k k':α→Nat}:∀ (xs:List α),(∀ a∈xs,∀ b∈xs,(k a≤k b↔k' a≤k' b))→sK k xs=sK k' xs:=by
 intro xs
 induction xs using zbw_ with
 | h0=>intro _; rfl
 | hs xs x ih =>
  intro h
  rw [zb6_,zb6_,ih fun a ha b hb=>h a (List.mem_append_left _ ha) b (List.mem_append_left _ hb)]
  unfold insK
  have hx:x∈xs++[x]:=List.mem_append_right _ (List.mem_singleton.mpr rfl)
  have e1:(sK k' xs).filter (fun y=>decide (k y≤k x))=(sK k' xs).filter (fun y=>decide (k' y≤k' x)):=by
   refine List.filter_congr fun y hy=>?_
   rw [zhe_] at hy
   exact decide_eq_decide.mpr (h y (List.mem_append_left _ hy) x hx)
  have e2:(sK k' xs).filter (fun y=>decide (k x<k y))=(sK k' xs).filter (fun y=>decide (k' x<k' y)):=by
   refine List.filter_congr fun y hy=>?_
   rw [zhe_] at hy
   have:=h y (List.mem_append_left _ hy) x hx
   exact decide_eq_decide.mpr (by lia)
  rw [e1,e2]
theorem zgA_ (xs:List α):sK (fun _=>0) xs=xs:=sK_id (List.pairwise_of_forall fun _ _=>Nat.le_refl _)
noncomputable def dealR (r:α→Nat) (n:Nat) (ys:List α):List α:=(List.range n).flatMap fun i=>ys.filter fun y=>decide (r y=i)
theorem zhA_ {n i:Nat}(h:i<n):List.range n=List.range i++i::(List.range (n-i-1)).map (fun j=>i+1+j):=by
 have e:n=(i+1)+(n-i-1):=by lia
 conv=>lhs; rw [e,List.range_add,List.range_succ,List.append_assoc]
 simp
theorem zdw_ {β:Type}{f g:α→List β}{l:List α}(h:∀ a∈l,f a=g a):l.flatMap f=l.flatMap g:=by
 induction l with
 | nil=>rfl
 | cons a l ih=>rw [List.flatMap_cons,List.flatMap_cons,h a List.mem_cons_self,ih fun b hb=>h b (List.mem_cons_of_mem _ hb)]
theorem zfd_ {β:Type}(p:β→Bool) (f:α→List β) (l:List α):(l.flatMap f).filter p=l.flatMap fun a=>(f a).filter p:=by
 induction l with
 | nil=>rfl
 | cons a l ih=>rw [List.flatMap_cons,List.flatMap_cons,List.filter_append,ih]
theorem zdm_ {β:Type}{f:α→List β}{l:List α}(h:∀ a∈l,f a=[]):l.flatMap f=[]:=by
 induction l with
 | nil=>rfl
 | cons a l ih=>rw [List.flatMap_cons,h a List.mem_cons_self,ih fun b hb=>h b (List.mem_cons_of_mem _ hb)]; rfl
theorem zlW_ {k r:α→Nat}{M n:Nat}{ys:List α}{x:α}(hs:Srt k ys) (hk:∀ y∈ys,k y<M) (hkx:k x<M) (hr:r x<n) :
  insK (fun a=>r a*M+k a) x (dealR r n ys)=dealR r n (insK k x ys):=by
 have less:∀ a b:Nat,a<b→∀ u v:Nat,u<M→a*M+u<b*M+v:=by
  intro a b hab u v hu
  have:(a+1)*M≤b*M:=Nat.mul_le_mul_right _ hab
  rw [Nat.add_mul,Nat.one_mul] at this
  lia
 generalize hA:ys.filter (fun y=>decide (k y≤k x))=A
 generalize hB:ys.filter (fun y=>decide (k x<k y))=B
 have hys:ys=A++B:=by rw [← hA,← hB]; exact zdL_ hs (k x)
 have hAk:∀ y∈A,k y≤k x∧k y<M:=fun y hy=>by
  rw [← hA] at hy; obtain ⟨h1,h2⟩:=List.mem_filter.mp hy; exact ⟨by simpa using h2,hk y h1⟩
 have hBk:∀ y∈B,k x<k y∧k y<M:=fun y hy=>by
  rw [← hB] at hy; obtain ⟨h1,h2⟩:=List.mem_filter.mp hy; exact ⟨by simpa using h2,hk y h1⟩
 have e1:insK k x ys=A++x::B:=by unfold insK; rw [hA,hB]
 rw [e1]
 unfold insK dealR
 rw [zhA_ hr]
 simp only [List.flatMap_append,List.flatMap_cons,List.filter_append,zfd_,List.filter_filter]
 have lo1:(List.range (r x)).flatMap (fun i=>ys.filter fun a=>(decide (r a*M+k a≤r x*M+k x) && decide (r a=i)))=(List.range (r x)).flatMap fun i=>(A++x::B).filter fun y=>decide (r y=i):=by
  refine zdw_ fun i hi=>?_
  have hi:=List.mem_range.mp hi
  rw [List.filter_append,List.filter_cons_of_neg (by simp; lia),← List.filter_append,← hys]
  refine List.filter_congr fun y hy=>?_
  by_cases z:r y=i
  ·have:=less (r y) (r x) (by lia) (k y) (k x) (hk y hy)
   simp [z]; rw [z] at this; lia
  ·simp [z]
 have lo2:(List.range (r x)).flatMap (fun i=>ys.filter fun a=>(decide (r x*M+k x<r a*M+k a) && decide (r a=i)))=[]:=by
  refine zdm_ fun i hi=>?_
  have hi:=List.mem_range.mp hi
  rw [List.filter_eq_nil_iff]
  intro y hy
  by_cases z:r y=i
  ·have:=less (r y) (r x) (by lia) (k y) (k x) (hk y hy)
   simp [z]; rw [z] at this; lia
  ·simp [z]
 have hi1:((List.range (n-r x-1)).map fun j=>r x+1+j).flatMap (fun i=>ys.filter fun a=>(decide (r a*M+k a≤r x*M+k x) && decide (r a=i)))=[]:=by
  refine zdm_ fun i hi=>?_
  obtain ⟨j,_,rfl⟩:=List.mem_map.mp hi
  rw [List.filter_eq_nil_iff]
  intro y hy
  by_cases z:r y=r x+1+j
  ·have:=less (r x) (r y) (by lia) (k x) (k y) hkx
   simp [z]; rw [z] at this; lia
  ·simp [z]
 have hi2:((List.range (n-r x-1)).map fun j=>r x+1+j).flatMap (fun i=>ys.filter fun a=>(decide (r x*M+k x<r a*M+k a) && decide (r a=i)))=((List.range (n-r x-1)).map fun j=>r x+1+j).flatMap fun i=>(A++x::B).filter fun y=>decide (r y=i):=by
  refine zdw_ fun i hi=>?_
  obtain ⟨j,_,rfl⟩:=List.mem_map.mp hi
  rw [List.filter_append,List.filter_cons_of_neg (by simp; lia),← List.filter_append,← hys]
  refine List.filter_congr fun y hy=>?_
  by_cases z:r y=r x+1+j
  ·have:=less (r x) (r y) (by lia) (k x) (k y) hkx
   simp [z]; rw [z] at this; lia
  ·simp [z]
 have mid1:ys.filter (fun a=>(decide (r a*M+k a≤r x*M+k x) && decide (r a=r x)))=A.filter fun y=>decide (r y=r x):=by
  rw [hys,List.filter_append]
  have:B.filter (fun a=>(decide (r a*M+k a≤r x*M+k x) && decide (r a=r x)))=[]:=by
   rw [List.filter_eq_nil_iff]
   intro y hy
   have:=hBk y hy
   by_cases z:r y=r x
   ·simp [z]; lia
   ·simp [z]
  rw [this,List.append_nil]
  refine List.filter_congr fun y hy=>?_
  have:=hAk y hy
  by_cases z:r y=r x
  ·simp [z]; lia
  ·simp [z]
 have mid2:ys.filter (fun a=>(decide (r x*M+k x<r a*M+k a) && decide (r a=r x)))=B.filter fun y=>decide (r y=r x):=by
  rw [hys,List.filter_append]
  have:A.filter (fun a=>(decide (r x*M+k x<r a*M+k a) && decide (r a=r x)))=[]:=by
   rw [List.filter_eq_nil_iff]
   intro y hy
   have:=hAk y hy
   by_cases z:r y=r x
   ·simp [z]; lia
   ·simp [z]
  rw [this,List.nil_append]
  refine List.filter_congr fun y hy=>?_
  have:=hBk y hy
  by_cases z:r y=r x
  ·simp [z]; lia
  ·simp [z]
 rw [lo1,lo2,hi1,hi2,mid1,mid2]
 have emid:(x::B).filter (fun y=>decide (r y=r x))=x::B.filter (fun y=>decide (r y=r x)):=List.filter_cons_of_pos (by simp)
 simp only [List.filter_append,emid,List.append_nil,List.nil_append,List.append_assoc,List.cons_append]
theorem zmg_ {k r:α→Nat}{M n:Nat}(xs:List α) (hk:∀ y∈xs,k y<M) (hr:∀ y∈xs,r y<n):sK (fun a=>r a*M+k a) xs=dealR r n (sK k xs):=by
 induction xs using zbw_ with
 | h0=>unfold dealR; exact (zdm_ fun _ _=>rfl).symm
 | hs xs x ih =>
  have hx:x∈xs++[x]:=List.mem_append_right _ (List.mem_singleton.mpr rfl)
  rw [zb6_,zb6_,ih (fun y hy=>hk y (List.mem_append_left _ hy)) (fun y hy=>hr y (List.mem_append_left _ hy))]
  exact zlW_ (zjE_ k xs) (fun y hy=>hk y (List.mem_append_left _ ((zhe_ xs).mp hy))) (hk x hx) (hr x hx)
end
noncomputable abbrev Crd:=List Nat
noncomputable def isC (c:Crd):Prop:=c.length=40∧∀ x∈c,x∈SG
noncomputable def sg (c:Crd) (col:Int):Nat:=c.getD (col-1).toNat 0
noncomputable def rk1 (x:Nat):Nat:=(SG.findIdx? (· == x)).getD 0 % 37
noncomputable def rnk (c:Crd) (col:Int):Nat:=rk1 (sg c col)
noncomputable def colOk (col:Int):Prop:=1≤col∧col≤40
theorem ziE_ (x:Nat):rk1 x<37:=Nat.mod_lt _ (by decide)
theorem zka_ {c:Crd}{col:Int}(h:isC c) (hc:colOk col):atI c (col-1)=some (sg c col)∧sg c col∈SG:=by
 obtain ⟨h1,h2⟩:=h
 obtain ⟨a,b⟩:=hc
 obtain ⟨x,e,hx⟩:=zco_ (xs:=c) (k:=col-1) (by lia) (by lia)
 have:sg c col=x:=by
  rw [zfB_ (by lia)] at e
  unfold sg; rw [List.getD_eq_getElem?_getD,e]; rfl
 rw [this]
 exact ⟨e,h2 x hx⟩
theorem zlQ_ {x:Nat}(h:x∈SG):findS SG [x]=(rk1 x:Int):=by
 rw [zlv_]
 unfold rk1
 have:∃ i,SG.findIdx? (· == x)=some i∧i<37:=by
  cases e:SG.findIdx? (· == x) with
  | none =>
   rw [List.findIdx?_eq_none_iff] at e
   have:=e x h
   simp at this
  | some i =>
   refine ⟨i,rfl,?_⟩
   rw [List.findIdx?_eq_some_iff_getElem] at e
   obtain ⟨hi,_⟩:=e
   exact hi
 obtain ⟨i,e,hi⟩:=this
 rw [e]
 show (i:Int)=_
 rw [Option.getD_some,Nat.mod_eq_of_lt hi]
noncomputable def kv:List Int→Crd→Nat
 | [],_=>0
 | c::L,a=>rnk a c*37 ^ L.length+kv L a
theorem znP_ (L:List Int) (a:Crd):kv L a<37 ^ L.length:=by
 induction L with
 | nil=>exact Nat.zero_lt_one
 | cons c L ih =>
  unfold kv
  rw [List.length_cons,Nat.pow_succ]
  have h:=ziE_ (sg a c)
  have:(rnk a c+1)*37 ^ L.length≤37*37 ^ L.length:=Nat.mul_le_mul_right _ h
  rw [Nat.add_mul,Nat.one_mul] at this
  rw [Nat.mul_comm (37 ^ L.length)]
  lia
noncomputable def deal (d:List Crd) (c:Int):List Crd:=dealR (fun x=>rnk x c) 37 d
theorem zdK_ (L:List Int) (c:Int) (d:List Crd):deal (sK (kv L) d) c=sK (kv (c::L)) d:=by
 have:=zmg_ (k:=kv L) (r:=fun x=>rnk x c) (M:=37 ^ L.length) (n:=37) d (fun y _=>znP_ L y) (fun y _=>ziE_ _)
 exact this.symm
theorem zjB_:kv []=fun _=>0:=rfl
theorem zji_ (row L:List Int) (d:List Crd):row.foldl deal (sK (kv L) d)=sK (kv (row.reverse++L)) d:=by
 induction row generalizing L with
 | nil=>rfl
 | cons c row ih=>rw [List.foldl_cons,zdK_,ih,List.reverse_cons,List.append_assoc]; rfl
theorem zjn_ (row:List Int) (d:List Crd):row.foldl deal d=sK (kv row.reverse) d:=by
 have:=zji_ row [] d
 rw [zjB_,zgA_,List.append_nil] at this
 exact this
noncomputable def ahd:List Int→Crd→Crd→Bool
 | [],_,_=>false
 | c::L,a,b=>if rnk a c=rnk b c then ahd L a b else decide (rnk a c<rnk b c)
theorem zkj_ (L:List Int) (a b:Crd):ahd L a b=decide (kv L a<kv L b):=by
 induction L with
 | nil=>rfl
 | cons c L ih =>
  unfold ahd kv
  have h1:=znP_ L a
  have h2:=znP_ L b
  split
  ·rename_i e; rw [ih,e,decide_eq_decide]; lia
  ·rename_i e
   rw [decide_eq_decide]
   rcases Nat.lt_or_gt_of_ne e with h | h
   ·have:(rnk a c+1)*37 ^ L.length≤rnk b c*37 ^ L.length:=Nat.mul_le_mul_right _ h
    rw [Nat.add_mul,Nat.one_mul] at this
    lia
   ·have:(rnk b c+1)*37 ^ L.length≤rnk a c*37 ^ L.length:=Nat.mul_le_mul_right _ h
    rw [Nat.add_mul,Nat.one_mul] at this
    lia
noncomputable def onceL (L:List Int):List Int:=L.foldl (fun acc c=>if c∈acc then acc else acc++[c]) []
theorem zhM_ (L:List Int) (a b:Crd):ahd L a b=match L.find? (fun c=>decide (rnk a c≠rnk b c)) with | some c=>decide (rnk a c<rnk b c) | none=>false:=by
 induction L with
 | nil=>rfl
 | cons c L ih =>
  unfold ahd
  rw [List.find?_cons]
  by_cases e:rnk a c=rnk b c
  ·rw [if_pos e,ih]; simp [e]
  ·rw [if_neg e]; simp [e]
theorem zjP_ (p:Int→Bool) (L:List Int):(onceL L).find? p=L.find? p:=by
 have:∀ (L acc:List Int),(L.foldl (fun acc c=>if c∈acc then acc else acc++[c]) acc).find? p=(acc++L).find? p:=by
  intro L
  induction L with
  | nil=>intro acc; rw [List.append_nil]; rfl
  | cons c L ih =>
   intro acc
   rw [List.foldl_cons,ih]
   split
   ·rename_i hc
    rw [List.find?_append,List.find?_append,List.find?_cons]
    cases e:acc.find? p with
    | some z=>rfl
    | none =>
     have:p c=false:=by
      rw [List.find?_eq_none] at e
      simpa using e c hc
     rw [this]
   ·rw [List.append_assoc]; rfl
 have h:=this L []
 rw [List.nil_append] at h
 exact h
theorem zlM_ (L:List Int) (a b:Crd):ahd (onceL L) a b=ahd L a b:=by rw [zhM_,zhM_,zjP_]
noncomputable def insAt (p:Crd→Bool) (ys:List Crd):Nat→Nat
 | 0=>0
 | n+1=>match ys[n]? with | some y=>if p y then insAt p ys n else n+1 | none=>0
theorem ziq_ {p:Crd→Bool}{A B:List Crd}(hA:∀ y∈A,p y=false) (hB:∀ y∈B,p y=true):insAt p (A++B) (A++B).length=A.length:=by
 have key:∀ n,n≤B.length→insAt p (A++B) (A.length+n)=A.length:=by
  intro n
  induction n with
  | zero =>
   intro _
   rw [Nat.add_zero]
   cases hl:A.length with
   | zero=>rfl
   | succ m =>
    unfold insAt
    have hm:m<A.length:=by lia
    rw [List.getElem?_append_left hm,List.getElem?_eq_getElem hm]
    show (if p A[m] then _ else _)=_
    rw [hA _ (List.getElem_mem hm)]; rfl
  | succ n ih =>
   intro hn
   show insAt p (A++B) ((A.length+n)+1)=_
   unfold insAt
   have hm:n<B.length:=by lia
   rw [List.getElem?_append_right (by lia),show A.length+n-A.length=n by lia,List.getElem?_eq_getElem hm]
   show (if p B[n] then _ else _)=_
   rw [hB _ (List.getElem_mem hm),if_pos rfl]
   exact ih (by lia)
 rw [List.length_append]
 exact key B.length (Nat.le_refl _)
theorem znt_ {k:Crd→Nat}{ys:List Crd}(hs:Srt k ys) (x:Crd) (p:Crd→Bool) (hp:∀ y,p y=decide (k x<k y)):insL ys (insAt p ys ys.length:Nat) x=insK k x ys:=by
 have hsp:=zdL_ hs (k x)
 generalize hA:ys.filter (fun y=>decide (k y≤k x))=A at hsp
 generalize hB:ys.filter (fun y=>decide (k x<k y))=B at hsp
 have e:insAt p ys ys.length=A.length:=by
  rw [hsp]
  refine ziq_ (fun y hy=>?_) (fun y hy=>?_)
  ·rw [← hA] at hy; have:=(List.mem_filter.mp hy).2; rw [hp]; simp at this ⊢; lia
  ·rw [← hB] at hy; have:=(List.mem_filter.mp hy).2; rw [hp]; exact this
 unfold insL insK
 rw [e,Int.toNat_natCast,hA,hB,hsp,List.take_left',List.drop_left']
 ·rfl
 ·rfl
theorem zlP_ {n:Nat}(f:Nat→List Crd) (r:Nat) (x:Crd) (h:r<n):appN ((List.range n).map f) r x=(List.range n).map fun i=>if i=r then f i++[x] else f i:=by
 unfold appN
 rw [List.getElem?_map,List.getElem?_range h]
 simp only [Option.map_some]
 refine List.ext_getElem? fun i=>?_
 rw [List.getElem?_set,List.getElem?_map,List.length_map,List.length_range]
 by_cases hi:i<n
 ·rw [List.getElem?_map,List.getElem?_range hi]
  by_cases e:r=i
  ·subst e
   simp [h]
  ·rw [if_neg e]
   simp [show ¬ i=r from fun z=>e z.symm]
 ·rw [List.getElem?_map,List.getElem?_eq_none (by simpa using hi)]
  by_cases e:r=i
  ·lia
  ·rw [if_neg e]; rfl
noncomputable def pok (d:List Crd) (col:Int):List (List Crd):=(List.range 37).map fun r=>d.filter fun x=>decide (rnk x col=r)
theorem zlI_ (d:List Crd) (x:Crd) (col:Int):pok (d++[x]) col=appN (pok d col) (rnk x col) x:=by
 unfold pok
 rw [zlP_ _ (rnk x col) x (ziE_ _)]
 refine List.map_congr_left fun r _=>?_
 rw [List.filter_append]
 by_cases e:r=rnk x col
 ·rw [if_pos e,List.filter_cons_of_pos (by simpa using e.symm)]; rfl
 ·rw [if_neg e,List.filter_cons_of_neg (by simpa using fun z=>e (Eq.symm z))]; simp
theorem zmM_ (d:List Crd) (col:Int):(pok d col).length=37:=by unfold pok; rw [List.length_map,List.length_range]
theorem zm2_ (col:Int):([]:List (List Crd))++(SG.map fun c=>[c]).map (fun _=>([]:List Crd))=pok [] col:=by
 unfold pok; rw [List.nil_append,List.map_map]; rfl
theorem zh3_ (d:List Crd) (col:Int):(pok d col).flatten=deal d col:=by
 unfold pok deal dealR
 rw [List.flatMap_def]
theorem zlY_ (d:List Crd) (col:Int):(deal d col).length=d.length:=by
 have:=zdK_ [] col d
 rw [zjB_,zgA_] at this
 rw [this,ziu_]
end L2
namespace L2
open PySem PySem.Spec PyProof.Rows
end L2
namespace L2
open PySem PySem.Spec PyProof.Rows
open PySem.SeqAt
open PySem.AutoSeq1 (wpAny_loadPart')
open PySem.MeetsSeq PySem.MeetsSeq2 PySem.MeetsSeq3
theorem ziA_:entryFor table "list.__eq__.loop" = some Builtin.«list.__eq__.loop»:=by kernel_rfl!
theorem zft_ (A:Around) (args:PySem.Args):A.under (Code.builtin "list.__eq__.loop" args)=A.in1:=by rfl
theorem zfU_ (args:PySem.Args):(Code.builtin "list.__eq__.loop" args).quiet=true:=by first | kernel_rfl! | simp [Code.quiet] | (unfold Code.quiet; decide +kernel)
theorem zeg_:∀ {vs:List Value}{ns:List Int},IntsAre vs ns→∀ i:Nat,(vs[i]?=none∧ns[i]?=none)∨∃ a t,vs[i]?=some (.int a t)∧ns[i]?=some a
 | _,_,.nil,i=>.inl ⟨rfl,rfl⟩
 | _,_,.cons a t h,0=>.inr ⟨a,t,rfl,rfl⟩
 | _,_,.cons a t h,i+1=>by simpa using zeg_ h i
theorem zdq_ {α:Type}{xs:List α}{i:Nat}{a:α}(h:xs[i]?=some a):xs.drop i=a::xs.drop (i+1):=by
 obtain ⟨hi,e⟩:=List.getElem?_eq_some_iff.mp h
 rw [← e]; exact List.drop_eq_getElem_cons hi
theorem ze5_ {α:Type}{xs:List α}{i:Nat}(h:xs[i]?=none):xs.drop i=[]:=List.drop_eq_nil_of_le (List.getElem?_eq_none_iff.mp h)
theorem zgm_ (l b:Addr) (items items2:Array Value) (n n2:Nat) (dd dd2:Option Addr) (sl sl2:Array (Option Value)) (ns ms:List Int) (hi:IntsAre items.toList ns) (hj:IntsAre items2.toList ms):∀ (k i:Nat),items.size-i=k→i≤items.size→i≤items2.size →
  Meets (Builtin.«list.__eq__.loop» ⟨[.ref l,.ref b,rawInt (i:Nat),rawInt 0],[]⟩)
   (fun _ R s=>s.heap.get? l=some { cls:=.type "list",dict:=dd,data:=.seq items n,slots:=sl }∧s.heap.get? b=some { cls:=.type "list",dict:=dd2,data:=.seq items2 n2,slots:=sl2 } ∧
    R (.ok (.ret (.bool (HT.lexLt (ns.drop i) (ms.drop i))))) s):=by
 intro k
 induction k with
 | zero =>
  intro i hk b1 b2 prog w A R s h
  obtain ⟨hl,hb,h⟩:=h
  wp_walk using wpAny_listItems hl rfl,wpAny_listItems hb rfl
  have e1:items[i]?=none:=Array.getElem?_eq_none (by lia)
  have e1':ns[i]?=none:=by
   rcases zeg_ hi i with ⟨_,z⟩ | ⟨a,t,z,_⟩
   ·exact z
   ·rw [Array.getElem?_toList,e1] at z; cases z
  rw [Int.toNat_natCast,e1]
  rw [ze5_ e1'] at h
  rcases zeg_ hj i with ⟨z1,z2⟩ | ⟨c,u,z1,z2⟩
  ·rw [Array.getElem?_toList] at z1
   rw [z1]
   rw [ze5_ z2] at h
   wp_walk using wpAny_listItems hl rfl,wpAny_listItems hb rfl
   show R (.ok (.ret (.bool (decide (items.size<items2.size))))) s
   have z1:=Array.getElem?_eq_none_iff.mp z1
   rw [decide_eq_false (by lia)]; exact h
  ·rw [Array.getElem?_toList] at z1
   rw [z1]
   rw [zdq_ z2] at h
   wp_walk using wpAny_listItems hl rfl,wpAny_listItems hb rfl
   show R (.ok (.ret (.bool (decide (items.size<items2.size))))) s
   have z3:=(Array.getElem?_eq_some_iff.mp z1).1
   rw [decide_eq_true (by lia)]; exact h
 | succ k ih =>
  intro i hk b1 b2 prog w A R s h
  obtain ⟨hl,hb,h⟩:=h
  wp_walk using wpAny_listItems hl rfl,wpAny_listItems hb rfl
  rw [Int.toNat_natCast]
  rcases zeg_ hi i with ⟨z1,z2⟩ | ⟨a,t,z1,z2⟩
  ·rw [Array.getElem?_toList] at z1
   rw [Array.getElem?_eq_none_iff] at z1; lia
  rw [Array.getElem?_toList] at z1
  rw [z1]
  rw [zdq_ z2] at h
  rcases zeg_ hj i with ⟨y1,y2⟩ | ⟨c,u,y1,y2⟩
  ·rw [Array.getElem?_toList] at y1
   rw [y1]
   rw [ze5_ y2] at h
   wp_walk using wpAny_listItems hl rfl,wpAny_listItems hb rfl
   show R (.ok (.ret (.bool (decide (items.size<items2.size))))) s
   have z3:=(Array.getElem?_eq_some_iff.mp z1).1
   have y3:=Array.getElem?_eq_none_iff.mp y1
   rw [decide_eq_false (by lia)]; exact h
  rw [Array.getElem?_toList] at y1
  rw [y1]
  rw [zdq_ y2,HT.lexLt_cons] at h
  obtain ⟨e,he,hiff⟩:=HT.eqAt_int A.in1 s a t c u
  refine wpAny_bind (he prog w _ _ ?_)
  cases e with
  | true =>
   rw [if_pos (hiff.mp rfl)] at h
   wp_walk
   refine ⟨zfU_ _,codeAny_builtin ziA_ ?_⟩
   rw [zft_]
   have q1:=(Array.getElem?_eq_some_iff.mp z1).1
   have q2:=(Array.getElem?_eq_some_iff.mp y1).1
   exact ih (i+1) (by lia) (by lia) (by lia) prog w A R s ⟨hl,hb,h⟩
  | false =>
   rw [if_neg (fun q=>absurd (hiff.mpr q) Bool.false_ne_true)] at h
   have hri:=HT.rcLt_int A.in1 s a t c u prog w
   wp_walk using wpAny_listItems hl rfl,wpAny_listItems hb rfl
   rw [z1,y1]
   wp_walk using hri
   exact h
theorem zgj_ (l b:Addr) (items items2:Array Value) (n n2:Nat) (dd dd2:Option Addr) (sl sl2:Array (Option Value)) (ns ms:List Int) (hi:IntsAre items.toList ns) (hj:IntsAre items2.toList ms) :
  Meets (Builtin.«list.__lt__» ⟨[.ref l,.ref b],[]⟩)
   (fun _ R s=>s.heap.get? l=some { cls:=.type "list",dict:=dd,data:=.seq items n,slots:=sl }∧s.heap.get? b=some { cls:=.type "list",dict:=dd2,data:=.seq items2 n2,slots:=sl2 } ∧
    R (.ok (.ret (.bool (HT.lexLt ns ms)))) s):=by
 intro prog w A R s h
 obtain ⟨hl,hb,h⟩:=h
 have f2:=AutoSeq1.sub_list_list
 wp_walk using wpAny_loadPart' hl,wpAny_loadPart' hb
 refine ⟨zfU_ _,codeAny_builtin ziA_ ?_⟩
 rw [zft_]
 exact zgm_ l b items items2 n n2 dd dd2 sl sl2 ns ms hi hj _ 0 rfl (Nat.zero_le _) (Nat.zero_le _) prog w A R s ⟨hl,hb,h⟩
theorem zhC_ {prog:Program}{w:World}{A:Around}{E:Value→Shared→Prop}{s:Shared}{l b:Addr}{items items2:Array Value}{ns ms:List Int}{Q:Value→Shared→Prop}(hl:s.heap.IsList l items) (hb:s.heap.IsList b items2) (hi:IntsAre items.toList ns) (hj:IntsAre items2.toList ms)
  (hu:A.units<cLine) (h:Q (.bool (HT.lexLt ns ms)) s):wpAny (model prog w) A (compareOp .Lt (.ref l) (.ref b)) Q E s:=by
 obtain ⟨⟨cls,dd,data,sl⟩,ho,hc,n,hd⟩:=id hl
 obtain ⟨⟨cls2,dd2,data2,sl2⟩,ho2,hc2,n2,hd2⟩:=id hb
 simp only at hc hd hc2 hd2
 subst hc hd hc2 hd2
 exact richCompare_meets_room (op:=.Lt) ⟨_,ho,rfl⟩ ⟨_,ho2,rfl⟩ PySem.F.slot_list_lt PySem.F.entry_list_lt (PySem.F.args_list_lt_2 _ _) (zgj_ l b items items2 n n2 dd dd2 sl sl2 ns ms hi hj)
  ⟨ho,ho2,show Value.bool (HT.lexLt ns ms)≠Value.notImplemented∧Q (.bool (HT.lexLt ns ms)) s from ⟨(fun x=>nomatch x),h⟩⟩ hu
end L2
namespace L2
open PySem PySem.Spec PyProof.Rows
noncomputable def mLtK (K:Fgg):R2:=fun x y H Q=>match x,y with
 | .ref a,.ref b=>∃ ns ms,SqL K H a (ns.map V.int)∧SqL K H b (ms.map V.int)∧Q (.bl (HT.lexLt ns ms)) H
 | _,_=>mLtS x y H Q
theorem zg7_ {X:Cx}(hu:X.A.units+60<cLine):OpR X (compareOp .Lt) (mLtK X.K):=by
 intro pins s σ H x y v u Q I rx ry h
 cases x<;>cases y<;>first
  | exact zmN_ pins s σ H _ _ v u Q I rx ry h
  | (obtain ⟨ns,ms,ha,hb,q⟩:=h
     cases rx
     cases ry
     obtain ⟨its,r1,p1,_⟩:=I.list ha
     obtain ⟨its2,r2,p2,_⟩:=I.list hb
     have i1:IntsAre its.toArray.toList ns:=zfq_ r1
     have i2:IntsAre its2.toArray.toList ms:=zfq_ r2
     exact zhC_ p1.isList p2.isList i1 i2 (by lia) ⟨.bl (HT.lexLt ns ms),H,I,rfl,q⟩)
section
variable {K:Fgg}{E:XK}{H:Hp}
theorem zfo_:Op2 K (mLtK K) E tyInt tyInt (fun i j=>.ok (decide (i<j))) tyBl:=by
 rintro a b x y F H Q hs rfl rfl k
 exact k.ok hs _ rfl
theorem znb_:Op2 K (mLtK K) E tyStr tyStr (fun i j=>.ok (decide (i<j))) tyBl:=by
 rintro a b x y F H Q hs rfl rfl k
 exact k.ok hs _ rfl
end
end L2
namespace L2
open PySem PySem.Spec PyProof.Rows
section
variable {α:Type}
theorem zmk_ {n d:Nat}{i:Int}(h:0≤i):HT.sIx n d (some i)=min i.toNat n:=by
 unfold HT.sIx
 simp only
 split<;>lia
theorem ziZ_ {xs:List α}{i:Int}(h:0≤i):cutG xs none (some i)=xs.take i.toNat:=by
 unfold cutG
 rw [zmk_ h,show HT.sIx xs.length 0 none=0 from rfl,List.drop_zero,Nat.sub_zero,← List.take_take,List.take_length]
theorem zeO_ {xs:List α}{i:Int}(h:0≤i):cutG xs (some i) none=xs.drop i.toNat:=by
 unfold cutG
 rw [zmk_ h,show HT.sIx xs.length xs.length none=xs.length from rfl]
 by_cases hl:i.toNat≤xs.length
 ·rw [Nat.min_eq_left hl,List.take_of_length_le (by rw [List.length_drop]; exact Nat.le_refl _)]
 ·rw [Nat.min_eq_right (by lia),List.drop_length,List.drop_eq_nil_of_le (by lia),List.take_nil]
end
end L2
namespace L2
open PySem PySem.Spec PyProof.Rows
section
variable {K:Fgg}{E:XK}{α β γ ρ S S' B B':Type}{F0 H0 F h H:Hp}{L L':List Sl}{e e1 e2:TE}{T:Ty α}{r:Mo α}{O:Own ρ}{t u:TS}{LS:S→List Sl}{LS':S'→List Sl}{LB:B→List Sl}
theorem zlg_ {C:Cs γ}{f:γ→Mo α}{ta:TA}{r:Mo γ}(h:EvA K ta E L r C):EvF K (tCall (Ct K C f (owF T)) [] E ta) E L (r.bind f) T:=(ziX_ h).fr
theorem zp_ {C:Cs γ}{f:γ→Mo α}{ta:TA}{r:Mo γ}(h:EvA K ta E L r C):EvF K (tCall (Ct K C f (owF T)) [] E0 ta) E L (r.bind fun c=>(f c).noex) T:=(zbd_ h).fr
end
end L2
namespace L2
open PySem PySem.Spec PyProof.Rows
noncomputable def repL {α:Type}(xs:List α) (n:Int):List α:=(List.replicate n.toNat xs).flatten
noncomputable def CRep (m:Nat) (n:Int):Prop:=0≤n∧n≤100000∧m≤100000∧m*n.toNat≤100000
instance (m:Nat) (n:Int):Decidable (CRep m n):=inferInstanceAs (Decidable (_∧_))
noncomputable def mMulX:R2:=fun x y H Q=>match x,y with
 | .int i,.int j=>IntMulOk i j∧Q (.int (i*j)) H
 | .str z,.int n=>CRep z.cps.toList.length n∧Q (tx (repL z.cps.toList n)) H
 | .ref l,.int k=>∃ xs,H l=some (.lst xs)∧CRep xs.length k∧∀ p,H p=none→Q (.ref p) (upd H p (.lst (repL xs k)))
 | _,_=>False
theorem zkI_ (z:Array Nat) (n:Nat):(List.foldl (fun x1 x2=>x1++x2) #[] (List.replicate n z)).toList=(List.replicate n z.toList).flatten:=by
 have:∀ (l:List (Array Nat)) (acc:Array Nat),(l.foldl (fun x1 x2=>x1++x2) acc).toList=acc.toList++(l.map Array.toList).flatten:=by
  intro l
  induction l with
  | nil=>intro acc; simp
  | cons a l ih=>intro acc; rw [List.foldl_cons,ih]; simp
 rw [this]
 simp
theorem zdY_ {X:Cx}:OpR X (binaryOp .Mult) mMulX:=by
 intro pins s σ H x y v u Q I rx ry h
 cases x<;>cases y<;>first
  | exact h.elim
  | exact zmy_ pins s σ H _ _ v u Q I rx ry h
  | (obtain ⟨xs,hl,⟨c1,c2,c3,c4⟩,q⟩:=h
     exact zoJ_ pins s σ H _ _ v u Q I rx ry ⟨_,_,xs,rfl,rfl,hl,by lia,by lia,zcz_ c4,q⟩)
  | (rename_i z n
     obtain ⟨⟨c1,c2,c3,c4⟩,q⟩:=h
     obtain ⟨t,rfl⟩:=rx
     obtain ⟨t',rfl⟩:=ry
     have hz:z.length=z.cps.toList.length:=by simp [Str.length]
     refine PySem.P.mul_str (by simp; lia) (fun h1 h2=>?_) (fun h1 h2=>?_) ?_
     ·rw [hz]
      have hn:0<n:=by lia
      have:(z.cps.toList.length:Int)*n≤2 ^ 63-1:=by
       have e:n=(n.toNat:Int):=by lia
       rw [e,← Int.natCast_mul]; lia
      have:=Int.le_ediv_of_mul_le hn this
      lia
     ·unfold Builtin.Str.tooLong
      rw [hz]
      have:=zcz_ c4
      exact decide_eq_false (by lia)
     ·by_cases h1:n<1
      ·rw [if_pos h1]
       have:n=0:=by lia
       subst this
       exact ⟨Nat.zero_le _,tx [],H,I.tok _,⟨_,rfl⟩,q⟩
      ·rw [if_neg h1]
       by_cases h2:(n == 1 || z.length == 0)=true
       ·rw [if_pos h2]
        have e:repL z.cps.toList n=z.cps.toList:=by
         unfold repL
         rw [Bool.or_eq_true] at h2
         rcases h2 with h2 | h2
         ·have:n=1:=by simpa using h2
          subst this; simp
         ·have:z.cps.toList=[]:=List.length_eq_zero_iff.mp (by rw [← hz]; simpa using h2)
          rw [this]; simp
        rw [e] at q
        refine ⟨tx z.cps.toList,H,I,⟨t,?_⟩,q⟩
        show Value.str z t=Value.str ⟨z.cps.toList.toArray⟩ t
        rw [← zch_]
       ·rw [if_neg h2]
        refine ⟨?_,tx (repL z.cps.toList n),H,I.tok _,⟨s.toks,?_⟩,q⟩
        ·have e:(⟨List.foldl (fun x1 x2=>x1++x2) #[] (List.replicate n.toNat z.cps)⟩:Str).length=(List.replicate n.toNat z.cps.toList).flatten.length:=by
          rw [← zkI_]; simp [Str.length]
         rw [e,zku_]
         exact zcz_ (by rw [Nat.mul_comm]; exact c4)
        show Value.str _ _=Value.str _ _
        congr 1
        unfold repL
        rw [← zkI_])
section
variable {K:Fgg}{E:XK}{α β γ ρ S S' B B':Type}{F0 H0 F h H:Hp}{L L':List Sl}{e e1 e2:TE}{T:Ty α}{r:Mo α}{O:Own ρ}{t u:TS}{LS:S→List Sl}{LB:B→List Sl}
theorem zei_:Op2 K mMulX E tyInt tyInt (fun i j=>.grd (IntMulOk i j) (.ok (i*j))) tyInt:=by
 rintro a b x y F H Q hs rfl rfl k
 obtain ⟨c,k⟩:=k.grd
 exact ⟨c,k.ok hs _ rfl⟩
theorem zk8_:Op2 K mMulX E tyStr tyInt (fun l n=>.grd (CRep l.length n) (.ok (repL l n))) tyStr:=by
 rintro a b x y F H Q hs rfl rfl k
 obtain ⟨c,k⟩:=k.grd
 exact ⟨c,k.ok hs _ rfl⟩
theorem zmr_ {xs:List α}{vs:List V}(hr:Prs T H xs vs) (n:Int):Prs T H (repL xs n) (repL vs n):=by
 unfold repL
 induction n.toNat with
 | zero=>exact .nil
 | succ m ih=>rw [List.replicate_succ,List.replicate_succ,List.flatten_cons,List.flatten_cons]; exact hr.append ih
theorem zlV_:Op2O K mMulX E (tyL T) tyInt (fun l n=>.grd (CRep l.length n) (.ok (repL l n))) (owL T):=by
 rintro a b x y F H Q hs ⟨p,vs,rfl,hp,hr⟩ rfl k
 obtain ⟨c,k⟩:=k.grd
 exact ⟨vs,hs _ _ hp,by rw [← hr.len]; exact c,fun q hq=>zdb_ hs hq (zmr_ hr b) k⟩
noncomputable def strsL (l:List (List Nat)):List Str:=l.map fun z=>⟨z.toArray⟩
theorem zlD_ {l:List (List Nat)}{vs:List V}(h:Prs tyStr H l vs):strsOf vs=some (strsL l):=by
 induction h with
 | nil=>rfl
 | cons r t ih=>cases r; show (strsOf _).map _=_; rw [ih]; rfl
theorem zkU_:Me K (mJoin K) E (csLast (tyL tyStr)) (fun l c=>.grd (JoinOk ⟨l.toArray⟩ (strsL c)=true) (.ok (joinS l (strsL c)))) tyStr:=by
 rintro l c vs F H Q hs ⟨v,rfl,p,us,rfl,hp,hr⟩ k
 obtain ⟨z,k⟩:=k.grd
 refine ⟨us,.of (hs _ _ hp),?_⟩
 rw [zlD_ hr]
 exact ⟨z,k.ok hs _ rfl⟩
noncomputable abbrev Pas:=Int×Option (List Nat)
noncomputable def passR (c:Pas) (v:V) (H:Hp):Prop:=∃ p,v=.ref p∧H p=some (.tup (match c.2 with | none=>[tx [100,101,97,108],.int c.1] | some s=>[tx [112,105,99,107],.int c.1,tx s]))
noncomputable abbrev tyPass:Ty Pas:=⟨passR,fun g ⟨p,e,h⟩=>⟨p,e,g _ _ h⟩⟩
theorem zaD_:Imm tyPass:=fun g ⟨p,e,h⟩=>⟨p,e,g _ _ h⟩
theorem zkv_ {r:Mo Int}(h:EvF K e E L r tyInt):EvF K (tTup (tCons (tC (tx [100,101,97,108])) (tCons e tNil))) E L (r.bind fun c=>.ok (c,none)) tyPass:=by
 intro σ F H Q hL hs q
 refine h σ F H _ hL hs (q.bind.imp fun c F1 H1 x1 k1 v hv=>⟨zcz_ (by show 2≤100000; decide),fun p hp=>?_⟩)
 cases hv
 exact k1 _ _ (Ext.new x1.2.1 hp) _ ⟨p,rfl,zaR_⟩
theorem zkT_ {r:Mo Int}{r2:Mo (List Nat)}(h:EvF K e E L r tyInt) (h2:EvF K e2 E L r2 tyStr):EvF K (tTup (tCons (tC (tx [112,105,99,107])) (tCons e (tCons e2 tNil)))) E L (r.bind fun c=>r2.bind fun s=>.ok (c,some s)) tyPass:=by
 intro σ F H Q hL hs q
 refine h σ F H _ hL hs (q.bind.imp fun c F1 H1 x1 k1 v hv=>?_)
 refine h2 σ F1 H1 _ (hL.mono x1.1) x1.2.1 (k1.bind.imp fun s F2 H2 x2 k2 v2 hv2=>⟨zcz_ (by show 3≤100000; decide),fun p hp=>?_⟩)
 cases hv; cases hv2
 exact k2 _ _ (Ext.new x2.2.1 hp) _ ⟨p,rfl,zaR_⟩
noncomputable def pTag (c:Pas):List Nat:=match c.2 with | none=>[100,101,97,108] | some _=>[112,105,99,107]
theorem zb9_ {r:Mo Pas}(h:EvF K e E L r tyPass):EvF K (tOp (mIx K) e (tC (.int 0))) E L (r.bind fun c=>.ok (pTag c)) tyStr:=by
 intro σ F H Q hL hs q
 refine h σ F H _ hL hs (q.bind.imp fun c F1 H1 x1 k1 v ⟨p,ev,hp⟩=>?_)
 subst ev
 refine ⟨_,.inr (.of (x1.2.1 _ _ hp)),?_⟩
 obtain ⟨c1,c2⟩:=c
 cases c2 with
 | none=>exact k1.ok x1.2.1 _ rfl
 | some s=>exact k1.ok x1.2.1 _ rfl
theorem zcf_ {r:Mo Pas}(h:EvF K e E L r tyPass):EvF K (tOp (mIx K) e (tC (.int 1))) E L (r.bind fun c=>.ok c.1) tyInt:=by
 intro σ F H Q hL hs q
 refine h σ F H _ hL hs (q.bind.imp fun c F1 H1 x1 k1 v ⟨p,ev,hp⟩=>?_)
 subst ev
 refine ⟨_,.inr (.of (x1.2.1 _ _ hp)),?_⟩
 obtain ⟨c1,c2⟩:=c
 cases c2 with
 | none=>exact k1.ok x1.2.1 _ rfl
 | some s=>exact k1.ok x1.2.1 _ rfl
theorem zeW_ {r:Mo Pas}(h:EvF K e E L r tyPass):EvF K (tOp (mIx K) e (tC (.int 2))) E L (r.bind fun c=>.opt c.2) tyStr:=by
 intro σ F H Q hL hs q
 refine h σ F H _ hL hs (q.bind.imp fun c F1 H1 x1 k1 v ⟨p,ev,hp⟩=>?_)
 subst ev
 obtain ⟨s,es,k1⟩:=k1.opt
 refine ⟨_,.inr (.of (x1.2.1 _ _ hp)),?_⟩
 obtain ⟨c1,c2⟩:=c
 cases (show c2=some s from es)
 exact k1.ok x1.2.1 _ rfl
theorem ziY_:EqT K tyPass 1 (fun a b=>decide (a=b)):=⟨by
 rintro ⟨a1,a2⟩ ⟨b1,b2⟩ x y H ⟨p,rfl,hp⟩ ⟨q,rfl,hq⟩
 have fl:∀ {x y:V},flatV x=true→flatV y=true→EqD K H 0 x y (eqV x y):=fun h1 h2=>.flat h1 h2
 have ei:eqV (.int a1) (.int b1)=decide (a1=b1):=rfl
 have es:∀ s t:List Nat,eqV (tx s) (tx t)=decide (s=t):=fun s t=>by
  have:=(zgB_ (K:=K)).eq (H:=H) (a:=s) (b:=t) rfl rfl
  exact znx_.eq (H:=H) (a:=s) (b:=t) rfl rfl
 have key:∀ (xs ys:List V),H p=some (.tup xs)→H q=some (.tup ys)→(∀ (i:Nat) v,xs[i]?=some v→flatV v=true)→(∀ (i:Nat) v,ys[i]?=some v→flatV v=true) →
   EqD K H 1 (.ref p) (.ref q) ((List.range (min xs.length ys.length)).all (fun i=>match xs[i]?,ys[i]? with | some v,some w=>eqV v w | _,_=>true) && xs.length == ys.length):=by
  intro xs ys h1 h2 h3 h4
  refine .tup _ (.of h1) (.of h2) fun i x y hx hy=>?_
  simp only [hx,hy]
  exact fl (h3 i x hx) (h4 i y hy)
 have f2:∀ (t:List Nat) (c:Int),∀ (i:Nat) v,([tx t,.int c]:List V)[i]?=some v→flatV v=true:=by
  intro t c i v h
  match i with
  | 0=>cases h; rfl
  | 1=>cases h; rfl
  | n+2=>cases h
 have f3:∀ (t:List Nat) (c:Int) (s:List Nat),∀ (i:Nat) v,([tx t,.int c,tx s]:List V)[i]?=some v→flatV v=true:=by
  intro t c s i v h
  match i with
  | 0=>cases h; rfl
  | 1=>cases h; rfl
  | 2=>cases h; rfl
  | n+3=>cases h
 cases a2 with
 | none =>
  cases b2 with
  | none =>
   have:=key _ _ hp hq (f2 _ _) (f2 _ _)
   have e:decide (((a1,none):Pas)=(b1,none))=decide (a1=b1):=by rw [decide_eq_decide]; simp
   rw [e]
   simpa [List.range_succ,es,ei] using this
  | some t =>
   have:=key _ _ hp hq (f2 _ _) (f3 _ _ _)
   simpa [List.range_succ,es,ei] using this
 | some s =>
  cases b2 with
  | none =>
   have:=key _ _ hp hq (f3 _ _ _) (f2 _ _)
   simpa [List.range_succ,es,ei] using this
  | some t =>
   have:=key _ _ hp hq (f3 _ _ _) (f3 _ _ _)
   have e:decide (((a1,some s):Pas)=(b1,some t))=(decide (a1=b1) && decide (s=t)):=by rw [Bool.eq_iff_iff]; simp
   rw [e]
   simpa [List.range_succ,es,ei] using this⟩
end
end L2
namespace L2
open PySem PySem.Spec PyProof.Rows
structure KyT (κ:Type) where
 T:Ty κ
 key:κ→Key
 inj:∀ {a b},key a=key b→a=b
 of:∀ {a v H},T.R a v H→keyV v=some (key a)
noncomputable abbrev kInt:KyT Int:=⟨tyInt,Sum.inl,fun h=>by injection h,fun h=>by cases h; rfl⟩
section
variable {K:Fgg}{E:XK}{α β γ ρ κ S S' B B':Type}{F0 H0 F h H:Hp}{L L':List Sl}{e e1 e2:TE}{T:Ty α}{r:Mo α}{O:Own ρ}{t u:TS}{LS:S→List Sl}{LB:B→List Sl}{KY:KyT κ}
noncomputable abbrev DPr (KY:KyT κ) (T:Ty α) (H:Hp) (m:List (κ×α)) (kvs:List (Key×V)):Prop:=Paired (fun (q:κ×α) (w:Key×V)=>w.1=KY.key q.1∧T.R q.2 w.2 H) m kvs
theorem DPr.mono {m:List (κ×α)}{kvs:List (Key×V)}{H H':Hp}(g:Same H H') (h:DPr KY T H m kvs):DPr KY T H' m kvs:=zb8_ (fun _ _ r=>⟨r.1,T.mono g r.2⟩) h
theorem DPr.imm (i:Imm T) {m:List (κ×α)}{kvs:List (Key×V)}{H H':Hp}(g:Tups H H') (h:DPr KY T H m kvs):DPr KY T H' m kvs:=zb8_ (fun _ _ r=>⟨r.1,i g r.2⟩) h
noncomputable abbrev tyD (KY:KyT κ) (T:Ty α):Ty (List (κ×α)):=⟨fun m v H=>∃ p kvs,v=.ref p∧H p=some (.dK kvs)∧DPr KY T H m kvs,fun g ⟨p,kvs,e,h,q⟩=>⟨p,kvs,e,g _ _ h,q.mono g⟩⟩
noncomputable abbrev owD (KY:KyT κ) (T:Ty α):Own (List (κ×α)):=⟨fun m v F h=>∃ p kvs,v=.ref p∧h=one p (.dK kvs)∧DPr KY T F m kvs,tyD KY T,fun g ⟨p,vs,e,z,q⟩=>⟨p,vs,e,z,q.mono g⟩,
 fun d ⟨p,vs,e,z,q⟩=>⟨p,vs,e,zhd_ d _ _ (by rw [z]; exact zaQ_),q.mono zc3_⟩,
 fun ⟨p,vs,e,z,q⟩ b xs y=>by rw [z] at y; unfold one at y; split at y<;>cases y⟩
theorem zjv_ (i:Imm T):ImmO (owD KY T):=fun g ⟨p,vs,e,z,q⟩=>⟨p,vs,e,z,q.imm i g⟩
variable [DecidableEq κ]
noncomputable def getA (m:List (κ×α)) (k:κ):Option α:=(m.find? fun q=>decide (q.1=k)).map (·.2)
noncomputable def putA (m:List (κ×α)) (k:κ) (v:α):List (κ×α):=if (m.any fun q=>decide (q.1=k))=true then m.map (fun q=>if q.1=k then (q.1,v) else q) else m++[(k,v)]
theorem zkA_ (a b:κ):decide (KY.key a=KY.key b)=decide (a=b):=by rw [decide_eq_decide]; exact ⟨KY.inj,fun h=>by rw [h]⟩
theorem zed_ {m:List (κ×α)}{kvs:List (Key×V)}(h:DPr KY T H m kvs) (k:κ):(getA m k=none∧valV kvs (KY.key k)=none)∨∃ a v,getA m k=some a∧valV kvs (KY.key k)=some v∧T.R a v H:=by
 induction h with
 | nil=>exact .inl ⟨rfl,rfl⟩
 | cons r t ih =>
  rename_i q w m kvs
  unfold getA valV at ih ⊢
  rw [List.find?_cons,List.find?_cons,r.1,zkA_]
  by_cases e:q.1=k
  ·rw [decide_eq_true e]; exact .inr ⟨_,_,rfl,rfl,r.2⟩
  ·rw [decide_eq_false e]; exact ih
theorem zmh_ {m:List (κ×α)}{kvs:List (Key×V)}(h:DPr KY T H m kvs) (k:κ):(kvs.any fun w=>decide (w.1=KY.key k))=m.any fun q=>decide (q.1=k):=by
 induction h with
 | nil=>rfl
 | cons r t ih=>rw [List.any_cons,List.any_cons,ih,r.1,zkA_]
theorem znf_ {m m':List (κ×α)}{kvs kvs':List (Key×V)}(h:DPr KY T H m kvs) (h':DPr KY T H m' kvs'):DPr KY T H (m++m') (kvs++kvs'):=by
 induction h with
 | nil=>exact h'
 | cons r t ih=>exact .cons r ih
theorem zmE_ {m:List (κ×α)}{kvs:List (Key×V)}(h:DPr KY T H m kvs) (k:κ) {a:α}{v:V}(hv:T.R a v H):DPr KY T H (m.map fun q=>if q.1=k then (q.1,a) else q) (kvs.map fun w=>if w.1=KY.key k then (w.1,v) else w):=by
 induction h with
 | nil=>exact .nil
 | cons r t ih =>
  rename_i q w m kvs
  rw [List.map_cons,List.map_cons]
  refine .cons ?_ ih
  by_cases e:q.1=k
  ·rw [if_pos e,if_pos (by rw [r.1,e])]; exact ⟨r.1,hv⟩
  ·rw [if_neg e,if_neg (fun z=>e (KY.inj (by rw [← r.1,z])))]; exact r
theorem zhZ_ {m:List (κ×α)}{kvs:List (Key×V)}(h:DPr KY T H m kvs) (k:κ) {a:α}{v:V}(hv:T.R a v H):DPr KY T H (putA m k a) (putK kvs (KY.key k) v):=by
 unfold putA putK
 rw [zmh_ h]
 split
 ·exact zmE_ h k hv
 ·exact znf_ h (.cons ⟨rfl,hv⟩ .nil)
theorem zmo_ (KY:KyT κ) (T:Ty α):EvO K tDNewK E L (.ok []) (owD KY T):=by
 intro σ F H Q hL hs q p hp
 have q':OwnK (owD KY T) H Q [] F (upd H p (.dK [])):=q F _ (.heap hs (zcc_ hp _))
 refine q' (.ref p) (one p (.dK [])) (fun b z=>?_) (fun b=>?_) (fun b o z=>?_) ⟨p,[],rfl,rfl,.nil⟩
 ·unfold one at z; split at z
  ·rename_i e; rw [e]; exact hp
  ·exact absurd rfl z
 ·unfold one; split
  ·rename_i e; rw [e]; exact .inl (hs.free hp)
  ·exact .inr rfl
 ·unfold one at z; split at z
  ·rename_i e; rw [e]; cases z; exact zaR_
  ·cases z
theorem ziW_ (i:Nat) {m:List (κ×α)}(h:L[i]?=some (.ow (owD KY T) m)):EvF K (mVar i) E L (.ok m) (tyD KY T):=zkK_ i h
theorem at_d {x y:V}{R:Addr→List (Key×V)→Key→Prop}{m:List (κ×α)}{k:κ}(hx:(tyD KY T).R m x F) (hy:KY.T.R k y F) (hs:Same F H) (hr:∀ p kvs,H p=some (.dK kvs)→DPr KY T F m kvs→R p kvs (KY.key k)):atD x y H R:=by
 obtain ⟨p,kvs,rfl,hp,hd⟩:=hx
 unfold atD
 simp only
 rw [KY.of hy]
 exact ⟨kvs,hs _ _ hp,hr p kvs (hs _ _ hp) hd⟩
theorem zkV_ {r1:Mo (List (κ×α))}{r2:Mo κ}(h1:EvF K e1 E L r1 (tyD KY T)) (h2:EvF K e2 E L r2 KY.T):EvF K (mDGet e1 e2) E L (r1.bind fun m=>r2.bind fun k=>.opt (getA m k)) T:=by
 intro σ F H Q hL hs q
 refine h1 σ F H _ hL hs (q.bind.imp fun m F1 H1 x1 k1 v1 hv1=>?_)
 refine h2 σ F1 H1 _ (hL.mono x1.1) x1.2.1 (k1.bind.imp fun k F2 H2 x2 k2 v2 hv2=>?_)
 refine at_d ((tyD KY T).mono x2.1 hv1) hv2 x2.2.1 fun p kvs hp hd=>?_
 obtain ⟨a,ea,k3⟩:=k2.opt
 rcases zed_ hd k with ⟨z,_⟩ | ⟨a',v,z1,z2,z3⟩
 ·rw [z] at ea; cases ea
 ·rw [z1] at ea; cases ea
  exact ⟨v,z2,k3.ok x2.2.1 v z3⟩
theorem zmz_ (neg:Bool) {r1:Mo (List (κ×α))}{r2:Mo κ}(h2:EvF K e2 E L r2 KY.T) (h1:EvF K e1 E L r1 (tyD KY T)):EvF K (mDIn neg e2 e1) E L (r2.bind fun k=>r1.bind fun m=>.ok (if neg then !(getA m k).isSome else (getA m k).isSome)) tyBl:=by
 intro σ F H Q hL hs q
 refine h2 σ F H _ hL hs (q.bind.imp fun k F1 H1 x1 k1 v1 hv1=>?_)
 refine h1 σ F1 H1 _ (hL.mono x1.1) x1.2.1 (k1.bind.imp fun m F2 H2 x2 k2 v2 hv2=>?_)
 refine at_d hv2 (KY.T.mono x2.1 hv1) x2.2.1 fun p kvs hp hd=>?_
 have e:(valV kvs (KY.key k)).isSome=(getA m k).isSome:=by
  rcases zed_ hd k with ⟨z1,z2⟩ | ⟨a',v,z1,z2,z3⟩
  ·rw [z1,z2]; rfl
  ·rw [z1,z2]; rfl
 rw [e]
 exact k2.ok x2.2.1 _ rfl
theorem zcu_ {i:Nat}{σ:St}{m:List (κ×α)}(hL:Hold L σ F h) (hi:L[i]?=some (.ow (owD KY T) m)) (ok:Okk F0 H0 F h H) :
  ∃ p kvs,σ[i]?=some (some (.ref p))∧H p=some (.dK kvs)∧DPr KY T F m kvs∧∀ m' kvs',DPr KY T F m' kvs'→∃ h',Hold (L.set i (.ow (owD KY T) m')) σ F h'∧Okk F0 H0 F h' (upd H p (.dK kvs')):=by
 obtain ⟨o,h1,h2,e1,j,⟨v,e2,p,kvs,rfl,rfl,hr⟩,f⟩:=hL.at i hi
 subst e2
 have hp:h p=some (.dK kvs):=j.l _ _ zaQ_
 have h2p:h2 p=none:=by
  rcases j.dj p with z | z
  ·rw [zaQ_] at z; cases z
  ·exact z
 refine ⟨p,kvs,e1,ok.2.2.1 _ _ hp,hr,fun m' kvs' hr'=>?_⟩
 have d2:Dj (one p (.dK kvs')) h2:=fun q=>by
  unfold one; split
  ·rename_i z; rw [z]; exact .inr h2p
  ·exact .inl rfl
 have g:=f (.ow (owD KY T) m') (some (.ref p)) (one p (.dK kvs')) _ (zkG_ d2) ⟨_,rfl,p,kvs',rfl,rfl,hr'⟩
 rw [zdu_ e1] at g
 refine ⟨_,g,zkz_ (h1':=h) (hr:=h) (h':=h) ok (by rw [hp]; exact Option.some_ne_none _) (fun xs z=>by cases z) _ fun b=>?_⟩
 unfold un one
 by_cases z:b=p
 ·simp only [if_pos z]
 ·simp only [if_neg z]
  rcases j b with ⟨_,c⟩ | ⟨a,c⟩
  ·exact c.symm
  ·rw [c,a]; unfold one; rw [if_neg z]
theorem zjY_ {i:Nat}{m:List (κ×α)}{r2:Mo κ}{k:α→κ→Mo (Out ρ B S)}(hi:L[i]?=some (.ow (owD KY T) m)) (hT:Imm T) (hKT:Imm KY.T) (he:EvF K e E L r T) (he2:EvF K e2 E L r2 KY.T) (hk:∀ a y,EvS K u E (L.set i (.ow (owD KY T) (putA m y a))) (k a y) LS LB O) :
  EvS K (tSeq (mDPut (mVar i) e2 e) u) E L (r.bind fun a=>r2.bind fun y=>.lim (m.length+1) (k a y)) LS LB O:=by
 intro F0 H0 σ F h H D hL ok fin
 show e σ H fun v H1=>mVar i σ H1 fun x H2=>e2 σ H2 fun y H3=>atD x y H3 fun a kvs k=>kvs.length<sizeLine∧u D σ (upd H3 a (.dK (putK kvs k v)))
 refine he σ (un F h) H _ (hL.froz ok.2.1) ok.thaw (zbg_ (G:=F) ok _ (.inl rfl) fin fun a F1 H1 hra x1 v hv=>?_)
 obtain ⟨o,hs,ht⟩:=ok.back x1
 rw [hra] at fin
 have hL':=hL.mono hs
 have hv':=hT ht hv
 obtain ⟨p,kvs,e1,hp,hr,_⟩:=zcu_ hL' hi o
 refine zdz_ e1 ?_
 refine he2 σ (un _ h) H1 _ (hL'.froz o.2.1) o.thaw (zbg_ (G:=F) o _ (.inl rfl) fin fun y F2 H2 hry x2 v2 hv2=>?_)
 obtain ⟨o',hs',ht'⟩:=o.back x2
 rw [hry] at fin
 obtain ⟨hz,fin⟩:=zdZ_ (show Fin K (Mo.lim (m.length+1) (k a y)) E LS LB O F0 H0 D from fin)
 obtain ⟨p',kvs',e1',hp',hr',mm⟩:=zcu_ (hL'.mono hs') hi o'
 rw [e1] at e1'; cases e1'
 obtain ⟨h',a1,a2⟩:=mm (putA m y a) (putK kvs' (KY.key y) v) (zhZ_ hr' y (T.mono hs' hv'))
 unfold atD
 simp only
 rw [KY.of hv2]
 refine ⟨kvs',hp',?_,hk a y F0 H0 σ _ h' _ D a1 a2 fin⟩
 have:=Paired.length hr'
 lia
end
end L2
namespace L2
open PySem PySem.Spec PyProof.Rows
section
variable {α κ:Type} [DecidableEq κ]
theorem zbS_ (m:List (κ×α)) (k j:κ) (v:α):getA (putA m k v) j=if k=j then some v else getA m j:=by
 unfold getA putA
 by_cases ha:(m.any fun q=>decide (q.1=k))=true
 ·rw [if_pos ha]
  induction m with
  | nil=>cases ha
  | cons q m ih =>
   rw [List.map_cons,List.find?_cons,List.find?_cons]
   by_cases e:q.1=k
   ·rw [if_pos e]
    by_cases e2:k=j
    ·rw [if_pos e2]
     simp [e,e2]
    ·rw [if_neg e2]
     have:¬ q.1=j:=fun z=>e2 (by rw [← e,z])
     simp only [decide_eq_false this]
     by_cases hb:(m.any fun q=>decide (q.1=k))=true
     ·have:=ih hb
      rw [if_neg e2] at this
      exact this
     ·have e3:m.map (fun q=>if q.1=k then (q.1,v) else q)=m:=by
       rw [List.map_congr_left (g:=id) (fun x hx=>?_),List.map_id]
       have:¬ x.1=k:=fun z=>hb (List.any_eq_true.mpr ⟨x,hx,by simpa using z⟩)
       simp [this]
      rw [e3]
   ·rw [if_neg e]
    have hb:(m.any fun q=>decide (q.1=k))=true:=by
     rw [List.any_cons,decide_eq_false e,Bool.false_or] at ha; exact ha
    by_cases e2:q.1=j
    ·simp only [decide_eq_true e2]
     have:¬ k=j:=fun z=>e (by rw [e2,z])
     rw [if_neg this]
    ·simp only [decide_eq_false e2]
     exact ih hb
 ·rw [if_neg ha,List.find?_append]
  by_cases e2:k=j
  ·subst e2
   have:m.find? (fun q=>decide (q.1=k))=none:=by
    rw [List.find?_eq_none]
    intro x hx z
    exact ha (List.any_eq_true.mpr ⟨x,hx,z⟩)
   rw [this,if_pos rfl]
   simp
  ·rw [if_neg e2]
   cases m.find? (fun q=>decide (q.1=j)) with
   | some z=>rfl
   | none=>simp [e2]
theorem zgk_ (m:List (κ×α)) (k:κ) (v:α):(putA m k v).length≤m.length+1:=by
 unfold putA
 split
 ·rw [List.length_map]; lia
 ·rw [List.length_append]; exact Nat.le_refl _
end
section
variable {α:Type}
end
end L2
namespace L2
open PySem PySem.Spec PyProof.Rows
section
variable {K:Fgg}{E:XK}
end
end L2
namespace Att
open PySem PySem.W PySem.Calls PyProof.Rows
theorem zlJ_ {ns:List Int}(h:WData.layableAll [WData.list (ns.map WData.int)]=true):∀ x∈ns,Builtin.Int.intBits x≤1048576:=by
 intro x hx
 have h1:=layableW_arg h _ (List.mem_singleton.mpr rfl)
 have h2:=layableW_item h1 (.int x) (List.mem_map.mpr ⟨x,hx,rfl⟩)
 exact PyData.bits_of_layable (layable_int h2)
theorem attach_callB {l:OpenLaw}{n:Nat}{q:Program}{loose:List Str}{XP:(Str→Option Value)→Heap→Prop}{YP:World→Heap→Prop}{d:DefRec}
  (hn:l.most=some n) (hdf:d.params.defaults=[])
  (call:∀ (w:World) (s₀ s₁:Shared) (mg mb:Str→Option Value) (fa:Addr) (o:Obj) (pm cd doc:Value) (a:Addr) (vs:List Value) (ns:List Int),
   (∀ x∈ns,Builtin.Int.intBits x≤1048576) →
   Ground q loose [] XP w s₀ mg mb s₁.heap→YP w s₁.heap →
   s₁.heap.get? fa=some o→o.data=.func (docDef d.name d.params d.body d.scope pm cd doc)→s₁.heap.CodeRec cd d.name→mg d.name=some (.ref fa) →
   s₁.heap.get? a=some { cls:=.type "list",data:=.seq vs.toArray }→IntsAre vs ns→ns.length≤n→s₁.gens=#[] →
   codeAny (model l.prog w) callerA (.call (.ref fa) ⟨[.ref a],[]⟩) (fun r s'=>r=.ok (.ret (.bool true))∧OldK s₁.heap s'.heap∧s'.os=s₁.os∧AllBare s'.gens) s₁) :
  WalkO q loose XP YP l.row.toRowW d [] (fun f vs=>PySem.call f vs):=by
 intro w s₀ s₁ mg mb G Y fa o pm cd doc dV kV ho hd hcd hD hmg hg args vals as hpre hlay hrd hwl hlo
 obtain rfl:dV=.none:=Dflts.none hD hdf
 obtain rfl:kV=.none:=Dflts.noKw hD
 obtain ⟨a,vs,ns,rfl,rfl,hobj,hints,hlen⟩:=zj2_ hn hpre hwl
 refine enter_call (codeAny_mono (call w s₀ s₁ mg mb fa o pm cd doc a vs ns (zlJ_ hlay) G Y ho (fd_plain hd) hcd hmg hobj hints hlen hg) fun r s' hq=>?_)
 obtain ⟨rfl,h2,h3,h4⟩:=hq
 exact ⟨.inl ⟨.bool true,.bool true,[],rfl,fun _=>rfl,.bool true,zjD_ l _,fun _=>⟨List.Pairwise.nil,fun _ hm=>(nomatch hm)⟩⟩,h2,h3,h4⟩
end Att
namespace L2
open PySem PySem.Spec PyProof.Rows
theorem zlR_ {l:PySem.W.OpenLaw}{n k:Nat}{q:Program}{loose:List Str}{XP:(Str→Option Value)→Heap→Prop}{YP:World→Heap→Prop}{d:DefRec}{K:Params→Fgg}{CX:World→CXT}{sp:World→Sp}{x:Str}
  (hn:l.most=some n) (hn2:n≤sizeLine) (hdf:d.params.defaults=[]) (hr:Room k callerA)
  (hY:∀ (w:World) (h:Heap),YP w h→(K w.params).In h)
  (F:∀ (w:World) (mg:Str→Option Value) (fa:Addr) (h:Heap),(K w.params).In h→h.Ns mainGlobals mg→mg d.name=some (.ref fa) →
   ∃ fd:FuncData,(∀ (s:Shared) (u:Value),BindsTo s fd ⟨[u],[]⟩ [(x,u)]) ∧
    ∀ base:Heap,(K w.params).In base→base.Ns mainGlobals mg→FnOk l.prog w (K w.params) mg base (CX w) k fa fd [x] (sp w))
  (hsp:∀ (w:World) (H:Hp) (a:Addr) (ns:List Int),ns.length≤n→(∀ x∈ns,Builtin.Int.intBits x≤1048576)→Only H→SqL (K w.params) H a (ns.map V.int)→sp w [.ref a] H (fun v _=>v=.bl true) fun _ _ _=>False)
  (hCX:∀ (w:World) (H:Hp) (s:Shared) (e:Value) (s':Shared),CX w [] H s (fun _ _ _=>False) e s'→False) :
  PySem.W.WalkO q loose XP YP l.row.toRowW d [] (fun f vs=>PySem.call f vs):=by
 refine Att.attach_callB hn hdf fun w s₀ s₁ mg mb fa o pm cd doc a vs ns hbits G Y ho hd hcd hmg hobj hints hlen hg=>?_
 have KX:=hY w _ Y
 obtain ⟨fd,hb,hF⟩:=F w mg fa _ KX G.T.g hmg
 exact zli_ KX G.T.g G.T.b G.T.builtins G.T.nolimit hg hobj hints (Nat.le_trans hlen hn2) hr hF hb (fun H hO hS=>hsp w H a ns hlen hbits hO hS) fun H e s'=>hCX w H s₁ e s'
noncomputable abbrev BitsOk (ns:List Int):Prop:=∀ x∈ns,Builtin.Int.intBits x≤1048576
end L2
namespace L2
open PySem PySem.Spec PyProof.Rows PySem.W
section
variable {α β:Type}
noncomputable def okT (lt:Nat→Nat→Bool) (n:Nat):KasT α→(α→Prop)→Prop
 | .ret a,P=>P a
 | .ask i j k,P=>i<n∧j<n∧okT lt n (k (lt i j)) P
variable {lt:Nat→Nat→Bool}{n:Nat}
theorem zdp_ {f:α→KasT β}{P:β→Prop}:∀ (t:KasT α),okT lt n t (fun a=>okT lt n (f a) P)→okT lt n (t.bind f) P
 | .ret _,h=>h
 | .ask i j k,h=>⟨h.1,h.2.1,zdp_ (k (lt i j)) h.2.2⟩
theorem zbZ_ {P Q:α→Prop}(hq:∀ a,P a→Q a):∀ (t:KasT α),okT lt n t P→okT lt n t Q
 | .ret _,h=>hq _ h
 | .ask i j k,h=>⟨h.1,h.2.1,zbZ_ hq (k (lt i j)) h.2.2⟩
theorem znd_ {prog:Program}{w:World}{A:Around}{κ:SortKind}{vs:List Value}{s:Shared}{P:α→Prop}{Q:α→Shared→Prop}
  (cm:∀ i j (C:Bool→Shared→Prop),i<n→j<n→C (lt i j) s→kas_ask prog w A κ vs i j C s) (hq:∀ a,P a→Q a s):∀ t:KasT α,okT lt n t P→t.kasWp (kas_ask prog w A κ vs) Q s
 | .ret a,h=>hq a h
 | .ask i j k,h=>cm i j (fun b s'=>(k b).kasWp (kas_ask prog w A κ vs) Q s') h.1 h.2.1 (znd_ cm hq (k (lt i j)) h.2.2)
structure WOr (lt:Nat→Nat→Bool):Prop where
 asym:∀ {a b},lt a b=true→lt b a=false
 tr:∀ {a b c},lt b a=false→lt c b=false→lt c a=false
noncomputable abbrev le (lt:Nat→Nat→Bool) (a b:Nat):Prop:=lt b a=false
theorem WOr.refl (w:WOr lt) (a:Nat):le lt a a:=by
 cases h:lt a a with
 | false=>exact h
 | true=>exact w.asym h
noncomputable abbrev Pm (p:Array Nat) (n:Nat):Prop:=p.toList.Perm (List.range n)
theorem zdW_ {p:Array Nat}(h:Pm p n):p.size=n:=by have:=h.length_eq; rwa [List.length_range,Array.length_toList] at this
theorem zjl_ {p:Array Nat}(h:Pm p n) {i:Nat}(hi:i<n):p.getD i 0<n:=by
 have hs:=zdW_ h
 have:p.getD i 0=p[i]'(by lia):=by simp [Array.getD,hs,hi]
 rw [this]
 exact List.mem_range.mp (h.mem_iff.mp (by simp))
theorem zb7_ {p q:Array Nat}{i j:Nat}(h:p[i]?=q[j]?):p.getD i 0=q.getD j 0:=by
 rw [Array.getD_eq_getD_getElem?,Array.getD_eq_getD_getElem?,h]
theorem ziI_ {p:Array Nat}(h:Pm p n) (i j:Nat):Pm (kas_rev p i j) n:=(Array.perm_iff_toList_perm.mp (mirror_perm p i j _)).trans h
theorem zfQ_ {p:Array Nat}{i j:Nat}(hj:j≤p.size) (k:Nat):(kas_rev p i j).getD k 0=if i≤k∧k<j then p.getD (i+j-1-k) 0 else p.getD k 0:=by
 have:=getElem?_mirror_all (xs:=p) (i:=i) hj k
 split
 ·rename_i q; rw [if_pos q] at this; exact zb7_ this
 ·rename_i q; rw [if_neg q] at this; exact zb7_ this
noncomputable def Asc (lt:Nat→Nat→Bool) (p:Array Nat) (k:Nat):Prop:=∀ i j,i≤j→j<k→le lt (p.getD i 0) (p.getD j 0)
noncomputable def Dsc (lt:Nat→Nat→Bool) (p:Array Nat) (k:Nat):Prop:=∀ i j,i≤j→j<k→le lt (p.getD j 0) (p.getD i 0)
theorem Asc.one (w:WOr lt) (p:Array Nat):Asc lt p 1:=fun i j a b=>by
 obtain rfl:i=j:=by lia
 exact w.refl _
theorem zk7_ (w:WOr lt) {p:Array Nat}(hp:Pm p n):∀ (f m:Nat),1≤m→m+f≤n→Asc lt p m→okT lt n (kas_asc p f m) (fun r=>m≤r∧r≤m+f∧Asc lt p r∧(r<m+f→lt (p.getD r 0) (p.getD (r-1) 0)=true))
 | 0,m,h1,hm,ha=>⟨Nat.le_refl _,Nat.le_refl _,ha,fun h=>absurd h (Nat.lt_irrefl _)⟩
 | f+1,m,h1,hm,ha=>by
  refine ⟨zjl_ hp (by lia),zjl_ hp (by lia),?_⟩
  show okT lt n (if lt (p.getD m 0) (p.getD (m-1) 0)=true then KasT.ret m else kas_asc p f (m+1)) _
  cases h:lt (p.getD m 0) (p.getD (m-1) 0) with
  | true=>rw [if_pos rfl]; exact ⟨Nat.le_refl _,by lia,ha,fun _=>h⟩
  | false =>
   rw [if_neg (by decide)]
   refine zbZ_ (fun r q=>⟨by lia,by lia,q.2.2.1,fun z=>q.2.2.2 (by lia)⟩) _ (zk7_ w hp f (m+1) (by lia) (by lia) fun i j hij hj=>?_)
   by_cases e:j<m
   ·exact ha i j hij e
   ·obtain rfl:j=m:=by lia
    by_cases e2:i=j
    ·subst e2; exact w.refl _
    ·exact w.tr (ha i (j-1) (by lia) (by lia)) h
theorem zm7_ (w:WOr lt) {p:Array Nat}{m q:Nat}(hm:m≤p.size) (hq:q+1≤m) (hd:Dsc lt p m) (he:∀ i,m-(q+1)≤i→i<m→le lt (p.getD i 0) (p.getD (m-1) 0)):Dsc lt (kas_rev p (m-(q+1)) m) m:=by
 intro i j hij hj
 have r1:=zfQ_ (p:=p) (i:=m-(q+1)) hm i
 have r2:=zfQ_ (p:=p) (i:=m-(q+1)) hm j
 show lt _ _=false
 rw [r1,r2]
 by_cases a:m-(q+1)≤i
 ·rw [if_pos ⟨a,by lia⟩,if_pos ⟨by lia,hj⟩]
  exact w.tr (he _ (by lia) (by lia)) (hd _ (m-1) (by lia) (by lia))
 ·rw [if_neg (fun z=>a z.1)]
  by_cases b:m-(q+1)≤j
  ·rw [if_pos ⟨b,hj⟩]; exact hd _ _ (by lia) (by lia)
  ·rw [if_neg (fun z=>b z.1)]; exact hd _ _ hij hj
theorem zi1_ (w:WOr lt):∀ (f:Nat) (p:Array Nat) (m q:Nat),Pm p n→q+1≤m→m+f≤n→Dsc lt p m→(∀ i,m-(q+1)≤i→i<m→le lt (p.getD i 0) (p.getD (m-1) 0)) →
  okT lt n (kas_desc f p m q) (fun r=>Pm r.1 n∧r.2.2+1≤r.2.1∧r.2.1≤m+f∧Dsc lt r.1 r.2.1∧∀ i,r.2.1-(r.2.2+1)≤i→i<r.2.1→le lt (r.1.getD i 0) (r.1.getD (r.2.1-1) 0))
 | 0,p,m,q,hp,h1,hm,hd,he=>⟨hp,h1,Nat.le_refl _,hd,he⟩
 | f+1,p,m,q,hp,h1,hm,hd,he=>by
  have hsz:=zdW_ hp
  refine ⟨zjl_ hp (by lia),zjl_ hp (by lia),?_⟩
  cases h:lt (p.getD m 0) (p.getD (m-1) 0) with
  | true =>
   dsimp only
   rw [if_pos rfl]
   have fin:∀ p1:Array Nat,Pm p1 n→Dsc lt p1 m→p1.getD m 0=p.getD m 0→(∀ i,i<m→le lt (p.getD (m-1) 0) (p1.getD i 0))→okT lt n (kas_desc f p1 (m+1) 0) (fun r=>Pm r.1 n∧r.2.2+1≤r.2.1∧r.2.1≤m+(f+1)∧Dsc lt r.1 r.2.1∧∀ i,r.2.1-(r.2.2+1)≤i→i<r.2.1→le lt (r.1.getD i 0) (r.1.getD (r.2.1-1) 0)):=by
    intro p1 hp1 hd1 e1 hb
    refine zbZ_ (fun r q=>⟨q.1,q.2.1,by lia,q.2.2.2⟩) _ (zi1_ w f p1 (m+1) 0 hp1 (by lia) (by lia) (fun i j hij hj=>?_) fun i a b=>?_)
    ·by_cases e:j<m
     ·exact hd1 i j hij e
     ·obtain rfl:j=m:=by lia
      by_cases e2:i=j
      ·subst e2; exact w.refl _
      ·rw [e1]; exact w.tr (w.asym h) (hb i (by lia))
    ·obtain rfl:i=m:=by lia
     exact w.refl _
   by_cases hq:q > 0
   ·rw [if_pos hq]
    refine fin _ (ziI_ hp _ _) (zm7_ w (by lia) h1 hd he) ?_ fun i hi=>?_
    ·rw [zfQ_ (by lia),if_neg (by lia)]
    ·rw [zfQ_ (by lia)]
     split
     ·exact hd _ _ (by lia) (by lia)
     ·exact hd _ _ (by lia) (by lia)
   ·rw [if_neg hq]
    exact fin p hp hd rfl fun i hi=>hd _ _ (by lia) (by lia)
  | false =>
   dsimp only
   rw [if_neg (by decide)]
   refine ⟨zjl_ hp (by lia),zjl_ hp (by lia),?_⟩
   cases h2:lt (p.getD (m-1) 0) (p.getD m 0) with
   | true=>dsimp only; rw [if_pos rfl]; exact ⟨hp,h1,by show m≤m+(f+1); lia,hd,he⟩
   | false =>
    dsimp only
    rw [if_neg (by decide)]
    refine zbZ_ (fun r q=>⟨q.1,q.2.1,by lia,q.2.2.2⟩) _ (zi1_ w f p (m+1) (q+1) hp (by lia) (by lia) (fun i j hij hj=>?_) fun i a b=>?_)
    ·by_cases e:j<m
     ·exact hd i j hij e
     ·obtain rfl:j=m:=by lia
      by_cases e2:i=j
      ·subst e2; exact w.refl _
      ·exact w.tr h2 (hd i (j-1) (by lia) (by lia))
    ·show le lt (p.getD i 0) (p.getD m 0)
     by_cases e:i=m
     ·subst e; exact w.refl _
     ·exact w.tr (he i (by lia) (by lia)) h
noncomputable abbrev Got (lt:Nat→Nat→Bool) (n:Nat) (r:Nat×Array Nat):Prop:=Pm r.2 n∧r.1≤n∧Asc lt r.2 r.1
theorem zjd_ (w:WOr lt) {p:Array Nat}{m:Nat}(hp:Pm p n) (h1:1≤m) (hm:m≤n) (hd:Dsc lt p m):okT lt n (kas_tail3 m n p) (Got lt n):=by
 have hsz:=zdW_ hp
 refine zdp_ _ (zbZ_ (fun r q=>?_) _ (zk7_ w (ziI_ hp 0 m) (n-m) m h1 (by lia) fun i j hij hj=>?_))
 ·exact ⟨ziI_ hp 0 m,by show r≤n; lia,q.2.2.1⟩
 ·rw [zfQ_ (by lia),zfQ_ (by lia),if_pos (by lia),if_pos (by lia)]
  exact hd _ _ (by lia) (by lia)
theorem zeI_ (w:WOr lt) {p:Array Nat}{m:Nat}(hp:Pm p n) (hm:m+1≤n) (hd:Dsc lt p (m+1)):okT lt n (kas_descPart m n p) (Got lt n):=by
 refine zdp_ _ (zbZ_ (fun r q=>?_) _ (zi1_ w (n-(m+1)) p (m+1) 0 hp (by lia) (by lia) hd fun i a b=>?_))
 ·obtain ⟨q1,q2,q3,q4,q5⟩:=q
  have hsz:=zdW_ q1
  by_cases z:r.2.2 > 0
  ·rw [if_pos z]
   exact zjd_ w (ziI_ q1 _ _) (by lia) (by lia) (zm7_ w (by lia) q2 q4 q5)
  ·rw [if_neg z]
   exact zjd_ w q1 (by lia) (by lia) q4
 ·obtain rfl:i=m:=by lia
  exact w.refl _
theorem zlO_ (w:WOr lt) {p:Array Nat}(hp:Pm p n) (hn:1≤n):okT lt n (kas_count n p) (Got lt n):=by
 have hsz:=zdW_ hp
 refine zdp_ _ (zbZ_ (fun m q=>?_) _ (zk7_ w hp (n-1) 1 (Nat.le_refl _) (by lia) (Asc.one w p)))
 obtain ⟨q1,q2,q3,q4⟩:=q
 by_cases e:m=n
 ·rw [if_pos (by simp [e])]; exact ⟨hp,by show m≤n; lia,q3⟩
 ·rw [if_neg (by simp [e])]
  have hl:=q4 (by lia)
  by_cases z:m > 1
  ·rw [if_pos z]
   refine ⟨zjl_ hp (by lia),zjl_ hp (by lia),?_⟩
   cases c:lt (p.getD 0 0) (p.getD (m-1) 0) with
   | true=>dsimp only; rw [if_pos rfl]; exact ⟨hp,by show m≤n; lia,q3⟩
   | false =>
    dsimp only
    rw [if_neg (by decide)]
    have hall:∀ a b,a<m→b<m→le lt (p.getD a 0) (p.getD b 0):=fun a b ha hb=>w.tr (w.tr (q3 a (m-1) (by lia) (by lia)) c) (q3 0 b (by lia) hb)
    refine zeI_ w (ziI_ hp 0 m) (by lia) fun i j hij hj=>?_
    rw [zfQ_ (by lia),zfQ_ (by lia)]
    by_cases a:j<m
    ·rw [if_pos (by lia),if_pos (by lia)]; exact hall _ _ (by lia) (by lia)
    ·obtain rfl:j=m:=by lia
     rw [if_neg (by lia)]
     by_cases b:i<j
     ·rw [if_pos (by lia)]; exact w.tr (w.asym hl) (hall _ _ (by lia) (by lia))
     ·obtain rfl:i=j:=by lia
      rw [if_neg (by lia)]; exact w.refl _
  ·rw [if_neg z]
   obtain rfl:m=1:=by lia
   refine zeI_ w hp (by lia) fun i j hij hj=>?_
   by_cases a:i=j
   ·subst a; exact w.refl _
   ·obtain rfl:i=0:=by lia
    obtain rfl:j=1:=by lia
    exact w.asym hl
theorem zf0_ (w:WOr lt) {p:Array Nat}{k:Nat}(hp:Pm p n) (hk:k<n) (ha:Asc lt p k):∀ (f l r:Nat),l≤r→r≤k→r-l≤f→(∀ i,i<l→le lt (p.getD i 0) (p.getD k 0))→(∀ i,r≤i→i<k→le lt (p.getD k 0) (p.getD i 0)) →
  okT lt n (kas_place p k f l r) (fun m=>m≤k∧(∀ i,i<m→le lt (p.getD i 0) (p.getD k 0))∧∀ i,m≤i→i<k→le lt (p.getD k 0) (p.getD i 0))
 | 0,l,r,h1,h2,h3,h4,h5=>⟨by show l≤k; lia,h4,fun i a b=>h5 i (by lia) b⟩
 | f+1,l,r,h1,h2,h3,h4,h5=>by
  unfold kas_place
  by_cases e:l ≥ r
  ·rw [if_pos e]; exact ⟨by show l≤k; lia,h4,fun i a b=>h5 i (by lia) b⟩
  ·rw [if_neg e]
   refine ⟨zjl_ hp hk,zjl_ hp (by lia),?_⟩
   cases c:lt (p.getD k 0) (p.getD ((l+r) / 2) 0) with
   | true =>
    dsimp only
    rw [if_pos rfl]
    refine zf0_ w hp hk ha f l ((l+r) / 2) (by lia) (by lia) (by lia) h4 fun i a b=>?_
    exact w.tr (w.asym c) (ha _ _ a b)
   | false =>
    dsimp only
    rw [if_neg (by decide)]
    refine zf0_ w hp hk ha f ((l+r) / 2+1) r (by lia) h2 (by lia) (fun i hi=>?_) h5
    exact w.tr (ha i ((l+r) / 2) (by lia) (by lia)) c
theorem znv_ (w:WOr lt):∀ (f:Nat) (p:Array Nat) (k:Nat),Pm p n→k+f=n→Asc lt p k→okT lt n (kas_bin f p k) (fun r=>Pm r n∧Asc lt r n)
 | 0,p,k,hp,hk,ha=>⟨hp,(show k=n by lia) ▸ ha⟩
 | f+1,p,k,hp,hk,ha=>by
  have hsz:=zdW_ hp
  refine zdp_ _ (zbZ_ (fun l q=>?_) _ (zf0_ w hp (by lia) ha k 0 k (by lia) (Nat.le_refl _) (by lia) (fun i hi=>absurd hi (by lia)) fun i a b=>absurd b (by lia)))
  obtain ⟨q1,q2,q3⟩:=q
  have hb:∀ i,(bubble p k (k-l)).getD i 0=if i=l then p.getD k 0 else if l<i∧i≤k then p.getD (i-1) 0 else p.getD i 0:=fun i=>by
   have:=getElem?_bubble (xs:=p) (src:=k) (by lia) (k-l) (by lia) i
   rw [show k-(k-l)=l by lia] at this
   split
   ·rename_i z; rw [if_pos z] at this; exact zb7_ this
   ·rename_i z
    rw [if_neg z] at this
    split
    ·rename_i y; rw [if_pos y] at this; exact zb7_ this
    ·rename_i y; rw [if_neg y] at this; exact zb7_ this
  refine znv_ w f _ (k+1) ((Array.perm_iff_toList_perm.mp (bubble_perm p k _)).trans hp) (by lia) fun i j hij hj=>?_
  rw [hb,hb]
  by_cases e1:i=l
  ·rw [if_pos e1]
   by_cases e2:j=l
   ·rw [if_pos e2]; exact w.refl _
   ·rw [if_neg e2,if_pos (by lia)]; exact q3 _ (by lia) (by lia)
  ·rw [if_neg e1]
   by_cases e2:j=l
   ·rw [if_pos e2,if_neg (by lia)]; exact q2 _ (by lia)
   ·rw [if_neg e2]
    by_cases e3:l<i
    ·rw [if_pos (by lia),if_pos (by lia)]; exact ha _ _ (by lia) (by lia)
    ·rw [if_neg (by lia)]
     by_cases e4:l<j
     ·rw [if_pos (by lia)]; exact ha _ _ (by lia) (by lia)
     ·rw [if_neg (by lia)]; exact ha _ _ hij (by lia)
theorem znh_ (w:WOr lt) (hn:1≤n):okT lt n (kas_sort n) (fun r=>Pm r n∧Asc lt r n):=by
 have h0:Pm (List.toArray (List.range n)) n:=by simp [Pm]
 refine zdp_ _ (zbZ_ (fun r q=>?_) _ (zlO_ w h0 hn))
 obtain ⟨q1,q2,q3⟩:=q
 by_cases e:r.1<n
 ·rw [if_pos e]
  refine znv_ w _ _ _ q1 (by lia) ?_
  by_cases e1:r.1=0
  ·rw [e1]; exact Asc.one w _
  ·rw [Nat.max_eq_left (by lia)]; exact q3
 ·rw [if_neg e]
  obtain e:r.1=n:=by lia
  rw [e] at q3
  exact ⟨q1,q3⟩
end
section
variable {prog:Program}{w:World}{A:Around}{E:Value→Shared→Prop}{s:Shared}{vs:List Value}{lt:Nat→Nat→Bool}
noncomputable def CmpAt (prog:Program) (w:World) (vs:List Value) (lt:Nat→Nat→Bool) (s:Shared):Prop :=
 ∃ κ,(∀ (A:Around) (C:SortKind→Shared→Prop),C κ s→wpAny (model prog w) A (keyKind' vs.toArray) C (fun _ _=>False) s) ∧
  ∀ (A:Around) i j (C:Bool→Shared→Prop),i<vs.length→j<vs.length→C (lt i j) s→kas_ask prog w A κ vs i j C s
noncomputable def Srtd (lt:Nat→Nat→Bool) (n:Nat) (p:List Nat):Prop:=p.Perm (List.range n)∧p.Pairwise (le lt)
theorem zmu_ {n:Nat}{p:Array Nat}(h:Pm p n∧Asc lt p n):Srtd lt n p.toList:=by
 refine ⟨h.1,List.pairwise_iff_getElem.mpr fun i j hi hj hij=>?_⟩
 have hs:=zdW_ h.1
 rw [Array.length_toList] at hi hj
 have:=h.2 i j (by lia) (by lia)
 have e:∀ k (hk:k<p.size),p.getD k 0=p.toList[k]'(by simpa using hk):=fun k hk=>by simp [Array.getD,hk]
 rwa [e i hi,e j hj] at this
theorem ziN_ {a:Addr}{n:Nat}{P:PySem.Fin→Shared→Prop}(ho:s.heap.get? a=some (seqObj "list" vs.toArray n)) (h64:vs.length<64) (wo:WOr lt)
  (kk:2≤vs.length→∀ h':Heap,(∀ b o,b≠a→s.heap.get? b=some o→h'.get? b=some o)→CmpAt prog w vs lt { s with heap:=h' })
  (q:∀ (h':Heap) c (p:List Nat),(∀ b o,b≠a→s.heap.get? b=some o→h'.get? b=some o)→Srtd lt vs.length p→h'.get? a=some (seqObj "list" (p.map fun i=>vs.getD i Value.none).toArray c)→P (.done (.ret .none)) { s with heap:=h' }) :
  wpAny (model prog w) A (Builtin.«list.sort» ⟨[.ref a],[]⟩) P E s:=by
 have ha:a<s.heap.objs.size:=Heap.lt_size ho
 have s1:=Heap.SameBut.update s.heap a (Obj.mapSeq fun _=>(#[]:Array Value))
 obtain ⟨e1,ho1⟩:∃ e1,(s.heap.update a (Obj.mapSeq fun _=>(#[]:Array Value))).get? a=some (seqObj "list" #[] e1):=⟨_,get?_update_seq ho fun _=>#[]⟩
 have kp:∀ b o,b≠a→s.heap.get? b=some o→(((s.heap.update a (Obj.mapSeq fun _=>(#[]:Array Value))).push (seqObj "tuple" vs.toArray 0)).push (seqObj "list" #[] 0)).get? b=some o:=fun b o hb e =>
  Heap.get?_push_of_some _ (Heap.get?_push_of_some _ ((s1.2 b hb).trans e))
 have na:(((s.heap.update a (Obj.mapSeq fun _=>(#[]:Array Value))).push (seqObj "tuple" vs.toArray 0)).push (seqObj "list" #[] 0)).get? a=some (seqObj "list" #[] e1):=Heap.get?_push_of_some _ (Heap.get?_push_of_some _ ho1)
 rw [list_sort_plain]
 refine wpAny_bind (listItems_at ho rfl ?_)
 refine wpAny_bind (listUpdate_at ho rfl ?_ (by rw [List.size_toArray,sizeLine_eq]; lia) (Nat.zero_le _))
 refine wpAny_bind (seqEpoch_at ho1 rfl ?_)
 refine wpAny_bind (wpAny_newTuple ?_ (by show vs.length≤_; rw [sizeLine_eq]; lia))
 refine wpAny_bind (wpAny_newList ?_ (Nat.zero_le _))
 refine wpAny_holding ?_
 show wpAny (model prog w) A _ P E { s with heap:=((s.heap.update a (Obj.mapSeq fun _=>(#[]:Array Value))).push (seqObj "tuple" vs.toArray 0)).push (seqObj "list" #[] 0) }
 generalize hh:((s.heap.update a (Obj.mapSeq fun _=>(#[]:Array Value))).push (seqObj "tuple" vs.toArray 0)).push (seqObj "list" #[] 0)=h2 at kp na
 dsimp only
 have fin:∀ (st':SortSt) (p:List Nat),(arrOf st').map (·.2)=(p.map fun i=>vs.getD i Value.none).toArray→failedOf st'=none→Srtd lt vs.length p→wpAny (model prog w) A (do
   let touched:=(← seqEpoch a) != e1
   Builtin.List.listUpdate (.ref a) fun _=>(arrOf st').map (·.2)
   if let some e:=failedOf st' then rule "list.sort.comparison-raised"; throw e
   if touched then rule "list.sort.modified"; raiseError "ValueError" "list modified during sort"
   ret .none) P E { s with heap:=h2 }:=by
  intro st' p hout hf hp
  rw [hout,hf]
  have hsz:(List.toArray (p.map fun i=>vs.getD i Value.none)).size=vs.length:=by rw [List.size_toArray,List.length_map,hp.1.length_eq,List.length_range]
  have s2:=Heap.SameBut.update h2 a (Obj.mapSeq fun _=>List.toArray (p.map fun i=>vs.getD i Value.none))
  obtain ⟨c2,hc2⟩:∃ c2,(h2.update a (Obj.mapSeq fun _=>List.toArray (p.map fun i=>vs.getD i Value.none))).get? a=some (seqObj "list" (List.toArray (p.map fun i=>vs.getD i Value.none)) c2):=⟨_,get?_update_seq na fun _=>List.toArray (p.map fun i=>vs.getD i Value.none)⟩
  refine wpAny_bind (seqEpoch_at (s:={ s with heap:=h2 }) na rfl ?_)
  refine wpAny_bind (listUpdate_at (s:={ s with heap:=h2 }) na rfl ?_ (Nat.zero_le _) (Nat.le_trans (Nat.le_of_eq hsz) (by rw [sizeLine_eq]; lia)))
  simp only [bne_self_eq_false,Bool.false_eq_true,if_false]
  exact wpAny_pure (q _ c2 p (fun b o hb e=>(s2.2 b hb).trans (kp b o hb e)) hp hc2)
 by_cases hn2:2≤vs.length
 ·have hn2':¬ vs.toArray.size<2:=by rw [List.size_toArray]; lia
  rw [if_neg hn2',if_neg hn2']
  obtain ⟨κ,k1,k2⟩:=kk hn2 h2 kp
  refine wpAny_bind (wpAny_mono (k1 A (fun κ' s'=>κ'=κ∧s'={ s with heap:=h2 }) ⟨rfl,rfl⟩) (fun κ' s0 hk=>?_) fun _ _ x=>x.elim)
  obtain ⟨rfl,rfl⟩:=hk
  refine wpAny_bind (wpAny_mono (kat_run (Q:=fun st' s'=>s'={ s with heap:=h2 }∧∃ p:Array Nat,p.size=vs.length∧arrOf st'=p.map (kas_item (vs.toArray.zip vs.toArray))∧failedOf st'=none∧(Pm p vs.length∧Asc lt p vs.length)) (G:=fun p s'=>s'={ s with heap:=h2 }∧(Pm p vs.length∧Asc lt p vs.length))
   rfl hn2 h64 (fun p' st' s' a1 a2 a3 a4=>⟨a4.1,p',a1,a2,a3,a4.2⟩) (znd_ (P:=fun r=>Pm r vs.length∧Asc lt r vs.length) (fun i j C hi hj hc=>k2 A i j C hi hj hc) (fun p hp=>⟨rfl,hp⟩) _ (znh_ wo (by lia)))) ?_ fun _ _ e=>e)
  rintro ⟨⟨⟩,st'⟩ s' ⟨rfl,p,hp,har,hf,hpp⟩
  exact fin st' p.toList (kat_snds rfl har) hf (zmu_ hpp)
 ·have hn2':vs.toArray.size<2:=by rw [List.size_toArray]; lia
  rw [if_pos hn2',if_pos hn2']
  refine wpAny_bind (wpAny_pure ?_)
  refine wpAny_bind (wpAny_pure ?_)
  refine fin _ (List.range vs.length) ?_ rfl ⟨List.Perm.refl _,?_⟩
  ·show ((vs.toArray.zip vs.toArray).map (·.2))=_
   apply Array.toList_inj.mp
   rw [Array.toList_map,Array.toList_zip]
   have e:∀ l:List Value,(l.zip l).map (·.2)=l:=fun l=>by
    induction l with
    | nil=>rfl
    | cons x l ih=>rw [List.zip_cons_cons,List.map_cons,ih]
   show (vs.zip vs).map (·.2)=(List.range vs.length).map fun i=>vs.getD i Value.none
   rw [e]
   apply List.ext_getElem?
   intro i
   by_cases hi:i<vs.length
   ·simp [hi]
   ·simp [List.getElem?_eq_none,hi,Nat.le_of_not_lt hi]
  ·rcases (show vs.length=0∨vs.length=1 by lia) with e | e
   ·rw [e]; exact .nil
   ·rw [e]; exact List.pairwise_singleton _ _
theorem zl8_ {l:Addr}{Q:Value→Shared→Prop}(hl:s.heap.IsList l vs.toArray) (h64:vs.length<64) (wo:WOr lt)
  (kk:2≤vs.length→∀ h':Heap,(∀ b o,s.heap.get? b=some o→h'.get? b=some o)→CmpAt prog w vs lt { s with heap:=h' })
  (q:∀ (h':Heap) c (p:List Nat),(∀ b o,s.heap.get? b=some o→h'.get? b=some o)→Srtd lt vs.length p→h'.get? (s.heap.objs.size+1)=some (seqObj "list" (p.map fun i=>vs.getD i Value.none).toArray c)→Q (.ref (s.heap.objs.size+1)) { s with heap:=h' }) :
  wpAny (model prog w) A (call (.builtin "sorted") [.ref l]) Q E s:=by
 refine Calls.call_function_entry kind_sorted plain_sorted entry_sorted (args_sorted1 _) ?_
 unfold Builtin.«sorted»
 refine wpAny_bind (m:=checkCount "sorted" 1 1 _) (wpAny_pure ?_)
 refine wpAny_bind (collect_list hl ?_ (by rw [sizeLine_eq]; lia))
 refine wpAny_bind (wpAny_newList ?_ (by rw [sizeLine_eq]; lia))
 have hsz:((s.heap.push (seqObj "list" #[] 0)).update s.heap.objs.size (Obj.mapSeq (·++vs.toArray))).objs.size=s.heap.objs.size+1:=by
  rw [Heap.size_update,size_push']
 have hoL:(((s.heap.push (seqObj "list" #[] 0)).update s.heap.objs.size (Obj.mapSeq (·++vs.toArray))).push (seqObj "list" vs.toArray 0)).get? (s.heap.objs.size+1)=some (seqObj "list" vs.toArray 0):=by
  rw [← hsz]; exact Heap.get?_push_size _ rfl
 have keep:∀ b o,s.heap.get? b=some o→(((s.heap.push (seqObj "list" #[] 0)).update s.heap.objs.size (Obj.mapSeq (·++vs.toArray))).push (seqObj "list" vs.toArray 0)).get? b=some o:=fun b o q=>by
  have hlt:b<s.heap.objs.size:=Heap.lt_size q
  rw [Heap.get?_push_ne _ _ _ (by rw [hsz]; exact Nat.ne_of_lt (Nat.lt_succ_of_lt hlt)),Heap.get?_update_ne _ _ _ _ (Nat.ne_of_lt hlt),Heap.get?_push_ne _ _ _ (Nat.ne_of_lt hlt)]
  exact q
 show wpAny _ _ _ _ _ { s with heap:=((s.heap.push (seqObj "list" #[] 0)).update s.heap.objs.size (Obj.mapSeq (·++vs.toArray))).push (seqObj "list" vs.toArray 0) }
 rw [hsz]
 have keep2:∀ (h':Heap),(∀ b o,b≠s.heap.objs.size+1→(((s.heap.push (seqObj "list" #[] 0)).update s.heap.objs.size (Obj.mapSeq (·++vs.toArray))).push (seqObj "list" vs.toArray 0)).get? b=some o→h'.get? b=some o)→∀ b o,s.heap.get? b=some o→h'.get? b=some o:=fun h' hk b o e =>
  hk b o (Nat.ne_of_lt (Nat.lt_succ_of_lt (Heap.lt_size e))) (keep b o e)
 refine wpAny_bind (wpAny_holding (wpAny_call_entry slot_list_sort ⟨_,hoL,rfl⟩ entry_list_sort ?body (args_list_sort _)))
 case body =>
  refine ziN_ (s:={ s with heap:=((s.heap.push (seqObj "list" #[] 0)).update s.heap.objs.size (Obj.mapSeq (·++vs.toArray))).push (seqObj "list" vs.toArray 0) }) hoL h64 wo (fun h2 h' hk=>kk h2 h' (keep2 h' hk)) fun h' c p hk hp ho'=>?_
  exact ⟨_,rfl,wpAny_pure ⟨_,rfl,q h' c p (keep2 h' hk) hp ho'⟩⟩
end
end L2
namespace L2
open PySem PySem.Spec PyProof.Rows PySem.W
noncomputable def knd:V→Nat | .int _=>1 | .str _=>2 | _=>0
noncomputable def ltF:V→V→Bool | .int a,.int b=>decide (a<b) | .str a,.str b=>decide (a.cps.toList<b.cps.toList) | _,_=>false
noncomputable def eqF:V→V→Bool | .int a,.int b=>a == b | .str a,.str b=>decide (a=b) | _,_=>false
noncomputable def lexV:List V→List V→Bool
 | x::xs,y::ys=>if eqF x y then lexV xs ys else ltF x y
 | _,_=>false
section
variable {prog:Program}{w:World}{A:Around}{E:Value→Shared→Prop}{s:Shared}{Q:Bool→Shared→Prop}
theorem zb1_ {x:V}(h:knd x≠0):(∃ i,x=.int i)∨∃ z,x=.str z:=by
 cases x<;>first | exact .inl ⟨_,rfl⟩ | exact .inr ⟨_,rfl⟩ | exact absurd rfl h
theorem zik_ {x y:V}{u v:Value}{b:Bool}(hx:RelV x u) (hy:RelV y v) (hk:knd x=knd y) (h0:knd x≠0) (q:Q (ltF x y) s):wpAny (model prog w) A (oneLt' b u v) Q E s:=by
 rcases zb1_ h0 with ⟨i,rfl⟩ | ⟨z,rfl⟩
 ·rcases zb1_ (x:=y) (fun e=>h0 (hk.trans e)) with ⟨j,rfl⟩ | ⟨z,rfl⟩
  ·obtain ⟨t,rfl⟩:=hx
   obtain ⟨t',rfl⟩:=hy
   cases b with
   | true=>exact oneLt_int q
   | false=>exact kat_one _ _ (PyProof.Rows.lt_int q)
  ·cases hk
 ·rcases zb1_ (x:=y) (fun e=>h0 (hk.trans e)) with ⟨j,rfl⟩ | ⟨z',rfl⟩
  ·cases hk
  ·obtain ⟨t,rfl⟩:=hx
   obtain ⟨t',rfl⟩:=hy
   cases b with
   | true=>exact oneLt_str q
   | false=>exact kat_one _ _ (PyProof.Rows.lt_str q)
theorem eq_F {x y:V}{u v:Value}(hx:RelV x u) (hy:RelV y v) (hk:knd x=knd y) (h0:knd x≠0) (q:Q (eqF x y) s):wpAny (model prog w) A (eqBool u v) Q E s:=by
 rcases zb1_ h0 with ⟨i,rfl⟩ | ⟨z,rfl⟩
 ·rcases zb1_ (x:=y) (fun e=>h0 (hk.trans e)) with ⟨j,rfl⟩ | ⟨z,rfl⟩
  ·obtain ⟨t,rfl⟩:=hx
   obtain ⟨t',rfl⟩:=hy
   exact wpAny_eqBool_int q
  ·cases hk
 ·rcases zb1_ (x:=y) (fun e=>h0 (hk.trans e)) with ⟨j,rfl⟩ | ⟨z',rfl⟩
  ·cases hk
  ·obtain ⟨t,rfl⟩:=hx
   obtain ⟨t',rfl⟩:=hy
   exact wpAny_eqBool_str q
theorem zjc_ {b:Bool}:∀ {xs ys:List V}{us vs:List Value}(i:Nat),Vals xs us→Vals ys vs→xs.map knd=ys.map knd→(0:Nat)∉xs.map knd→Q (lexV xs ys) s→KatLex prog w A b false Q (us.zip vs) i s
 | [],[],_,_,i,.nil,.nil,_,_,q=>q
 | x::xs,[],_,_,i,_,_,hk,_,_=>by simp at hk
 | [],x::xs,_,_,i,_,_,hk,_,_=>by simp at hk
 | x::xs,y::ys,_,_,i,.cons hx r,.cons hy r',hk,h0,q=>by
  rw [List.map_cons,List.map_cons] at hk
  injection hk with k1 k2
  rw [List.map_cons] at h0
  have z1:knd x≠0:=fun e=>h0 (by rw [e]; exact List.mem_cons_self ..)
  have z2:(0:Nat)∉xs.map knd:=fun e=>h0 (List.mem_cons_of_mem _ e)
  rw [List.zip_cons_cons]
  refine kat_cons (eq_F hx hy k1 z1 (kat_go (fun e=>kat_yes ?_) fun e=>kat_no ?_))
  ·refine zjc_ (i+1) r r' k2 z2 ?_
   unfold lexV at q
   rw [e,if_pos rfl] at q
   exact q
  ·refine zik_ hx hy k1 z1 ?_
   unfold lexV at q
   rw [e,if_neg (by decide)] at q
   exact q
end
noncomputable def SrtV (K:Fgg) (H:Hp) (ys:List V) (lt:Nat→Nat→Bool):Prop :=
 (∃ k,k≠0∧(∀ y∈ys,knd y=k)∧∀ i j x y,ys[i]?=some x→ys[j]?=some y→lt i j=ltF x y) ∨
 (∃ (rows:Nat→List V) (ks:List Nat),ks≠[]∧0∉ks∧(∀ i y,ys[i]?=some y→∃ a,y=.ref a∧SqT K H a (rows i)∧(rows i).map knd=ks)∧∀ i j,i<ys.length→j<ys.length→lt i j=lexV (rows i) (rows j))
noncomputable def mSorted (K:Fgg):List V→Hp→VK→Prop:=fun xs H Q=>match xs with
 | [.ref p]=>∃ ys lt,SqL K H p ys∧ys.length<64∧WOr lt∧SrtV K H ys lt∧∀ idx,Srtd lt ys.length idx→∀ l,H l=none→Q (.ref l) (upd H l (.lst (idx.map fun i=>ys.getD i .non)))
 | _=>False
noncomputable def tyK (k:Nat):Value:=if k=1 then .type "int" else .type "str"
theorem zi6_ {M:Model}{h:Heap}{x:V}{u:Value}{k:Nat}(r:RelV x u) (hk:knd x=k) (h0:k≠0):Looks M h (typeOf u) (tyK k):=by
 subst hk
 rcases zb1_ h0 with ⟨i,rfl⟩ | ⟨z,rfl⟩
 ·obtain ⟨t,rfl⟩:=r
  exact .now
 ·obtain ⟨t,rfl⟩:=r
  exact .now
theorem zlF_ (k:Nat):(tyK k != Value.type "tuple")=true:=by unfold tyK; split<;>decide +kernel
theorem zlN_ (k:Nat):(tyK k == tyK k)=true:=by unfold tyK; split<;>decide +kernel
theorem zby_ {ys:List V}{us:List Value}(r:Vals ys us) {i:Nat}(h:i<us.length):∃ y,ys[i]?=some y∧RelV y (us.getD i Value.none)∧y∈ys:=by
 have hl:=Vals.length r
 have e:ys[i]?=some ys[i]:=List.getElem?_eq_getElem (by lia)
 obtain ⟨u,eu,ru⟩:=Vals.get r e
 refine ⟨_,e,?_,List.getElem_mem _⟩
 rw [List.getD_eq_getElem?_getD,eu]
 exact ru
theorem zgi_ {ys:List V}{us:List Value}(r:Vals ys us):∀ (idx:List Nat),(∀ i∈idx,i<us.length)→Vals (idx.map fun i=>ys.getD i .non) (idx.map fun i=>us.getD i Value.none)
 | [],_=>.nil
 | i::idx,h=>by
  obtain ⟨y,e,ry,_⟩:=zby_ r (h i (List.mem_cons_self ..))
  refine .cons ?_ (zgi_ r idx fun j hj=>h j (List.mem_cons_of_mem _ hj))
  show RelV (ys.getD i V.non) _
  rw [List.getD_eq_getElem?_getD,e]
  exact ry
section
variable {X:Cx}
theorem zgn_:CallR X (.builtin "sorted") (mSorted X.K):=by
 intro pins s σ H xs us Q I r h
 unfold mSorted at h
 split at h
 ·rename_i p
  obtain ⟨ys,lt,hp,h64,wo,sv,q⟩:=h
  obtain ⟨u,rfl,rx⟩:=vals1 r
  cases rx
  obtain ⟨its,r',pl,hz⟩:=I.list hp
  have hlen:=Vals.length r'
  refine zl8_ pl.isList (by lia) wo (fun h2 h' kp=>?_) fun h' c idx kp hi ho=>?_
  ·rcases sv with ⟨k,hk,hall,hlt⟩ | ⟨rows,ks,hne,h0,hrow,hlt⟩
   ·refine ⟨oneType',fun A C hC=>?_,fun A i j C hi hj hC=>?_⟩
    ·refine kas_kind h2 (T:=tyK k) (fun v hv=>?_) (zlF_ k) (zlN_ k) hC
     obtain ⟨i,hi⟩:=List.mem_iff_getElem?.mp hv
     obtain ⟨hi',_⟩:=List.getElem?_eq_some_iff.mp hi
     obtain ⟨y,_,ry,hy⟩:=zby_ r' hi'
     rw [List.getD_eq_getElem?_getD,hi] at ry
     exact zi6_ ry (hall y hy) hk
    ·obtain ⟨x,ex,rx,hx⟩:=zby_ r' hi
     obtain ⟨y,ey,ry,hy⟩:=zby_ r' hj
     rw [hlt i j x y ex ey] at hC
     unfold kas_ask
     rw [keyLt'_oneType]
     exact zik_ rx ry (by rw [hall x hx,hall y hy]) (by rw [hall x hx]; exact hk) hC
   ·have tup:∀ i,i<its.length→∃ (a:Addr) (o:Obj) (ts:List Value) (n:Nat),its[i]?=some (.ref a)∧h'.get? a=some o∧o.cls=.type "tuple" ∧ o.data=.seq ts.toArray n∧Vals (rows i) ts∧(rows i).map knd=ks:=fun i hi=>by
     obtain ⟨y,e,ry,_⟩:=zby_ r' hi
     obtain ⟨a,rfl,ht,hk⟩:=hrow i y e
     obtain ⟨ts,rt,⟨o,ho,hc,n,hd⟩,_⟩:=I.tuple ht
     refine ⟨a,o,ts,n,?_,kp _ _ ho,hc,hd,rt,hk⟩
     have:its.getD i Value.none=.ref a:=ry
     rw [List.getD_eq_getElem?_getD,List.getElem?_eq_getElem hi] at this
     rw [List.getElem?_eq_getElem hi]
     exact congrArg some this
    obtain ⟨k,ks',rfl⟩:∃ k ks',ks=k::ks':=by
     cases ks with
     | nil=>exact absurd rfl hne
     | cons k ks'=>exact ⟨k,ks',rfl⟩
    have hk0:k≠0:=fun e=>h0 (by rw [e]; exact List.mem_cons_self ..)
    refine ⟨tuples' true,fun A C hC=>?_,fun A i j C hi hj hC=>?_⟩
    ·have kt:∀ (l:List Value) (d:Nat),its.drop d=l→∃ fs,KatTups h' l fs∧fs.length=l.length∧∀ v∈fs,Looks (model X.prog X.w) h' (typeOf v) (tyK k):=by
      intro l
      induction l with
      | nil=>intro d _; exact ⟨[],.nil,rfl,fun v hv=>by cases hv⟩
      | cons v l ih =>
       intro d hd
       have hdl:d<its.length:=by
        have:=congrArg List.length hd
        rw [List.length_drop,List.length_cons] at this
        lia
       obtain ⟨a,o,ts,n,e,ho,hc,hdd,rt,hk⟩:=tup d hdl
       have e2:its.drop d=its[d]::its.drop (d+1):=List.drop_eq_getElem_cons hdl
       rw [hd] at e2
       injection e2 with e3 e4
       obtain ⟨fs,k1,k2,k3⟩:=ih (d+1) e4.symm
       rw [List.getElem?_eq_getElem hdl] at e
       injection e with e
       rw [e3,e]
       cases hr:rows d with
       | nil=>rw [hr] at hk; simp at hk
       | cons x xr =>
        rw [hr] at rt hk
        cases rt with
        | @cons _ f _ tr rf rr =>
         rw [List.map_cons] at hk
         injection hk with hk1 hk2
         refine ⟨f::fs,.cons ho hc hdd (by simp) k1,by simp [k2],fun v hv=>?_⟩
         rcases List.mem_cons.mp hv with rfl | hv
         ·exact zi6_ rf hk1 hk0
         ·exact k3 v hv
     obtain ⟨fs,k1,k2,k3⟩:=kt its 0 rfl
     have:=kat_kind (M:=model X.prog X.w) (A:=A) (E:=fun _ _=>False) (s:={ s with heap:=h' }) (Q:=C) k1 (by lia) k3 (zlN_ k) (by rw [zlF_]; exact hC)
     exact this
    ·obtain ⟨a,o,ts,n,e,ho,hc,hd,rt,hk⟩:=tup i hi
     obtain ⟨a2,o2,ts2,n2,e2,ho2,hc2,hd2,rt2,hk2⟩:=tup j hj
     unfold kas_ask
     rw [List.getD_eq_getElem?_getD,List.getD_eq_getElem?_getD,e,e2]
     have hl:ts.length=ts2.length:=by
      have a1:=Vals.length rt
      have a2:=Vals.length rt2
      have:=congrArg List.length (hk.trans hk2.symm)
      rw [List.length_map,List.length_map] at this
      lia
     refine kat_lt (s:={ s with heap:=h' }) ho hd ho2 hd2 ?_
     rw [show decide (ts.toArray.size<ts2.toArray.size)=false from decide_eq_false (by simp [hl])]
     refine zjc_ 0 rt rt2 (hk.trans hk2.symm) (by rw [hk]; exact h0) ?_
     rw [← hlt i j (by lia) (by lia)]
     exact hC
  ·refine ⟨.ref (s.heap.objs.size+1),_,I.laid (o:=.lst (idx.map fun i=>ys.getD i .non)) (t':=s.toks) kp (Nat.le_succ _) ?_,rfl,q idx (by rwa [hlen]) _ (I.hok.fresh (Nat.le_succ _))⟩
   have hi1:∀ i∈idx,i<its.length:=fun i hi'=>List.mem_range.mp (hi.1.mem_iff.mp hi')
   refine ⟨?_,_,c,zgi_ r' idx hi1,ho⟩
   rw [List.length_map,hi.1.length_eq,List.length_range,sizeLine_eq]
   lia
 ·exact h.elim
end
end L2
namespace L2
open PySem PySem.Spec PyProof.Rows PySem.W
section
variable {α β:Type}
structure LOr (lt:α→α→Bool):Prop where
 asym:∀ {a b},lt a b=true→lt b a=false
 tr:∀ {a b c},lt b a=false→lt c b=false→lt c a=false
 anti:∀ {a b},lt a b=false→lt b a=false→a=b
noncomputable def srtL (lt:α→α→Bool) (xs:List α):List α:=xs.mergeSort (fun a b=>!lt b a)
theorem zeN_ (lt:α→α→Bool) (xs:List α):(srtL lt xs).Perm xs:=List.mergeSort_perm _ _
theorem zha_ {lt:α→α→Bool}(o:LOr lt) (xs:List α):(srtL lt xs).Pairwise fun a b=>lt b a=false:=by
 have:=List.pairwise_mergeSort (le:=fun a b=>!lt b a) (fun a b c h1 h2=>by simp only [Bool.not_eq_true'] at *; exact o.tr h1 h2) (fun a b=>by
  cases h:lt b a with
  | false=>simp
  | true=>simp [o.asym h]) xs
 exact this.imp (fun h=>by simpa using h)
theorem zih_ {lt:α→α→Bool}(o:LOr lt):∀ {ws ys:List α},ws.Perm ys→ws.Pairwise (fun a b=>lt b a=false)→ys.Pairwise (fun a b=>lt b a=false)→ws=ys
 | [],ys,hp,_,_=>by rw [List.Perm.nil_eq hp]
 | w::ws,[],hp,_,_=>by have:=hp.length_eq; simp at this
 | w::ws,y::ys,hp,h1,h2=>by
  obtain ⟨a1,a2⟩:=List.pairwise_cons.mp h1
  obtain ⟨b1,b2⟩:=List.pairwise_cons.mp h2
  have e:w=y:=by
   have m1:w∈y::ys:=hp.mem_iff.mp (List.mem_cons_self ..)
   have m2:y∈w::ws:=hp.mem_iff.mpr (List.mem_cons_self ..)
   rcases List.mem_cons.mp m1 with e | m1
   ·exact e
   ·rcases List.mem_cons.mp m2 with e | m2
    ·exact e.symm
    ·exact o.anti (b1 w m1) (a1 y m2)
  subst e
  rw [zih_ o (List.Perm.cons_inv hp) a2 b2]
theorem zjm_ {lt:α→α→Bool}(o:LOr lt) {ws xs:List α}(hp:ws.Perm xs) (hs:ws.Pairwise fun a b=>lt b a=false):ws=srtL lt xs :=
 zih_ o (hp.trans (zeN_ lt xs).symm) hs (zha_ o xs)
noncomputable def ltI (a b:Int):Bool:=decide (a<b)
theorem zn5_:LOr ltI:=by
 unfold ltI
 refine ⟨fun h=>?_,fun h h'=>?_,fun h h'=>?_⟩<;>simp only [decide_eq_true_eq,decide_eq_false_iff_not] at*<;> lia
end
end L2
namespace L2
open PySem PySem.Spec PyProof.Rows PySem.W
section
variable {α β γ:Type}{K:Fgg}{E:XK}
noncomputable def FlT (T:Ty α) (k:Nat) (lt:α→α→Bool):Prop:=k≠0∧∀ a v F,T.R a v F→knd v=k∧∀ b u F',T.R b u F'→ltF v u=lt a b∧(eqF v u=true↔a=b)
theorem znL_:FlT tyInt 1 ltI:=by
 refine ⟨by decide,fun a v F h=>?_⟩
 subst h
 refine ⟨rfl,fun b u F' h'=>?_⟩
 subst h'
 exact ⟨rfl,by simp [eqF]⟩
theorem zjh_ {T:Ty α}{H:Hp}:∀ {xs:List α}{vs:List V},Prs T H xs vs→∀ (i:Nat) (v:V),vs[i]?=some v→∃ x,xs[i]?=some x∧T.R x v H
 | _,_,.nil,i,v,e=>by simp at e
 | _,_,.cons a t,0,v,e=>by simp at e; subst e; exact ⟨_,rfl,a⟩
 | _,_,.cons a t,i+1,v,e=>zjh_ t i v (by simpa using e)
theorem zkL_ {T:Ty α}{H:Hp}{xs:List α}{vs:List V}(r:Prs T H xs vs) (d:α):∀ (idx:List Nat),(∀ i∈idx,i<vs.length)→Prs T H (idx.map fun i=>xs.getD i d) (idx.map fun i=>vs.getD i .non)
 | [],_=>.nil
 | i::idx,h=>by
  have hi:=h i (List.mem_cons_self ..)
  obtain ⟨x,e,rx⟩:=zjh_ r i vs[i] (List.getElem?_eq_getElem hi)
  refine .cons ?_ (zkL_ r d idx fun j hj=>h j (List.mem_cons_of_mem _ hj))
  show T.R (xs.getD i d) (vs.getD i .non) H
  rw [List.getD_eq_getElem?_getD,List.getD_eq_getElem?_getD,e,List.getElem?_eq_getElem hi]
  exact rx
theorem ziT_ {lt:α→α→Bool}(o:LOr lt) {xs:List α}{d:α}{idx:List Nat}(h:Srtd (fun i j=>lt (xs.getD i d) (xs.getD j d)) xs.length idx):(idx.map fun i=>xs.getD i d)=srtL lt xs:=by
 refine zjm_ o ?_ ?_
 ·have e:(List.range xs.length).map (fun i=>xs.getD i d)=xs:=by
   apply List.ext_getElem?
   intro i
   by_cases hi:i<xs.length
   ·simp [hi]
   ·simp [List.getElem?_eq_none,hi,Nat.le_of_not_lt hi]
  have:=h.1.map (fun i=>xs.getD i d)
  rwa [e] at this
 ·exact List.pairwise_map.mpr (h.2.imp fun q=>q)
theorem znS_ {lt:α→α→Bool}(o:LOr lt) (f:Nat→α):WOr fun i j=>lt (f i) (f j):=⟨fun h=>o.asym h,fun h h'=>o.tr h h'⟩
end
end L2
universe u
namespace L2
open PySem PySem.Spec PyProof.Rows
section
variable {α γ:Type}{K:Fgg}{E:XK}{L:List Sl}{T:Ty α}{e:TE}
noncomputable abbrev tyH {γ:Type}(C:Cs γ):Ty γ:=⟨fun c v H=>∃ p us,v=.ref p∧H p=some (.lst us)∧C.R c us H,fun g ⟨p,us,e,h,q⟩=>⟨p,us,e,g _ _ h,C.mono g q⟩⟩
theorem ev_hl {ta:TA}{C:Cs γ}{r:Mo γ}{n:Nat}(hl:CsN C n) (h:EvA K ta E L r C) (hn:n≤100:=by decide):EvF K (tLst ta) E L r (tyH C):=by
 intro σ F H Q hL hs q
 refine h σ F H _ hL hs (q.more.imp fun c F1 H1 x1 k1 vs hvs=>⟨zcz_ (by rw [hl hvs]; lia),fun p hp=>?_⟩)
 have x:=Ext.new (o:=.lst vs) x1.2.1 hp
 exact k1 _ _ x _ ⟨p,vs,rfl,zaR_,C.mono x.1 hvs⟩
theorem zno_ {C:Cs γ}{i:Nat}{pr:γ→α}{r:Mo γ}(ha:CsAt C i T pr) (h:EvF K e E L r (tyH C)):EvF K (tOp (mIx K) e (tC (.int i))) E L (r.bind fun c=>.ok (pr c)) T:=by
 intro σ F H Q hL hs q
 refine h σ F H _ hL hs (q.bind.imp fun c F1 H1 x1 k1 v1 ⟨p,us,ev,hp,hc⟩=>?_)
 subst ev
 obtain ⟨w,e2,rw'⟩:=ha hc
 refine ⟨us,.inl (.of (x1.2.1 _ _ hp)),?_⟩
 have e3:atI us (i:Int)=some w:=by
  unfold atI
  rw [zis_ (by lia) (by have:=(List.getElem?_eq_some_iff.mp e2).1; lia)]
  simpa using e2
 rw [e3]
 exact k1.ok x1.2.1 w rw'
theorem eqt_h {C:Cs γ}{n m:Nat}{q:γ→γ→Bool}(h:EqC K C n m q):EqT K (tyH C) (n+1) q:=⟨by
 rintro a b x y H ⟨p,us,rfl,hp,hc⟩ ⟨p2,ws,rfl,hp2,hc2⟩
 obtain ⟨l1,l2,e,he,ea⟩:=h.eq hc hc2
 have:=EqD.lst e (.of hp) (.of hp2) (l1.trans l2.symm) he (K:=K)
 rw [l1,ea] at this
 exact this⟩
theorem op_eqH {C:Cs γ}{n:Nat}{q:γ→γ→Bool}(h:EqT K (tyH C) n q) (hn:n≤50:=by decide):Op2 K (mEqK K) E (tyH C) (tyH C) (fun a b=>.ok (q a b)) tyBl:=zmZ_ h hn fun ⟨p,_,e,_⟩=>⟨p,e⟩
theorem zn9_ {C:Cs γ}{n:Nat}{q:γ→γ→Bool}(h:EqT K (tyH C) n q) (hn:n≤50:=by decide):Op2 K (mNeK K) E (tyH C) (tyH C) (fun a b=>.ok (!(q a b))) tyBl:=zni_ h hn fun ⟨p,_,e,_⟩=>⟨p,e⟩
end
section
variable {α:Type}{K:Fgg}{E:XK}{L:List Sl}{T:Ty α}{F h H F0 H0:Hp}{ρ B S:Type}{LS:S→List Sl}{LB:B→List Sl}{O:Own ρ}
theorem zgI_ {α:Type u}{l:List α}{i:Nat}{o:α}(h:l[i]?=some o):l.set i o=l:=by
 apply List.ext_getElem?
 intro j
 rw [List.getElem?_set]
 have hlt:=(List.getElem?_eq_some_iff.mp h).1
 by_cases e:i=j
 ·subst e; rw [if_pos rfl,if_pos hlt,h]
 ·rw [if_neg e]
end
end L2
namespace L2
open PySem PySem.Spec PyProof.Rows PySem.W
section
variable {prog:Program}{w:World}{A:Around}{E:Value→Shared→Prop}{s:Shared}{T:String}{rr dd:Addr}{n:Nat}{PP:Nat→Value→Prop}{OK:Heap→Prop}
theorem zlx_ {R:List Value→Shared→Prop}(Kd:KdlSrc prog w T rr dd n PP OK) (hh:A.handled=none) (hok:OK s.heap) (hn:n≤sizeLine)
  (hR:∀ (h':Heap) (tk:Nat) (acc:Array Value),s.heap.objs.size<h'.objs.size→(∀ b o,s.heap.get? b=some o→h'.get? b=some o)→ItemsOf PP acc n→R acc.toList { s with heap:=h',toks:=tk }) :
  wpAny (model prog w) A (collect (.ref rr)) R E s:=by
 obtain ⟨lr,ld⟩:=Kd.there _ hok
 unfold collect; refine wpAny_bind (wpAny_runValue (codeAny_builtin entry_proto_collect' ?_)); rw [Around.under_plainId PySem.F.plain_proto_collect _]
 show wpAny _ A.in1 (newList []>>=fun l=>again (.builtin "list.__iadd__" ⟨[l,.ref rr],[]⟩)) _ _ s; refine wpAny_bind (wpAny_newObj_type ?_)
 refine wpAny_pure ⟨plainId_quiet PySem.F.plain_list_iadd _,codeAny_builtin entry_list_iadd' ?_⟩; rw [Around.under_plainId PySem.F.plain_list_iadd _]
 have h0:(s.heap.push { cls:=.type "list",data:=.seq ([]:List Value).toArray }).get? s.heap.objs.size=some { cls:=.type "list",data:=.seq #[] }:=Heap.get?_push_size _ rfl
 show wpAny _ A.in1 (Builtin.List.listExtendWith (.ref s.heap.objs.size) (.ref rr) (.ref s.heap.objs.size)) _ _ _
 have key:=kdl_extend (A:=A) (s:={ s with heap:=s.heap.push { cls:=.type "list",data:=.seq ([]:List Value).toArray } })
  (R:=fun (q:Result) (s':Shared)=>∃ (h':Heap) (tk:Nat) (acc:Array Value) (c:Nat),q=.ok (.ret (.ref s.heap.objs.size))∧s'={ s with heap:=h',toks:=tk }∧(∀ b o,s.heap.get? b=some o→h'.get? b=some o)∧h'.get? s.heap.objs.size=some { cls:=.type "list",dict:=none,data:=.seq acc c,slots:=#[] }∧ItemsOf PP acc n)
  Kd hh (Kd.keep _ _ hok fun b _ o e=>Heap.get?_push_of_some _ e) s.heap.objs.size (Nat.ne_of_gt lr) (Nat.ne_of_gt ld) (.ref s.heap.objs.size) 0 h0
  (fun h' tk acc c hk hS hacc=>⟨h',tk,acc,c,rfl,rfl,fun b o e=>hk b o (Nat.ne_of_lt (Heap.lt_size e)) (Heap.get?_push_of_some _ e),hS,hacc⟩) hn
 refine wpAny_mono key (fun fin s' x=>?_) fun e s' x=>?_
 ·cases fin with
  | done f =>
   obtain ⟨h',tk,acc,c,e,rfl,hk,hS,hacc⟩:=x
   cases e; show wpAny _ A (load s.heap.objs.size>>=_) _ _ _
   exact wpAny_bind (wpAny_load hS (wpAny_pure (hR h' tk acc (Heap.lt_size hS) hk hacc)))
  | again c1 =>
   refine ⟨x.1,codeAny_mono x.2 fun q s2 y=>?_⟩; obtain ⟨h',tk,acc,c,rfl,rfl,hk,hS,hacc⟩:=y
   show wpAny _ A (load s.heap.objs.size>>=_) _ _ _; exact wpAny_bind (wpAny_load hS (wpAny_pure (hR h' tk acc (Heap.lt_size hS) hk hacc)))
 ·obtain ⟨_,_,_,_,e',_⟩:=x; cases e'
end
section
variable {prog:Program}{w:World}{A:Around}{E:Value→Shared→Prop}{s:Shared}{lt:Nat→Nat→Bool}
theorem zjz_ {v:Value}{n:Nat}{PV:List Value→Prop}{Q:Value→Shared→Prop}(h64:n<64) (wo:WOr lt) (hlen:∀ vs,PV vs→vs.length=n)
  (col:∀ R:List Value→Shared→Prop,(∀ (vs:List Value) (h':Heap) (tk:Nat),PV vs→s.heap.objs.size≤h'.objs.size→(∀ b o,s.heap.get? b=some o→h'.get? b=some o)→R vs { s with heap:=h',toks:=tk })→wpAny (model prog w) A.in1 (collect v) R E s)
  (kk:∀ (vs:List Value),PV vs→2≤vs.length→∀ (h':Heap) (tk:Nat),(∀ b o,s.heap.get? b=some o→h'.get? b=some o)→CmpAt prog w vs lt { s with heap:=h',toks:=tk })
  (q:∀ (vs:List Value) (l:Addr) (h':Heap) (tk:Nat) c (p:List Nat),PV vs→s.heap.objs.size≤l→(∀ b o,s.heap.get? b=some o→h'.get? b=some o)→Srtd lt vs.length p→h'.get? l=some (seqObj "list" (p.map fun i=>vs.getD i Value.none).toArray c)→Q (.ref l) { s with heap:=h',toks:=tk }) :
  wpAny (model prog w) A (call (.builtin "sorted") [v]) Q E s:=by
 refine Calls.call_function_entry kind_sorted plain_sorted entry_sorted (args_sorted1 _) ?_
 unfold Builtin.«sorted»
 refine wpAny_bind (m:=checkCount "sorted" 1 1 _) (wpAny_pure ?_)
 refine wpAny_bind (col _ fun vs h1 tk pv hle k1=>?_)
 have hn:=hlen vs pv
 refine wpAny_bind (wpAny_newList ?_ (by rw [sizeLine_eq]; lia))
 have hoL:(h1.push (seqObj "list" vs.toArray 0)).get? h1.objs.size=some (seqObj "list" vs.toArray 0):=Heap.get?_push_size _ rfl
 have keep:∀ b o,s.heap.get? b=some o→(h1.push (seqObj "list" vs.toArray 0)).get? b=some o:=fun b o e=>Heap.get?_push_of_some _ (k1 b o e)
 show wpAny _ _ _ _ _ { s with heap:=h1.push (seqObj "list" vs.toArray 0),toks:=tk }
 have keep2:∀ (h':Heap),(∀ b o,b≠h1.objs.size→(h1.push (seqObj "list" vs.toArray 0)).get? b=some o→h'.get? b=some o)→∀ b o,s.heap.get? b=some o→h'.get? b=some o:=fun h' hk b o e =>
  hk b o (Nat.ne_of_lt (Heap.lt_size (k1 b o e))) (keep b o e)
 refine wpAny_bind (wpAny_holding (wpAny_call_entry slot_list_sort ⟨_,hoL,rfl⟩ entry_list_sort ?body (args_list_sort _)))
 case body =>
  refine ziN_ (s:={ s with heap:=h1.push (seqObj "list" vs.toArray 0),toks:=tk }) hoL (by lia) wo (fun h2 h' hk=>kk vs pv h2 h' tk (keep2 h' hk)) fun h' c p hk hp ho'=>?_
  exact ⟨_,rfl,wpAny_pure ⟨_,rfl,q vs _ h' tk c p pv hle (keep2 h' hk) hp ho'⟩⟩
end
section
variable {X:Cx}
theorem zlb_ {ys:List V}{its:List Value}{lt:Nat→Nat→Bool}{k:Nat}{s:Shared}(r':Vals ys its) (hk:k≠0) (hall:∀ y∈ys,knd y=k) (hlt:∀ i j x y,ys[i]?=some x→ys[j]?=some y→lt i j=ltF x y) (h2:2≤its.length) :
  CmpAt X.prog X.w its lt s:=by
 refine ⟨oneType',fun A C hC=>?_,fun A i j C hi hj hC=>?_⟩
 ·refine kas_kind h2 (T:=tyK k) (fun v hv=>?_) (zlF_ k) (zlN_ k) hC
  obtain ⟨i,hi⟩:=List.mem_iff_getElem?.mp hv
  obtain ⟨hi',_⟩:=List.getElem?_eq_some_iff.mp hi
  obtain ⟨y,_,ry,hy⟩:=zby_ r' hi'
  rw [List.getD_eq_getElem?_getD,hi] at ry
  exact zi6_ ry (hall y hy) hk
 ·obtain ⟨x,ex,rx,hx⟩:=zby_ r' hi
  obtain ⟨y,ey,ry,hy⟩:=zby_ r' hj
  rw [hlt i j x y ex ey] at hC
  unfold kas_ask
  rw [keyLt'_oneType]
  exact zik_ rx ry (by rw [hall x hx,hall y hy]) (by rw [hall x hx]; exact hk) hC
noncomputable def mSortD (K:Fgg):List V→Hp→VK→Prop:=fun xs H Q=>mSorted K xs H Q∨match xs with
 | [.ref p]=>∃ (kvs:List (Key×V)) (k:Nat) (lt:Nat→Nat→Bool),H p=some (.dK kvs)∧kvs.length<64∧WOr lt∧k≠0∧(∀ q∈kvs,knd (kV q.1)=k)∧(∀ i j x y,(kvs.map fun q:Key×V=>kV q.1)[i]?=some x→(kvs.map fun q=>kV q.1)[j]?=some y→lt i j=ltF x y) ∧
   ∀ idx,Srtd lt kvs.length idx→∀ l,H l=none→Q (.ref l) (upd H l (.lst (idx.map fun i=>(kvs.map fun q=>kV q.1).getD i .non)))
 | _=>False
theorem is_kV {P:Program}{w:World}{k:Key}{u:Value}(h:(mixKind P w).is k u=true):RelV (kV k) u:=by
 rw [zhL_] at h
 rcases zae_ h with ⟨i,t,rfl,rfl⟩ | ⟨x,t,rfl,rfl⟩<;>exact ⟨_,rfl⟩
theorem zf1_ (hc:X.calm=true):CallR X (.builtin "sorted") (mSortD X.K):=by
 intro pins s σ H xs us Q I r h
 unfold mSortD at h
 rcases h with h | h
 ·exact zgn_ pins s σ H xs us Q I r h
 ·split at h
  ·rename_i p
   obtain ⟨kvs,k,lt,hp,h64,wo,hk,hall,hlt,q⟩:=h
   obtain ⟨u,rfl,rx⟩:=vals1 r
   cases rx
   obtain ⟨z,hd,vs,rel,dd⟩:=zkp_ I.hok (.inl hp)
   obtain ⟨ep,hat⟩:=dd.dictAt
   have hln:kvs.length=vs.length:=rel.length
   have hpv:∀ us:List Value,Vals (kvs.map fun q=>kV q.1) us→us.length=kvs.length:=fun us hv=>by rw [← Vals.length hv,List.length_map]
   refine zjz_ (n:=kvs.length) (PV:=fun us=>Vals (kvs.map fun q=>kV q.1) us) h64 wo hpv (fun R hR=>?_) (fun us hv h2 h' tk _=>?_) fun us l h' tk c idx hv hl kp hi ho=>?_
   ·refine zlx_ (kdl_dict (knd:=mixKind X.prog X.w) (kvs:=vs) (ep:=ep) hd) ?_ hat (by rw [← hln,sizeLine_eq]; lia) fun h' tk acc hsz hkp hacc=>hR _ h' tk ?_ (Nat.le_of_lt hsz) hkp
    ·exact I.ok.hd hc
    ·have hl:acc.toList.length=kvs.length:=by rw [Array.length_toList,hln]; exact hacc.1
     have e:∀ (ks:List (Key×V)) (us:List Value),ks.length=us.length→(∀ (i:Nat) (q:Key×V) (u:Value),ks[i]?=some q→us[i]?=some u→RelV (kV q.1) u)→Vals (ks.map fun q=>kV q.1) us:=by
      intro ks
      induction ks with
      | nil=>intro us hl _; cases us with | nil=>exact .nil | cons _ _=>simp at hl
      | cons q ks ih =>
       intro us hl hh
       cases us with
       | nil=>simp at hl
       | cons u us=>exact .cons (hh 0 q u rfl rfl) (ih us (by simpa using hl) fun i q' u' e1 e2=>hh (i+1) q' u' (by simpa using e1) (by simpa using e2))
     refine e kvs acc.toList hl.symm fun i q u e1 e2=>?_
     obtain ⟨k',x,ek,hk'⟩:=hacc.2 i u (by rw [← Array.getElem?_toList]; exact e2)
     have:∀ (a:List (Key×V)) (b:List (Key×Value)) (i:Nat) q k' x,KV a b→a[i]?=some q→b[i]?=some (k',x)→q.1=k':=by
      intro a b i q k' x hab
      unfold KV at hab
      induction hab generalizing i with
      | nil=>intro e; simp at e
      | cons r t ih =>
       intro e1 e2
       cases i with
       | zero=>simp at e1 e2; subst e1; have:=r.1; rw [e2] at this; exact this
       | succ i=>exact ih i (by simpa using e1) (by simpa using e2)
     rw [this kvs vs i q k' x rel e1 ek]
     exact is_kV hk'
   ·refine zlb_ hv hk (fun y hy=>?_) hlt h2
    obtain ⟨q,hq,rfl⟩:=List.mem_map.mp hy
    exact hall q hq
   ·have hlu:=hpv us hv
    refine ⟨.ref l,_,I.laid (o:=.lst (idx.map fun i=>(kvs.map fun q=>kV q.1).getD i .non)) (t':=tk) kp hl ?_,rfl,q idx (by rwa [← hlu]) _ (I.hok.fresh hl)⟩
    have hi1:∀ i∈idx,i<us.length:=fun i hi'=>List.mem_range.mp (hi.1.mem_iff.mp hi')
    refine ⟨?_,_,c,zgi_ hv idx hi1,ho⟩
    rw [List.length_map,hi.1.length_eq,List.length_range,sizeLine_eq]
    lia
  ·exact h.elim
end
section
variable {α β γ κ:Type}{K:Fgg}{E:XK}
theorem ziw_ [DecidableEq κ] {KY:KyT κ}{T:Ty α}{k:Nat}{lt:κ→κ→Bool}(f:FlT KY.T k lt) (o:LOr lt) (hk:∀ x F,KY.T.R x (kV (KY.key x)) F) :
  BlO K (mSortD K) E (csLast (tyD KY T)) (fun m=>.grd (m.length<64) (.ok (srtL lt (m.map (·.1))))) (owL KY.T):=by
 rintro m vs F H Q hs ⟨v,rfl,p,kvs,rfl,h,r⟩ q
 have hl:m.length=kvs.length:=Paired.length r
 have pr:Prs KY.T F (m.map (·.1)) (kvs.map fun q=>kV q.1):=by
  clear h hl q
  induction r with
  | nil=>exact .nil
  | cons a t ih=>rename_i q w m kvs; rw [List.map_cons,List.map_cons,a.1]; exact .cons (hk _ _) ih
 obtain ⟨h64,q⟩:=q.grd
 have all:∀ q∈kvs,knd (kV q.1)=k:=fun q hq=>by
  obtain ⟨i,e⟩:=List.mem_iff_getElem?.mp (List.mem_map_of_mem (f:=fun q:Key×V=>kV q.1) hq)
  obtain ⟨x,_,rx⟩:=zjh_ pr i _ e
  exact (f.2 x _ F rx).1
 cases m with
 | nil =>
  cases r
  refine .inr ⟨[],1,fun _ _=>false,hs _ _ h,by decide,⟨(fun h=>by cases h),(fun _ _=>rfl)⟩,by decide,(fun y hy=>by cases hy),(fun i j x y e=>by simp at e),fun idx hi l hl=>?_⟩
  have:idx=[]:=by have:=hi.1.length_eq; simpa using this
  subst this
  rw [show srtL lt (([]:List (κ×α)).map (·.1))=[] by simp [srtL]] at q
  exact zdb_ hs hl (xs:=[]) .nil q
 | cons x xs =>
  refine .inr ⟨kvs,k,fun i j=>lt (((x::xs).map (·.1)).getD i x.1) (((x::xs).map (·.1)).getD j x.1),hs _ _ h,by lia,znS_ o _,f.1,all,fun i j a b ea eb=>?_,fun idx hi l hl2=>?_⟩
  ·obtain ⟨a',ea',ra⟩:=zjh_ pr i a ea
   obtain ⟨b',eb',rb⟩:=zjh_ pr j b eb
   show lt (((x::xs).map (·.1)).getD i x.1) (((x::xs).map (·.1)).getD j x.1)=_
   rw [List.getD_eq_getElem?_getD,List.getD_eq_getElem?_getD,ea',eb']
   exact ((f.2 a' a F ra).2 b' b F rb).1.symm
  ·rw [← hl,← List.length_map (f:=(·.1))] at hi
   have e:=ziT_ o hi
   rw [← e] at q
   refine zdb_ hs hl2 (zkL_ pr x.1 idx fun i hi'=>?_) q
   have:=List.mem_range.mp (hi.1.mem_iff.mp hi')
   rw [List.length_map] at this ⊢
   lia
theorem zoh_ (x:Int) (F:Hp):(kInt).T.R x (kV (kInt.key x)) F:=rfl
end
end L2
namespace L2
open PySem PySem.Spec PyProof.Rows PySem.W
section
variable {prog:Program}{w:World}{A:Around}{E:Value→Shared→Prop}{s:Shared}{z ti to i j:Addr}{f g:List Addr}{n1 n2 k:Nat}{P1 P2:Nat→Value→Prop}{S1 S2:Nat→Heap→Prop}{a b:Value}
end
end L2
namespace L2
open PySem PySem.Spec PyProof.Rows PySem.W
section
variable {prog:Program}{w:World}{A:Around}{E:Value→Shared→Prop}{s:Shared}
end
section
variable {X:Cx}{elts:List Expr}{kk:Nat}{tpos:Pos}
end
section
variable {K:Fgg}{E:XK}{α β:Type}{L:List Sl}{T:Ty α}
end
end L2
namespace L2
open PySem PySem.Spec PyProof.Rows
section
variable {K:Fgg}{E:XK}{α β γ ρ S B:Type}{F0 H0 F h H:Hp}{L:List Sl}{e:TE}{T:Ty α}{r:Mo α}{O:Own ρ}{u:TS}{LS:S→List Sl}{LB:B→List Sl}
end
section
variable {K:Fgg}{E:XK}{α β γ ρ S B:Type}{F0 H0 F h H:Hp}{L:List Sl}{e:TE}{T:Ty α}{r:Mo α}{O:Own ρ}{u:TS}{LS:S→List Sl}{LB:B→List Sl}{p:Addr}{vs:List V}
end
end L2
namespace L2
open PySem PySem.Spec PyProof.Rows
section
variable {α β γ:Type}
variable {O:Own α}
end
section
variable {K:Fgg}{E:XK}{α β γ ρ S B:Type}{F0 H0 F h H:Hp}{L:List Sl}{e te ei:TE}{T:Ty α}{r:Mo α}{Or:Own ρ}{u:TS}{LS:S→List Sl}{LB:B→List Sl}{σ:St}
end
end L2
namespace L2
open PySem PySem.Spec PyProof.Rows
section
variable {X:Cx}{e value o:Expr}{es:List Expr}{f m x:Str}{p pos pos' apos:Pos}{ta tv:TE}{t:TA}{C:Addr}{k:Nat}{ps:List Str}{sp:Sp}
end
section
variable {α β γ:Type}
end
section
variable {K:Fgg}{E:XK}{α β γ δ ρ S B:Type}{F0 H0 F h H:Hp}{L:List Sl}{e te ei:TE}{T:Ty α}{r:Mo α}{Or:Own ρ}{u:TS}{LS:S→List Sl}{LB:B→List Sl}{σ:St}{C:Addr}{ns:List Str}{f:Str}{i n:Nat}
end
end L2
namespace L2
open PySem PySem.Spec PyProof.Rows
section
variable {K:Fgg}{E:XK}{α β γ δ ρ ρ' S B:Type}{F0 H0 F h H:Hp}{L:List Sl}{e te ei:TE}{T:Ty α}{r:Mo α}{Or:Own ρ}{t u:TS}{LS:S→List Sl}{LB:B→List Sl}{σ:St}{C:Addr}{ns:List Str}{f m:Str}{i n:Nat}
end
end L2
namespace L2
open PySem PySem.Spec PyProof.Rows
section
variable {K:Fgg}{E:XK}{α β γ δ ρ ρ' S B:Type}{F0 H0 F h H:Hp}{L:List Sl}{e te ei:TE}{T:Ty α}{r:Mo α}{Or:Own ρ}{t u:TS}{LS:S→List Sl}{LB:B→List Sl}{σ:St}{C:Addr}{ns:List Str}{f m:Str}{i n:Nat}
end
end L2
namespace L2
open PySem PySem.Spec PyProof.Rows
section
variable {K:Fgg}{E:XK}{γ:Type}{L:List Sl}{C:Addr}{ns:List Str}
end
end L2
namespace L2
open PySem PySem.Spec PyProof.Rows
end L2
namespace L2
open PySem PySem.Spec PyProof.Rows
section
variable {X:Cx}
noncomputable def mTrL (K:Fgg) (t:TE):TT:=fun σ H Q=>t σ H fun x H'=>match x with
 | .bl k=>Q k H'
 | .ref a=>∃ xs,SqL K H' a xs∧Q (!xs.isEmpty) H'
 | _=>False
theorem znk_ {e:Expr}{t:TE}(h:PE X e t) (he:∀ whole,isTrue e X.env whole=(do let v ← whole; standAt e.pos; holding [v] (truthy v)):=by intro _; rfl):PT X e (mTrL X.K t):=by
 intro pins s σ H Q I hw
 refine isTrue_plain (thn (h pins s σ H _ I hw) fun v s1 ⟨x,H1,I1,r1,q1⟩=>?_) (he _)
 cases x with
 | bl c=>cases r1; exact wpAny_truthy_bool ⟨H1,I1,q1⟩
 | ref a =>
  cases r1
  obtain ⟨xs,hq,q⟩:=q1
  obtain ⟨its,rv,p,hz⟩:=I1.list hq
  have hl:=rv.length
  refine wpAny_truthy_list p.isList (by rw [List.size_toArray,← hl]; rw [sizeLine_eq] at hz; lia) ?_
  have e:its.isEmpty=xs.isEmpty:=by cases rv<;>rfl
  refine ⟨H1,I1.tok _,?_⟩
  simpa [e] using q
 | _=>exact q1.elim
end
section
variable {K:Fgg}{E:XK}{α β:Type}{L:List Sl}{e:TE}{T:Ty α}
theorem zmB_ {b:Mo Bool}(h:EvF K e E L b tyBl):EvT K (mTrL K e) E L b:=by
 intro σ F H Q hL hs q
 refine h σ F H _ hL hs (q.imp fun a F1 H1 x k v hv=>?_)
 cases hv
 exact k
theorem zl0_ {r:Mo (Option α)}(h:EvF K e E L r (tyOpt T)):EvF K e E L (r.bind fun o=>Mo.opt o) T:=by
 intro σ F H Q hL hs q
 refine h σ F H _ hL hs (q.bind.imp fun o F1 H1 x k v hv=>?_)
 cases o with
 | none=>exact k.elim
 | some a=>exact k.ok x.2.1 v hv.1
end
end L2
namespace L2
open PySem PySem.Spec PyProof.Rows
end L2
namespace L2
open PySem PySem.Spec PyProof.Rows
section
variable {prog:Program}{w:World}{A:Around}{E:Value→Shared→Prop}{s:Shared}
end
section
variable {X:Cx}
end
section
variable {K:Fgg}{E:XK}{α β γ ρ S B:Type}{F H:Hp}{L:List Sl}{e:TE}{T:Ty α}
end
end L2
namespace L2
open PySem PySem.Spec PyProof.Rows
section
variable {α β γ:Type}
end
section
variable {K:Fgg}{E:XK}{α β γ δ ρ ρ' S B:Type}{F0 H0 F h H:Hp}{L:List Sl}{e te ei:TE}{T:Ty α}{r:Mo α}{Or:Own ρ}{t u:TS}{LS:S→List Sl}{LB:B→List Sl}{σ:St}{C:Addr}{ns:List Str}{f m:Str}{i n w:Nat}
end
end L2
namespace L2
open PySem PySem.Spec PyProof.Rows
section
variable {K:Fgg}{E:XK}{α β γ δ ρ ρ' S B:Type}{F0 H0 F h H:Hp}{L:List Sl}{e te ei tc:TE}{T:Ty α}{r:Mo α}{Or:Own ρ}{Or':Own ρ'}{t u:TS}{LS:S→List Sl}{LB:B→List Sl}{σ:St}{C:Addr}{ns:List Str}{f m:Str}{i n w j:Nat}
end
end L2
namespace L2
open PySem PySem.Spec PyProof.Rows
section
variable {K:Fgg}{E:XK}{α β γ δ ρ ρ' S B:Type}{F0 H0 F h H:Hp}{L:List Sl}{e te ei tc:TE}{T:Ty α}{r:Mo α}{Or:Own ρ}{Or':Own ρ'}{t u:TS}{LS:S→List Sl}{LB:B→List Sl}{σ:St}{C:Addr}{ns:List Str}{f m:Str}{i n w j:Nat}
end
end L2
namespace L2
open PySem PySem.Spec PyProof.Rows
section
variable {K:Fgg}{E:XK}{L:List Sl}
end
section
variable {K:Fgg}{E:XK}{α β ρ B:Type}{F0 H0 F h H:Hp}{L:List Sl}{te:TE}{Or:Own ρ}{tb:TS}{LB:B→List Sl}{i w:Nat}
end
end L2
namespace L2
open PySem PySem.Spec PyProof.Rows
section
variable {K:Fgg}{E:XK}{α β γ δ ρ ρ' S B:Type}{F0 H0 F h H:Hp}{L:List Sl}{e te ei tc:TE}{ta:TA}{T:Ty α}{r:Mo α}{Or:Own ρ}{Or':Own ρ'}{t u:TS}{LS:S→List Sl}{LB:B→List Sl}{σ:St}{C:Addr}{ns:List Str}{f m:Str}{i n w j:Nat}
end
end L2
namespace L2
open PySem PySem.Spec PyProof.Rows
section
variable {K:Fgg}{E:XK}{α κ:Type} [DecidableEq κ] {KY:KyT κ}{L:List Sl}{e1 e2 e3:TE}{T:Ty α}
theorem zlw_ {r1:Mo (List (κ×α))}{r2:Mo κ}{r3:Mo α}(h1:EvF K e1 E L r1 (tyD KY T)) (h2:EvF K e2 E L r2 KY.T) (h3:EvF K e3 E L r3 T):EvF K (mDGet2 e1 e2 e3) E L (r1.bind fun m=>r2.bind fun k=>r3.bind fun d=>.ok ((getA m k).getD d)) T:=by
 intro σ F H Q hL hs q
 refine h1 σ F H _ hL hs (q.bind.imp fun m F1 H1 x1 k1 v1 hv1=>?_)
 obtain ⟨p0,kvs0,rfl,hp0,hd0⟩:=id hv1
 refine ⟨⟨kvs0,x1.2.1 _ _ hp0⟩,?_⟩
 refine h2 σ F1 H1 _ (hL.mono x1.1) x1.2.1 (k1.bind.imp fun k F2 H2 x2 k2 v2 hv2=>?_)
 refine h3 σ F2 H2 _ ((hL.mono x1.1).mono x2.1) x2.2.1 (k2.bind.imp fun d F3 H3 x3 k3 v3 hv3=>?_)
 refine at_d ((tyD KY T).mono (x2.1.trans x3.1) hv1) (KY.T.mono x3.1 hv2) x3.2.1 fun p kvs hp hd=>?_
 rcases zed_ hd k with ⟨z,z2⟩ | ⟨a',v,z1,z2,z3⟩
 ·rw [z] at k3; rw [z2]; exact k3.ok x3.2.1 _ hv3
 ·rw [z1] at k3; rw [z2]; exact k3.ok x3.2.1 _ z3
end
section
variable {K:Fgg}{E:XK}{α β ρ ρ' B:Type}{L:List Sl}{te:TE}{Or:Own ρ}{Or':Own ρ'}{LB:B→List Sl}{C:Addr}{ns:List Str}{m:Str}{i w:Nat}
end
end L2
namespace L2
open PySem PySem.Spec PyProof.Rows
section
variable {K:Fgg}{E:XK}{α β γ δ ρ ρ' S B:Type}{F0 H0 F h H:Hp}{L:List Sl}{e te te2 tc:TE}{ta:TA}{T:Ty α}{r:Mo α}{Or:Own ρ}{Or':Own ρ'}{t u:TS}{LS:S→List Sl}{LB:B→List Sl}{σ:St}{C:Addr}{ns:List Str}{f m:Str}{i n w j:Nat}
end
theorem atF {K:Fgg}{E:XK}{α:Type}{e:TE}{r:Mo α}{T:Ty α}(L:List Sl) (h:EvF K e E L r T):EvF K e E L r T:=h
end L2
namespace L2
open PySem PySem.Spec PyProof.Rows
noncomputable def Itv (K:Fgg) (a:Addr) (n:Nat):It :=
 ⟨fun i H=>∃ xs,SqL K H a xs∧xs.length=n∧i<n,fun i H x H'=>H'=H∧∀ xs,SqL K H a xs→xs[n-1-i]?=some x,fun i H=>n≤i⟩
theorem zlC_ {P:Program}{w:World}{K:Fgg}{tg:Expr}(a it:Addr) (n:Nat):Turn P w K tg (Itv K a n) [it] it (fun i h=>i≤n∧h.IsRevIter it a ((n:Int)-1-(i:Int))) where
 mem:=by simp
 obj:=fun i h st b hb=>by
  have e:b=it:=by simpa using hb
  subst e
  obtain ⟨_,o,e,c,d⟩:=st
  exact ⟨o,e,fun v z=>by rw [d] at z; cases z⟩
 keep:=fun i h h' st k=>⟨st.1,st.2.at fun o e=>k it (by simp) o e⟩
 item:=by
  intro X hP hw hK hc i pins s σ H E I hf st hg
  subst hP hw hK
  obtain ⟨xs,hq,hn,hi⟩:=hg
  obtain ⟨its,rv,p,hz⟩:=I.list hq
  obtain ⟨x,hx⟩:∃ x,xs[n-1-i]?=some x:=⟨_,List.getElem?_eq_getElem (by lia)⟩
  obtain ⟨u,hu,ru⟩:=rv.get hx
  obtain ⟨f0,f1,f2,f3,f4,f5⟩:=hf it (by simp)
  have e:(n:Int)-1-(i:Int)=((n-1-i:Nat):Int):=by lia
  have e2:((n-1-i:Nat):Int)-1=(n:Int)-1-((i+1:Nat):Int):=by lia
  have hit:=st.2
  rw [e] at hit
  refine wpAny_pyNext_rev_item hit p.isList (x:=u) (by simpa using hu) fun h' st' sb=>?_
  rw [e2] at st'
  have I1:Inv X pins σ H { s with heap:=h' }:=I.turned (t':=s.toks) (fun b o hb e=>(sb.2 b hb).trans e) f0 f1 f3 f4 f5
  obtain ⟨o,eo,c,d⟩:=id st'
  exact ⟨u,rfl,zmI_ (s:={ s with heap:=h' }) eo c d (by decide) ⟨x,H,I1,ru,⟨rfl,fun ys hy=>by rw [I.list_inj hy hq]; exact hx⟩,⟨hi,st'⟩,fun b hb=>(hf b hb).1⟩⟩
 done:=by
  intro X hP hw hK hc i pins s σ H E I hf st hg
  subst hP hw hK
  obtain ⟨f0,f1,f2,f3,f4,f5⟩:=hf it (by simp)
  have hi:n≤i:=hg
  have ei:i=n:=Nat.le_antisymm st.1 hi
  subst ei
  have e:(i:Int)-1-(i:Int) = -1:=by lia
  have hit:=st.2
  rw [e] at hit
  exact wpAny_pyNext_rev_end (I.ok.hd hc) hit fun h' eb=>⟨rfl,I.turned (t':=s.toks) (fun b o hb e=>eb b o hb e) f0 f1 f3 f4 f5⟩
 self:=fun _ _ _ _ _ st h=>wpAny_pyIter_revIter st.2 h
noncomputable def iRev (K:Fgg) (ta:TA):TI:=fun σ H R=>ta σ H fun vs H1=>match vs with
 | [.ref a]=>∃ xs,SqL K H1 a xs∧R (Itv K a xs.length) H1
 | _=>False
section
variable {X:Cx}{tg:Expr}
theorem zok_ {a:Expr}{ta:TA}{p pos:Pos}(hm:Gb X.mg "reversed") (ha:PA X [a] ta) (hg:Gl X "reversed" := by rfl) (hs:starEach [a] X.env=[(false,eval a X.env)]:=by rfl) :
  PI X tg (.Call (.Name "reversed" p) [a] [] pos) (iRev X.K ta):=by
 intro pins s σ H R I h
 refine Call_ (zg4_ I hg hm (u:=.type "reversed") (by rfl) (PyProof.Rows.callWith_type1 (thn (ha pos pins s σ H _ I h) fun us s1 ⟨vs,H1,I1,r1,q1⟩=>?_) hs rfl))
 dsimp only at q1
 split at q1
 ·rename_i l
  obtain ⟨xs,hq,q⟩:=q1
  cases r1 with
  | cons r rr =>
   cases rr
   cases r
   obtain ⟨its,rv,p,hz⟩:=I1.list hq
   refine call_reversed_list p.isList ?_
   have hl:(its.toArray.size:Int)-1=(xs.length:Int)-1-((0:Nat):Int):=by
    have:=rv.length
    simp; lia
   have hit:Heap.IsRevIter (s1.heap.push (revObj l ((its.toArray.size:Int)-1))) s1.heap.objs.size l ((xs.length:Int)-1-((0:Nat):Int)):=⟨_,Heap.get?_push_size _ rfl,rfl,by rw [← hl]; rfl⟩
   refine wpAny_pyIter_revIter (s:={ s1 with heap:=s1.heap.push (revObj l ((its.toArray.size:Int)-1)) }) hit ?_
   refine ⟨s1.heap.objs.size,[s1.heap.objs.size],_,_,H1,rfl,I1.kept (t':=s1.toks) fun b o e=>Heap.get?_push_of_some _ e,zlC_ l _ xs.length,⟨Nat.zero_le _,hit⟩,fun b hb=>?_,q⟩
   have e:b=s1.heap.objs.size:=by simpa using hb
   subst e
   exact I1.fpOk (Nat.le_refl _) (I1.hok.fresh (Nat.le_refl _))
 ·exact q1.elim
end
section
variable {K:Fgg}{E:XK}{α β:Type}{L:List Sl}{T:Ty α}
theorem zoo_ {r:Mo (List α)}{ta:TA}(h:EvA K ta E L r (csLast (tyL T))):EvI K (iRev K ta) E L (r.bind fun l=>.ok l.reverse) T:=by
 intro σ F H R hL hs q
 refine h σ F H _ hL hs (q.bind.imp fun l F1 H1 x1 k1 vs hv=>?_)
 obtain ⟨v,rfl,p,us,rfl,hp,hr⟩:=hv
 have hlen:l.length=us.length:=hr.len
 refine ⟨us,.of (x1.2.1 _ _ hp),k1.ok x1.2.1 _ ⟨fun i H x hH hx=>?_,fun H hH=>?_⟩⟩
 ·obtain ⟨hi,_⟩:=List.getElem?_eq_some_iff.mp hx
  rw [List.length_reverse] at hi
  rw [List.getElem?_reverse hi] at hx
  rcases hr.get (l.length-1-i) with ⟨a,_⟩ | ⟨y,u,a,b,c⟩
  ·rw [a] at hx; cases hx
  ·rw [a] at hx; cases hx
   refine ⟨⟨us,.of (hH _ _ hp),rfl,by lia⟩,?_⟩
   rintro v H' ⟨rfl,z⟩ F hF hF'
   have e:=z us (.of (hH _ _ hp))
   rw [← hlen,b] at e; cases e
   exact ⟨F,.refl hF',T.mono hF c⟩
 ·show us.length≤_
  rw [List.length_reverse,hlen]; exact Nat.le_refl _
end
noncomputable def mSetD (td ty tz:TE):TE:=fun σ H Q=>td σ H fun x H1=>(match x with | .ref a=>∃ kvs,H1 a=some (.dK kvs) | _=>False)∧ty σ H1 fun y H2=>tz σ H2 fun z H3=>atD x y H3 fun a kvs k =>
 match valV kvs k with | some v=>Q v H3 | none=>kvs.length<sizeLine∧Q z (upd H3 a (.dK (putK kvs k z)))
section
variable {X:Cx}{o e f:Expr}{apos cpos:Pos}{td ty tz:TE}
theorem zi0_ (hu:X.A.units+60<cLine) (ho:PE X o td) (he:PE X e ty) (hf:PE X f tz) (m:M2 X o "setdefault" apos e f cpos:=by exact ⟨rfl,rfl,rfl,rfl⟩):PE X (.Call (.Attribute o "setdefault" apos) [e,f] [] cpos) (mSetD td ty tz):=by
 intro pins s σ H Q I h
 refine wpAny_Call_method m.base m.few m.line PySem.F.plainAttrs_dict PySem.F.slot_dict_setdefault PySem.F.type_dict_setdefault (thn (ho pins s σ H _ I h) fun u s1 ⟨x,H1,I1,rx,hx,q1⟩=>?_)
 cases x with
 | ref a =>
  obtain ⟨kvs0,hd0⟩:=hx
  obtain rfl:u=Value.ref a:=rx
  obtain ⟨t1,t2,_⟩:=zlT_ I1 (.inl ⟨kvs0,.inl hd0⟩)
  refine ⟨t1,t2,?_⟩
  rw [m.trees]
  refine Calls.callWith_builtin rfl (Calls.evalArgs_plain (Calls.spliced_cons (thn (he pins s1 σ H1 _ I1 q1) fun iv s2 ⟨y,H2,I2,ry,q2⟩ =>
   Calls.spliced_cons (thn (hf pins s2 σ H2 _ I2 q2) fun fv s3 ⟨z,H3,I3,rz,q3⟩=>Calls.spliced_nil ?_))))
  obtain ⟨a',kvs,k,ea,rfl,hd,q⟩:=zhz_ q3
  cases ea
  obtain ⟨hz,hsys,vs,rel,dd⟩:=zmd_ I3.hok hd
  have hzv:vs.length≤sizeLine:=by rw [← rel.length]; exact hz
  have rk:=rel.val k
  refine call_meetsIn PySem.F.slot_dict_setdefault dd.typeIs PySem.F.entry_dict_setdefault (PySem.F.args_dict_setdefault_3 _ _ _) (kt_meets_setdefault (mixKind X.prog X.w) a (zmb_ ry) hsys fv) ⟨vs,dd,hzv,fun v hv=>?_,fun hn h' dd' hs=>?_⟩
  ·rw [hv] at rk
   cases g:valV kvs k with
   | none=>rw [g] at rk; exact rk.elim
   | some v0=>rw [g] at rk q; exact ⟨v0,H3,I3.tok _,rk,q⟩
  ·rw [hn] at rk
   cases g:valV kvs k with
   | some v0=>rw [g] at rk; exact rk.elim
   | none =>
    rw [g] at q
    have hl:(putK kvs k z).length≤sizeLine:=by have:=zds_ kvs k z; have:=q.1; lia
    have hq:∃ q,h'.get? a=some q:=let ⟨q,_,_,hq,_⟩:=dd'; ⟨q,hq⟩
    exact ⟨z,_,zi5_ I3 (by rw [hd]; exact True.intro) hs hq (zmX_ hl hsys (rel.put k rz) dd'),rz,q.2⟩
 | _=>exact hx.elim
end
section
variable {K:Fgg}{E:XK}{α β γ ρ κ S B:Type}{F0 H0 F h H:Hp}{L:List Sl}{T:Ty α}{O:Own ρ}{t u:TS}{LS:S→List Sl}{LB:B→List Sl}{KY:KyT κ} [DecidableEq κ]
noncomputable def sdA (m:List (κ×α)) (k:κ) (d:α):α×List (κ×α):=match getA m k with | some a=>(a,m) | none=>(d,putA m k d)
theorem zoL_ {i:Nat}{m:List (κ×α)}{rk:Mo κ}{rv:Mo α}{rc:α×List (κ×α)→Mo α}{ek ev ec:TE}{R:R2}{g:α→α→Mo Bool}{r1 r2:α×List (κ×α)→Mo (Out ρ B S)}
  (hi:L[i]?=some (.ow (owD KY T) m)) (hT:Imm T) (hKT:Imm KY.T) (hk:EvF K ek E L rk KY.T) (hv:EvF K ev E L rv T) (hop:Op2 K R E T T g tyBl)
  (hc:∀ q:α×List (κ×α),EvF K ec E (L.set i (.ow (owD KY T) q.2)) (rc q) T) (h1:∀ q:α×List (κ×α),EvS K t E (L.set i (.ow (owD KY T) q.2)) (r1 q) LS LB O) (h2:∀ q:α×List (κ×α),EvS K u E (L.set i (.ow (owD KY T) q.2)) (r2 q) LS LB O) :
  EvS K (mIfS (mTest (tOp R (mSetD (mVar i) ek ev) ec)) t u) E L (rk.bind fun k=>rv.bind fun d=>.lim (m.length+1) ((Mo.ok (sdA m k d)).bind fun q=>(rc q).bind fun c=>(g q.1 c).bind fun b=>if b then r1 q else r2 q)) LS LB O:=by
 intro F0 H0 σ F h H D hL ok fin
 obtain ⟨p,kvs,e1,hp,hr,_⟩:=zcu_ hL hi ok
 show mVar i σ H fun x H1=>(match x with | .ref a=>∃ kvs,H1 a=some (.dK kvs) | _=>False)∧ek σ H1 fun y H2=>ev σ H2 fun z H3=>atD x y H3 fun a kvs k =>
  match valV kvs k with
  | some v=>ec σ H3 fun w H4=>R v w H4 fun x H5=>match x with | .bl k=>br k (t D σ H5) (u D σ H5) | _=>False
  | none=>kvs.length<sizeLine∧ec σ (upd H3 a (.dK (putK kvs k z))) fun w H4=>R z w H4 fun x H5=>match x with | .bl k=>br k (t D σ H5) (u D σ H5) | _=>False
 refine zdz_ e1 ⟨⟨kvs,hp⟩,?_⟩
 refine hk σ (un F h) H _ (hL.froz ok.2.1) ok.thaw (zbg_ (G:=F) ok _ (.inl rfl) fin fun y F1 H1 hry x1 v1 hv1=>?_)
 obtain ⟨o,hs,ht⟩:=ok.back x1
 rw [hry] at fin
 have hL':=hL.mono hs
 have hv1':=hKT ht hv1
 refine hv σ (un _ h) H1 _ (hL'.froz o.2.1) o.thaw (zbg_ (G:=F) o _ (.inl rfl) fin fun d F2 H2 hrd x2 v2 hv2=>?_)
 obtain ⟨o',hs',ht'⟩:=o.back x2
 rw [hrd] at fin
 obtain ⟨hz,fin⟩:=zdZ_ (show Fin K (Mo.lim (m.length+1) ((Mo.ok (sdA m y d)).bind fun q=>(rc q).bind fun c=>(g q.1 c).bind fun b=>if b then r1 q else r2 q)) E LS LB O F0 H0 D from fin)
 have hL2:=hL'.mono hs'
 obtain ⟨p',kvs',e1',hp',hr',mm⟩:=zcu_ hL2 hi o'
 rw [e1] at e1'; cases e1'
 have hv2':=hT ht' hv2
 have tail:∀ (q:α×List (κ×α)) (va:V) (h' H':Hp),sdA m y d=q→Hold (L.set i (.ow (owD KY T) q.2)) σ (less F2 h) h'→Okk F0 H0 (less F2 h) h' H'→T.R q.1 va (less F2 h) →
   ec σ H' fun w H3=>R va w H3 fun x H4=>match x with | .bl k=>br k (t D σ H4) (u D σ H4) | _=>False:=by
  intro q va h' H' hq hLq okq hva
  have fq:Fin K ((rc q).bind fun c=>(g q.1 c).bind fun b=>if b then r1 q else r2 q) E LS LB O F0 H0 D:=by rw [← hq]; exact fin
  refine hc q σ (un _ h') H' _ (hLq.froz okq.2.1) okq.thaw (zbg_ (G:=F) okq _ (.inl rfl) fq fun c F3 H3 hrc x3 w hw=>?_)
  obtain ⟨o3,hs3,ht3⟩:=okq.back x3
  rw [hrc] at fq
  have fq':Fin K ((g q.1 c).bind fun b=>if b then r1 q else r2 q) E LS LB O F0 H0 D:=fq
  refine hop q.1 c va w _ H3 _ o3.1.2.1 (T.mono hs3 hva) (hT ht3 hw) (zbg_ (G:=F) o3 _ (.inr rfl) fq' fun b F4 H4 hrb x4 v4 hv4=>?_)
  cases hv4
  rw [hrb] at fq'
  have f4:Fin K (if b then r1 q else r2 q) E LS LB O F0 H0 D:=fq'
  have L4:=(hLq.mono hs3).mono x4.1
  have o4:=o3.cold x4
  refine ⟨fun z=>?_,fun z=>?_⟩
  ·rw [if_pos z] at f4; exact h1 q F0 H0 σ _ h' H4 D L4 o4 f4
  ·rw [if_neg (by rw [z]; decide)] at f4; exact h2 q F0 H0 σ _ h' H4 D L4 o4 f4
 unfold atD
 simp only
 rw [KY.of (KY.T.mono hs' hv1')]
 refine ⟨kvs',hp',?_⟩
 rcases zed_ hr' y with ⟨g1,g2⟩ | ⟨a,va,g1,g2,g3⟩
 ·rw [g2]
  obtain ⟨h',a1,a2⟩:=mm (putA m y d) (putK kvs' (KY.key y) v2) (zhZ_ hr' y hv2')
  refine ⟨?_,tail (d,putA m y d) v2 h' _ (by unfold sdA; rw [g1]) a1 a2 hv2'⟩
  have:=Paired.length hr'
  lia
 ·rw [g2]
  refine tail (a,m) va h H2 (by unfold sdA; rw [g1]) ?_ o' g3
  show Hold (L.set i (.ow (owD KY T) m)) σ (less F2 h) h
  rw [zgI_ hi]; exact hL2
end
end L2
namespace L2
open PySem PySem.Spec PyProof.Rows
section
variable {X:Cx}{pins:Pnn}{σ:St}{H:Hp}{s:Shared}{d:Addr}{o:Obj}{kvs:List (Key×V)}
end
section
variable {X:Cx}{e:Expr}{te:TE}{apos cpos pos tpos:Pos}{elts:List Expr}{kk:Nat}
end
section
variable {F0 H0 F1 H1 F h H:Hp}{d:Addr}{o:Obj}{u:HO}
end
section
variable {K:Fgg}{E:XK}{α β γ ρ κ S B:Type}{L Li:List Sl}{T:Ty α}{O:Own ρ}{LB:B→List Sl}{KY:KyT κ}
theorem zmm_ [DecidableEq κ] {a:List (κ×α)}{v:V}{F:Hp}(h:(tyD KY T).R a v F):v≠.non:=by obtain ⟨p,vs,rfl,_⟩:=h; exact fun z=>V.noConfusion z
end
end L2
namespace L2
open PySem PySem.Spec PyProof.Rows
section
variable {K:Fgg}{E:XK}{α β γ ρ κ S B:Type}{F0 H0 F h H:Hp}{L:List Sl}{T:Ty α}{O:Own ρ}{t u:TS}{e e1 e2:TE}{LS:S→List Sl}{LB:B→List Sl}{KY:KyT κ}
theorem zfD_ {i:Nat}{o:Option α}{k:α→Mo (Out ρ B S)}(hi:L[i]?=some (.fz (tyOpt T) o)) (hk:∀ a,EvS K u E (L.set i (.fz T a)) (k a) LS LB O):EvS K u E L ((Mo.opt o).bind k) LS LB O:=by
 cases o with
 | none=>exact fun F0 H0 σ F h H D hL ok fin=>fin.elim
 | some a =>
  intro F0 H0 σ F h H D hL ok fin
  refine hk a F0 H0 σ F h H D ?_ ok fin
  obtain ⟨o,h1,h2,e1,j,⟨v,e2,r,_⟩,f⟩:=hL.at i hi
  subst e2
  have g:=f (.fz T a) (some v) h1 h j ⟨v,rfl,r⟩
  rw [zdu_ e1] at g
  exact g
theorem zmt_ {c:TT}{rc:Mo Bool}{r1 r2:Mo (Out ρ B S)}(hc:EvT K c E L rc) (h1:EvS K (tRet e1) E L r1 LS LB O) (h2:EvS K (tRet e2) E L r2 LS LB O):EvS K (tRet (mIf c e1 e2)) E L (rc.bind fun b=>if b then r1 else r2) LS LB O:=s_if hc h1 h2
theorem znc_:Op2 K (mNeK K) E (tyOpt tyStr) tyStr (fun a b=>.ok (!decide (a=some b))) tyBl:=by
 rintro a b x y F H Q hs hx rfl k
 cases a with
 | none=>cases (show x=.non from hx); exact k.ok hs _ rfl
 | some a =>
  cases (show x=tx a from hx.1)
  refine k.ok hs _ ?_
  show V.bl _=V.bl _
  congr 2
  rw [decide_eq_decide]
  constructor
  ·intro h
   have h':a=b:=by simpa using h
   rw [h']
  ·intro h
   rw [Option.some.inj h]
variable [DecidableEq κ]
theorem zlc_ {r1:Mo (List (κ×α))}{r2:Mo κ}(hn:∀ a v F,T.R a v F→v≠.non) (h1:EvF K e1 E L r1 (tyD KY T)) (h2:EvF K e2 E L r2 KY.T):EvF K (mDGet1 e1 e2) E L (r1.bind fun m=>r2.bind fun k=>.ok (getA m k)) (tyOpt T):=by
 intro σ F H Q hL hs q
 refine h1 σ F H _ hL hs (q.bind.imp fun m F1 H1 x1 k1 v1 hv1=>?_)
 refine ⟨?_,?_⟩
 ·obtain ⟨p,kvs,rfl,hp,_⟩:=hv1
  exact ⟨kvs,x1.2.1 _ _ hp⟩
 ·refine h2 σ F1 H1 _ (hL.mono x1.1) x1.2.1 (k1.bind.imp fun k F2 H2 x2 k2 v2 hv2=>?_)
  refine at_d ((tyD KY T).mono x2.1 hv1) hv2 x2.2.1 fun p kvs hp hd=>?_
  refine k2.ok x2.2.1 _ ?_
  rcases zed_ hd k with ⟨z1,z2⟩ | ⟨a',v,z1,z2,z3⟩
  ·rw [z1,z2]; rfl
  ·rw [z1,z2]; exact ⟨z3,hn _ _ _ z3⟩
theorem zl4_ {i:Nat}{m:List (κ×α)}{rk:Mo κ}{rv:Mo α}{ek ev:TE}{k:List (κ×α)→Mo (Out ρ B S)}(hi:L[i]?=some (.ow (owD KY T) m)) (hT:Imm T) (hKT:Imm KY.T) (hk:EvF K ek E L rk KY.T) (hv:EvF K ev E L rv T)
  (h1:∀ m',EvS K u E (L.set i (.ow (owD KY T) m')) (k m') LS LB O):EvS K (tSeq (tDrop (mSetD (mVar i) ek ev)) u) E L (rk.bind fun y=>rv.bind fun d=>.lim (m.length+1) ((Mo.ok (sdA m y d).2).bind k)) LS LB O:=by
 intro F0 H0 σ F h H D hL ok fin
 obtain ⟨p,kvs,e1,hp,hr,_⟩:=zcu_ hL hi ok
 show mVar i σ H fun x H1=>(match x with | .ref a=>∃ kvs,H1 a=some (.dK kvs) | _=>False)∧ek σ H1 fun y H2=>ev σ H2 fun z H3=>atD x y H3 fun a kvs k =>
  match valV kvs k with
  | some v=>u D σ H3
  | none=>kvs.length<sizeLine∧u D σ (upd H3 a (.dK (putK kvs k z)))
 refine zdz_ e1 ⟨⟨kvs,hp⟩,?_⟩
 refine hk σ (un F h) H _ (hL.froz ok.2.1) ok.thaw (zbg_ (G:=F) ok _ (.inl rfl) fin fun y F1 H1 hry x1 v1 hv1=>?_)
 obtain ⟨o,hs,ht⟩:=ok.back x1
 rw [hry] at fin
 have hL':=hL.mono hs
 have hv1':=hKT ht hv1
 refine hv σ (un _ h) H1 _ (hL'.froz o.2.1) o.thaw (zbg_ (G:=F) o _ (.inl rfl) fin fun d F2 H2 hrd x2 v2 hv2=>?_)
 obtain ⟨o',hs',ht'⟩:=o.back x2
 rw [hrd] at fin
 obtain ⟨hz,fin⟩:=zdZ_ (show Fin K (Mo.lim (m.length+1) ((Mo.ok (sdA m y d).2).bind k)) E LS LB O F0 H0 D from fin)
 have hL2:=hL'.mono hs'
 obtain ⟨p',kvs',e1',hp',hr',mm⟩:=zcu_ hL2 hi o'
 rw [e1] at e1'; cases e1'
 have hv2':=hT ht' hv2
 unfold atD
 simp only
 rw [KY.of (KY.T.mono hs' hv1')]
 refine ⟨kvs',hp',?_⟩
 rcases zed_ hr' y with ⟨g1,g2⟩ | ⟨a,va,g1,g2,g3⟩
 ·rw [g2]
  obtain ⟨h',a1,a2⟩:=mm (putA m y d) (putK kvs' (KY.key y) v2) (zhZ_ hr' y hv2')
  refine ⟨?_,h1 (putA m y d) F0 H0 σ _ h' _ D a1 a2 ?_⟩
  ·have:=Paired.length hr'
   lia
  ·have e:sdA m y d=(d,putA m y d):=by unfold sdA; rw [g1]
   rw [e] at fin; exact fin
 ·rw [g2]
  have e:sdA m y d=(a,m):=by unfold sdA; rw [g1]
  rw [e] at fin
  refine h1 m F0 H0 σ _ h H2 D ?_ o' fin
  rw [zgI_ hi]; exact hL2
end
noncomputable def mDict:List V→Hp→VK→Prop:=fun xs H Q=>match xs with
 | [.ref a]=>∃ kvs,H a=some (.dK kvs)∧∀ p,H p=none→Q (.ref p) (upd H p (.dK kvs))
 | _=>False
theorem zd1_ {X:Cx}:CallR X (.type "dict") mDict:=by
 intro pins s σ H xs us Q I r h
 unfold mDict at h
 split at h
 ·rename_i a
  obtain ⟨kvs,hd,q⟩:=h
  obtain ⟨u,rfl,rx⟩:=vals1 r
  cases rx
  obtain ⟨z,lo,vs,rel,dd⟩:=zmd_ I.hok hd
  refine kt_call_dict lo dd (by rw [← rel.length]; exact z) fun h' hd' hs=>?_
  refine ⟨.ref s.heap.objs.size,_,I.laid (a:=s.heap.objs.size) (o:=.dK kvs) (t':=s.toks) (fun b o e=>?_) (Nat.le_refl _) ?_,rfl,q _ (I.hok.fresh (Nat.le_refl _))⟩
  ·exact (hs.2 b (Nat.ne_of_lt (Heap.lt_size e))).trans (Heap.get?_push_of_some _ e)
  ·obtain ⟨_,lo',_⟩:=zib_ (P:=X.prog) (w:=X.w) (H:=H) s.heap I.big
   exact ⟨z,lo',vs,rel,hd'⟩
 ·exact h.elim
section
variable {K:Fgg}{E:XK}{α κ:Type}{T:Ty α}{KY:KyT κ} [DecidableEq κ]
theorem zi9_:BlO K mDict E (csLast (tyD KY T)) (fun m=>.ok m) (owD KY T):=by
 rintro c vs F H Q hs ⟨v,rfl,p,kvs,rfl,h,r⟩ q
 refine ⟨kvs,hs _ _ h,fun l hl=>?_⟩
 have q':OwnK (owD KY T) H Q c F (upd H l (.dK kvs)):=q F _ (.heap hs (zcc_ hl _))
 refine q' (.ref l) (one l (.dK kvs)) (fun b z=>?_) (fun b=>?_) (fun b o z=>?_) ⟨l,kvs,rfl,rfl,r⟩
 ·unfold one at z; split at z
  ·rename_i e; rw [e]; exact hl
  ·exact absurd rfl z
 ·unfold one; split
  ·rename_i e; rw [e]; exact .inl (hs.free hl)
  ·exact .inr rfl
 ·unfold one at z; split at z
  ·rename_i e; rw [e]; cases z; exact zaR_
  ·cases z
end
end L2
namespace L2
open PySem PySem.Spec PyProof.Rows
noncomputable def eqDk (ka kb:List (Key×V)):Bool:=ka.length == kb.length && ka.all fun e=>match valV kb e.1 with | some v=>eqV e.2 v | none=>false
noncomputable def IntK (ka:List (Key×V)):Prop:=∀ e∈ka,(∃ i,e.1=Sum.inl i)∧flatV e.2=true
theorem zgJ_ {P P':Program}{w w':World}:∀ {es:List DictEntry}{vs:List (Key×Value)},Pairs (mixKind P w) es vs→Pairs (mixKind P' w') es vs
 | _,_,.nil=>.nil
 | _,_,.cons a b c=>.cons a b (zgJ_ c)
theorem zgy_ {P:Program}{w:World}:∀ {es:List DictEntry}{vs:List (Key×Value)},Pairs (mixKind P w) es vs→∀ e∈es,∃ kv∈vs,keyIs kv.1 e.key=true
 | _,_,.nil,e,h=>by cases h
 | _,_,.cons a b c,e,h=>by
  rcases List.mem_cons.mp h with rfl | h
  ·exact ⟨_,List.mem_cons_self,a⟩
  ·obtain ⟨kv,h1,h2⟩:=zgy_ c e h
   exact ⟨kv,List.mem_cons_of_mem _ h1,h2⟩
theorem zhT_ {P P':Program}{w w':World}{h:Heap}{a:Addr}{vs:List (Key×Value)}(hi:∀ e∈vs,∃ i,e.1=Sum.inl i) (d:h.DictOf (mixKind P w) a vs):h.DictOf (mixKind P' w') a vs:=by
 obtain ⟨o,es,ep,e,c,dd,hk,hp,hn⟩:=d
 refine ⟨o,es,ep,e,c,dd,fun x hx=>?_,zgJ_ hp,hn⟩
 obtain ⟨k,h1,h2⟩:=hk x hx
 obtain ⟨kv,g1,g2⟩:=zgy_ hp x (by simpa using hx)
 obtain ⟨i,ei⟩:=hi kv g1
 have ek:k=kv.1:=(mixKind P w).inj x.key k kv.1 h1 g2
 refine ⟨k,h1,?_⟩
 rw [h2,ek,ei]; rfl
section
variable {X:Cx}{pins:Pnn}{σ:St}{H:Hp}{s:Shared}{A:Around}{p q:Addr}{ka kb:List (Key×V)}
theorem zmO_ {ka:List (Key×V)}{va:List (Key×Value)}(r:KV ka va) (i:IntK ka):∀ e∈va,∃ j,e.1=Sum.inl j:=by
 unfold KV at r
 induction r with
 | nil=>intro e h; cases h
 | cons h t ih =>
  rename_i x y _ _
  intro e he
  rcases List.mem_cons.mp he with rfl | he
  ·obtain ⟨⟨j,ej⟩,_⟩:=i x List.mem_cons_self
   exact ⟨j,by rw [← h.1,ej]⟩
  ·exact ih (fun e he=>i e (List.mem_cons_of_mem _ he)) e he
theorem zmF_ {ka:List (Key×V)}{va:List (Key×Value)}(r:KV ka va):ka.map (·.1)=va.map (·.1):=by
 unfold KV at r
 induction r with
 | nil=>rfl
 | cons h t ih=>rw [List.map_cons,List.map_cons,h.1,ih]
theorem zjy_ {vb:List (Key×Value)}(rb:KV kb vb) (ib:IntK kb):∀ {ka:List (Key×V)}{va:List (Key×Value)},KV ka va→IntK ka→PySem.W.KeqHits A s vb va (ka.all fun e=>match valV kb e.1 with | some v=>eqV e.2 v | none=>false):=by
 intro ka va r
 unfold KV at r
 induction r with
 | nil=>exact fun _=>.nil
 | cons h t ih =>
  rename_i x y ks vs
  intro i
  obtain ⟨k,v⟩:=y
  rw [List.all_cons]
  have rk:=rb.val x.1
  cases g:valV kb x.1 with
  | none =>
   rw [g] at rk
   cases g2:valueAt vb x.1 with
   | none=>rw [Bool.false_and]; exact .miss (by have z:x.1=k:=h.1; rw [← z]; exact g2)
   | some u=>rw [g2] at rk; exact rk.elim
  | some w =>
   rw [g] at rk
   cases g2:valueAt vb x.1 with
   | none=>rw [g2] at rk; exact rk.elim
   | some u =>
    rw [g2] at rk
    have fw:flatV w=true:=by
     unfold valV at g
     obtain ⟨e,he,hw⟩:=Option.map_eq_some_iff.mp g
     rw [← hw]; exact (ib e (List.mem_of_find?_eq_some he)).2
    exact .hit (by have z:x.1=k:=h.1; rw [← z]; exact g2) (zlo_ h.2 rk (i x List.mem_cons_self).2 fw) (ih fun e he=>i e (List.mem_cons_of_mem _ he))
theorem zmY_ (I:Inv X pins σ H s) (hp:H p=some (.dK ka)) (hq:H q=some (.dK kb)) (ia:IntK ka) (ib:IntK kb) (hu:A.units<cLine):SeqAt.RcAt A s (.ref p) (.ref q) (eqDk ka kb):=by
 intro prog w E Q h
 obtain ⟨_,la,va,ra,da⟩:=zmd_ I.hok hp
 obtain ⟨_,lb,vb,rb,db⟩:=zmd_ I.hok hq
 refine PySem.W.keq_eq la lb (zhT_ (zmO_ ra ia) da:s.heap.DictOf (mixKind prog w) p va) (zhT_ (zmO_ rb ib) db:s.heap.DictOf (mixKind prog w) q vb) hu (fun _=>zjy_ rb ib ra ia) ?_
 rw [← ra.length,← rb.length]
 exact h
theorem zjs_ (hn:(ka.map (·.1)).Nodup) (ia:IntK ka):eqDk ka ka=true:=by
 unfold eqDk
 rw [beq_self_eq_true,Bool.true_and,List.all_eq_true]
 intro e he
 have g:valV ka e.1=some e.2:=by
  clear ia
  unfold valV
  induction ka with
  | nil=>cases he
  | cons x ks ih =>
   rw [List.find?_cons]
   rcases List.mem_cons.mp he with rfl | he
   ·simp
   ·have hne:x.1≠e.1:=fun z=>(List.nodup_cons.mp hn).1 (by show x.1∈_; rw [z]; exact List.mem_map.mpr ⟨e,he,rfl⟩)
    rw [decide_eq_false hne]
    exact ih (List.nodup_cons.mp hn).2 he
 rw [g]
 have f:=(ia e he).2
 show eqV e.2 e.2=true
 generalize e.2=v at f
 cases v<;>first | (cases f; done) | (simp [eqV]; done) | rfl
theorem znm_ (I:Inv X pins σ H s) (hp:H p=some (.dK ka)) (hq:H q=some (.dK kb)) (ia:IntK ka) (ib:IntK kb) (hu:A.units<cLine):SeqAt.EqAt A s (.ref p) (.ref q) (eqDk ka kb):=by
 by_cases e:p=q
 ·subst e
  rw [hp] at hq; cases hq
  obtain ⟨_,_,va,ra,o,_,_,_,_,_,_,_,hn⟩:=zmd_ I.hok hp
  rw [zjs_ (by rw [zmF_ ra]; exact hn) ia]
  exact SeqAt.EqAt.same _
 ·exact .of_refs e (zmY_ I hp hq ia ib hu)
end
noncomputable def mEqS (K:Fgg):R2:=fun x y H Q=>match x,y with
 | .non,.non=>Q (.bl true) H
 | .non,.ref q=>(∃ ys,SqT K H q ys)∧Q (.bl false) H
 | .ref p,.non=>(∃ xs,SqT K H p xs)∧Q (.bl false) H
 | .ref p,.ref q=>∃ d1 l1 d2 l2 ka kb n b,SqT K H p [.ref d1,l1]∧SqT K H q [.ref d2,l2]∧H d1=some (.dK ka)∧H d2=some (.dK kb)∧IntK ka∧IntK kb∧n≤50∧EqD K H n l1 l2 b∧Q (.bl (eqDk ka kb && b)) H
 | _,_=>False
theorem zmP_ {X:Cx}(hu:X.A.units+60<cLine):OpR X (compareOp .Eq) (mEqS X.K):=by
 intro pins s σ H x y v u Q I rx ry h
 unfold mEqS at h
 split at h
 ·cases rx; cases ry
  exact SeqAt.RcAt.none_none X.prog X.w X.xe _ ⟨.bl true,H,I,rfl,h⟩
 ·cases rx; cases ry
  obtain ⟨⟨ys,hq⟩,h⟩:=h
  obtain ⟨its,r1,p1,z1⟩:=I.tuple hq
  exact SeqAt.RcAt.none_tuple p1 (by lia) X.prog X.w X.xe _ ⟨.bl false,H,I,rfl,h⟩
 ·cases rx; cases ry
  obtain ⟨⟨ys,hq⟩,h⟩:=h
  obtain ⟨its,r1,p1,z1⟩:=I.tuple hq
  exact SeqAt.RcAt.tuple_none p1 (by lia) X.prog X.w X.xe _ ⟨.bl false,H,I,rfl,h⟩
 ·rename_i p q
  cases rx; cases ry
  obtain ⟨d1,l1,d2,l2,ka,kb,n,b,hp,hq,e1,e2,ia,ib,hn,hl,h⟩:=h
  obtain ⟨its,r1,p1,z1⟩:=I.tuple hp
  obtain ⟨its2,r2,p2,z2⟩:=I.tuple hq
  cases r1 with
  | cons a1 r1 =>
   cases r1 with
   | cons a2 r1 =>
    cases r1
    cases r2 with
    | cons b1 r2 =>
     cases r2 with
     | cons b2 r2 =>
      cases r2
      cases a1; cases b1
      have:=SeqAt.RcAt.tuples (A:=X.A) (e:=fun i=>match i with | 0=>eqDk ka kb | _=>b) (show s.heap.IsTuple p _ from p1) (show s.heap.IsTuple q _ from p2) (by lia) (fun j h1 h2=>by
       have hin:X.A.in1.units=X.A.units+1:=rfl
       match j with
       | 0=>exact znm_ I e1 e2 ia ib (by lia)
       | 1=>exact (zjt_ I hl X.A.in1 _ _ (by lia) a2 b2).1
       | j+2=>exact absurd (show j+2<2 from h1) (by lia))
      exact this X.prog X.w X.xe _ ⟨.bl (eqDk ka kb && b),H,I,by simp [List.range_succ]; rfl,h⟩
 ·exact h.elim
section
variable {K:Fgg}{E:XK}
noncomputable def eqDm (m m':List (Int×List Nat)):Bool:=m.length == m'.length && m.all fun e=>decide (getA m' e.1=some e.2)
noncomputable def eqSn:Option (List (Int×List Nat)×List Int)→Option (List (Int×List Nat)×List Int)→Bool
 | none,none=>true
 | some a,some b=>eqDm a.1 b.1 && eqL (fun a b=>decide (a=b)) a.2 b.2
 | _,_=>false
noncomputable abbrev tySn:Ty (Option (List (Int×List Nat)×List Int)):=tyOpt (tyTup (csCons (tyD kInt tyStr) (csLast (tyL tyInt))))
theorem zkP_ {H:Hp}{m:List (Int×List Nat)}{ka:List (Key×V)}(h:DPr kInt tyStr H m ka):IntK ka:=by
 induction h with
 | nil=>intro e he; cases he
 | cons r t ih =>
  intro e he
  rcases List.mem_cons.mp he with rfl | he
  ·exact ⟨⟨_,r.1⟩,by rw [show _=tx _ from r.2]; rfl⟩
  ·exact ih e he
theorem zn1_ {H:Hp}{m m':List (Int×List Nat)}{ka kb:List (Key×V)}(h:DPr kInt tyStr H m ka) (h':DPr kInt tyStr H m' kb):eqDk ka kb=eqDm m m':=by
 unfold eqDk eqDm
 rw [← Paired.length h,← Paired.length h']
 congr 1
 induction h with
 | nil=>rfl
 | cons r t ih =>
  rw [List.all_cons,List.all_cons,ih]
  congr 1
  rename_i x y _ _
  rw [r.1]
  have e2:y.2=tx x.2:=r.2
  rcases zed_ h' x.1 with ⟨z1,z2⟩ | ⟨a,v,z1,z2,z3⟩
  ·rw [show valV kb (kInt.key x.1)=none from z2,z1]; rfl
  ·rw [show valV kb (kInt.key x.1)=some v from z2,z1,e2,show v=tx a from z3]
   show eqV (tx x.2) (tx a)=decide (some a=some x.2)
   unfold eqV
   rw [Bool.eq_iff_iff,decide_eq_true_iff]
   constructor
   ·intro h
    have h:=eq_of_beq h
    injection h with h
    have:=congrArg Array.toList h
    rw [show a=x.2 by simpa using this.symm]
   ·intro h
    rw [Option.some.inj h]; exact beq_self_eq_true _
theorem zmv_:Op2 K (mEqS K) E tySn tySn (fun a b=>.ok (eqSn a b)) tyBl:=by
 rintro a b x y F H Q hs hx hy k
 cases a with
 | none =>
  cases (show x=.non from hx)
  cases b with
  | none=>cases (show y=.non from hy); exact k.ok hs _ rfl
  | some b =>
   obtain ⟨⟨q,ws,rfl,hq,_⟩,_⟩:=hy
   exact ⟨⟨ws,.inl (.of (hs _ _ hq))⟩,k.ok hs _ rfl⟩
 | some a =>
  obtain ⟨⟨p,us,rfl,hp,v1,us2,rfl,⟨d1,ka,rfl,hd1,r1⟩,v2,rfl,hl1⟩,_⟩:=hx
  cases b with
  | none =>
   cases (show y=.non from hy)
   exact ⟨⟨_,.inl (.of (hs _ _ hp))⟩,k.ok hs _ rfl⟩
  | some b =>
   obtain ⟨⟨q,ws,rfl,hq,w1,ws2,rfl,⟨d2,kb,rfl,hd2,r2⟩,w2,rfl,hl2⟩,_⟩:=hy
   refine ⟨d1,v2,d2,w2,ka,kb,1,_,.inl (.of (hs _ _ hp)),.inl (.of (hs _ _ hq)),hs _ _ hd1,hs _ _ hd2,zkP_ r1,zkP_ r2,by decide,(zkE_ zir_).eq ((tyL tyInt).mono hs hl1) ((tyL tyInt).mono hs hl2),k.ok hs _ ?_⟩
   show V.bl _=V.bl _
   rw [zn1_ r1 r2]; rfl
end
end L2
namespace K18
open PySem PySem.Spec PyProof.Rows L2
theorem S4 {a b c d:Sl}{L L':List Sl}(h:Sub L L'):Sub (a::b::c::d::L) (a::b::c::d::L'):=.same (.same (.same (.same h)))
noncomputable abbrev Qn0:List Str:=["_law_script", "_law_many", "_law_spread", "_law_start", "_law_deck_here", "_law_hero", "_law_ways", "_law_reach", "_law_row", "_law_cell", "_law_made", "_law_at", "_law_other", "_law_handed", "_law_found", "_law_again"]
noncomputable abbrev Qn1:List Str:=["_law_cell", "_law_many", "_law_spread", "_law_signs", "_law_numbers", "_law_deck_here", "_law_k", "_law_text", "_law_at", "_law_step", "_law_mark"]
noncomputable abbrev Qn2:List Str:=["_law_cell", "_law_hero", "_law_start", "_law_reach", "_law_share", "_law_signs", "_law_number", "_law_column"]
noncomputable abbrev Qn3:List Str:=["_law_found", "_law_deck_here", "_law_row", "_law_other"]
noncomputable abbrev Qn4:List Str:=["_law_row", "_law_cells", "_law_ahead", "_law_behind", "_law_k", "_law_one", "_law_way"]
noncomputable abbrev Qn5:List Str:=["signs", "one", "other"]
noncomputable abbrev Qn6:List Str:=["_law_found", "_law_deck_here", "_law_row", "_law_other", "_law_here", "_law_there"]
noncomputable abbrev Qn7:List Str:=["_law_cell", "_law_hero", "_law_start", "_law_reach", "_law_share"]
noncomputable abbrev Qn8:List Str:=["_law_deck_here", "_law_one", "_law_at", "_law_found", "_law_card", "_law_here"]
noncomputable abbrev Qn9:List Str:=["_law_cell", "_law_many", "_law_found", "_law_number", "_law_k"]
noncomputable abbrev Qn10:List Str:=["signs", "one", "other", "shared", "low", "high", "column"]
noncomputable abbrev Qn11:List Str:=["_law_deck_here", "_law_row", "_law_found", "_law_one"]
noncomputable abbrev Qn12:List Str:=["_law_script", "_law_k"]
noncomputable abbrev Qn13:List Str:=["_law_found", "_law_row", "_law_other", "_law_card"]
noncomputable abbrev Qn14:List Str:=["columns", "beginning"]
noncomputable abbrev Qn15:List Str:=["_law_cell", "_law_many", "_law_spread"]
noncomputable abbrev Qn16:List Str:=["row", "other", "sense", "other_sense", "deck"]
noncomputable abbrev Qn17:List Str:=["_law_found", "_law_row", "_law_other"]
noncomputable abbrev Qn18:List Str:=["card", "column"]
noncomputable abbrev Qn19:List Str:=["signs", "others"]
noncomputable abbrev Qn20:List Str:=["signs", "others", "column", "seen"]
noncomputable abbrev Qn21:List Str:=["deck", "column", "pockets", "card"]
noncomputable abbrev Qn22:List Str:=["deck", "row"]
noncomputable abbrev Qn23:List Str:=["_law_deck_here", "_law_one"]
noncomputable abbrev Qn24:List Str:=["_law_deck_here", "_law_row"]
noncomputable abbrev Qn25:List Str:=["signs", "mark"]
noncomputable abbrev Qq0:=(tyTup (csCons (tyD kInt tyStr) (csLast (tyL tyInt))))
noncomputable abbrev Qq1:=(List (Int×(List Nat)))
noncomputable def zbY_ (p_cell:Int) (p_many:Int):Mo (Out (List Int) Unit Unit) :=
 (Mo.bind (Mo.ok ([]:List Int)) fun found_1=>(Mo.bind (Mo.bind (Mo.bind (Mo.ok p_cell) fun a_3=>Mo.bind (Mo.ok (2147483647:Int)) fun b_4=>Mo.grd (0<b_4) (Mo.ok (a_3 % b_4))) fun a_5=>Mo.bind (Mo.ok (48271:Int)) fun b_6=>Mo.ok (a_5+b_6)) fun number_2=>(thenO (S:=(Int×(List Int))) (Mo.bind (Mo.bind (Mo.ok p_many) fun c_8=>Mo.grd (-(2 ^ 62)≤c_8∧c_8<2 ^ 62) (Mo.ok (rngI 0 c_8.toNat))) fun xs_22=>forO (fun (s_7:(Int×(List Int))) x_9=>(Mo.bind (Mo.bind (Mo.bind (Mo.bind (Mo.bind (Mo.ok s_7.1) fun a_11=>Mo.bind (Mo.ok s_7.1) fun b_12=>Mo.grd (IntMulOk a_11 b_12) (Mo.ok (a_11*b_12))) fun a_15=>Mo.bind (Mo.bind (Mo.ok (48271:Int)) fun a_13=>Mo.bind (Mo.ok s_7.1) fun b_14=>Mo.grd (IntMulOk a_13 b_14) (Mo.ok (a_13*b_14))) fun b_16=>Mo.ok (a_15+b_16)) fun a_17=>Mo.bind (Mo.ok x_9) fun b_18=>Mo.ok (a_17+b_18)) fun a_19=>Mo.bind (Mo.ok (2147483647:Int)) fun b_20=>Mo.grd (0<b_20) (Mo.ok (a_19 % b_20))) fun number_10=>(Mo.bind (Mo.ok number_10) fun a_21=>Mo.lim (s_7.2.length+1) (Mo.ok (.nx (number_10,(s_7.2++[a_21]))))))) xs_22 (number_2,found_1)) fun s_7=>(Mo.ok (.rt s_7.2)))))
noncomputable def zbR_ (p_cell:Int) (p_many:Int):Mo (List Int):=fnO (zbY_ p_cell p_many)
noncomputable def zdi_ (p_cell:Int) (p_many:Int) (p_spread:Int):Mo (Out (List (List Nat)) Unit Unit) :=
 (Mo.bind (Mo.ok (SG:List Nat)) fun signs_1=>(Mo.bind (Mo.bind (Mo.bind (Mo.ok p_cell) fun a_5=>Mo.bind (Mo.bind (Mo.ok (36:Int)) fun a_3=>Mo.bind (Mo.ok p_many) fun b_4=>Mo.grd (IntMulOk a_3 b_4) (Mo.ok (a_3*b_4))) fun c_6=>Mo.ok (a_5,c_6)) fun c_7=>Mo.noex (zbR_ c_7.1 c_7.2)) fun numbers_2=>(Mo.bind (Mo.ok ([]:List (List Nat))) fun deck_here_8=>(thenO (S:=(List (List Nat))) (Mo.bind (Mo.bind (Mo.ok p_many) fun c_10=>Mo.grd (-(2 ^ 62)≤c_10∧c_10<2 ^ 62) (Mo.ok (rngI 0 c_10.toNat))) fun xs_69=>forO (fun (s_9:(List (List Nat))) x_11=>(Mo.bind (Mo.ok ([]:List Nat)) fun text_12=>(thenO (S:=(List Nat)) (Mo.bind (Mo.bind (Mo.ok (36:Int)) fun c_14=>Mo.grd (-(2 ^ 62)≤c_14∧c_14<2 ^ 62) (Mo.ok (rngI 0 c_14.toNat))) fun xs_36=>forO (fun (s_13:(List Nat)) x_15=>(Mo.bind (Mo.bind (Mo.bind (Mo.bind (Mo.ok numbers_2) fun a_21=>Mo.bind (Mo.bind (Mo.bind (Mo.ok (36:Int)) fun a_17=>Mo.bind (Mo.ok x_11) fun b_18=>Mo.grd (IntMulOk a_17 b_18) (Mo.ok (a_17*b_18))) fun a_19=>Mo.bind (Mo.ok x_15) fun b_20=>Mo.ok (a_19+b_20)) fun b_22=>Mo.opt (atI a_21 b_22)) fun a_23=>Mo.bind (Mo.ok (7:Int)) fun b_24=>Mo.grd (CDivG a_23 b_24) (Mo.ok (a_23 / b_24))) fun a_25=>Mo.bind (Mo.ok p_spread) fun b_26=>Mo.grd (0<b_26) (Mo.ok (a_25 % b_26))) fun step_16=>(Mo.bind (Mo.bind (Mo.ok s_13) fun a_34=>Mo.bind (Mo.bind (Mo.ok signs_1) fun a_32=>Mo.bind (Mo.bind (Mo.bind (Mo.ok p_cell) fun a_28=>Mo.bind (Mo.ok step_16) fun b_29=>Mo.ok (a_28+b_29)) fun a_30=>Mo.bind (Mo.ok (37:Int)) fun b_31=>Mo.grd (0<b_31) (Mo.ok (a_30 % b_31))) fun b_33=>Mo.lim a_32.length (Mo.opt ((atI a_32 b_33).map fun c=>[c]))) fun b_35=>Mo.lim (a_34.length+b_35.length) (Mo.ok (a_34++b_35))) fun text_27=>(Mo.ok (.nx text_27))))) xs_36 text_12) fun s_13=>(Mo.bind (Mo.bind (Mo.bind (Mo.bind (Mo.ok signs_1) fun a_42=>Mo.bind (Mo.bind (Mo.bind (Mo.ok p_cell) fun a_38=>Mo.bind (Mo.ok (37:Int)) fun b_39=>Mo.grd (CDivG a_38 b_39) (Mo.ok (a_38 / b_39))) fun a_40=>Mo.bind (Mo.ok (37:Int)) fun b_41=>Mo.grd (0<b_41) (Mo.ok (a_40 % b_41))) fun b_43=>Mo.lim a_42.length (Mo.opt ((atI a_42 b_43).map fun c=>[c]))) fun c_44=>Mo.ok [c_44]) fun a_45=>Mo.bind (Mo.ok (4:Int)) fun b_46=>Mo.grd (CRep a_45.length b_46) (Mo.ok (repL a_45 b_46))) fun mark_37=>(Mo.bind (Mo.bind (Mo.ok signs_1) fun a_57=>Mo.bind (Mo.bind (Mo.bind (Mo.ok p_cell) fun a_53=>Mo.bind (Mo.ok x_11) fun b_54=>Mo.ok (a_53+b_54)) fun a_55=>Mo.bind (Mo.ok (37:Int)) fun b_56=>Mo.grd (0<b_56) (Mo.ok (a_55 % b_56))) fun b_58=>Mo.lim a_57.length (Mo.opt ((atI a_57 b_58).map fun c=>[c]))) fun a_61=>Mo.bind (Mo.bind (Mo.ok p_cell) fun a_59=>Mo.bind (Mo.ok (4:Int)) fun b_60=>Mo.grd (0<b_60) (Mo.ok (a_59 % b_60))) fun j_62=>Mo.bind (Mo.opt ((ixN (mark_37).length j_62).map fun n=>(mark_37).set n a_61)) fun mark_63=>(Mo.bind (Mo.bind (Mo.ok s_13) fun a_66=>Mo.bind (Mo.bind (Mo.ok ([]:List Nat)) fun a_64=>Mo.bind (Mo.ok mark_63) fun b_65=>Mo.grd (JoinOk ⟨a_64.toArray⟩ (strsL b_65)=true) (Mo.ok (joinS a_64 (strsL b_65)))) fun b_67=>Mo.lim (a_66.length+b_67.length) (Mo.ok (a_66++b_67))) fun a_68=>Mo.lim (s_9.length+1) (Mo.ok (.nx (s_9++[a_68]))))))))) xs_69 deck_here_8) fun s_9=>(thenO (S:=(List (List Nat))) (Mo.bind (Mo.bind (Mo.bind (Mo.ok p_many) fun a_70=>Mo.bind (Mo.ok (2:Int)) fun b_71=>Mo.ok (decide (b_71<a_70))) fun c_76=>if c_76 then (Mo.bind (Mo.bind (Mo.ok p_cell) fun a_72=>Mo.bind (Mo.ok (5:Int)) fun b_73=>Mo.grd (0<b_73) (Mo.ok (a_72 % b_73))) fun a_74=>Mo.bind (Mo.ok (1:Int)) fun b_75=>Mo.ok (decide (a_74=b_75))) else Mo.ok false) fun c_77=>if c_77 then (Mo.bind (Mo.bind (Mo.ok s_9) fun a_81=>Mo.bind (Mo.ok (0:Int)) fun b_82=>Mo.opt (atI a_81 b_82)) fun a_83=>Mo.bind (Mo.ok (1:Int)) fun j_84=>Mo.bind (Mo.opt ((ixN (s_9).length j_84).map fun n=>(s_9).set n a_83)) fun deck_here_85=>(Mo.ok (.nx deck_here_85))) else (Mo.ok (.nx s_9))) fun s_78=>(Mo.ok (.rt s_78)))))))
noncomputable def zcR_ (p_cell:Int) (p_many:Int) (p_spread:Int):Mo (List (List Nat)):=fnO (zdi_ p_cell p_many p_spread)
noncomputable def zbC_ (p_script:(List Int)) (p_k:Int):Mo (Out Int Unit Unit) :=
 (thenO (S:=Unit) (Mo.bind (Mo.bind (Mo.ok p_k) fun a_2=>Mo.bind (Mo.bind (Mo.ok p_script) fun c_1=>Mo.ok (c_1.length:Int)) fun b_3=>Mo.ok (decide (a_2<b_3))) fun c_4=>if c_4 then (Mo.bind (Mo.bind (Mo.ok p_script) fun a_6=>Mo.bind (Mo.ok p_k) fun b_7=>Mo.opt (atI a_6 b_7)) fun r_8=>Mo.ok (.rt r_8)) else (Mo.ok (.nx ()))) fun _=>(Mo.bind (Mo.ok (0:Int)) fun r_9=>Mo.ok (.rt r_9)))
noncomputable def zN_ (p_script:(List Int)) (p_k:Int):Mo Int:=fnO (zbC_ p_script p_k)
noncomputable def zbl_ (p_row:(List Pas)):Mo (Out (Option Qq1) Unit Unit) :=
 (Mo.bind (Mo.ok ([]:Qq1)) fun signs_1=>(thenO (S:=Qq1) (Mo.bind (Mo.ok p_row) fun xs_18=>forO (fun (s_2:Qq1) x_3=>(thenO (S:=Qq1) (Mo.bind (Mo.bind (Mo.bind (Mo.ok x_3) fun a_4=>Mo.ok (pTag a_4)) fun a_5=>Mo.bind (Mo.ok ([112,105,99,107]:List Nat)) fun b_6=>Mo.ok (decide (a_5=b_6))) fun c_7=>if c_7 then (Mo.bind (Mo.bind (Mo.ok x_3) fun a_14=>Mo.ok a_14.1) fun k_9=>Mo.bind (Mo.bind (Mo.ok x_3) fun a_15=>Mo.opt a_15.2) fun d_10=>Mo.lim (s_2.length+1) (Mo.bind (Mo.ok (sdA s_2 k_9 d_10)) fun q_11=>Mo.bind (Mo.bind (Mo.ok x_3) fun a_16=>Mo.opt a_16.2) fun c_12=>Mo.bind (Mo.ok (!decide (q_11.1=c_12))) fun b_13=>if b_13 then (Mo.bind (Mo.ok (none:(Option Qq1))) fun r_17=>Mo.ok (.rt r_17)) else (Mo.ok (.nx q_11.2)))) else (Mo.ok (.nx s_2))) fun s_8=>(Mo.ok (.nx s_8)))) xs_18 signs_1) fun s_2=>(Mo.bind (Mo.bind (Mo.ok s_2) fun a_19=>Mo.ok (some a_19)) fun r_20=>Mo.ok (.rt r_20))))
noncomputable def zaO_ (p_row:(List Pas)):Mo (Option Qq1):=fnO (zbl_ p_row)
noncomputable def zdf_ (p_row:(List Pas)):Mo (Out (Option (Qq1×(List Int))) Unit Unit) :=
 (Mo.bind (Mo.bind (Mo.ok p_row) fun c_3=>Mo.noex (zaO_ c_3)) fun signs_2=>(thenO (S:=Unit) (Mo.bind (Mo.bind (Mo.ok signs_2) fun a_4=>Mo.bind (Mo.ok ()) fun b_5=>Mo.ok a_4.isNone) fun c_6=>if c_6 then (Mo.bind (Mo.ok (none:(Option (Qq1×(List Int))))) fun r_8=>Mo.ok (.rt r_8)) else (Mo.ok (.nx ()))) fun _=>(Mo.bind (Mo.opt signs_2) fun signs_9=>(Mo.bind (Mo.ok ([]:List Int)) fun columns_10=>(thenO (S:=(List Int)) (Mo.bind (Mo.bind (Mo.ok p_row) fun c_12=>Mo.ok c_12.reverse) fun xs_29=>forO (fun (s_11:(List Int)) x_13=>(thenO (S:=(List Int)) (Mo.bind (Mo.bind (Mo.bind (Mo.bind (Mo.ok x_13) fun a_14=>Mo.ok (pTag a_14)) fun a_15=>Mo.bind (Mo.ok ([100,101,97,108]:List Nat)) fun b_16=>Mo.ok (decide (a_15=b_16))) fun c_24=>if c_24 then (Mo.bind (Mo.bind (Mo.bind (Mo.ok x_13) fun a_17=>Mo.ok a_17.1) fun a_18=>Mo.bind (Mo.ok signs_9) fun b_19=>Mo.ok (if true then !(getA b_19 a_18).isSome else (getA b_19 a_18).isSome)) fun c_23=>if c_23 then (Mo.bind (Mo.bind (Mo.ok x_13) fun a_20=>Mo.ok a_20.1) fun a_21=>Mo.bind (Mo.ok s_11) fun b_22=>Mo.ok (!(b_22.any fun y=>decide (y=a_21)))) else Mo.ok false) else Mo.ok false) fun c_25=>if c_25 then (Mo.bind (Mo.bind (Mo.ok x_13) fun a_27=>Mo.ok a_27.1) fun a_28=>Mo.lim (s_11.length+1) (Mo.ok (.nx (s_11++[a_28])))) else (Mo.ok (.nx s_11))) fun s_26=>(Mo.ok (.nx s_26)))) xs_29 columns_10) fun s_11=>(Mo.bind (Mo.bind (Mo.bind (Mo.ok signs_9) fun a_30=>Mo.bind (Mo.ok s_11) fun c_31=>Mo.ok (a_30,c_31)) fun a_32=>Mo.ok (some a_32)) fun r_33=>Mo.ok (.rt r_33)))))))
noncomputable def zbM_ (p_row:(List Pas)):Mo (Option (Qq1×(List Int))):=fnO (zdf_ p_row)
noncomputable def zct_ (p_signs:Qq1) (p_mark:(List Nat)):Mo (Out (List Nat) Unit Unit) :=
 (Mo.bind (Mo.bind (Mo.bind (Mo.bind (Mo.ok (1:Int)) fun a_4=>Mo.bind (Mo.bind (Mo.ok (36:Int)) fun a_2=>Mo.bind (Mo.ok (1:Int)) fun b_3=>Mo.ok (a_2+b_3)) fun c_5=>Mo.ok (a_4,c_5)) fun c_6=>Mo.grd (-(2 ^ 62)≤c_6.1∧c_6.1<2 ^ 62 ∧ -(2 ^ 62)≤c_6.2∧c_6.2<2 ^ 62) (Mo.ok (rngI c_6.1 (c_6.2-c_6.1).toNat))) fun xs_11=>compM (fun x_7=>cond1 (Mo.ok true) (Mo.bind (Mo.ok p_signs) fun m_8=>Mo.bind (Mo.ok x_7) fun k_9=>Mo.bind (Mo.ok ([32]:List Nat)) fun d_10=>Mo.ok ((getA m_8 k_9).getD d_10))) xs_11 []) fun body_1=>(Mo.bind (Mo.bind (Mo.bind (Mo.ok ([]:List Nat)) fun a_12=>Mo.bind (Mo.ok body_1) fun b_13=>Mo.grd (JoinOk ⟨a_12.toArray⟩ (strsL b_13)=true) (Mo.ok (joinS a_12 (strsL b_13)))) fun a_14=>Mo.bind (Mo.ok p_mark) fun b_15=>Mo.lim (a_14.length+b_15.length) (Mo.ok (a_14++b_15))) fun r_16=>Mo.ok (.rt r_16)))
noncomputable def zaF_ (p_signs:Qq1) (p_mark:(List Nat)):Mo (List Nat):=fnO (zct_ p_signs p_mark)
noncomputable def zbr_ (p_signs:Qq1) (p_others:Qq1):Mo (Out (Option (List Nat)) Unit Unit) :=
 (thenO (S:=Unit) (Mo.bind (Mo.bind (Mo.ok p_signs) fun c_2=>Mo.grd (c_2.length<64) (Mo.ok (srtL ltI (c_2.map (·.1))))) fun xs_26=>forO (fun (_:Unit) x_3=>(Mo.bind (Mo.bind (Mo.bind (Mo.ok p_others) fun m_4=>Mo.bind (Mo.ok x_3) fun k_5=>Mo.ok (getA m_4 k_5)) fun a_8=>Mo.bind (Mo.bind (Mo.ok p_signs) fun a_6=>Mo.bind (Mo.ok x_3) fun b_7=>Mo.opt (getA a_6 b_7)) fun b_9=>Mo.ok (!decide (a_8=some b_9))) fun c_10=>if c_10 then (Mo.bind (Mo.bind (Mo.ok p_others) fun c_12=>Mo.ok c_12) fun seen_11=>(Mo.bind (Mo.ok x_3) fun k_13=>Mo.bind (Mo.bind (Mo.bind (Mo.bind (Mo.ok p_signs) fun a_16=>Mo.bind (Mo.ok x_3) fun b_17=>Mo.opt (getA a_16 b_17)) fun a_18=>Mo.bind (Mo.ok ([48]:List Nat)) fun b_19=>Mo.ok (decide (a_18=b_19))) fun c_20=>if c_20 then (Mo.ok ([49]:List Nat)) else (Mo.ok ([48]:List Nat))) fun d_14=>Mo.lim (seen_11.length+1) (Mo.bind (Mo.ok (sdA seen_11 k_13 d_14).2) fun m_15=>(Mo.bind (Mo.bind (Mo.bind (Mo.bind (Mo.ok m_15) fun a_21=>Mo.bind (Mo.ok ([48,48,48,49]:List Nat)) fun c_22=>Mo.ok (a_21,c_22)) fun c_23=>Mo.noex (zaF_ c_23.1 c_23.2)) fun a_24=>Mo.ok (some a_24)) fun r_25=>Mo.ok (.rt r_25))))) else (Mo.ok (.nx ())))) xs_26 ()) fun _=>(Mo.bind (Mo.ok (none:(Option (List Nat)))) fun r_27=>Mo.ok (.rt r_27)))
noncomputable def zV_ (p_signs:Qq1) (p_others:Qq1):Mo (Option (List Nat)):=fnO (zbr_ p_signs p_others)
noncomputable def zZ_ (p_signs:Qq1) (p_others:Qq1):Mo (Out (Option (List (List Nat))) Unit Unit) :=
 (Mo.bind (Mo.bind (Mo.bind (Mo.ok p_signs) fun a_3=>Mo.bind (Mo.ok p_others) fun c_4=>Mo.ok (a_3,c_4)) fun c_5=>Mo.noex (zV_ c_5.1 c_5.2)) fun card_2=>(thenO (S:=(Option (List Nat))) (Mo.bind (Mo.bind (Mo.ok card_2) fun a_6=>Mo.bind (Mo.ok ()) fun b_7=>Mo.ok a_6.isNone) fun c_8=>if c_8 then (Mo.bind (Mo.bind (Mo.bind (Mo.ok p_others) fun a_12=>Mo.bind (Mo.ok p_signs) fun c_13=>Mo.ok (a_12,c_13)) fun c_14=>Mo.noex (zV_ c_14.1 c_14.2)) fun card_11=>(Mo.ok (.nx card_11))) else (Mo.ok (.nx card_2))) fun s_9=>(Mo.bind (Mo.bind (Mo.ok s_9) fun a_15=>Mo.bind (Mo.ok ()) fun b_16=>Mo.ok a_15.isNone) fun c_17=>if c_17 then (Mo.bind (Mo.ok (none:(Option (List (List Nat))))) fun r_18=>Mo.ok (.rt r_18)) else (Mo.bind (Mo.opt s_9) fun card_19=>(Mo.bind (Mo.bind (Mo.bind (Mo.ok card_19) fun c_20=>Mo.ok [c_20]) fun a_21=>Mo.ok (some a_21)) fun r_22=>Mo.ok (.rt r_22))))))
noncomputable def zC_ (p_signs:Qq1) (p_others:Qq1):Mo (Option (List (List Nat))):=fnO (zZ_ p_signs p_others)
noncomputable def zbB_ (p_columns:(List Int)) (p_beginning:(List Int)):Mo (Out Bool Unit Unit) :=
 (Mo.bind (Mo.bind (Mo.bind (Mo.ok p_columns) fun a_3=>Mo.bind (Mo.ok none) fun b_4=>Mo.bind (Mo.bind (Mo.bind (Mo.ok p_beginning) fun c_1=>Mo.ok (c_1.length:Int)) fun i_2=>Mo.ok (some i_2)) fun d_5=>Mo.ok (cutG a_3 b_4 d_5)) fun a_6=>Mo.bind (Mo.ok p_beginning) fun b_7=>Mo.ok (((eqL (fun a b=>decide (a=b))) a_6 b_7))) fun r_8=>Mo.ok (.rt r_8))
noncomputable def zbz_ (p_columns:(List Int)) (p_beginning:(List Int)):Mo Bool:=fnO (zbB_ p_columns p_beginning)
noncomputable def za4_ (p_one:(List Int)) (p_other:(List Int)):Mo (Out Int Unit Unit) :=
 (Mo.bind (Mo.ok (0:Int)) fun length_1=>(thenO (S:=Int) (whileO (fun (s_2:Int)=>(Mo.bind (Mo.bind (Mo.ok s_2) fun a_8=>Mo.bind (Mo.bind (Mo.bind (Mo.bind (Mo.ok p_one) fun c_3=>Mo.ok (c_3.length:Int)) fun a_5=>Mo.bind (Mo.bind (Mo.ok p_other) fun c_4=>Mo.ok (c_4.length:Int)) fun c_6=>Mo.ok (a_5,c_6)) fun c_7=>Mo.ok (min c_7.1 c_7.2)) fun b_9=>Mo.ok (decide (a_8<b_9))) fun c_16=>if c_16 then (Mo.bind (Mo.bind (Mo.ok p_one) fun a_10=>Mo.bind (Mo.ok s_2) fun b_11=>Mo.opt (atI a_10 b_11)) fun a_14=>Mo.bind (Mo.bind (Mo.ok p_other) fun a_12=>Mo.bind (Mo.ok s_2) fun b_13=>Mo.opt (atI a_12 b_13)) fun b_15=>Mo.ok (decide (a_14=b_15))) else Mo.ok false)) (fun (s_2:Int)=>(Mo.bind (Mo.bind (Mo.ok s_2) fun a_18=>Mo.bind (Mo.ok (1:Int)) fun b_19=>Mo.ok (a_18+b_19)) fun length_17=>(Mo.ok (.nx length_17)))) fuelW length_1) fun s_2=>(Mo.bind (Mo.ok s_2) fun r_20=>Mo.ok (.rt r_20))))
noncomputable def za6_ (p_one:(List Int)) (p_other:(List Int)):Mo Int:=fnO (za4_ p_one p_other)
noncomputable def zbi_ (p_signs:Qq1) (p_one:(List Int)) (p_other:(List Int)):Mo (Out (List (List Nat)) Unit Unit) :=
 (Mo.bind (Mo.bind (Mo.bind (Mo.ok p_one) fun a_2=>Mo.bind (Mo.ok p_other) fun c_3=>Mo.ok (a_2,c_3)) fun c_4=>Mo.noex (za6_ c_4.1 c_4.2)) fun shared_1=>(Mo.bind (Mo.bind (Mo.ok p_signs) fun c_6=>Mo.ok c_6) fun low_5=>(Mo.bind (Mo.bind (Mo.ok p_signs) fun c_8=>Mo.ok c_8) fun high_7=>(thenO (S:=(Qq1×Qq1)) (Mo.bind (Mo.bind (Mo.bind (Mo.ok (1:Int)) fun a_12=>Mo.bind (Mo.bind (Mo.ok (36:Int)) fun a_10=>Mo.bind (Mo.ok (1:Int)) fun b_11=>Mo.ok (a_10+b_11)) fun c_13=>Mo.ok (a_12,c_13)) fun c_14=>Mo.grd (-(2 ^ 62)≤c_14.1∧c_14.1<2 ^ 62 ∧ -(2 ^ 62)≤c_14.2∧c_14.2<2 ^ 62) (Mo.ok (rngI c_14.1 (c_14.2-c_14.1).toNat))) fun xs_31=>forO (fun (s_9:(Qq1×Qq1)) x_15=>(thenO (S:=(Qq1×Qq1)) (Mo.bind (Mo.bind (Mo.bind (Mo.ok x_15) fun a_16=>Mo.bind (Mo.ok p_signs) fun b_17=>Mo.ok (if true then !(getA b_17 a_16).isSome else (getA b_17 a_16).isSome)) fun c_24=>if c_24 then (Mo.bind (Mo.ok x_15) fun a_22=>Mo.bind (Mo.bind (Mo.ok p_one) fun a_19=>Mo.bind (Mo.ok none) fun b_20=>Mo.bind (Mo.bind (Mo.ok shared_1) fun i_18=>Mo.ok (some i_18)) fun d_21=>Mo.ok (cutG a_19 b_20 d_21)) fun b_23=>Mo.ok (!(b_23.any fun y=>decide (y=a_22)))) else Mo.ok false) fun c_25=>if c_25 then (Mo.bind (Mo.ok ([48]:List Nat)) fun a_27=>Mo.bind (Mo.ok x_15) fun y_28=>Mo.lim (s_9.1.length+1) (Mo.bind (Mo.ok ([49]:List Nat)) fun a_29=>Mo.bind (Mo.ok x_15) fun y_30=>Mo.lim (s_9.2.length+1) (Mo.ok (.nx ((putA s_9.1 y_28 a_27),(putA s_9.2 y_30 a_29)))))) else (Mo.ok (.nx (s_9.1,s_9.2)))) fun s_26=>(Mo.ok (.nx (s_26.1,s_26.2))))) xs_31 (low_5,high_7)) fun s_9=>(thenO (S:=(Qq1×Qq1)) (Mo.bind (Mo.bind (Mo.ok shared_1) fun a_33=>Mo.bind (Mo.bind (Mo.ok p_other) fun c_32=>Mo.ok (c_32.length:Int)) fun b_34=>Mo.ok (decide (a_33<b_34))) fun c_35=>if c_35 then (Mo.bind (Mo.ok ([49]:List Nat)) fun a_39=>Mo.bind (Mo.bind (Mo.ok p_other) fun a_37=>Mo.bind (Mo.ok shared_1) fun b_38=>Mo.opt (atI a_37 b_38)) fun y_40=>Mo.lim (s_9.1.length+1) (Mo.bind (Mo.ok ([48]:List Nat)) fun a_43=>Mo.bind (Mo.bind (Mo.ok p_other) fun a_41=>Mo.bind (Mo.ok shared_1) fun b_42=>Mo.opt (atI a_41 b_42)) fun y_44=>Mo.lim (s_9.2.length+1) (Mo.ok (.nx ((putA s_9.1 y_40 a_39),(putA s_9.2 y_44 a_43)))))) else (Mo.ok (.nx (s_9.1,s_9.2)))) fun s_36=>(Mo.bind (Mo.bind (Mo.bind (Mo.bind (Mo.bind (Mo.ok s_36.2) fun a_45=>Mo.bind (Mo.ok ([48,48,48,49]:List Nat)) fun c_46=>Mo.ok (a_45,c_46)) fun c_47=>Mo.noex (zaF_ c_47.1 c_47.2)) fun a_51=>Mo.bind (Mo.bind (Mo.bind (Mo.ok s_36.1) fun a_48=>Mo.bind (Mo.ok ([48,48,48,50]:List Nat)) fun c_49=>Mo.ok (a_48,c_49)) fun c_50=>Mo.noex (zaF_ c_50.1 c_50.2)) fun c_52=>Mo.ok (a_51,c_52)) fun c_53=>Mo.ok [c_53.1,c_53.2]) fun r_54=>Mo.ok (.rt r_54)))))))
noncomputable def zav_ (p_signs:Qq1) (p_one:(List Int)) (p_other:(List Int)):Mo (List (List Nat)):=fnO (zbi_ p_signs p_one p_other)
noncomputable def zak_ (p_signs:Qq1) (p_one:(List Int)) (p_other:(List Int)):Mo (Out (Option (List (List Nat))) Unit Unit) :=
 (thenO (S:=Unit) (Mo.bind (Mo.bind (Mo.ok p_one) fun a_1=>Mo.bind (Mo.ok p_other) fun b_2=>Mo.ok (((eqL (fun a b=>decide (a=b))) a_1 b_2))) fun c_3=>if c_3 then (Mo.bind (Mo.ok (none:(Option (List (List Nat))))) fun r_5=>Mo.ok (.rt r_5)) else (Mo.ok (.nx ()))) fun _=>(thenO (S:=Unit) (Mo.bind (Mo.bind (Mo.bind (Mo.ok p_other) fun a_6=>Mo.bind (Mo.ok p_one) fun c_7=>Mo.ok (a_6,c_7)) fun c_8=>Mo.noex (zbz_ c_8.1 c_8.2)) fun c_9=>if c_9 then (Mo.bind (Mo.bind (Mo.bind (Mo.bind (Mo.ok p_signs) fun a_13=>Mo.bind (Mo.bind (Mo.ok p_other) fun a_11=>Mo.bind (Mo.ok p_one) fun c_12=>Mo.ok (a_11,c_12)) fun c_14=>Mo.ok (a_13,c_14)) fun c_15=>Mo.noex (zav_ c_15.1 c_15.2.1 c_15.2.2)) fun a_16=>Mo.ok (some a_16)) fun r_17=>Mo.ok (.rt r_17)) else (Mo.ok (.nx ()))) fun _=>(Mo.bind (Mo.bind (Mo.bind (Mo.bind (Mo.ok p_signs) fun a_20=>Mo.bind (Mo.bind (Mo.ok p_one) fun a_18=>Mo.bind (Mo.ok p_other) fun c_19=>Mo.ok (a_18,c_19)) fun c_21=>Mo.ok (a_20,c_21)) fun c_22=>Mo.noex (zav_ c_22.1 c_22.2.1 c_22.2.2)) fun a_23=>Mo.ok (some a_23)) fun r_24=>Mo.ok (.rt r_24))))
noncomputable def zO_ (p_signs:Qq1) (p_one:(List Int)) (p_other:(List Int)):Mo (Option (List (List Nat))):=fnO (zak_ p_signs p_one p_other)
noncomputable def zaa_ (p_row:(List Pas)) (p_other:(List Pas)):Mo (Out (Option (List (List Nat))) Unit Unit) :=
 (Mo.bind (Mo.bind (Mo.ok p_row) fun c_3=>Mo.noex (zbM_ c_3)) fun sense_2=>(Mo.bind (Mo.bind (Mo.ok p_other) fun c_6=>Mo.noex (zbM_ c_6)) fun other_sense_5=>(thenO (S:=Unit) (Mo.bind (Mo.bind (Mo.ok sense_2) fun a_7=>Mo.bind (Mo.ok other_sense_5) fun b_8=>Mo.ok (eqSn a_7 b_8)) fun c_9=>if c_9 then (Mo.bind (Mo.ok (none:(Option (List (List Nat))))) fun r_11=>Mo.ok (.rt r_11)) else (Mo.ok (.nx ()))) fun _=>(thenO (S:=Unit) (Mo.bind (Mo.bind (Mo.ok sense_2) fun a_12=>Mo.bind (Mo.ok ()) fun b_13=>Mo.ok a_12.isNone) fun c_14=>if c_14 then (Mo.bind (Mo.bind (Mo.bind (Mo.bind (Mo.bind (Mo.bind (Mo.bind (Mo.ok other_sense_5) fun a_16=>Mo.opt a_16) fun a_17=>Mo.ok a_17.1) fun a_18=>Mo.bind (Mo.ok ([48,48,48,49]:List Nat)) fun c_19=>Mo.ok (a_18,c_19)) fun c_20=>Mo.noex (zaF_ c_20.1 c_20.2)) fun c_21=>Mo.ok [c_21]) fun a_22=>Mo.ok (some a_22)) fun r_23=>Mo.ok (.rt r_23)) else (Mo.ok (.nx ()))) fun _=>(Mo.bind (Mo.opt sense_2) fun sense_24=>(thenO (S:=Unit) (Mo.bind (Mo.bind (Mo.ok other_sense_5) fun a_25=>Mo.bind (Mo.ok ()) fun b_26=>Mo.ok a_25.isNone) fun c_27=>if c_27 then (Mo.bind (Mo.bind (Mo.bind (Mo.bind (Mo.bind (Mo.bind (Mo.ok sense_24) fun a_29=>Mo.ok a_29.1) fun a_30=>Mo.bind (Mo.ok ([48,48,48,49]:List Nat)) fun c_31=>Mo.ok (a_30,c_31)) fun c_32=>Mo.noex (zaF_ c_32.1 c_32.2)) fun c_33=>Mo.ok [c_33]) fun a_34=>Mo.ok (some a_34)) fun r_35=>Mo.ok (.rt r_35)) else (Mo.ok (.nx ()))) fun _=>(Mo.bind (Mo.opt other_sense_5) fun other_sense_36=>(Mo.bind (Mo.bind (Mo.bind (Mo.bind (Mo.ok sense_24) fun a_39=>Mo.ok a_39.1) fun a_41=>Mo.bind (Mo.bind (Mo.ok other_sense_36) fun a_40=>Mo.ok a_40.1) fun c_42=>Mo.ok (a_41,c_42)) fun c_43=>Mo.noex (zC_ c_43.1 c_43.2)) fun deck_38=>(thenO (S:=(Option (List (List Nat)))) (Mo.bind (Mo.bind (Mo.ok deck_38) fun a_44=>Mo.bind (Mo.ok ()) fun b_45=>Mo.ok a_44.isNone) fun c_46=>if c_46 then (Mo.bind (Mo.bind (Mo.bind (Mo.bind (Mo.ok sense_24) fun a_50=>Mo.ok a_50.1) fun a_55=>Mo.bind (Mo.bind (Mo.bind (Mo.ok sense_24) fun a_51=>Mo.ok a_51.2) fun a_53=>Mo.bind (Mo.bind (Mo.ok other_sense_36) fun a_52=>Mo.ok a_52.2) fun c_54=>Mo.ok (a_53,c_54)) fun c_56=>Mo.ok (a_55,c_56)) fun c_57=>Mo.noex (zO_ c_57.1 c_57.2.1 c_57.2.2)) fun deck_49=>(Mo.ok (.nx deck_49))) else (Mo.ok (.nx deck_38))) fun s_47=>(Mo.bind (Mo.ok s_47) fun r_58=>Mo.ok (.rt r_58)))))))))))
noncomputable def zy_ (p_row:(List Pas)) (p_other:(List Pas)):Mo (Option (List (List Nat))):=fnO (zaa_ p_row p_other)
noncomputable def zai_ (p_row:(List Pas)) (p_cells:(List Int)):Mo (Out (List Pas) Unit Unit) :=
 (Mo.bind (Mo.ok ([]:List Pas)) fun ahead_1=>(Mo.bind (Mo.ok ([]:List Pas)) fun behind_2=>(thenO (S:=((List Pas)×(List Pas))) (Mo.bind (Mo.bind (Mo.bind (Mo.ok p_row) fun c_4=>Mo.ok (c_4.length:Int)) fun c_5=>Mo.grd (-(2 ^ 62)≤c_5∧c_5<2 ^ 62) (Mo.ok (rngI 0 c_5.toNat))) fun xs_53=>forO (fun (s_3:((List Pas)×(List Pas))) x_6=>(Mo.bind (Mo.bind (Mo.ok p_row) fun a_8=>Mo.bind (Mo.ok x_6) fun b_9=>Mo.opt (atI a_8 b_9)) fun one_7=>(Mo.bind (Mo.bind (Mo.bind (Mo.bind (Mo.ok p_cells) fun a_11=>Mo.bind (Mo.ok x_6) fun b_12=>Mo.opt (atI a_11 b_12)) fun a_13=>Mo.bind (Mo.ok (3:Int)) fun b_14=>Mo.grd (CDivG a_13 b_14) (Mo.ok (a_13 / b_14))) fun a_15=>Mo.bind (Mo.ok (4:Int)) fun b_16=>Mo.grd (0<b_16) (Mo.ok (a_15 % b_16))) fun way_10=>(thenO (S:=(List Pas)) (Mo.bind (Mo.bind (Mo.bind (Mo.bind (Mo.ok one_7) fun a_17=>Mo.ok (pTag a_17)) fun a_18=>Mo.bind (Mo.ok ([112,105,99,107]:List Nat)) fun b_19=>Mo.ok (decide (a_18=b_19))) fun c_22=>if c_22 then (Mo.bind (Mo.ok way_10) fun a_20=>Mo.bind (Mo.ok (2:Int)) fun b_21=>Mo.ok (decide (a_20<b_21))) else Mo.ok false) fun c_23=>if c_23 then (Mo.bind (Mo.ok one_7) fun a_25=>Mo.lim (s_3.1.length+1) (Mo.ok (.nx (s_3.1++[a_25])))) else (Mo.ok (.nx s_3.1))) fun s_24=>(thenO (S:=(List Pas)) (Mo.bind (Mo.bind (Mo.bind (Mo.bind (Mo.bind (Mo.ok one_7) fun a_26=>Mo.ok (pTag a_26)) fun a_27=>Mo.bind (Mo.ok ([112,105,99,107]:List Nat)) fun b_28=>Mo.ok (decide (a_27=b_28))) fun c_31=>if c_31 then (Mo.bind (Mo.ok way_10) fun a_29=>Mo.bind (Mo.ok (2:Int)) fun b_30=>Mo.ok (decide (a_29=b_30))) else Mo.ok false) fun c_38=>if c_38 then Mo.ok true else (Mo.bind (Mo.bind (Mo.bind (Mo.ok one_7) fun a_32=>Mo.ok (pTag a_32)) fun a_33=>Mo.bind (Mo.ok ([100,101,97,108]:List Nat)) fun b_34=>Mo.ok (decide (a_33=b_34))) fun c_37=>if c_37 then (Mo.bind (Mo.ok way_10) fun a_35=>Mo.bind (Mo.ok (1:Int)) fun b_36=>Mo.ok (decide (a_35=b_36))) else Mo.ok false)) fun c_39=>if c_39 then (Mo.bind (Mo.bind (Mo.bind (Mo.ok one_7) fun a_41=>Mo.ok a_41.1) fun a_42=>Mo.ok (a_42,none)) fun a_43=>Mo.lim (s_3.2.length+1) (Mo.ok (.nx (s_3.2++[a_43])))) else (Mo.ok (.nx s_3.2))) fun s_40=>(thenO (S:=(List Pas)) (Mo.bind (Mo.bind (Mo.bind (Mo.bind (Mo.ok one_7) fun a_44=>Mo.ok (pTag a_44)) fun a_45=>Mo.bind (Mo.ok ([100,101,97,108]:List Nat)) fun b_46=>Mo.ok (decide (a_45=b_46))) fun c_49=>if c_49 then Mo.ok true else (Mo.bind (Mo.ok way_10) fun a_47=>Mo.bind (Mo.ok (0:Int)) fun b_48=>Mo.ok (decide (b_48<a_47)))) fun c_50=>if c_50 then (Mo.bind (Mo.ok one_7) fun a_52=>Mo.lim (s_40.length+1) (Mo.ok (.nx (s_40++[a_52])))) else (Mo.ok (.nx s_40))) fun s_51=>(Mo.ok (.nx (s_24,s_51))))))))) xs_53 (ahead_1,behind_2)) fun s_3=>(Mo.bind (Mo.bind (Mo.ok s_3.1) fun a_54=>Mo.bind (Mo.ok s_3.2) fun b_55=>Mo.lim (a_54.length+b_55.length) (Mo.ok (a_54++b_55))) fun r_56=>Mo.ok (.rt r_56)))))
noncomputable def z1_ (p_row:(List Pas)) (p_cells:(List Int)):Mo (List Pas):=fnO (zai_ p_row p_cells)
noncomputable def zeR_ (p_some:(List (List (List Nat)))):Mo (Out (List (List Nat)) Unit Unit) :=
 (Mo.bind (Mo.ok ([]:List (List Nat))) fun deck_1=>(thenO (S:=(List (List Nat))) (Mo.bind (Mo.ok p_some) fun xs_5=>forO (fun (s_2:(List (List Nat))) x_3=>(Mo.bind (Mo.ok x_3) fun a_4=>Mo.lim (s_2.length+a_4.length) (Mo.ok (.nx (s_2++a_4))))) xs_5 deck_1) fun s_2=>(Mo.ok (.rt s_2))))
noncomputable def zfh_ (p_some:(List (List (List Nat)))):Mo (List (List Nat)):=fnO (zeR_ p_some)
noncomputable def zdN_ (p_text:(List Nat)):Mo (Out Bool Unit Unit) :=
 (Mo.bind (Mo.bind (Mo.bind (Mo.bind (Mo.ok p_text) fun c_1=>Mo.lim c_1.length (Mo.ok (c_1.length:Int))) fun a_2=>Mo.bind (Mo.ok (1:Int)) fun b_3=>Mo.ok (decide (a_2=b_3))) fun c_6=>if c_6 then (Mo.bind (Mo.ok p_text) fun a_4=>Mo.bind (Mo.ok (SG:List Nat)) fun b_5=>Mo.ok (inS a_4 b_5)) else Mo.ok false) fun r_7=>Mo.ok (.rt r_7))
noncomputable def zdH_ (p_text:(List Nat)):Mo Bool:=fnO (zdN_ p_text)
noncomputable def zdG_ (p_sign:(List Nat)):Mo (Out Int Unit Unit) :=
 (thenO (S:=Unit) (Mo.bind (Mo.bind (Mo.bind (Mo.ok p_sign) fun c_1=>Mo.noex (zdH_ c_1)) fun a_2=>Mo.ok (!a_2)) fun c_3=>if c_3 then Mo.no else (Mo.ok (.nx ()))) fun _=>(Mo.bind (Mo.bind (Mo.ok (SG:List Nat)) fun a_5=>Mo.bind (Mo.ok p_sign) fun b_6=>Mo.grd (findS a_5 b_6 ≠ -1) (Mo.ok (findS a_5 b_6))) fun r_7=>Mo.ok (.rt r_7)))
noncomputable def zdJ_ (p_sign:(List Nat)):Mo Int:=fnO (zdG_ p_sign)
noncomputable def zdF_ (p_card:(List Nat)) (p_column:Int):Mo (Out (List Nat) Unit Unit) :=
 (Mo.bind (Mo.bind (Mo.ok p_card) fun a_3=>Mo.bind (Mo.bind (Mo.ok p_column) fun a_1=>Mo.bind (Mo.ok (1:Int)) fun b_2=>Mo.ok (a_1-b_2)) fun b_4=>Mo.lim a_3.length (Mo.opt ((atI a_3 b_4).map fun c=>[c]))) fun r_5=>Mo.ok (.rt r_5))
noncomputable def zc9_ (p_card:(List Nat)) (p_column:Int):Mo (List Nat):=fnO (zdF_ p_card p_column)
noncomputable def zbV_ (p_deck:(List (List Nat))) (p_column:Int):Mo (Out (List (List (List Nat))) Unit Unit) :=
 (Mo.bind (Mo.bind (Mo.bind (Mo.ok (SG:List Nat)) fun a_2=>Mo.ok (a_2.map fun c=>[c])) fun xs_4=>compM (fun x_3=>cond1 (Mo.ok true) (Mo.ok ([]:List (List Nat)))) xs_4 []) fun pockets_1=>(thenO (S:=(List (List (List Nat)))) (Mo.bind (Mo.ok p_deck) fun xs_14=>forO (fun (s_5:(List (List (List Nat)))) x_6=>(Mo.bind (Mo.bind (Mo.bind (Mo.bind (Mo.ok x_6) fun a_7=>Mo.bind (Mo.ok p_column) fun c_8=>Mo.ok (a_7,c_8)) fun c_9=>Mo.noex (zc9_ c_9.1 c_9.2)) fun c_10=>zdJ_ c_10) fun j_11=>Mo.bind (Mo.opt (ixN (s_5).length j_11)) fun n_12=>Mo.bind (Mo.ok x_6) fun a_13=>Mo.lim (((s_5)[n_12]?.getD []).length+1) (Mo.ok (.nx (appN s_5 n_12 a_13))))) xs_14 pockets_1) fun s_5=>(Mo.ok (.rt s_5))))
noncomputable def zbU_ (p_deck:(List (List Nat))) (p_column:Int):Mo (List (List (List Nat))):=fnO (zbV_ p_deck p_column)
noncomputable def zdg_ (p_deck:(List (List Nat))) (p_row:(List Int)):Mo (Out (List (List Nat)) Unit Unit) :=
 (Mo.bind (Mo.bind (Mo.ok p_deck) fun c_2=>Mo.ok c_2) fun dealt_1=>(thenO (S:=(List (List Nat))) (Mo.bind (Mo.ok p_row) fun xs_10=>forO (fun (s_3:(List (List Nat))) x_4=>(Mo.bind (Mo.bind (Mo.bind (Mo.bind (Mo.ok s_3) fun a_6=>Mo.bind (Mo.ok x_4) fun c_7=>Mo.ok (a_6,c_7)) fun c_8=>zbU_ c_8.1 c_8.2) fun c_9=>Mo.noex (zfh_ c_9)) fun dealt_5=>(Mo.ok (.nx dealt_5)))) xs_10 dealt_1) fun s_3=>(Mo.ok (.rt s_3))))
noncomputable def zda_ (p_deck:(List (List Nat))) (p_row:(List Int)):Mo (List (List Nat)):=fnO (zdg_ p_deck p_row)
noncomputable def zcW_ (p_deck:(List (List Nat))) (p_row:(List Pas)):Mo (Out (List (List Nat)) Unit Unit) :=
 (Mo.bind (Mo.bind (Mo.ok p_deck) fun c_2=>Mo.ok c_2) fun gone_1=>(thenO (S:=(List (List Nat))) (Mo.bind (Mo.ok p_row) fun xs_26=>forO (fun (s_3:(List (List Nat))) x_4=>(thenO (S:=(List (List Nat))) (Mo.bind (Mo.bind (Mo.bind (Mo.ok x_4) fun a_5=>Mo.ok (pTag a_5)) fun a_6=>Mo.bind (Mo.ok ([100,101,97,108]:List Nat)) fun b_7=>Mo.ok (decide (a_6=b_7))) fun c_8=>if c_8 then (Mo.bind (Mo.bind (Mo.bind (Mo.ok s_3) fun a_13=>Mo.bind (Mo.bind (Mo.bind (Mo.ok x_4) fun a_11=>Mo.ok a_11.1) fun c_12=>Mo.ok [c_12]) fun c_14=>Mo.ok (a_13,c_14)) fun c_15=>zda_ c_15.1 c_15.2) fun gone_10=>(Mo.ok (.nx gone_10))) else (Mo.bind (Mo.bind (Mo.ok s_3) fun xs_25=>compM (fun x_17=>cond1 (Mo.bind (Mo.bind (Mo.bind (Mo.ok x_17) fun a_19=>Mo.bind (Mo.bind (Mo.ok x_4) fun a_18=>Mo.ok a_18.1) fun c_20=>Mo.ok (a_19,c_20)) fun c_21=>Mo.noex (zc9_ c_21.1 c_21.2)) fun a_23=>Mo.bind (Mo.bind (Mo.ok x_4) fun a_22=>Mo.opt a_22.2) fun b_24=>Mo.ok (decide (a_23=b_24))) (Mo.ok x_17)) xs_25 []) fun gone_16=>(Mo.ok (.nx gone_16)))) fun s_9=>(Mo.ok (.nx s_9)))) xs_26 gone_1) fun s_3=>(Mo.ok (.rt s_3))))
noncomputable def zck_ (p_deck:(List (List Nat))) (p_row:(List Pas)):Mo (List (List Nat)):=fnO (zcW_ p_deck p_row)
noncomputable def zc1_ (p_deck_here:(List (List Nat))) (p_one:Pas):Mo (Out (List (List Nat)) Unit Unit) :=
 (Mo.bind (Mo.bind (Mo.bind (Mo.ok p_one) fun a_2=>Mo.ok a_2.1) fun a_3=>Mo.bind (Mo.ok (1:Int)) fun b_4=>Mo.ok (a_3-b_4)) fun at_1=>(thenO (S:=Unit) (Mo.bind (Mo.bind (Mo.bind (Mo.ok p_one) fun a_5=>Mo.ok (pTag a_5)) fun a_6=>Mo.bind (Mo.ok ([112,105,99,107]:List Nat)) fun b_7=>Mo.ok (decide (a_6=b_7))) fun c_8=>if c_8 then (Mo.bind (Mo.bind (Mo.ok p_deck_here) fun xs_16=>compM (fun x_10=>cond1 (Mo.bind (Mo.bind (Mo.ok x_10) fun a_11=>Mo.bind (Mo.ok at_1) fun b_12=>Mo.lim a_11.length (Mo.opt ((atI a_11 b_12).map fun c=>[c]))) fun a_14=>Mo.bind (Mo.bind (Mo.ok p_one) fun a_13=>Mo.opt a_13.2) fun b_15=>Mo.ok (decide (a_14=b_15))) (Mo.ok x_10)) xs_16 []) fun r_17=>Mo.ok (.rt r_17)) else (Mo.ok (.nx ()))) fun _=>(Mo.bind (Mo.ok ([]:List (List Nat))) fun found_18=>(thenO (S:=(List (List Nat))) (Mo.bind (Mo.ok p_deck_here) fun xs_42=>forO (fun (s_19:(List (List Nat))) x_20=>(Mo.bind (Mo.bind (Mo.ok s_19) fun c_22=>Mo.ok (c_22.length:Int)) fun here_21=>(thenO (S:=Int) (whileO (fun (s_23:Int)=>(Mo.bind (Mo.bind (Mo.ok s_23) fun a_24=>Mo.bind (Mo.ok (0:Int)) fun b_25=>Mo.ok (decide (b_25<a_24))) fun c_36=>if c_36 then (Mo.bind (Mo.bind (Mo.ok x_20) fun a_26=>Mo.bind (Mo.ok at_1) fun b_27=>Mo.lim a_26.length (Mo.opt ((atI a_26 b_27).map fun c=>[c]))) fun a_34=>Mo.bind (Mo.bind (Mo.bind (Mo.ok s_19) fun a_30=>Mo.bind (Mo.bind (Mo.ok s_23) fun a_28=>Mo.bind (Mo.ok (1:Int)) fun b_29=>Mo.ok (a_28-b_29)) fun b_31=>Mo.opt (atI a_30 b_31)) fun a_32=>Mo.bind (Mo.ok at_1) fun b_33=>Mo.lim a_32.length (Mo.opt ((atI a_32 b_33).map fun c=>[c]))) fun b_35=>Mo.ok (decide (a_34<b_35))) else Mo.ok false)) (fun (s_23:Int)=>(Mo.bind (Mo.bind (Mo.ok s_23) fun a_38=>Mo.bind (Mo.ok (1:Int)) fun b_39=>Mo.ok (a_38-b_39)) fun here_37=>(Mo.ok (.nx here_37)))) fuelW here_21) fun s_23=>(Mo.bind (Mo.ok s_23) fun j_40=>Mo.bind (Mo.ok x_20) fun a_41=>Mo.grd (0≤j_40∧j_40≤s_19.length) (Mo.lim (s_19.length+1) (Mo.ok (.nx (insL s_19 j_40 a_41)))))))) xs_42 found_18) fun s_19=>(Mo.ok (.rt s_19))))))
noncomputable def zcZ_ (p_deck_here:(List (List Nat))) (p_one:Pas):Mo (List (List Nat)):=fnO (zc1_ p_deck_here p_one)
noncomputable def zbm_ (p_deck_here:(List (List Nat))) (p_row:(List Pas)):Mo (Out (List (List Nat)) Unit Unit) :=
 (Mo.bind (Mo.bind (Mo.ok p_deck_here) fun c_2=>Mo.ok c_2) fun found_1=>(thenO (S:=(List (List Nat))) (Mo.bind (Mo.ok p_row) fun xs_9=>forO (fun (s_3:(List (List Nat))) x_4=>(Mo.bind (Mo.bind (Mo.bind (Mo.ok s_3) fun a_6=>Mo.bind (Mo.ok x_4) fun c_7=>Mo.ok (a_6,c_7)) fun c_8=>Mo.noex (zcZ_ c_8.1 c_8.2)) fun found_5=>(Mo.ok (.nx found_5)))) xs_9 found_1) fun s_3=>(Mo.ok (.rt s_3))))
noncomputable def zaT_ (p_deck_here:(List (List Nat))) (p_row:(List Pas)):Mo (List (List Nat)):=fnO (zbm_ p_deck_here p_row)
noncomputable def zcv_ (p_found:(Option (List (List Nat)))) (p_deck_here:(List (List Nat))) (p_row:(List Pas)) (p_other:(List Pas)):Mo (Out Bool Unit Unit) :=
 (Mo.bind (Mo.bind (Mo.bind (Mo.ok p_deck_here) fun a_2=>Mo.bind (Mo.ok p_row) fun c_3=>Mo.ok (a_2,c_3)) fun c_4=>Mo.noex (zck_ c_4.1 c_4.2)) fun here_1=>(Mo.bind (Mo.bind (Mo.bind (Mo.ok p_deck_here) fun a_6=>Mo.bind (Mo.ok p_other) fun c_7=>Mo.ok (a_6,c_7)) fun c_8=>Mo.noex (zck_ c_8.1 c_8.2)) fun there_5=>(thenO (S:=Unit) (Mo.bind (Mo.bind (Mo.bind (Mo.bind (Mo.ok here_1) fun a_9=>Mo.ok true) fun a_10=>Mo.ok (!a_10)) fun c_13=>if c_13 then Mo.ok true else (Mo.bind (Mo.bind (Mo.ok there_5) fun a_11=>Mo.ok true) fun a_12=>Mo.ok (!a_12))) fun c_14=>if c_14 then (Mo.bind (Mo.ok false) fun r_16=>Mo.ok (.rt r_16)) else (Mo.ok (.nx ()))) fun _=>(thenO (S:=Unit) (Mo.bind (Mo.bind (Mo.bind (Mo.ok here_1) fun a_20=>Mo.bind (Mo.bind (Mo.bind (Mo.ok p_deck_here) fun a_17=>Mo.bind (Mo.ok p_row) fun c_18=>Mo.ok (a_17,c_18)) fun c_19=>Mo.noex (zaT_ c_19.1 c_19.2)) fun b_21=>Mo.ok (!((eqL (fun a b=>decide (a=b))) a_20 b_21))) fun c_27=>if c_27 then Mo.ok true else (Mo.bind (Mo.ok there_5) fun a_25=>Mo.bind (Mo.bind (Mo.bind (Mo.ok p_deck_here) fun a_22=>Mo.bind (Mo.ok p_other) fun c_23=>Mo.ok (a_22,c_23)) fun c_24=>Mo.noex (zaT_ c_24.1 c_24.2)) fun b_26=>Mo.ok (!((eqL (fun a b=>decide (a=b))) a_25 b_26)))) fun c_28=>if c_28 then (Mo.bind (Mo.ok false) fun r_30=>Mo.ok (.rt r_30)) else (Mo.ok (.nx ()))) fun _=>(Mo.bind (Mo.bind (Mo.bind (Mo.ok here_1) fun a_31=>Mo.bind (Mo.ok there_5) fun b_32=>Mo.ok (((eqL (fun a b=>decide (a=b))) a_31 b_32))) fun a_35=>Mo.bind (Mo.bind (Mo.ok p_found) fun a_33=>Mo.bind (Mo.ok ()) fun b_34=>Mo.ok a_33.isNone) fun b_36=>Mo.ok (decide (a_35=b_36))) fun r_37=>Mo.ok (.rt r_37))))))
noncomputable def za1_ (p_found:(Option (List (List Nat)))) (p_deck_here:(List (List Nat))) (p_row:(List Pas)) (p_other:(List Pas)):Mo Bool:=fnO (zcv_ p_found p_deck_here p_row p_other)
noncomputable def zdO_ (p_found:(Option (List (List Nat)))) (p_row:(List Pas)) (p_other:(List Pas)):Mo (Out Bool Unit Unit) :=
 (thenO (S:=Unit) (Mo.bind (Mo.bind (Mo.ok p_found) fun a_1=>Mo.bind (Mo.ok ()) fun b_2=>Mo.ok a_1.isNone) fun c_3=>if c_3 then (Mo.bind (Mo.ok true) fun r_5=>Mo.ok (.rt r_5)) else (Mo.ok (.nx ()))) fun _=>(Mo.bind (Mo.opt p_found) fun found_6=>(thenO (S:=Unit) (Mo.bind (Mo.bind (Mo.bind (Mo.bind (Mo.ok found_6) fun a_7=>Mo.ok true) fun a_8=>Mo.ok (!a_8)) fun c_16=>if c_16 then Mo.ok true else (Mo.bind (Mo.bind (Mo.bind (Mo.ok found_6) fun c_9=>Mo.ok (c_9.length:Int)) fun a_10=>Mo.bind (Mo.ok (1:Int)) fun b_11=>Mo.ok (decide (a_10<b_11))) fun c_15=>if c_15 then Mo.ok true else (Mo.bind (Mo.bind (Mo.ok found_6) fun c_12=>Mo.ok (c_12.length:Int)) fun a_13=>Mo.bind (Mo.ok (2:Int)) fun b_14=>Mo.ok (decide (b_14<a_13))))) fun c_17=>if c_17 then (Mo.bind (Mo.ok false) fun r_19=>Mo.ok (.rt r_19)) else (Mo.ok (.nx ()))) fun _=>(thenO (S:=Unit) (Mo.bind (Mo.ok found_6) fun xs_30=>forO (fun (_:Unit) x_21=>(Mo.bind (Mo.bind (Mo.bind (Mo.bind (Mo.ok x_21) fun a_22=>Mo.ok true) fun a_23=>Mo.ok (!a_23)) fun c_27=>if c_27 then Mo.ok true else (Mo.bind (Mo.bind (Mo.ok x_21) fun c_24=>Mo.lim c_24.length (Mo.ok (c_24.length:Int))) fun a_25=>Mo.bind (Mo.ok (40:Int)) fun b_26=>Mo.ok (!decide (a_25=b_26)))) fun c_28=>if c_28 then (Mo.bind (Mo.ok false) fun r_29=>Mo.ok (.rt r_29)) else (Mo.ok (.nx ())))) xs_30 ()) fun _=>(thenO (S:=Unit) (Mo.bind (Mo.bind (Mo.bind (Mo.bind (Mo.ok found_6) fun c_31=>Mo.ok (c_31.length:Int)) fun a_32=>Mo.bind (Mo.ok (2:Int)) fun b_33=>Mo.ok (decide (a_32=b_33))) fun c_48=>if c_48 then (Mo.bind (Mo.bind (Mo.bind (Mo.ok found_6) fun a_34=>Mo.bind (Mo.ok (0:Int)) fun b_35=>Mo.opt (atI a_34 b_35)) fun a_37=>Mo.bind (Mo.bind (Mo.ok (36:Int)) fun i_36=>Mo.ok (some i_36)) fun b_38=>Mo.bind (Mo.ok none) fun d_39=>Mo.lim a_37.length (Mo.ok (cutG a_37 b_38 d_39))) fun a_46=>Mo.bind (Mo.bind (Mo.bind (Mo.ok found_6) fun a_40=>Mo.bind (Mo.ok (1:Int)) fun b_41=>Mo.opt (atI a_40 b_41)) fun a_43=>Mo.bind (Mo.bind (Mo.ok (36:Int)) fun i_42=>Mo.ok (some i_42)) fun b_44=>Mo.bind (Mo.ok none) fun d_45=>Mo.lim a_43.length (Mo.ok (cutG a_43 b_44 d_45))) fun b_47=>Mo.ok (decide (a_46=b_47))) else Mo.ok false) fun c_49=>if c_49 then (Mo.bind (Mo.ok false) fun r_51=>Mo.ok (.rt r_51)) else (Mo.ok (.nx ()))) fun _=>(Mo.bind (Mo.bind (Mo.bind (Mo.bind (Mo.ok found_6) fun a_52=>Mo.ok (some a_52)) fun a_57=>Mo.bind (Mo.bind (Mo.ok found_6) fun a_55=>Mo.bind (Mo.bind (Mo.ok p_row) fun a_53=>Mo.bind (Mo.ok p_other) fun c_54=>Mo.ok (a_53,c_54)) fun c_56=>Mo.ok (a_55,c_56)) fun c_58=>Mo.ok (a_57,c_58)) fun c_59=>Mo.noex (za1_ c_59.1 c_59.2.1 c_59.2.2.1 c_59.2.2.2)) fun r_60=>Mo.ok (.rt r_60)))))))
noncomputable def zbA_ (p_found:(Option (List (List Nat)))) (p_row:(List Pas)) (p_other:(List Pas)):Mo Bool:=fnO (zdO_ p_found p_row p_other)
noncomputable def zc6_ (p_cell:Int) (p_hero:(List Nat)) (p_start:Int) (p_reach:Int) (p_share:Int):Mo (Out Pas Unit Unit) :=
 (Mo.bind (Mo.ok (SG:List Nat)) fun signs_1=>(Mo.bind (Mo.bind (Mo.bind (Mo.ok p_cell) fun a_3=>Mo.bind (Mo.ok (2147483647:Int)) fun b_4=>Mo.grd (0<b_4) (Mo.ok (a_3 % b_4))) fun a_5=>Mo.bind (Mo.ok (69621:Int)) fun b_6=>Mo.ok (a_5+b_6)) fun number_2=>(Mo.bind (Mo.bind (Mo.bind (Mo.ok number_2) fun a_8=>Mo.bind (Mo.ok number_2) fun b_9=>Mo.grd (IntMulOk a_8 b_9) (Mo.ok (a_8*b_9))) fun a_10=>Mo.bind (Mo.ok (2147483629:Int)) fun b_11=>Mo.grd (0<b_11) (Mo.ok (a_10 % b_11))) fun number_7=>(Mo.bind (Mo.bind (Mo.ok (1:Int)) fun a_21=>Mo.bind (Mo.bind (Mo.bind (Mo.ok p_start) fun a_17=>Mo.bind (Mo.bind (Mo.bind (Mo.ok number_7) fun a_13=>Mo.bind (Mo.ok (8:Int)) fun b_14=>Mo.grd (CDivG a_13 b_14) (Mo.ok (a_13 / b_14))) fun a_15=>Mo.bind (Mo.ok p_reach) fun b_16=>Mo.grd (0<b_16) (Mo.ok (a_15 % b_16))) fun b_18=>Mo.ok (a_17+b_18)) fun a_19=>Mo.bind (Mo.ok (36:Int)) fun b_20=>Mo.grd (0<b_20) (Mo.ok (a_19 % b_20))) fun b_22=>Mo.ok (a_21+b_22)) fun column_12=>(thenO (S:=Unit) (Mo.bind (Mo.bind (Mo.bind (Mo.ok number_7) fun a_23=>Mo.bind (Mo.ok (8:Int)) fun b_24=>Mo.grd (0<b_24) (Mo.ok (a_23 % b_24))) fun a_25=>Mo.bind (Mo.ok p_share) fun b_26=>Mo.ok (decide (b_26≤a_25))) fun c_27=>if c_27 then (Mo.bind (Mo.bind (Mo.ok column_12) fun a_29=>Mo.ok (a_29,none)) fun r_30=>Mo.ok (.rt r_30)) else (Mo.ok (.nx ()))) fun _=>(thenO (S:=Unit) (Mo.bind (Mo.bind (Mo.bind (Mo.bind (Mo.ok number_7) fun a_31=>Mo.bind (Mo.ok (512:Int)) fun b_32=>Mo.grd (CDivG a_31 b_32) (Mo.ok (a_31 / b_32))) fun a_33=>Mo.bind (Mo.ok (7:Int)) fun b_34=>Mo.grd (0<b_34) (Mo.ok (a_33 % b_34))) fun a_35=>Mo.bind (Mo.ok (1:Int)) fun b_36=>Mo.ok (decide (a_35=b_36))) fun c_37=>if c_37 then (Mo.bind (Mo.bind (Mo.ok column_12) fun a_45=>Mo.bind (Mo.bind (Mo.ok signs_1) fun a_43=>Mo.bind (Mo.bind (Mo.bind (Mo.ok number_7) fun a_39=>Mo.bind (Mo.ok (4096:Int)) fun b_40=>Mo.grd (CDivG a_39 b_40) (Mo.ok (a_39 / b_40))) fun a_41=>Mo.bind (Mo.ok (37:Int)) fun b_42=>Mo.grd (0<b_42) (Mo.ok (a_41 % b_42))) fun b_44=>Mo.lim a_43.length (Mo.opt ((atI a_43 b_44).map fun c=>[c]))) fun b_46=>Mo.ok (a_45,some b_46)) fun r_47=>Mo.ok (.rt r_47)) else (Mo.ok (.nx ()))) fun _=>(Mo.bind (Mo.bind (Mo.ok column_12) fun a_52=>Mo.bind (Mo.bind (Mo.ok p_hero) fun a_50=>Mo.bind (Mo.bind (Mo.ok column_12) fun a_48=>Mo.bind (Mo.ok (1:Int)) fun b_49=>Mo.ok (a_48-b_49)) fun b_51=>Mo.lim a_50.length (Mo.opt ((atI a_50 b_51).map fun c=>[c]))) fun b_53=>Mo.ok (a_52,some b_53)) fun r_54=>Mo.ok (.rt r_54))))))))
noncomputable def zc5_ (p_cell:Int) (p_hero:(List Nat)) (p_start:Int) (p_reach:Int) (p_share:Int):Mo Pas:=fnO (zc6_ p_cell p_hero p_start p_reach p_share)
noncomputable def znI_ (p_script:(List Int)):Mo (Out Bool Unit Unit) :=
 (Mo.bind (Mo.bind (Mo.bind (Mo.bind (Mo.ok p_script) fun a_2=>Mo.bind (Mo.ok (0:Int)) fun c_3=>Mo.ok (a_2,c_3)) fun c_4=>Mo.noex (zN_ c_4.1 c_4.2)) fun a_5=>Mo.bind (Mo.ok (7:Int)) fun b_6=>Mo.grd (0<b_6) (Mo.ok (a_5 % b_6))) fun many_1=>(Mo.bind (Mo.bind (Mo.bind (Mo.bind (Mo.ok (2:Int)) fun a_12=>Mo.bind (Mo.bind (Mo.ok (3:Int)) fun a_10=>Mo.bind (Mo.bind (Mo.ok (1:Int)) fun a_8=>Mo.bind (Mo.ok (37:Int)) fun c_9=>Mo.ok (a_8,c_9)) fun c_11=>Mo.ok (a_10,c_11)) fun c_13=>Mo.ok (a_12,c_13)) fun c_14=>Mo.ok [c_14.1,c_14.2.1,c_14.2.2.1,c_14.2.2.2]) fun a_20=>Mo.bind (Mo.bind (Mo.bind (Mo.bind (Mo.ok p_script) fun a_15=>Mo.bind (Mo.ok (2:Int)) fun c_16=>Mo.ok (a_15,c_16)) fun c_17=>Mo.noex (zN_ c_17.1 c_17.2)) fun a_18=>Mo.bind (Mo.ok (4:Int)) fun b_19=>Mo.grd (0<b_19) (Mo.ok (a_18 % b_19))) fun b_21=>Mo.opt (atI a_20 b_21)) fun spread_7=>(Mo.bind (Mo.bind (Mo.bind (Mo.bind (Mo.bind (Mo.ok p_script) fun a_23=>Mo.bind (Mo.ok (2:Int)) fun c_24=>Mo.ok (a_23,c_24)) fun c_25=>Mo.noex (zN_ c_25.1 c_25.2)) fun a_26=>Mo.bind (Mo.ok (4:Int)) fun b_27=>Mo.grd (CDivG a_26 b_27) (Mo.ok (a_26 / b_27))) fun a_28=>Mo.bind (Mo.ok (36:Int)) fun b_29=>Mo.grd (0<b_29) (Mo.ok (a_28 % b_29))) fun start_22=>(Mo.bind (Mo.bind (Mo.bind (Mo.bind (Mo.bind (Mo.ok p_script) fun a_31=>Mo.bind (Mo.ok (1:Int)) fun c_32=>Mo.ok (a_31,c_32)) fun c_33=>Mo.noex (zN_ c_33.1 c_33.2)) fun a_36=>Mo.bind (Mo.bind (Mo.ok many_1) fun a_34=>Mo.bind (Mo.ok spread_7) fun c_35=>Mo.ok (a_34,c_35)) fun c_37=>Mo.ok (a_36,c_37)) fun c_38=>Mo.noex (zcR_ c_38.1 c_38.2.1 c_38.2.2)) fun deck_here_30=>(Mo.bind (Mo.bind (Mo.bind (Mo.ok deck_here_30) fun a_43=>Mo.bind (Mo.bind (Mo.bind (Mo.ok ([32]:List Nat)) fun a_40=>Mo.bind (Mo.ok (40:Int)) fun b_41=>Mo.grd (CRep a_40.length b_41) (Mo.ok (repL a_40 b_41))) fun c_42=>Mo.ok [c_42]) fun b_44=>Mo.lim (a_43.length+b_44.length) (Mo.ok (a_43++b_44))) fun a_45=>Mo.bind (Mo.ok (0:Int)) fun b_46=>Mo.opt (atI a_45 b_46)) fun hero_39=>(Mo.bind (Mo.bind (Mo.bind (Mo.ok p_script) fun a_48=>Mo.bind (Mo.ok (3:Int)) fun c_49=>Mo.ok (a_48,c_49)) fun c_50=>Mo.noex (zN_ c_50.1 c_50.2)) fun ways_47=>(Mo.bind (Mo.bind (Mo.bind (Mo.bind (Mo.ok (2:Int)) fun a_56=>Mo.bind (Mo.bind (Mo.ok (1:Int)) fun a_54=>Mo.bind (Mo.bind (Mo.ok (4:Int)) fun a_52=>Mo.bind (Mo.ok (36:Int)) fun c_53=>Mo.ok (a_52,c_53)) fun c_55=>Mo.ok (a_54,c_55)) fun c_57=>Mo.ok (a_56,c_57)) fun c_58=>Mo.ok [c_58.1,c_58.2.1,c_58.2.2.1,c_58.2.2.2]) fun a_61=>Mo.bind (Mo.bind (Mo.ok ways_47) fun a_59=>Mo.bind (Mo.ok (4:Int)) fun b_60=>Mo.grd (0<b_60) (Mo.ok (a_59 % b_60))) fun b_62=>Mo.opt (atI a_61 b_62)) fun reach_51=>(Mo.bind (Mo.ok ([]:List Pas)) fun row_63=>(thenO (S:=(List Pas)) (Mo.bind (Mo.bind (Mo.ok p_script) fun a_67=>Mo.bind (Mo.bind (Mo.ok (5:Int)) fun i_65=>Mo.ok (some i_65)) fun b_68=>Mo.bind (Mo.bind (Mo.ok (55:Int)) fun i_66=>Mo.ok (some i_66)) fun d_69=>Mo.ok (cutG a_67 b_68 d_69)) fun xs_92=>forO (fun (s_64:(List Pas)) x_70=>(Mo.bind (Mo.bind (Mo.bind (Mo.ok x_70) fun a_88=>Mo.bind (Mo.bind (Mo.ok hero_39) fun a_86=>Mo.bind (Mo.bind (Mo.ok start_22) fun a_84=>Mo.bind (Mo.bind (Mo.ok reach_51) fun a_82=>Mo.bind (Mo.bind (Mo.bind (Mo.bind (Mo.ok (2:Int)) fun a_73=>Mo.bind (Mo.bind (Mo.ok (0:Int)) fun a_71=>Mo.bind (Mo.ok (4:Int)) fun c_72=>Mo.ok (a_71,c_72)) fun c_74=>Mo.ok (a_73,c_74)) fun c_75=>Mo.ok [c_75.1,c_75.2.1,c_75.2.2]) fun a_80=>Mo.bind (Mo.bind (Mo.bind (Mo.ok ways_47) fun a_76=>Mo.bind (Mo.ok (4:Int)) fun b_77=>Mo.grd (CDivG a_76 b_77) (Mo.ok (a_76 / b_77))) fun a_78=>Mo.bind (Mo.ok (3:Int)) fun b_79=>Mo.grd (0<b_79) (Mo.ok (a_78 % b_79))) fun b_81=>Mo.opt (atI a_80 b_81)) fun c_83=>Mo.ok (a_82,c_83)) fun c_85=>Mo.ok (a_84,c_85)) fun c_87=>Mo.ok (a_86,c_87)) fun c_89=>Mo.ok (a_88,c_89)) fun c_90=>Mo.noex (zc5_ c_90.1 c_90.2.1 c_90.2.2.1 c_90.2.2.2.1 c_90.2.2.2.2)) fun a_91=>Mo.lim (s_64.length+1) (Mo.ok (.nx (s_64++[a_91]))))) xs_92 row_63) fun s_64=>(Mo.bind (Mo.bind (Mo.bind (Mo.bind (Mo.bind (Mo.ok p_script) fun a_94=>Mo.bind (Mo.ok (4:Int)) fun c_95=>Mo.ok (a_94,c_95)) fun c_96=>Mo.noex (zN_ c_96.1 c_96.2)) fun a_97=>Mo.bind (Mo.ok (2:Int)) fun b_98=>Mo.grd (0<b_98) (Mo.ok (a_97 % b_98))) fun a_99=>Mo.bind (Mo.ok (0:Int)) fun b_100=>Mo.ok (decide (a_99=b_100))) fun made_93=>(Mo.bind (Mo.bind (Mo.bind (Mo.bind (Mo.bind (Mo.ok p_script) fun a_102=>Mo.bind (Mo.ok (4:Int)) fun c_103=>Mo.ok (a_102,c_103)) fun c_104=>Mo.noex (zN_ c_104.1 c_104.2)) fun a_105=>Mo.bind (Mo.ok (4:Int)) fun b_106=>Mo.grd (CDivG a_105 b_106) (Mo.ok (a_105 / b_106))) fun a_110=>Mo.bind (Mo.bind (Mo.bind (Mo.ok s_64) fun c_107=>Mo.ok (c_107.length:Int)) fun a_108=>Mo.bind (Mo.ok (1:Int)) fun b_109=>Mo.ok (a_108+b_109)) fun b_111=>Mo.grd (0<b_111) (Mo.ok (a_110 % b_111))) fun at_101=>(Mo.bind (Mo.bind (Mo.bind (Mo.ok s_64) fun a_114=>Mo.bind (Mo.bind (Mo.ok at_101) fun i_113=>Mo.ok (some i_113)) fun b_115=>Mo.bind (Mo.ok none) fun d_116=>Mo.ok (cutG a_114 b_115 d_116)) fun a_121=>Mo.bind (Mo.bind (Mo.ok s_64) fun a_118=>Mo.bind (Mo.ok none) fun b_119=>Mo.bind (Mo.bind (Mo.ok at_101) fun i_117=>Mo.ok (some i_117)) fun d_120=>Mo.ok (cutG a_118 b_119 d_120)) fun b_122=>Mo.lim (a_121.length+b_122.length) (Mo.ok (a_121++b_122))) fun other_112=>(thenO (S:=(List Pas)) (Mo.bind (Mo.bind (Mo.bind (Mo.bind (Mo.bind (Mo.ok p_script) fun a_123=>Mo.bind (Mo.ok (4:Int)) fun c_124=>Mo.ok (a_123,c_124)) fun c_125=>Mo.noex (zN_ c_125.1 c_125.2)) fun a_126=>Mo.bind (Mo.ok (4:Int)) fun b_127=>Mo.grd (0<b_127) (Mo.ok (a_126 % b_127))) fun a_128=>Mo.bind (Mo.ok (3:Int)) fun b_129=>Mo.ok (decide (a_128=b_129))) fun c_130=>if c_130 then (Mo.bind (Mo.bind (Mo.bind (Mo.bind (Mo.ok s_64) fun a_134=>Mo.bind (Mo.ok none) fun b_135=>Mo.bind (Mo.bind (Mo.ok at_101) fun i_133=>Mo.ok (some i_133)) fun d_136=>Mo.ok (cutG a_134 b_135 d_136)) fun a_137=>Mo.ok a_137.reverse) fun a_142=>Mo.bind (Mo.bind (Mo.ok s_64) fun a_139=>Mo.bind (Mo.bind (Mo.ok at_101) fun i_138=>Mo.ok (some i_138)) fun b_140=>Mo.bind (Mo.ok none) fun d_141=>Mo.ok (cutG a_139 b_140 d_141)) fun b_143=>Mo.lim (a_142.length+b_143.length) (Mo.ok (a_142++b_143))) fun other_132=>(Mo.ok (.nx other_132))) else (Mo.ok (.nx other_112))) fun s_131=>(thenO (S:=(List Pas)) (Mo.bind (Mo.ok made_93) fun c_144=>if c_144 then (Mo.bind (Mo.bind (Mo.bind (Mo.ok s_64) fun a_152=>Mo.bind (Mo.bind (Mo.ok p_script) fun a_149=>Mo.bind (Mo.bind (Mo.ok (5:Int)) fun i_147=>Mo.ok (some i_147)) fun b_150=>Mo.bind (Mo.bind (Mo.ok (55:Int)) fun i_148=>Mo.ok (some i_148)) fun d_151=>Mo.ok (cutG a_149 b_150 d_151)) fun c_153=>Mo.ok (a_152,c_153)) fun c_154=>Mo.noex (z1_ c_154.1 c_154.2)) fun other_146=>(Mo.ok (.nx other_146))) else (Mo.ok (.nx s_131))) fun s_145=>(Mo.bind (Mo.bind (Mo.bind (Mo.ok s_64) fun c_160=>Mo.ok c_160) fun a_162=>Mo.bind (Mo.bind (Mo.ok s_145) fun c_161=>Mo.ok c_161) fun c_163=>Mo.ok (a_162,c_163)) fun handed_155=>(Mo.bind (Mo.bind (Mo.bind (Mo.bind (Mo.ok handed_155) fun a_166=>Mo.ok a_166.1) fun a_168=>Mo.bind (Mo.bind (Mo.ok handed_155) fun a_167=>Mo.ok a_167.2) fun c_169=>Mo.ok (a_168,c_169)) fun c_170=>Mo.noex (zy_ c_170.1 c_170.2)) fun found_165=>(thenO (S:=Unit) (Mo.bind (Mo.bind (Mo.bind (Mo.ok made_93) fun c_173=>if c_173 then (Mo.bind (Mo.ok found_165) fun a_171=>Mo.bind (Mo.ok ()) fun b_172=>Mo.ok a_171.isSome) else Mo.ok false) fun c_185=>if c_185 then Mo.ok true else (Mo.bind (Mo.bind (Mo.ok handed_155) fun a_176=>Mo.bind (Mo.bind (Mo.ok s_64) fun a_174=>Mo.bind (Mo.ok s_145) fun c_175=>Mo.ok (a_174,c_175)) fun b_177=>Mo.ok (!((fun a b=>(eqL (fun a b=>decide (a=b))) a.1 b.1 && (eqL (fun a b=>decide (a=b))) a.2 b.2) a_176 b_177))) fun c_184=>if c_184 then Mo.ok true else (Mo.bind (Mo.bind (Mo.bind (Mo.ok found_165) fun a_180=>Mo.bind (Mo.bind (Mo.ok s_64) fun a_178=>Mo.bind (Mo.ok s_145) fun c_179=>Mo.ok (a_178,c_179)) fun c_181=>Mo.ok (a_180,c_181)) fun c_182=>Mo.noex (zbA_ c_182.1 c_182.2.1 c_182.2.2)) fun a_183=>Mo.ok (!a_183)))) fun c_186=>if c_186 then (Mo.bind (Mo.ok false) fun r_188=>Mo.ok (.rt r_188)) else (Mo.ok (.nx ()))) fun _=>(thenO (S:=Unit) (Mo.bind (Mo.bind (Mo.bind (Mo.ok found_165) fun a_189=>Mo.bind (Mo.ok ()) fun b_190=>Mo.ok a_189.isNone) fun c_199=>if c_199 then (Mo.bind (Mo.bind (Mo.bind (Mo.ok (none:(Option (List (List Nat))))) fun a_195=>Mo.bind (Mo.bind (Mo.ok deck_here_30) fun a_193=>Mo.bind (Mo.bind (Mo.ok s_64) fun a_191=>Mo.bind (Mo.ok s_145) fun c_192=>Mo.ok (a_191,c_192)) fun c_194=>Mo.ok (a_193,c_194)) fun c_196=>Mo.ok (a_195,c_196)) fun c_197=>Mo.noex (za1_ c_197.1 c_197.2.1 c_197.2.2.1 c_197.2.2.2)) fun a_198=>Mo.ok (!a_198)) else Mo.ok false) fun c_200=>if c_200 then (Mo.bind (Mo.ok false) fun r_202=>Mo.ok (.rt r_202)) else (Mo.ok (.nx ()))) fun _=>(Mo.bind (Mo.bind (Mo.bind (Mo.ok s_145) fun a_205=>Mo.bind (Mo.ok s_64) fun c_206=>Mo.ok (a_205,c_206)) fun c_207=>Mo.noex (zy_ c_207.1 c_207.2)) fun again_204=>(Mo.bind (Mo.bind (Mo.bind (Mo.bind (Mo.ok again_204) fun a_208=>Mo.bind (Mo.ok ()) fun b_209=>Mo.ok a_208.isNone) fun a_212=>Mo.bind (Mo.bind (Mo.ok found_165) fun a_210=>Mo.bind (Mo.ok ()) fun b_211=>Mo.ok a_210.isNone) fun b_213=>Mo.ok (decide (a_212=b_213))) fun c_219=>if c_219 then (Mo.bind (Mo.bind (Mo.ok again_204) fun a_216=>Mo.bind (Mo.bind (Mo.ok s_145) fun a_214=>Mo.bind (Mo.ok s_64) fun c_215=>Mo.ok (a_214,c_215)) fun c_217=>Mo.ok (a_216,c_217)) fun c_218=>Mo.noex (zbA_ c_218.1 c_218.2.1 c_218.2.2)) else Mo.ok false) fun r_220=>Mo.ok (.rt r_220)))))))))))))))))))))
noncomputable def znK_ (p_script:(List Int)):Mo Bool:=fnO (znI_ p_script)
end K18
namespace K18
open PySem PySem.Spec PyProof.Rows L2
noncomputable def top (i:Nat):Stmt:=PySem.Challenge.pw_cardshop_k18_whole_partings.main.body.getD i (.Pass ⟨0,0,0,0⟩)
noncomputable abbrev z9_:Stmt:=top 32
noncomputable abbrev zaK_:Stmt:=top 33
noncomputable abbrev z7_:Stmt:=top 31
noncomputable abbrev zT_:Stmt:=top 15
noncomputable abbrev zaW_:Stmt:=top 16
noncomputable abbrev zaq_:Stmt:=top 22
noncomputable abbrev zX_:Stmt:=top 27
noncomputable abbrev zz_:Stmt:=top 28
noncomputable abbrev z2_:Stmt:=top 23
noncomputable abbrev zL_:Stmt:=top 24
noncomputable abbrev zU_:Stmt:=top 25
noncomputable abbrev zu_:Stmt:=top 26
noncomputable abbrev zac_:Stmt:=top 29
noncomputable abbrev zt_:Stmt:=top 37
noncomputable abbrev zbT_:Stmt:=top 11
noncomputable abbrev zbq_:Stmt:=top 6
noncomputable abbrev zbh_:Stmt:=top 7
noncomputable abbrev zbo_:Stmt:=top 8
noncomputable abbrev zab_:Stmt:=top 10
noncomputable abbrev zaN_:Stmt:=top 12
noncomputable abbrev zaJ_:Stmt:=top 14
noncomputable abbrev zaP_:Stmt:=top 35
noncomputable abbrev zW_:Stmt:=top 36
noncomputable abbrev zat_:Stmt:=top 38
noncomputable abbrev zbf_:Stmt:=top 39
noncomputable abbrev zaX_:Stmt:=top 34
noncomputable abbrev zhH_:Stmt:=top 40
structure Fx (K:Fgg):Prop where
 exc_NoCard:excK K (gA K "NoCard")=true
noncomputable def z6_ (K:Fgg):Sp:=Ct K (csCons tyInt (csLast tyInt)) (fun c=>zbR_ c.1 c.2) (owL tyInt)
noncomputable def zax_ (K:Fgg):Sp:=Ct K (csCons tyInt (csCons tyInt (csLast tyInt))) (fun c=>zcR_ c.1 c.2.1 c.2.2) (owL tyStr)
noncomputable def zn_ (K:Fgg):Sp:=Ct K (csCons (tySc K) (csLast tyInt)) (fun c=>zN_ c.1 c.2) (owF tyInt)
noncomputable def zM_ (K:Fgg):Sp:=Ct K (csLast (tyL tyPass)) (fun c=>zaO_ c) (owF (tyOpt (tyD kInt tyStr)))
noncomputable def zag_ (K:Fgg):Sp:=Ct K (csLast (tyL tyPass)) (fun c=>zbM_ c) (owF (tyOpt Qq0))
noncomputable def zw_ (K:Fgg):Sp:=Ct K (csCons (tyD kInt tyStr) (csLast tyStr)) (fun c=>zaF_ c.1 c.2) (owF tyStr)
noncomputable def zE_ (K:Fgg):Sp:=Ct K (csCons (tyD kInt tyStr) (csLast (tyD kInt tyStr))) (fun c=>zV_ c.1 c.2) (owF (tyOpt tyStr))
noncomputable def zv_ (K:Fgg):Sp:=Ct K (csCons (tyD kInt tyStr) (csLast (tyD kInt tyStr))) (fun c=>zC_ c.1 c.2) (owF (tyOpt (tyL tyStr)))
noncomputable def zS_ (K:Fgg):Sp:=Ct K (csCons (tyL tyInt) (csLast (tyL tyInt))) (fun c=>zbz_ c.1 c.2) (owF tyBl)
noncomputable def zH_ (K:Fgg):Sp:=Ct K (csCons (tyL tyInt) (csLast (tyL tyInt))) (fun c=>za6_ c.1 c.2) (owF tyInt)
noncomputable def zF_ (K:Fgg):Sp:=Ct K (csCons (tyD kInt tyStr) (csCons (tyL tyInt) (csLast (tyL tyInt)))) (fun c=>zav_ c.1 c.2.1 c.2.2) (owL tyStr)
noncomputable def zr_ (K:Fgg):Sp:=Ct K (csCons (tyD kInt tyStr) (csCons (tyL tyInt) (csLast (tyL tyInt)))) (fun c=>zO_ c.1 c.2.1 c.2.2) (owF (tyOpt (tyL tyStr)))
noncomputable def zY_ (K:Fgg):Sp:=Ct K (csCons (tyL tyPass) (csLast (tyL tyPass))) (fun c=>zy_ c.1 c.2) (owF (tyOpt (tyL tyStr)))
noncomputable def zq_ (K:Fgg):Sp:=Ct K (csCons (tyL tyPass) (csLast (tyL tyInt))) (fun c=>z1_ c.1 c.2) (owL tyPass)
noncomputable def zbp_ (K:Fgg):Sp:=Ct K (csLast (tyL (tyL tyStr))) (fun c=>zfh_ c) (owL tyStr)
noncomputable def zaL_ (K:Fgg):Sp:=Ct K (csLast tyStr) (fun c=>zdH_ c) (owF tyBl)
noncomputable def zaZ_ (K:Fgg):Sp:=Ct K (csLast tyStr) (fun c=>zdJ_ c) (owF tyInt)
noncomputable def zad_ (K:Fgg):Sp:=Ct K (csCons tyStr (csLast tyInt)) (fun c=>zc9_ c.1 c.2) (owF tyStr)
noncomputable def z4_ (K:Fgg):Sp:=Ct K (csCons (tyL tyStr) (csLast tyInt)) (fun c=>zbU_ c.1 c.2) (owLL tyStr)
noncomputable def zau_ (K:Fgg):Sp:=Ct K (csCons (tyL tyStr) (csLast (tyL tyInt))) (fun c=>zda_ c.1 c.2) (owL tyStr)
noncomputable def zaf_ (K:Fgg):Sp:=Ct K (csCons (tyL tyStr) (csLast (tyL tyPass))) (fun c=>zck_ c.1 c.2) (owL tyStr)
noncomputable def zas_ (K:Fgg):Sp:=Ct K (csCons (tyL tyStr) (csLast tyPass)) (fun c=>zcZ_ c.1 c.2) (owL tyStr)
noncomputable def zG_ (K:Fgg):Sp:=Ct K (csCons (tyL tyStr) (csLast (tyL tyPass))) (fun c=>zaT_ c.1 c.2) (owL tyStr)
noncomputable def zQ_ (K:Fgg):Sp:=Ct K (csCons (tyOpt (tyL tyStr)) (csCons (tyL tyStr) (csCons (tyL tyPass) (csLast (tyL tyPass))))) (fun c=>za1_ c.1 c.2.1 c.2.2.1 c.2.2.2) (owF tyBl)
noncomputable def zaB_ (K:Fgg):Sp:=Ct K (csCons (tyOpt (tyL tyStr)) (csCons (tyL tyPass) (csLast (tyL tyPass)))) (fun c=>zbA_ c.1 c.2.1 c.2.2) (owF tyBl)
noncomputable def zar_ (K:Fgg):Sp:=Ct K (csCons tyInt (csCons tyStr (csCons tyInt (csCons tyInt (csLast tyInt))))) (fun c=>zc5_ c.1 c.2.1 c.2.2.1 c.2.2.2.1 c.2.2.2.2) (owF tyPass)
noncomputable def zfI_ (K:Fgg):Sp:=fun vs H Q _=>∃ (a:Addr) (ns:List Int),vs=[.ref a]∧SqL K H a (ns.map V.int)∧ns.length≤63∧BitsOk ns∧∀ H',Q (.bl true) H'
noncomputable def zbx_ (K:Fgg):TS:=(tSeq (tAsg (tLst tNil) (gName 2)) (tSeq (tAsg (tOp mAdd (tOp mMod (mVar 0) (tC (.int 2147483647))) (tC (.int 48271))) (gName 3)) (tSeq (tFor (mRng1 (tCons (mVar 1) tNil)) (gName 4) (tSeq (tAsg (tOp mMod (tOp mAdd (tOp mAdd (tOp mMulX (mVar 3) (mVar 3)) (tOp mMulX (tC (.int 48271)) (mVar 3))) (mVar 4)) (tC (.int 2147483647))) (gName 3)) (tDrop (tBM K "list" rAppend (mVar 2) (tCons (mVar 3) tNil))))) (tRet (mVar 2)))))
noncomputable abbrev RD_law_stream (K:Fgg):Prop:=∀ vs H Q E,z6_ K vs H Q E→zbx_ K { nx:=fun _ H'=>Q .non H',rt:=Q } (start Qn9 vs) H
theorem zfe_ {K:Fgg}:∀ vs H Q E,z6_ K vs H Q E→vs.length=2:=by
 rintro vs H Q E ⟨F,c,_,hc,_⟩; exact ((ze_ zg_):CsN (csCons tyInt (csLast tyInt)) 2) hc
noncomputable def zcj_ (K:Fgg):TS:=(tSeq (tAsg (tC (tx SG)) (gName 3)) (tSeq (tAsg (tCall (z6_ K) [] E0 (tCons (mVar 0) (tCons (tOp mMulX (tC (.int 36)) (mVar 1)) tNil))) (gName 4)) (tSeq (tAsg (tLst tNil) (gName 5)) (tSeq (tFor (mRng1 (tCons (mVar 1) tNil)) (gName 6) (tSeq (tAsg (tC (tx [])) (gName 7)) (tSeq (tFor (mRng1 (tCons (tC (.int 36)) tNil)) (gName 8) (tSeq (tAsg (tOp mMod (tOp mDivG (tOp (mIx K) (mVar 4) (tOp mAdd (tOp mMulX (tC (.int 36)) (mVar 6)) (mVar 8))) (tC (.int 7))) (mVar 2)) (gName 9)) (tAsg (tOp mAdd (mVar 7) (tOp (mIx K) (mVar 3) (tOp mMod (tOp mAdd (mVar 0) (mVar 9)) (tC (.int 37))))) (gName 7)))) (tSeq (tAsg (tOp mMulX (tLst (tCons (tOp (mIx K) (mVar 3) (tOp mMod (tOp mDivG (mVar 0) (tC (.int 37))) (tC (.int 37)))) tNil)) (tC (.int 4))) (gName 10)) (tSeq (tAsg (tOp (mIx K) (mVar 3) (tOp mMod (tOp mAdd (mVar 0) (mVar 6)) (tC (.int 37)))) (gSub (mVar 10) (tOp mMod (mVar 0) (tC (.int 4))) mSet)) (tDrop (tBM K "list" rAppend (mVar 5) (tCons (tOp mAdd (mVar 7) (tBM K "str" (mJoin K) (tC (tx [])) (tCons (mVar 10) tNil))) tNil)))))))) (tSeq (mIfS (mAnd (mTest (tOp mGt (mVar 1) (tC (.int 2)))) (mTest (tOp (mEqK K) (tOp mMod (mVar 0) (tC (.int 5))) (tC (.int 1))))) (tAsg (tOp (mIx K) (mVar 5) (tC (.int 0))) (gSub (mVar 5) (tC (.int 1)) mSet)) tNext) (tRet (mVar 5)))))))
noncomputable abbrev RD_law_deck (K:Fgg):Prop:=∀ vs H Q E,zax_ K vs H Q E→zcj_ K { nx:=fun _ H'=>Q .non H',rt:=Q } (start Qn1 vs) H
theorem zgd_ {K:Fgg}:∀ vs H Q E,zax_ K vs H Q E→vs.length=3:=by
 rintro vs H Q E ⟨F,c,_,hc,_⟩; exact ((ze_ (ze_ zg_)):CsN (csCons tyInt (csCons tyInt (csLast tyInt))) 3) hc
noncomputable def zbb_ (K:Fgg):TS:=(tSeq (mIfS (mTest (tOp (mLtK K) (mVar 1) (tCB (mLen K) (tCons (mVar 0) tNil)))) (tRet (tOp (mIx K) (mVar 0) (mVar 1))) tNext) (tRet (tC (.int 0))))
noncomputable abbrev RD_law_cell_at (K:Fgg):Prop:=∀ vs H Q E,zn_ K vs H Q E→zbb_ K { nx:=fun _ H'=>Q .non H',rt:=Q } (start Qn12 vs) H
theorem zel_ {K:Fgg}:∀ vs H Q E,zn_ K vs H Q E→vs.length=2:=by
 rintro vs H Q E ⟨F,c,_,hc,_⟩; exact ((ze_ zg_):CsN (csCons (tySc K) (csLast tyInt)) 2) hc
noncomputable def zaM_ (K:Fgg):TS:=(tSeq (tAsg tDNewK (gName 1)) (tSeq (tFor (iAny K (mVar 0)) (gName 2) (mIfS (mTest (tOp (mEqK K) (tOp (mIx K) (mVar 2) (tC (.int 0))) (tC (tx [112,105,99,107])))) (mIfS (mTest (tOp (mNeK K) (mSetD (mVar 1) (tOp (mIx K) (mVar 2) (tC (.int 1))) (tOp (mIx K) (mVar 2) (tC (.int 2)))) (tOp (mIx K) (mVar 2) (tC (.int 2))))) (tRet (tC .non)) tNext) tNext)) (tRet (mVar 1))))
noncomputable abbrev RD_picked_signs (K:Fgg):Prop:=∀ vs H Q E,zM_ K vs H Q E→zaM_ K { nx:=fun _ H'=>Q .non H',rt:=Q } (start ["row", "signs", "step"] vs) H
theorem zdV_ {K:Fgg}:∀ vs H Q E,zM_ K vs H Q E→vs.length=1:=by
 rintro vs H Q E ⟨F,c,_,hc,_⟩; exact (zg_:CsN (csLast (tyL tyPass)) 1) hc
noncomputable def zcb_ (K:Fgg):TS:=(tSeq (tAsg (tCall (zM_ K) [] E0 (tCons (mVar 0) tNil)) (gName 1)) (tSeq (mIfS (mTest (tOp mIs (mVar 1) (tC .non))) (tRet (tC .non)) tNext) (tSeq (tAsg (tLst tNil) (gName 2)) (tSeq (tFor (iRev K (tCons (mVar 0) tNil)) (gName 3) (mIfS (mAnd (mTest (tOp (mEqK K) (tOp (mIx K) (mVar 3) (tC (.int 0))) (tC (tx [100,101,97,108])))) (mAnd (mTest (mDIn true (tOp (mIx K) (mVar 3) (tC (.int 1))) (mVar 1))) (mTest (tOp (mIn K true) (tOp (mIx K) (mVar 3) (tC (.int 1))) (mVar 2))))) (tDrop (tBM K "list" rAppend (mVar 2) (tCons (tOp (mIx K) (mVar 3) (tC (.int 1))) tNil))) tNext)) (tRet (tTup (tCons (mVar 1) (tCons (mVar 2) tNil))))))))
noncomputable abbrev RD_sense_of (K:Fgg):Prop:=∀ vs H Q E,zag_ K vs H Q E→zcb_ K { nx:=fun _ H'=>Q .non H',rt:=Q } (start ["row", "signs", "columns", "step"] vs) H
theorem zfW_ {K:Fgg}:∀ vs H Q E,zag_ K vs H Q E→vs.length=1:=by
 rintro vs H Q E ⟨F,c,_,hc,_⟩; exact (zg_:CsN (csLast (tyL tyPass)) 1) hc
noncomputable def zbL_ (K:Fgg):TS:=(tSeq (tAsg (tComp ["column"] [("signs",0)] (mRng2 (tCons (tC (.int 1)) (tCons (tOp mAdd (tC (.int 36)) (tC (.int 1))) tNil))) (gName 0) tTrue (mDGet2 (mVar 1) (mVar 0) (tC (tx [32])))) (gName 2)) (tRet (tOp mAdd (tBM K "str" (mJoin K) (tC (tx [])) (tCons (mVar 2) tNil)) (mVar 1))))
noncomputable abbrev RD_card_with (K:Fgg):Prop:=∀ vs H Q E,zw_ K vs H Q E→zbL_ K { nx:=fun _ H'=>Q .non H',rt:=Q } (start ["signs", "mark", "body"] vs) H
theorem zfK_ {K:Fgg}:∀ vs H Q E,zw_ K vs H Q E→vs.length=2:=by
 rintro vs H Q E ⟨F,c,_,hc,_⟩; exact ((ze_ zg_):CsN (csCons (tyD kInt tyStr) (csLast tyStr)) 2) hc
noncomputable def zaY_ (K:Fgg):TS:=(tSeq (tFor (iAny K (tCB (mSortD K) (tCons (mVar 0) tNil))) (gName 2) (mIfS (mTest (tOp (mNeK K) (mDGet1 (mVar 1) (mVar 2)) (mDGet (mVar 0) (mVar 2)))) (tSeq (tAsg (tCB (mDict) (tCons (mVar 1) tNil)) (gName 3)) (tSeq (tDrop (mSetD (mVar 3) (mVar 2) (mIf (mTest (tOp (mEqK K) (mDGet (mVar 0) (mVar 2)) (tC (tx [48])))) (tC (tx [49])) (tC (tx [48]))))) (tRet (tCall (zw_ K) [] E0 (tCons (mVar 3) (tCons (tC (tx [48,48,48,49])) tNil)))))) tNext)) (tRet (tC .non)))
noncomputable abbrev RD_stopped_card (K:Fgg):Prop:=∀ vs H Q E,zE_ K vs H Q E→zaY_ K { nx:=fun _ H'=>Q .non H',rt:=Q } (start Qn20 vs) H
theorem zdP_ {K:Fgg}:∀ vs H Q E,zE_ K vs H Q E→vs.length=2:=by
 rintro vs H Q E ⟨F,c,_,hc,_⟩; exact ((ze_ zg_):CsN (csCons (tyD kInt tyStr) (csLast (tyD kInt tyStr))) 2) hc
noncomputable def z8_ (K:Fgg):TS:=(tSeq (tAsg (tCall (zE_ K) [] E0 (tCons (mVar 0) (tCons (mVar 1) tNil))) (gName 2)) (tSeq (mIfS (mTest (tOp mIs (mVar 2) (tC .non))) (tAsg (tCall (zE_ K) [] E0 (tCons (mVar 1) (tCons (mVar 0) tNil))) (gName 2)) tNext) (tRet (mIf (mTest (tOp mIs (mVar 2) (tC .non))) (tC .non) (tLst (tCons (mVar 2) tNil))))))
noncomputable abbrev RD_parting_of_picks (K:Fgg):Prop:=∀ vs H Q E,zv_ K vs H Q E→z8_ K { nx:=fun _ H'=>Q .non H',rt:=Q } (start ["signs", "others", "card"] vs) H
theorem zcL_ {K:Fgg}:∀ vs H Q E,zv_ K vs H Q E→vs.length=2:=by
 rintro vs H Q E ⟨F,c,_,hc,_⟩; exact ((ze_ zg_):CsN (csCons (tyD kInt tyStr) (csLast (tyD kInt tyStr))) 2) hc
noncomputable def za7_ (K:Fgg):TS:=(tRet (tOp (mEqK K) (tSl (mSl K) (mVar 0) tNoPart (mPart (tCB (mLen K) (tCons (mVar 1) tNil)))) (mVar 1)))
noncomputable abbrev RD_begins_with (K:Fgg):Prop:=∀ vs H Q E,zS_ K vs H Q E→za7_ K { nx:=fun _ H'=>Q .non H',rt:=Q } (start Qn14 vs) H
theorem zen_ {K:Fgg}:∀ vs H Q E,zS_ K vs H Q E→vs.length=2:=by
 rintro vs H Q E ⟨F,c,_,hc,_⟩; exact ((ze_ zg_):CsN (csCons (tyL tyInt) (csLast (tyL tyInt))) 2) hc
noncomputable def zaA_ (K:Fgg):TS:=(tSeq (tAsg (tC (.int 0)) (gName 2)) (tSeq (tWhile (mAnd (mTest (tOp (mLtK K) (mVar 2) (tCB (mTwo min) (tCons (tCB (mLen K) (tCons (mVar 0) tNil)) (tCons (tCB (mLen K) (tCons (mVar 1) tNil)) tNil))))) (mTest (tOp (mEqK K) (tOp (mIx K) (mVar 0) (mVar 2)) (tOp (mIx K) (mVar 1) (mVar 2))))) (tAsg (tOp mAdd (mVar 2) (tC (.int 1))) (gName 2))) (tRet (mVar 2))))
noncomputable abbrev RD_shared_length (K:Fgg):Prop:=∀ vs H Q E,zH_ K vs H Q E→zaA_ K { nx:=fun _ H'=>Q .non H',rt:=Q } (start ["one", "other", "length"] vs) H
theorem zdB_ {K:Fgg}:∀ vs H Q E,zH_ K vs H Q E→vs.length=2:=by
 rintro vs H Q E ⟨F,c,_,hc,_⟩; exact ((ze_ zg_):CsN (csCons (tyL tyInt) (csLast (tyL tyInt))) 2) hc
noncomputable def zaV_ (K:Fgg):TS:=(tSeq (tAsg (tCall (zH_ K) [] E0 (tCons (mVar 1) (tCons (mVar 2) tNil))) (gName 3)) (tSeq (tAsg (tCB (mDict) (tCons (mVar 0) tNil)) (gName 4)) (tSeq (tAsg (tCB (mDict) (tCons (mVar 0) tNil)) (gName 5)) (tSeq (tFor (mRng2 (tCons (tC (.int 1)) (tCons (tOp mAdd (tC (.int 36)) (tC (.int 1))) tNil))) (gName 6) (mIfS (mAnd (mTest (mDIn true (mVar 6) (mVar 0))) (mTest (tOp (mIn K true) (mVar 6) (tSl (mSl K) (mVar 1) tNoPart (mPart (mVar 3)))))) (tSeq (mDPut (mVar 4) (mVar 6) (tC (tx [48]))) (mDPut (mVar 5) (mVar 6) (tC (tx [49])))) tNext)) (tSeq (mIfS (mTest (tOp (mLtK K) (mVar 3) (tCB (mLen K) (tCons (mVar 2) tNil)))) (tSeq (mDPut (mVar 4) (tOp (mIx K) (mVar 2) (mVar 3)) (tC (tx [49]))) (mDPut (mVar 5) (tOp (mIx K) (mVar 2) (mVar 3)) (tC (tx [48])))) tNext) (tRet (tLst (tCons (tCall (zw_ K) [] E0 (tCons (mVar 5) (tCons (tC (tx [48,48,48,49])) tNil))) (tCons (tCall (zw_ K) [] E0 (tCons (mVar 4) (tCons (tC (tx [48,48,48,50])) tNil))) tNil)))))))))
noncomputable abbrev RD_crossed_deck (K:Fgg):Prop:=∀ vs H Q E,zF_ K vs H Q E→zaV_ K { nx:=fun _ H'=>Q .non H',rt:=Q } (start Qn10 vs) H
theorem zec_ {K:Fgg}:∀ vs H Q E,zF_ K vs H Q E→vs.length=3:=by
 rintro vs H Q E ⟨F,c,_,hc,_⟩; exact ((ze_ (ze_ zg_)):CsN (csCons (tyD kInt tyStr) (csCons (tyL tyInt) (csLast (tyL tyInt)))) 3) hc
noncomputable def z5_ (K:Fgg):TS:=(tSeq (mIfS (mTest (tOp (mEqK K) (mVar 1) (mVar 2))) (tRet (tC .non)) tNext) (tSeq (mIfS (mTest (tCall (zS_ K) [] E0 (tCons (mVar 2) (tCons (mVar 1) tNil)))) (tRet (tCall (zF_ K) [] E0 (tCons (mVar 0) (tCons (mVar 2) (tCons (mVar 1) tNil))))) tNext) (tRet (tCall (zF_ K) [] E0 (tCons (mVar 0) (tCons (mVar 1) (tCons (mVar 2) tNil)))))))
noncomputable abbrev RD_parting_of_orders (K:Fgg):Prop:=∀ vs H Q E,zr_ K vs H Q E→z5_ K { nx:=fun _ H'=>Q .non H',rt:=Q } (start Qn5 vs) H
theorem zcy_ {K:Fgg}:∀ vs H Q E,zr_ K vs H Q E→vs.length=3:=by
 rintro vs H Q E ⟨F,c,_,hc,_⟩; exact ((ze_ (ze_ zg_)):CsN (csCons (tyD kInt tyStr) (csCons (tyL tyInt) (csLast (tyL tyInt)))) 3) hc
noncomputable def zbu_ (K:Fgg):TS:=(tSeq (tAsg (tCall (zag_ K) [] E0 (tCons (mVar 0) tNil)) (gName 2)) (tSeq (tAsg (tCall (zag_ K) [] E0 (tCons (mVar 1) tNil)) (gName 3)) (tSeq (mIfS (mTest (tOp (mEqS K) (mVar 2) (mVar 3))) (tRet (tC .non)) tNext) (tSeq (mIfS (mTest (tOp mIs (mVar 2) (tC .non))) (tRet (tLst (tCons (tCall (zw_ K) [] E0 (tCons (tOp (mIx K) (mVar 3) (tC (.int 0))) (tCons (tC (tx [48,48,48,49])) tNil))) tNil))) tNext) (tSeq (mIfS (mTest (tOp mIs (mVar 3) (tC .non))) (tRet (tLst (tCons (tCall (zw_ K) [] E0 (tCons (tOp (mIx K) (mVar 2) (tC (.int 0))) (tCons (tC (tx [48,48,48,49])) tNil))) tNil))) tNext) (tSeq (tAsg (tCall (zv_ K) [] E0 (tCons (tOp (mIx K) (mVar 2) (tC (.int 0))) (tCons (tOp (mIx K) (mVar 3) (tC (.int 0))) tNil))) (gName 4)) (tSeq (mIfS (mTest (tOp mIs (mVar 4) (tC .non))) (tAsg (tCall (zr_ K) [] E0 (tCons (tOp (mIx K) (mVar 2) (tC (.int 0))) (tCons (tOp (mIx K) (mVar 2) (tC (.int 1))) (tCons (tOp (mIx K) (mVar 3) (tC (.int 1))) tNil)))) (gName 4)) tNext) (tRet (mVar 4)))))))))
noncomputable abbrev RD_parting_of (K:Fgg):Prop:=∀ vs H Q E,zY_ K vs H Q E→zbu_ K { nx:=fun _ H'=>Q .non H',rt:=Q } (start Qn16 vs) H
theorem ze9_ {K:Fgg}:∀ vs H Q E,zY_ K vs H Q E→vs.length=2:=by
 rintro vs H Q E ⟨F,c,_,hc,_⟩; exact ((ze_ zg_):CsN (csCons (tyL tyPass) (csLast (tyL tyPass))) 2) hc
noncomputable def z3_ (K:Fgg):TS:=(tSeq (tAsg (tLst tNil) (gName 2)) (tSeq (tAsg (tLst tNil) (gName 3)) (tSeq (tFor (mRng1 (tCons (tCB (mLen K) (tCons (mVar 0) tNil)) tNil)) (gName 4) (tSeq (tAsg (tOp (mIx K) (mVar 0) (mVar 4)) (gName 5)) (tSeq (tAsg (tOp mMod (tOp mDivG (tOp (mIx K) (mVar 1) (mVar 4)) (tC (.int 3))) (tC (.int 4))) (gName 6)) (tSeq (mIfS (mAnd (mTest (tOp (mEqK K) (tOp (mIx K) (mVar 5) (tC (.int 0))) (tC (tx [112,105,99,107])))) (mTest (tOp (mLtK K) (mVar 6) (tC (.int 2))))) (tDrop (tBM K "list" rAppend (mVar 2) (tCons (mVar 5) tNil))) tNext) (tSeq (mIfS (mOr (mAnd (mTest (tOp (mEqK K) (tOp (mIx K) (mVar 5) (tC (.int 0))) (tC (tx [112,105,99,107])))) (mTest (tOp (mEqK K) (mVar 6) (tC (.int 2))))) (mAnd (mTest (tOp (mEqK K) (tOp (mIx K) (mVar 5) (tC (.int 0))) (tC (tx [100,101,97,108])))) (mTest (tOp (mEqK K) (mVar 6) (tC (.int 1)))))) (tDrop (tBM K "list" rAppend (mVar 3) (tCons (tTup (tCons (tC (tx [100,101,97,108])) (tCons (tOp (mIx K) (mVar 5) (tC (.int 1))) tNil))) tNil))) tNext) (mIfS (mOr (mTest (tOp (mEqK K) (tOp (mIx K) (mVar 5) (tC (.int 0))) (tC (tx [100,101,97,108])))) (mTest (tOp mGt (mVar 6) (tC (.int 0))))) (tDrop (tBM K "list" rAppend (mVar 3) (tCons (mVar 5) tNil))) tNext)))))) (tRet (tOp mAdd (mVar 2) (mVar 3))))))
noncomputable abbrev RD_law_same_in_sense (K:Fgg):Prop:=∀ vs H Q E,zq_ K vs H Q E→z3_ K { nx:=fun _ H'=>Q .non H',rt:=Q } (start Qn4 vs) H
theorem zcx_ {K:Fgg}:∀ vs H Q E,zq_ K vs H Q E→vs.length=2:=by
 rintro vs H Q E ⟨F,c,_,hc,_⟩; exact ((ze_ zg_):CsN (csCons (tyL tyPass) (csLast (tyL tyInt))) 2) hc
noncomputable def zdR_ (K:Fgg):TS:=(tSeq (tAsg (tLst tNil) (gName 1)) (tSeq (tFor (iAny K (mVar 0)) (gName 2) (tDrop (tBM K "list" rExtend (mVar 1) (tCons (mVar 2) tNil)))) (tRet (mVar 1))))
noncomputable abbrev RD_gather (K:Fgg):Prop:=∀ vs H Q E,zbp_ K vs H Q E→zdR_ K { nx:=fun _ H'=>Q .non H',rt:=Q } (start ["some", "deck", "pocket"] vs) H
theorem zhY_ {K:Fgg}:∀ vs H Q E,zbp_ K vs H Q E→vs.length=1:=by
 rintro vs H Q E ⟨F,c,_,hc,_⟩; exact (zg_:CsN (csLast (tyL (tyL tyStr))) 1) hc
noncomputable def zc4_ (K:Fgg):TS:=(tRet (mAndV (tOp (mEqK K) (tCB (mLen K) (tCons (mVar 0) tNil)) (tC (.int 1))) (tOp (mIn K false) (mVar 0) (tC (tx SG)))))
noncomputable abbrev RD_is_sign (K:Fgg):Prop:=∀ vs H Q E,zaL_ K vs H Q E→zc4_ K { nx:=fun _ H'=>Q .non H',rt:=Q } (start ["text"] vs) H
theorem zhh_ {K:Fgg}:∀ vs H Q E,zaL_ K vs H Q E→vs.length=1:=by
 rintro vs H Q E ⟨F,c,_,hc,_⟩; exact (zg_:CsN (csLast tyStr) 1) hc
noncomputable def zdh_ (K:Fgg) (E:XK):TS:=(tSeq (mIfS (tNot (mTest (tCall (zaL_ K) [] E0 (tCons (mVar 0) tNil)))) (tRaise (gA K "NoCard") E (tCons (tJoin (tJ1 (tUn mRepr (mVar 0)) (tJ1 (tC (tx [32,105,115,32,110,111,32,115,105,103,110])) tJ0))) tNil)) tNext) (tRet (tBM K "str" mIndex (tC (tx SG)) (tCons (mVar 0) tNil))))
noncomputable abbrev RD_rank_of (K:Fgg):Prop:=∀ vs H Q E,zaZ_ K vs H Q E→zdh_ K E { nx:=fun _ H'=>Q .non H',rt:=Q } (start ["sign"] vs) H
theorem zhF_ {K:Fgg}:∀ vs H Q E,zaZ_ K vs H Q E→vs.length=1:=by
 rintro vs H Q E ⟨F,c,_,hc,_⟩; exact (zg_:CsN (csLast tyStr) 1) hc
noncomputable def zcV_ (K:Fgg):TS:=(tRet (tOp (mIx K) (mVar 0) (tOp mSub (mVar 1) (tC (.int 1)))))
noncomputable abbrev RD_sign_at (K:Fgg):Prop:=∀ vs H Q E,zad_ K vs H Q E→zcV_ K { nx:=fun _ H'=>Q .non H',rt:=Q } (start Qn18 vs) H
theorem zhp_ {K:Fgg}:∀ vs H Q E,zad_ K vs H Q E→vs.length=2:=by
 rintro vs H Q E ⟨F,c,_,hc,_⟩; exact ((ze_ zg_):CsN (csCons tyStr (csLast tyInt)) 2) hc
noncomputable def zbv_ (K:Fgg) (E:XK):TS:=(tSeq (tAsg (tComp ["sign"] [] (iAny K (tC (tx SG))) (gName 0) tTrue (tLst tNil)) (gName 2)) (tSeq (tFor (iAny K (mVar 0)) (gName 3) (tDrop (tBM K "list" rAppend (tOp (mIx K) (mVar 2) (tCall (zaZ_ K) [] E (tCons (tCall (zad_ K) [] E0 (tCons (mVar 3) (tCons (mVar 1) tNil))) tNil))) (tCons (mVar 3) tNil)))) (tRet (mVar 2))))
noncomputable abbrev RD_pockets_of (K:Fgg):Prop:=∀ vs H Q E,z4_ K vs H Q E→zbv_ K E { nx:=fun _ H'=>Q .non H',rt:=Q } (start Qn21 vs) H
theorem ze6_ {K:Fgg}:∀ vs H Q E,z4_ K vs H Q E→vs.length=2:=by
 rintro vs H Q E ⟨F,c,_,hc,_⟩; exact ((ze_ zg_):CsN (csCons (tyL tyStr) (csLast tyInt)) 2) hc
noncomputable def zcl_ (K:Fgg) (E:XK):TS:=(tSeq (tAsg (tCB (mList K) (tCons (mVar 0) tNil)) (gName 2)) (tSeq (tFor (iAny K (mVar 1)) (gName 3) (tAsg (tCall (zbp_ K) [] E0 (tCons (tCall (z4_ K) [] E (tCons (mVar 2) (tCons (mVar 3) tNil))) tNil)) (gName 2))) (tRet (mVar 2))))
noncomputable abbrev RD_deal_all (K:Fgg):Prop:=∀ vs H Q E,zau_ K vs H Q E→zcl_ K E { nx:=fun _ H'=>Q .non H',rt:=Q } (start ["deck", "row", "dealt", "column"] vs) H
theorem zgh_ {K:Fgg}:∀ vs H Q E,zau_ K vs H Q E→vs.length=2:=by
 rintro vs H Q E ⟨F,c,_,hc,_⟩; exact ((ze_ zg_):CsN (csCons (tyL tyStr) (csLast (tyL tyInt))) 2) hc
noncomputable def zcn_ (K:Fgg) (E:XK):TS:=(tSeq (tAsg (tCB (mList K) (tCons (mVar 0) tNil)) (gName 2)) (tSeq (tFor (iAny K (mVar 1)) (gName 3) (mIfS (mTest (tOp (mEqK K) (tOp (mIx K) (mVar 3) (tC (.int 0))) (tC (tx [100,101,97,108])))) (tAsg (tCall (zau_ K) [] E (tCons (mVar 2) (tCons (tLst (tCons (tOp (mIx K) (mVar 3) (tC (.int 1))) tNil)) tNil))) (gName 2)) (tAsg (tComp ["card"] [("step",3)] (iAny K (mVar 2)) (gName 0) (mTest (tOp (mEqK K) (tCall (zad_ K) [] E0 (tCons (mVar 0) (tCons (tOp (mIx K) (mVar 1) (tC (.int 1))) tNil))) (tOp (mIx K) (mVar 1) (tC (.int 2))))) (mVar 0)) (gName 2)))) (tRet (mVar 2))))
noncomputable abbrev RD_pass_all (K:Fgg):Prop:=∀ vs H Q E,zaf_ K vs H Q E→zcn_ K E { nx:=fun _ H'=>Q .non H',rt:=Q } (start ["deck", "row", "gone", "step"] vs) H
theorem zgf_ {K:Fgg}:∀ vs H Q E,zaf_ K vs H Q E→vs.length=2:=by
 rintro vs H Q E ⟨F,c,_,hc,_⟩; exact ((ze_ zg_):CsN (csCons (tyL tyStr) (csLast (tyL tyPass))) 2) hc
noncomputable def zci_ (K:Fgg):TS:=(tSeq (tAsg (tOp mSub (tOp (mIx K) (mVar 1) (tC (.int 1))) (tC (.int 1))) (gName 2)) (tSeq (mIfS (mTest (tOp (mEqK K) (tOp (mIx K) (mVar 1) (tC (.int 0))) (tC (tx [112,105,99,107])))) (tRet (tComp ["_law_card"] [("_law_at",2),("_law_one",1)] (iAny K (mVar 0)) (gName 0) (mTest (tOp (mEqK K) (tOp (mIx K) (mVar 0) (mVar 1)) (tOp (mIx K) (mVar 2) (tC (.int 2))))) (mVar 0))) tNext) (tSeq (tAsg (tLst tNil) (gName 3)) (tSeq (tFor (iAny K (mVar 0)) (gName 4) (tSeq (tAsg (tCB (mLen K) (tCons (mVar 3) tNil)) (gName 5)) (tSeq (tWhile (mAnd (mTest (tOp mGt (mVar 5) (tC (.int 0)))) (mTest (tOp (mLtK K) (tOp (mIx K) (mVar 4) (mVar 2)) (tOp (mIx K) (tOp (mIx K) (mVar 3) (tOp mSub (mVar 5) (tC (.int 1)))) (mVar 2))))) (tAsg (tOp mSub (mVar 5) (tC (.int 1))) (gName 5))) (tDrop (tBM K "list" mInsert (mVar 3) (tCons (mVar 5) (tCons (mVar 4) tNil))))))) (tRet (mVar 3))))))
noncomputable abbrev RD_law_done (K:Fgg):Prop:=∀ vs H Q E,zas_ K vs H Q E→zci_ K { nx:=fun _ H'=>Q .non H',rt:=Q } (start Qn8 vs) H
theorem zgq_ {K:Fgg}:∀ vs H Q E,zas_ K vs H Q E→vs.length=2:=by
 rintro vs H Q E ⟨F,c,_,hc,_⟩; exact ((ze_ zg_):CsN (csCons (tyL tyStr) (csLast tyPass)) 2) hc
noncomputable def zaI_ (K:Fgg):TS:=(tSeq (tAsg (tCB (mList K) (tCons (mVar 0) tNil)) (gName 2)) (tSeq (tFor (iAny K (mVar 1)) (gName 3) (tAsg (tCall (zas_ K) [] E0 (tCons (mVar 2) (tCons (mVar 3) tNil))) (gName 2))) (tRet (mVar 2))))
noncomputable abbrev RD_law_all_done (K:Fgg):Prop:=∀ vs H Q E,zG_ K vs H Q E→zaI_ K { nx:=fun _ H'=>Q .non H',rt:=Q } (start Qn11 vs) H
theorem zd0_ {K:Fgg}:∀ vs H Q E,zG_ K vs H Q E→vs.length=2:=by
 rintro vs H Q E ⟨F,c,_,hc,_⟩; exact ((ze_ zg_):CsN (csCons (tyL tyStr) (csLast (tyL tyPass))) 2) hc
noncomputable def zbO_ (K:Fgg):TS:=(tSeq (tAsg (tCall (zaf_ K) [] E0 (tCons (mVar 1) (tCons (mVar 2) tNil))) (gName 4)) (tSeq (tAsg (tCall (zaf_ K) [] E0 (tCons (mVar 1) (tCons (mVar 3) tNil))) (gName 5)) (tSeq (mIfS (mOr (tNot (mTest (tCB (mIsa K) (tCons (mVar 4) (tCons (tC (.ty "list")) tNil))))) (tNot (mTest (tCB (mIsa K) (tCons (mVar 5) (tCons (tC (.ty "list")) tNil)))))) (tRet (tC (.bl false))) tNext) (tSeq (mIfS (mOr (mTest (tOp (mNeK K) (mVar 4) (tCall (zG_ K) [] E0 (tCons (mVar 1) (tCons (mVar 2) tNil))))) (mTest (tOp (mNeK K) (mVar 5) (tCall (zG_ K) [] E0 (tCons (mVar 1) (tCons (mVar 3) tNil)))))) (tRet (tC (.bl false))) tNext) (tRet (tOp (mEqK K) (tOp (mEqK K) (mVar 4) (mVar 5)) (tOp mIs (mVar 0) (tC .non))))))))
noncomputable abbrev RD_law_alike (K:Fgg):Prop:=∀ vs H Q E,zQ_ K vs H Q E→zbO_ K { nx:=fun _ H'=>Q .non H',rt:=Q } (start Qn6 vs) H
theorem zfk_ {K:Fgg}:∀ vs H Q E,zQ_ K vs H Q E→vs.length=4:=by
 rintro vs H Q E ⟨F,c,_,hc,_⟩; exact ((ze_ (ze_ (ze_ zg_))):CsN (csCons (tyOpt (tyL tyStr)) (csCons (tyL tyStr) (csCons (tyL tyPass) (csLast (tyL tyPass))))) 4) hc
noncomputable def zdc_ (K:Fgg):TS:=(tSeq (mIfS (mTest (tOp mIs (mVar 0) (tC .non))) (tRet (tC (.bl true))) tNext) (tSeq (mIfS (mOr (tNot (mTest (tCB (mIsa K) (tCons (mVar 0) (tCons (tC (.ty "list")) tNil))))) (mOr (mTest (tOp (mLtK K) (tCB (mLen K) (tCons (mVar 0) tNil)) (tC (.int 1)))) (mTest (tOp mGt (tCB (mLen K) (tCons (mVar 0) tNil)) (tC (.int 2)))))) (tRet (tC (.bl false))) tNext) (tSeq (tFor (iAny K (mVar 0)) (gName 3) (mIfS (mOr (tNot (mTest (tCB (mIsa K) (tCons (mVar 3) (tCons (tC (.ty "str")) tNil))))) (mTest (tOp (mNeK K) (tCB (mLen K) (tCons (mVar 3) tNil)) (tC (.int 40))))) (tRet (tC (.bl false))) tNext)) (tSeq (mIfS (mAnd (mTest (tOp (mEqK K) (tCB (mLen K) (tCons (mVar 0) tNil)) (tC (.int 2)))) (mTest (tOp (mEqK K) (tSl (mSl K) (tOp (mIx K) (mVar 0) (tC (.int 0))) (mPart (tC (.int 36))) tNoPart) (tSl (mSl K) (tOp (mIx K) (mVar 0) (tC (.int 1))) (mPart (tC (.int 36))) tNoPart)))) (tRet (tC (.bl false))) tNext) (tRet (tCall (zQ_ K) [] E0 (tCons (mVar 0) (tCons (mVar 0) (tCons (mVar 1) (tCons (mVar 2) tNil))))))))))
noncomputable abbrev RD_law_two (K:Fgg):Prop:=∀ vs H Q E,zaB_ K vs H Q E→zdc_ K { nx:=fun _ H'=>Q .non H',rt:=Q } (start Qn13 vs) H
theorem zg3_ {K:Fgg}:∀ vs H Q E,zaB_ K vs H Q E→vs.length=3:=by
 rintro vs H Q E ⟨F,c,_,hc,_⟩; exact ((ze_ (ze_ zg_)):CsN (csCons (tyOpt (tyL tyStr)) (csCons (tyL tyPass) (csLast (tyL tyPass)))) 3) hc
noncomputable def zcd_ (K:Fgg):TS:=(tSeq (tAsg (tC (tx SG)) (gName 5)) (tSeq (tAsg (tOp mAdd (tOp mMod (mVar 0) (tC (.int 2147483647))) (tC (.int 69621))) (gName 6)) (tSeq (tAsg (tOp mMod (tOp mMulX (mVar 6) (mVar 6)) (tC (.int 2147483629))) (gName 6)) (tSeq (tAsg (tOp mAdd (tC (.int 1)) (tOp mMod (tOp mAdd (mVar 2) (tOp mMod (tOp mDivG (mVar 6) (tC (.int 8))) (mVar 3))) (tC (.int 36)))) (gName 7)) (tSeq (mIfS (mTest (tOp mGe (tOp mMod (mVar 6) (tC (.int 8))) (mVar 4))) (tRet (tTup (tCons (tC (tx [100,101,97,108])) (tCons (mVar 7) tNil)))) tNext) (tSeq (mIfS (mTest (tOp (mEqK K) (tOp mMod (tOp mDivG (mVar 6) (tC (.int 512))) (tC (.int 7))) (tC (.int 1)))) (tRet (tTup (tCons (tC (tx [112,105,99,107])) (tCons (mVar 7) (tCons (tOp (mIx K) (mVar 5) (tOp mMod (tOp mDivG (mVar 6) (tC (.int 4096))) (tC (.int 37)))) tNil))))) tNext) (tRet (tTup (tCons (tC (tx [112,105,99,107])) (tCons (mVar 7) (tCons (tOp (mIx K) (mVar 1) (tOp mSub (mVar 7) (tC (.int 1)))) tNil)))))))))))
noncomputable abbrev RD_law_pass (K:Fgg):Prop:=∀ vs H Q E,zar_ K vs H Q E→zcd_ K { nx:=fun _ H'=>Q .non H',rt:=Q } (start Qn2 vs) H
theorem zf4_ {K:Fgg}:∀ vs H Q E,zar_ K vs H Q E→vs.length=5:=by
 rintro vs H Q E ⟨F,c,_,hc,_⟩; exact ((ze_ (ze_ (ze_ (ze_ zg_)))):CsN (csCons tyInt (csCons tyStr (csCons tyInt (csCons tyInt (csLast tyInt))))) 5) hc
noncomputable def znj_ (K:Fgg):TS:=(tSeq (tAsg (tOp mMod (tCall (zn_ K) [] E0 (tCons (mVar 0) (tCons (tC (.int 0)) tNil))) (tC (.int 7))) (gName 1)) (tSeq (tAsg (tOp (mIx K) (tLst (tCons (tC (.int 2)) (tCons (tC (.int 3)) (tCons (tC (.int 1)) (tCons (tC (.int 37)) tNil))))) (tOp mMod (tCall (zn_ K) [] E0 (tCons (mVar 0) (tCons (tC (.int 2)) tNil))) (tC (.int 4)))) (gName 2)) (tSeq (tAsg (tOp mMod (tOp mDivG (tCall (zn_ K) [] E0 (tCons (mVar 0) (tCons (tC (.int 2)) tNil))) (tC (.int 4))) (tC (.int 36))) (gName 3)) (tSeq (tAsg (tCall (zax_ K) [] E0 (tCons (tCall (zn_ K) [] E0 (tCons (mVar 0) (tCons (tC (.int 1)) tNil))) (tCons (mVar 1) (tCons (mVar 2) tNil)))) (gName 4)) (tSeq (tAsg (tOp (mIx K) (tOp mAdd (mVar 4) (tLst (tCons (tOp mMulX (tC (tx [32])) (tC (.int 40))) tNil))) (tC (.int 0))) (gName 5)) (tSeq (tAsg (tCall (zn_ K) [] E0 (tCons (mVar 0) (tCons (tC (.int 3)) tNil))) (gName 6)) (tSeq (tAsg (tOp (mIx K) (tLst (tCons (tC (.int 2)) (tCons (tC (.int 1)) (tCons (tC (.int 4)) (tCons (tC (.int 36)) tNil))))) (tOp mMod (mVar 6) (tC (.int 4)))) (gName 7)) (tSeq (tAsg (tLst tNil) (gName 8)) (tSeq (tFor (iAny K (tSl (mSl K) (mVar 0) (mPart (tC (.int 5))) (mPart (tC (.int 55))))) (gName 9) (tDrop (tBM K "list" rAppend (mVar 8) (tCons (tCall (zar_ K) [] E0 (tCons (mVar 9) (tCons (mVar 5) (tCons (mVar 3) (tCons (mVar 7) (tCons (tOp (mIx K) (tLst (tCons (tC (.int 2)) (tCons (tC (.int 0)) (tCons (tC (.int 4)) tNil)))) (tOp mMod (tOp mDivG (mVar 6) (tC (.int 4))) (tC (.int 3)))) tNil)))))) tNil)))) (tSeq (tAsg (tOp (mEqK K) (tOp mMod (tCall (zn_ K) [] E0 (tCons (mVar 0) (tCons (tC (.int 4)) tNil))) (tC (.int 2))) (tC (.int 0))) (gName 10)) (tSeq (tAsg (tOp mMod (tOp mDivG (tCall (zn_ K) [] E0 (tCons (mVar 0) (tCons (tC (.int 4)) tNil))) (tC (.int 4))) (tOp mAdd (tCB (mLen K) (tCons (mVar 8) tNil)) (tC (.int 1)))) (gName 11)) (tSeq (tAsg (tOp mAdd (tSl (mSl K) (mVar 8) (mPart (mVar 11)) tNoPart) (tSl (mSl K) (mVar 8) tNoPart (mPart (mVar 11)))) (gName 12)) (tSeq (mIfS (mTest (tOp (mEqK K) (tOp mMod (tCall (zn_ K) [] E0 (tCons (mVar 0) (tCons (tC (.int 4)) tNil))) (tC (.int 4))) (tC (.int 3)))) (tAsg (tOp mAdd (tRev K (tSl (mSl K) (mVar 8) tNoPart (mPart (mVar 11))) (mPart (mNeg (tC (.int 1))))) (tSl (mSl K) (mVar 8) (mPart (mVar 11)) tNoPart)) (gName 12)) tNext) (tSeq (mIfS (mTrL K (mVar 10)) (tAsg (tCall (zq_ K) [] E0 (tCons (mVar 8) (tCons (tSl (mSl K) (mVar 0) (mPart (tC (.int 5))) (mPart (tC (.int 55)))) tNil))) (gName 12)) tNext) (tSeq (tAsg (tLst (tCons (tCB (mList K) (tCons (mVar 8) tNil)) (tCons (tCB (mList K) (tCons (mVar 12) tNil)) tNil))) (gName 13)) (tSeq (tAsg (tCall (zY_ K) [] E0 (tCons (tOp (mIx K) (mVar 13) (tC (.int 0))) (tCons (tOp (mIx K) (mVar 13) (tC (.int 1))) tNil))) (gName 14)) (tSeq (mIfS (mOr (mAnd (mTrL K (mVar 10)) (mTest (tOp mIsNot (mVar 14) (tC .non)))) (mOr (mTest (tOp (mNeK K) (mVar 13) (tLst (tCons (mVar 8) (tCons (mVar 12) tNil))))) (tNot (mTest (tCall (zaB_ K) [] E0 (tCons (mVar 14) (tCons (mVar 8) (tCons (mVar 12) tNil)))))))) (tRet (tC (.bl false))) tNext) (tSeq (mIfS (mAnd (mTest (tOp mIs (mVar 14) (tC .non))) (tNot (mTest (tCall (zQ_ K) [] E0 (tCons (tC .non) (tCons (mVar 4) (tCons (mVar 8) (tCons (mVar 12) tNil)))))))) (tRet (tC (.bl false))) tNext) (tSeq (tAsg (tCall (zY_ K) [] E0 (tCons (mVar 12) (tCons (mVar 8) tNil))) (gName 15)) (tRet (mAndV (tOp (mEqK K) (tOp mIs (mVar 15) (tC .non)) (tOp mIs (mVar 14) (tC .non))) (tCall (zaB_ K) [] E0 (tCons (mVar 15) (tCons (mVar 12) (tCons (mVar 8) tNil)))))))))))))))))))))))))
noncomputable abbrev RD_law (K:Fgg):Prop:=∀ vs H Q E,zfI_ K vs H Q E→znj_ K { nx:=fun _ H'=>Q .non H',rt:=Q } (start Qn0 vs) H
theorem znD_ {K:Fgg}:∀ vs H Q E,zfI_ K vs H Q E→vs.length=1:=by
 intro vs H Q E h; obtain ⟨a,ns,rfl,_⟩:=h; rfl
end K18
namespace K18
open PySem PySem.Spec PyProof.Rows L2
section
variable {P:Program}{w:World}{K:Fgg}{mg:Str→Option Value}{base:Heap}
theorem za8_:FnScope Qn9 ["_law_cell", "_law_many"] (defScope z9_):=⟨rfl,rfl,rfl,by decide +kernel,rfl,by decide +kernel,by decide +kernel⟩
theorem zfz_ (B_range:Gb mg "range") {cdv:Value}{A:Around}{outer:List Env}{s:Shared}{H:Hp}{E:XK}{f:Addr}(hr:Room 0 (A.deeper (envOfC "_law_stream" (defScope z9_) s.heap.objs.size f cdv))) :
  (PSs (cxOf CX0 P w K mg base Qn9 "_law_stream" (defScope z9_) f cdv A outer s H E).nox (defBody z9_) (zbx_ K)) := 
 (zd_ (zB_ (i:=2) za8_.nd rfl (by first | exact Or.inl rfl | exact Or.inr rfl) (zbD_ zj_)) (zd_ (zB_ (i:=3) za8_.nd rfl (by first | exact Or.inl rfl | exact Or.inr rfl) (zaz_ zaG_ (zaz_ zaj_ (za_ 0) zh_) zh_)) (zd_ (zcw_ PassesOwn.never rfl (zeP_ B_range (zb_ (za_ 1) zj_)) (zap_ (i:=4) za8_.nd rfl (by first | exact Or.inl rfl | exact Or.inr rfl)) (zd_ (zB_ (i:=3) za8_.nd rfl (by first | exact Or.inl rfl | exact Or.inr rfl) (zaz_ zaj_ (zaz_ zaG_ (zaz_ zaG_ (zaz_ zdY_ (za_ 3) (za_ 3)) (zaz_ zdY_ zh_ (za_ 3))) (za_ 4)) zh_)) (zi_ (zcp_ (zim_ PySem.F.plainAttrs_list PySem.F.slot_list_append PySem.F.type_list_append zbj_ (za_ 2) (zb_ (za_ 3) zj_)))))) (zi_ (z0_ (za_ 2))))))
theorem zfu_ (B_range:Gb mg "range") {f:Addr}{fd:FuncData}(F:Fun K "_law_stream" "_law_stream" z9_ f fd) (len:∀ vs H Q E,z6_ K vs H Q E→vs.length=2)
  (rd:∀ vs H Q E,z6_ K vs H Q E→zbx_ K { nx:=fun _ H'=>Q .non H',rt:=Q } (start Qn9 vs) H):FnOk P w K mg base CX0 1 f fd ["_law_cell", "_law_many"] (z6_ K):=by
 refine F.ok za8_ len (fun cdv A outer s H vs Q E hr h=>⟨_,zfz_ B_range hr,rd vs H Q E h⟩)
theorem zah_:FnScope Qn1 Qn15 (defScope zaK_):=⟨rfl,rfl,rfl,by decide +kernel,rfl,by decide +kernel,by decide +kernel⟩
theorem zhw_ (G_law_stream:Gd P w K mg base CX0 1 "_law_stream" ["_law_cell", "_law_many"] (z6_ K)) (B_range:Gb mg "range") {cdv:Value}{A:Around}{outer:List Env}{s:Shared}{H:Hp}{E:XK}{f:Addr}(hr:Room 1 (A.deeper (envOfC "_law_deck" (defScope zaK_) s.heap.objs.size f cdv))) :
  (PSs (cxOf CX0 P w K mg base Qn1 "_law_deck" (defScope zaK_) f cdv A outer s H E).nox (defBody zaK_) (zcj_ K)) := 
 (zd_ (zB_ (i:=3) zah_.nd rfl (by first | exact Or.inl rfl | exact Or.inr rfl) (zbJ_ (l:=SG))) (zd_ (zB_ (i:=4) zah_.nd rfl (by first | exact Or.inl rfl | exact Or.inr rfl) (zo_ G_law_stream (hr.mono (j:=1) (by decide)) (zb_ (za_ 0) (zb_ (zaz_ zdY_ zh_ (za_ 1)) zj_)))) (zd_ (zB_ (i:=5) zah_.nd rfl (by first | exact Or.inl rfl | exact Or.inr rfl) (zbD_ zj_)) (zd_ (zcw_ PassesOwn.never rfl (zeP_ B_range (zb_ (za_ 1) zj_)) (zap_ (i:=6) zah_.nd rfl (by first | exact Or.inl rfl | exact Or.inr rfl)) (zd_ (zB_ (i:=7) zah_.nd rfl (by first | exact Or.inl rfl | exact Or.inr rfl) (zbJ_ (l:=[]))) (zd_ (zcw_ PassesOwn.never rfl (zeP_ B_range (zb_ zh_ zj_)) (zap_ (i:=8) zah_.nd rfl (by first | exact Or.inl rfl | exact Or.inr rfl)) (zd_ (zB_ (i:=9) zah_.nd rfl (by first | exact Or.inl rfl | exact Or.inr rfl) (zaz_ zaj_ (zaz_ zc8_ (za3_ ix_M (za_ 4) (zaz_ zaG_ (zaz_ zdY_ zh_ (za_ 6)) (za_ 8)) (fun _ _=>rfl)) zh_) (za_ 2))) (zi_ (zB_ (i:=7) zah_.nd rfl (by first | exact Or.inl rfl | exact Or.inr rfl) (zaz_ zaG_ (za_ 7) (za3_ ix_M (za_ 3) (zaz_ zaj_ (zaz_ zaG_ (za_ 0) (za_ 9)) zh_) (fun _ _=>rfl))))))) (zd_ (zB_ (i:=10) zah_.nd rfl (by first | exact Or.inl rfl | exact Or.inr rfl) (zaz_ zdY_ (zbD_ (zb_ (za3_ ix_M (za_ 3) (zaz_ zaj_ (zaz_ zc8_ (za_ 0) zh_) zh_) (fun _ _=>rfl)) zj_)) zh_)) (zd_ (zm3_ (za3_ ix_M (za_ 3) (zaz_ zaj_ (zaz_ zaG_ (za_ 0) (za_ 6)) zh_) (fun _ _=>rfl)) (zmq_ (za_ 10) (zaz_ zaj_ (za_ 0) zh_) set_M)) (zi_ (zcp_ (zim_ PySem.F.plainAttrs_list PySem.F.slot_list_append PySem.F.type_list_append zbj_ (za_ 5) (zb_ (zaz_ zaG_ (za_ 7) (znY_ PySem.F.slot_str_join PySem.F.type_str_join zk1_ (zbJ_ (l:=[])) (zb_ (za_ 10) zj_))) zj_))))))))) (zd_ (zaw_ (PW.pt (zb3_ (zs_ zj9_ (za_ 1) zh_) (zcm_ (zs_ (za9_ hr.u60) (zaz_ zaj_ (za_ 0) zh_) zh_)))) (zi_ (zm3_ (za3_ ix_M (za_ 5) zh_ (fun _ _=>rfl)) (zmq_ (za_ 5) zh_ set_M))) zR_) (zi_ (z0_ (za_ 5))))))))
theorem zhc_ (G_law_stream:Gd P w K mg base CX0 1 "_law_stream" ["_law_cell", "_law_many"] (z6_ K)) (B_range:Gb mg "range") {f:Addr}{fd:FuncData}(F:Fun K "_law_deck" "_law_deck" zaK_ f fd) (len:∀ vs H Q E,zax_ K vs H Q E→vs.length=3)
  (rd:∀ vs H Q E,zax_ K vs H Q E→zcj_ K { nx:=fun _ H'=>Q .non H',rt:=Q } (start Qn1 vs) H):FnOk P w K mg base CX0 2 f fd Qn15 (zax_ K):=by
 refine F.ok zah_ len (fun cdv A outer s H vs Q E hr h=>⟨_,zhw_ G_law_stream B_range hr,rd vs H Q E h⟩)
theorem zeQ_:FnScope Qn12 Qn12 (defScope z7_):=⟨rfl,rfl,rfl,by decide +kernel,rfl,by decide +kernel,by decide +kernel⟩
theorem zeS_ (B_len:Gb mg "len") {cdv:Value}{A:Around}{outer:List Env}{s:Shared}{H:Hp}{E:XK}{f:Addr}(hr:Room 0 (A.deeper (envOfC "_law_cell_at" (defScope z7_) s.heap.objs.size f cdv))) :
  (PSs (cxOf CX0 P w K mg base Qn12 "_law_cell_at" (defScope z7_) f cdv A outer s H E).nox (defBody z7_) (zbb_ K)) := 
 (zd_ (zaw_ (zs_ (zg7_ hr.u60) (za_ 1) (ze3_ zay_ B_len (zb_ (za_ 0) zj_))) (zi_ (z0_ (za3_ ix_M (za_ 0) (za_ 1) (fun _ _=>rfl)))) zR_) (zi_ (z0_ zh_)))
theorem zfg_ (B_len:Gb mg "len") {f:Addr}{fd:FuncData}(F:Fun K "_law_cell_at" "_law_cell_at" z7_ f fd) (len:∀ vs H Q E,zn_ K vs H Q E→vs.length=2)
  (rd:∀ vs H Q E,zn_ K vs H Q E→zbb_ K { nx:=fun _ H'=>Q .non H',rt:=Q } (start Qn12 vs) H):FnOk P w K mg base CX0 1 f fd Qn12 (zn_ K):=by
 refine F.ok zeQ_ len (fun cdv A outer s H vs Q E hr h=>⟨_,zeS_ B_len hr,rd vs H Q E h⟩)
theorem zbE_:FnScope ["row", "signs", "step"] ["row"] (defScope zT_):=⟨rfl,rfl,rfl,by decide +kernel,rfl,by decide +kernel,by decide +kernel⟩
theorem zes_  {cdv:Value}{A:Around}{outer:List Env}{s:Shared}{H:Hp}{E:XK}{f:Addr}(hr:Room 0 (A.deeper (envOfC "picked_signs" (defScope zT_) s.heap.objs.size f cdv))) :
  (PSs (cxOf CX0 P w K mg base ["row", "signs", "step"] "picked_signs" (defScope zT_) f cdv A outer s H E).nox (defBody zT_) (zaM_ K)) := 
 (zd_ (zB_ (i:=1) zbE_.nd rfl (by first | exact Or.inl rfl | exact Or.inr rfl) zlS_) (zd_ (zcw_ PassesOwn.never rfl (zdn_ (za_ 0)) (zap_ (i:=2) zbE_.nd rfl (by first | exact Or.inl rfl | exact Or.inr rfl)) (zi_ (zaw_ (zs_ (za9_ hr.u60) (za3_ ix_M (za_ 2) zh_ (fun _ _=>rfl)) (zbJ_ (l:=[112,105,99,107]))) (zi_ (zaw_ (zs_ (zhf_ hr.u60) (zi0_ hr.u60 (za_ 1) (za3_ ix_M (za_ 2) zh_ (fun _ _=>rfl)) (za3_ ix_M (za_ 2) zh_ (fun _ _=>rfl))) (za3_ ix_M (za_ 2) zh_ (fun _ _=>rfl))) (zi_ (z0_ zb0_)) zR_)) zR_))) (zi_ (z0_ (za_ 1)))))
theorem zeq_  {f:Addr}{fd:FuncData}(F:Fun K "picked_signs" "picked_signs" zT_ f fd) (len:∀ vs H Q E,zM_ K vs H Q E→vs.length=1)
  (rd:∀ vs H Q E,zM_ K vs H Q E→zaM_ K { nx:=fun _ H'=>Q .non H',rt:=Q } (start ["row", "signs", "step"] vs) H):FnOk P w K mg base CX0 1 f fd ["row"] (zM_ K):=by
 refine F.ok zbE_ len (fun cdv A outer s H vs Q E hr h=>⟨_,zes_  hr,rd vs H Q E h⟩)
theorem zcr_:FnScope ["row", "signs", "columns", "step"] ["row"] (defScope zaW_):=⟨rfl,rfl,rfl,by decide +kernel,rfl,by decide +kernel,by decide +kernel⟩
theorem zhy_ (G_picked_signs:Gd P w K mg base CX0 1 "picked_signs" ["row"] (zM_ K)) (B_reversed:Gb mg "reversed") {cdv:Value}{A:Around}{outer:List Env}{s:Shared}{H:Hp}{E:XK}{f:Addr}(hr:Room 1 (A.deeper (envOfC "sense_of" (defScope zaW_) s.heap.objs.size f cdv))) :
  (PSs (cxOf CX0 P w K mg base ["row", "signs", "columns", "step"] "sense_of" (defScope zaW_) f cdv A outer s H E).nox (defBody zaW_) (zcb_ K)) := 
 (zd_ (zB_ (i:=1) zcr_.nd rfl (by first | exact Or.inl rfl | exact Or.inr rfl) (zo_ G_picked_signs (hr.mono (j:=1) (by decide)) (zb_ (za_ 0) zj_))) (zd_ (zaw_ (zs_ zdQ_ (za_ 1) zb0_) (zi_ (z0_ zb0_)) zR_) (zd_ (zB_ (i:=2) zcr_.nd rfl (by first | exact Or.inl rfl | exact Or.inr rfl) (zbD_ zj_)) (zd_ (zcw_ PassesOwn.never rfl (zok_ B_reversed (zb_ (za_ 0) zj_)) (zap_ (i:=3) zcr_.nd rfl (by first | exact Or.inl rfl | exact Or.inr rfl)) (zi_ (zaw_ (PW.pt (zb3_ (zs_ (za9_ hr.u60) (za3_ ix_M (za_ 3) zh_ (fun _ _=>rfl)) (zbJ_ (l:=[100,101,97,108]))) (zb3_ (zfN_ hr.u60 (za3_ ix_M (za_ 3) zh_ (fun _ _=>rfl)) (za_ 1)) (zcm_ (zs_ zgV_ (za3_ ix_M (za_ 3) zh_ (fun _ _=>rfl)) (za_ 2)))))) (zi_ (zcp_ (zim_ PySem.F.plainAttrs_list PySem.F.slot_list_append PySem.F.type_list_append zbj_ (za_ 2) (zb_ (za3_ ix_M (za_ 3) zh_ (fun _ _=>rfl)) zj_)))) zR_))) (zi_ (z0_ (zh9_ (zb_ (za_ 1) (zb_ (za_ 2) zj_)))))))))
theorem zhk_ (G_picked_signs:Gd P w K mg base CX0 1 "picked_signs" ["row"] (zM_ K)) (B_reversed:Gb mg "reversed") {f:Addr}{fd:FuncData}(F:Fun K "sense_of" "sense_of" zaW_ f fd) (len:∀ vs H Q E,zag_ K vs H Q E→vs.length=1)
  (rd:∀ vs H Q E,zag_ K vs H Q E→zcb_ K { nx:=fun _ H'=>Q .non H',rt:=Q } (start ["row", "signs", "columns", "step"] vs) H):FnOk P w K mg base CX0 2 f fd ["row"] (zag_ K):=by
 refine F.ok zcr_ len (fun cdv A outer s H vs Q E hr h=>⟨_,zhy_ G_picked_signs B_reversed hr,rd vs H Q E h⟩)
theorem zeh_:FnScope ["signs", "mark", "body"] Qn25 (defScope zaq_):=⟨rfl,rfl,rfl,by decide +kernel,rfl,by decide +kernel,by decide +kernel⟩
theorem zf8_ (C_BODY_WIDTH:Gc mg "BODY_WIDTH" (.int 36)) (B_range:Gb mg "range") {cdv:Value}{A:Around}{outer:List Env}{s:Shared}{H:Hp}{E:XK}{f:Addr}(hr:Room 0 (A.deeper (envOfC "card_with" (defScope zaq_) s.heap.objs.size f cdv))) :
  (PSs (cxOf CX0 P w K mg base ["signs", "mark", "body"] "card_with" (defScope zaq_) f cdv A outer s H E).nox (defBody zaq_) (zbL_ K)) := 
 (zd_ (zd8_ (cl:=_) (lv:=["column"]) (fr:=[("signs",0)]) rfl ⟨rfl,by decide +kernel,rfl,by decide +kernel,(zgC_ (by refine ⟨rfl,by decide +kernel,?_,?_⟩<;>first | exact Or.inl rfl | exact Or.inr rfl) zlf_)⟩ (ziP_ B_range (zb_ zh_ (zb_ (zaz_ zaG_ (zfp_ C_BODY_WIDTH) zh_) zj_))) (fun _ _ _ _=>(zap_ (i:=0) (show List.Nodup (["column", "signs"]:List Str) from by decide +kernel) rfl (Or.inl rfl))) (fun _ _ _ _=>zk4_) (fun _ _ _ _=>(zjK_ hr.u60 (za_ 1) (za_ 0) (zbJ_ (l:=[32])))) (zap_ (i:=2) zeh_.nd rfl (by first | exact Or.inl rfl | exact Or.inr rfl))) (zi_ (z0_ (zaz_ zaG_ (znY_ PySem.F.slot_str_join PySem.F.type_str_join zk1_ (zbJ_ (l:=[])) (zb_ (za_ 2) zj_)) (za_ 1)))))
theorem zgs_ (C_BODY_WIDTH:Gc mg "BODY_WIDTH" (.int 36)) (B_range:Gb mg "range") {f:Addr}{fd:FuncData}(F:Fun K "card_with" "card_with" zaq_ f fd) (len:∀ vs H Q E,zw_ K vs H Q E→vs.length=2)
  (rd:∀ vs H Q E,zw_ K vs H Q E→zbL_ K { nx:=fun _ H'=>Q .non H',rt:=Q } (start ["signs", "mark", "body"] vs) H):FnOk P w K mg base CX0 1 f fd Qn25 (zw_ K):=by
 refine F.ok zeh_ len (fun cdv A outer s H vs Q E hr h=>⟨_,zf8_ C_BODY_WIDTH B_range hr,rd vs H Q E h⟩)
theorem zbI_:FnScope Qn20 Qn19 (defScope zX_):=⟨rfl,rfl,rfl,by decide +kernel,rfl,by decide +kernel,by decide +kernel⟩
theorem zeA_ (G_card_with:Gd P w K mg base CX0 1 "card_with" Qn25 (zw_ K)) (C_LOW:Gc mg "LOW" (tx [48])) (C_HIGH:Gc mg "HIGH" (tx [49])) (C_ONE_MARK:Gc mg "ONE_MARK" (tx [48,48,48,49])) (B_sorted:Gb mg "sorted") (B_dict:Gb mg "dict") {cdv:Value}{A:Around}{outer:List Env}{s:Shared}{H:Hp}{E:XK}{f:Addr}(hr:Room 1 (A.deeper (envOfC "stopped_card" (defScope zX_) s.heap.objs.size f cdv))) :
  (PSs (cxOf CX0 P w K mg base Qn20 "stopped_card" (defScope zX_) f cdv A outer s H E).nox (defBody zX_) (zaY_ K)) := 
 (zd_ (zcw_ PassesOwn.never rfl (zdn_ (ze3_ (zf1_ rfl) B_sorted (zb_ (za_ 0) zj_))) (zap_ (i:=2) zbI_.nd rfl (by first | exact Or.inl rfl | exact Or.inr rfl)) (zi_ (zaw_ (zs_ (zhf_ hr.u60) (zke_ hr.u60 (za_ 1) (za_ 2)) (zhP_ hr.u60 (za_ 0) (za_ 2))) (zd_ (zB_ (i:=3) zbI_.nd rfl (by first | exact Or.inl rfl | exact Or.inr rfl) (zk5_ "dict" zd1_ B_dict (zb_ (za_ 1) zj_))) (zd_ (zcp_ (zi0_ hr.u60 (za_ 3) (za_ 2) (znA_ (zs_ (za9_ hr.u60) (zhP_ hr.u60 (za_ 0) (za_ 2)) (zfp_ C_LOW)) (zfp_ C_HIGH) (zfp_ C_LOW)))) (zi_ (z0_ (zo_ G_card_with (hr.mono (j:=1) (by decide)) (zb_ (za_ 3) (zb_ (zfp_ C_ONE_MARK) zj_))))))) zR_))) (zi_ (z0_ zb0_)))
theorem zer_ (G_card_with:Gd P w K mg base CX0 1 "card_with" Qn25 (zw_ K)) (C_LOW:Gc mg "LOW" (tx [48])) (C_HIGH:Gc mg "HIGH" (tx [49])) (C_ONE_MARK:Gc mg "ONE_MARK" (tx [48,48,48,49])) (B_sorted:Gb mg "sorted") (B_dict:Gb mg "dict") {f:Addr}{fd:FuncData}(F:Fun K "stopped_card" "stopped_card" zX_ f fd) (len:∀ vs H Q E,zE_ K vs H Q E→vs.length=2)
  (rd:∀ vs H Q E,zE_ K vs H Q E→zaY_ K { nx:=fun _ H'=>Q .non H',rt:=Q } (start Qn20 vs) H):FnOk P w K mg base CX0 2 f fd Qn19 (zE_ K):=by
 refine F.ok zbI_ len (fun cdv A outer s H vs Q E hr h=>⟨_,zeA_ G_card_with C_LOW C_HIGH C_ONE_MARK B_sorted B_dict hr,rd vs H Q E h⟩)
theorem zaU_:FnScope ["signs", "others", "card"] Qn19 (defScope zz_):=⟨rfl,rfl,rfl,by decide +kernel,rfl,by decide +kernel,by decide +kernel⟩
theorem zde_ (G_stopped_card:Gd P w K mg base CX0 2 "stopped_card" Qn19 (zE_ K)) {cdv:Value}{A:Around}{outer:List Env}{s:Shared}{H:Hp}{E:XK}{f:Addr}(hr:Room 2 (A.deeper (envOfC "parting_of_picks" (defScope zz_) s.heap.objs.size f cdv))) :
  (PSs (cxOf CX0 P w K mg base ["signs", "others", "card"] "parting_of_picks" (defScope zz_) f cdv A outer s H E).nox (defBody zz_) (z8_ K)) := 
 (zd_ (zB_ (i:=2) zaU_.nd rfl (by first | exact Or.inl rfl | exact Or.inr rfl) (zo_ G_stopped_card (hr.mono (j:=2) (by decide)) (zb_ (za_ 0) (zb_ (za_ 1) zj_)))) (zd_ (zaw_ (zs_ zdQ_ (za_ 2) zb0_) (zi_ (zB_ (i:=2) zaU_.nd rfl (by first | exact Or.inl rfl | exact Or.inr rfl) (zo_ G_stopped_card (hr.mono (j:=2) (by decide)) (zb_ (za_ 1) (zb_ (za_ 0) zj_))))) zR_) (zi_ (z0_ (znA_ (zs_ zdQ_ (za_ 2) zb0_) zb0_ (zbD_ (zb_ (za_ 2) zj_)))))))
theorem zdd_ (G_stopped_card:Gd P w K mg base CX0 2 "stopped_card" Qn19 (zE_ K)) {f:Addr}{fd:FuncData}(F:Fun K "parting_of_picks" "parting_of_picks" zz_ f fd) (len:∀ vs H Q E,zv_ K vs H Q E→vs.length=2)
  (rd:∀ vs H Q E,zv_ K vs H Q E→z8_ K { nx:=fun _ H'=>Q .non H',rt:=Q } (start ["signs", "others", "card"] vs) H):FnOk P w K mg base CX0 3 f fd Qn19 (zv_ K):=by
 refine F.ok zaU_ len (fun cdv A outer s H vs Q E hr h=>⟨_,zde_ G_stopped_card hr,rd vs H Q E h⟩)
theorem zeL_:FnScope Qn14 Qn14 (defScope z2_):=⟨rfl,rfl,rfl,by decide +kernel,rfl,by decide +kernel,by decide +kernel⟩
theorem zeY_ (B_len:Gb mg "len") {cdv:Value}{A:Around}{outer:List Env}{s:Shared}{H:Hp}{E:XK}{f:Addr}(hr:Room 0 (A.deeper (envOfC "begins_with" (defScope z2_) s.heap.objs.size f cdv))) :
  (PSs (cxOf CX0 P w K mg base Qn14 "begins_with" (defScope z2_) f cdv A outer s H E).nox (defBody z2_) (za7_ K)) := 
 (zi_ (z0_ (zcA_ (za9_ hr.u60) (zbH_ sl_M (za_ 0) zdy_ (po_M (ze3_ zay_ B_len (zb_ (za_ 1) zj_)))) (za_ 1))))
theorem ze0_ (B_len:Gb mg "len") {f:Addr}{fd:FuncData}(F:Fun K "begins_with" "begins_with" z2_ f fd) (len:∀ vs H Q E,zS_ K vs H Q E→vs.length=2)
  (rd:∀ vs H Q E,zS_ K vs H Q E→za7_ K { nx:=fun _ H'=>Q .non H',rt:=Q } (start Qn14 vs) H):FnOk P w K mg base CX0 1 f fd Qn14 (zS_ K):=by
 refine F.ok zeL_ len (fun cdv A outer s H vs Q E hr h=>⟨_,zeY_ B_len hr,rd vs H Q E h⟩)
theorem zbt_:FnScope ["one", "other", "length"] ["one", "other"] (defScope zL_):=⟨rfl,rfl,rfl,by decide +kernel,rfl,by decide +kernel,by decide +kernel⟩
theorem zdT_ (B_min:Gb mg "min") (B_len:Gb mg "len") {cdv:Value}{A:Around}{outer:List Env}{s:Shared}{H:Hp}{E:XK}{f:Addr}(hr:Room 0 (A.deeper (envOfC "shared_length" (defScope zL_) s.heap.objs.size f cdv))) :
  (PSs (cxOf CX0 P w K mg base ["one", "other", "length"] "shared_length" (defScope zL_) f cdv A outer s H E).nox (defBody zL_) (zaA_ K)) := 
 (zd_ (zB_ (i:=2) zbt_.nd rfl (by first | exact Or.inl rfl | exact Or.inr rfl) zh_) (zd_ (zja_ PassesOwn.never (PW.pt (zb3_ (zs_ (zg7_ hr.u60) (za_ 2) (ze3_ (zjH_ rfl) B_min (zb_ (ze3_ zay_ B_len (zb_ (za_ 0) zj_)) (zb_ (ze3_ zay_ B_len (zb_ (za_ 1) zj_)) zj_)))) (zcm_ (zs_ (za9_ hr.u60) (za3_ ix_M (za_ 0) (za_ 2) (fun _ _=>rfl)) (za3_ ix_M (za_ 1) (za_ 2) (fun _ _=>rfl)))))) (zi_ (zB_ (i:=2) zbt_.nd rfl (by first | exact Or.inl rfl | exact Or.inr rfl) (zaz_ zaG_ (za_ 2) zh_)))) (zi_ (z0_ (za_ 2)))))
theorem zd6_ (B_min:Gb mg "min") (B_len:Gb mg "len") {f:Addr}{fd:FuncData}(F:Fun K "shared_length" "shared_length" zL_ f fd) (len:∀ vs H Q E,zH_ K vs H Q E→vs.length=2)
  (rd:∀ vs H Q E,zH_ K vs H Q E→zaA_ K { nx:=fun _ H'=>Q .non H',rt:=Q } (start ["one", "other", "length"] vs) H):FnOk P w K mg base CX0 1 f fd ["one", "other"] (zH_ K):=by
 refine F.ok zbt_ len (fun cdv A outer s H vs Q E hr h=>⟨_,zdT_ B_min B_len hr,rd vs H Q E h⟩)
theorem zaC_:FnScope Qn10 Qn5 (defScope zU_):=⟨rfl,rfl,rfl,by decide +kernel,rfl,by decide +kernel,by decide +kernel⟩
theorem zez_ (G_shared_length:Gd P w K mg base CX0 1 "shared_length" ["one", "other"] (zH_ K)) (G_card_with:Gd P w K mg base CX0 1 "card_with" Qn25 (zw_ K)) (C_BODY_WIDTH:Gc mg "BODY_WIDTH" (.int 36)) (C_LOW:Gc mg "LOW" (tx [48])) (C_HIGH:Gc mg "HIGH" (tx [49])) (C_OTHER_MARK:Gc mg "OTHER_MARK" (tx [48,48,48,50])) (C_ONE_MARK:Gc mg "ONE_MARK" (tx [48,48,48,49])) (B_dict:Gb mg "dict") (B_range:Gb mg "range") (B_len:Gb mg "len") {cdv:Value}{A:Around}{outer:List Env}{s:Shared}{H:Hp}{E:XK}{f:Addr}(hr:Room 1 (A.deeper (envOfC "crossed_deck" (defScope zU_) s.heap.objs.size f cdv))) :
  (PSs (cxOf CX0 P w K mg base Qn10 "crossed_deck" (defScope zU_) f cdv A outer s H E).nox (defBody zU_) (zaV_ K)) := 
 (zd_ (zB_ (i:=3) zaC_.nd rfl (by first | exact Or.inl rfl | exact Or.inr rfl) (zo_ G_shared_length (hr.mono (j:=1) (by decide)) (zb_ (za_ 1) (zb_ (za_ 2) zj_)))) (zd_ (zB_ (i:=4) zaC_.nd rfl (by first | exact Or.inl rfl | exact Or.inr rfl) (zk5_ "dict" zd1_ B_dict (zb_ (za_ 0) zj_))) (zd_ (zB_ (i:=5) zaC_.nd rfl (by first | exact Or.inl rfl | exact Or.inr rfl) (zk5_ "dict" zd1_ B_dict (zb_ (za_ 0) zj_))) (zd_ (zcw_ PassesOwn.never rfl (ziP_ B_range (zb_ zh_ (zb_ (zaz_ zaG_ (zfp_ C_BODY_WIDTH) zh_) zj_))) (zap_ (i:=6) zaC_.nd rfl (by first | exact Or.inl rfl | exact Or.inr rfl)) (zi_ (zaw_ (PW.pt (zb3_ (zfN_ hr.u60 (za_ 6) (za_ 0)) (zcm_ (zs_ zgV_ (za_ 6) (zbH_ sl_M (za_ 1) zdy_ (po_M (za_ 3))))))) (zd_ (zeM_ hr.u60 (za_ 4) (za_ 6) (zfp_ C_LOW)) (zi_ (zeM_ hr.u60 (za_ 5) (za_ 6) (zfp_ C_HIGH)))) zR_))) (zd_ (zaw_ (zs_ (zg7_ hr.u60) (za_ 3) (ze3_ zay_ B_len (zb_ (za_ 2) zj_))) (zd_ (zeM_ hr.u60 (za_ 4) (za3_ ix_M (za_ 2) (za_ 3) (fun _ _=>rfl)) (zfp_ C_HIGH)) (zi_ (zeM_ hr.u60 (za_ 5) (za3_ ix_M (za_ 2) (za_ 3) (fun _ _=>rfl)) (zfp_ C_LOW)))) zR_) (zi_ (z0_ (zbD_ (zb_ (zo_ G_card_with (hr.mono (j:=1) (by decide)) (zb_ (za_ 5) (zb_ (zfp_ C_ONE_MARK) zj_))) (zb_ (zo_ G_card_with (hr.mono (j:=1) (by decide)) (zb_ (za_ 4) (zb_ (zfp_ C_OTHER_MARK) zj_))) zj_))))))))))
theorem zeC_ (G_shared_length:Gd P w K mg base CX0 1 "shared_length" ["one", "other"] (zH_ K)) (G_card_with:Gd P w K mg base CX0 1 "card_with" Qn25 (zw_ K)) (C_BODY_WIDTH:Gc mg "BODY_WIDTH" (.int 36)) (C_LOW:Gc mg "LOW" (tx [48])) (C_HIGH:Gc mg "HIGH" (tx [49])) (C_OTHER_MARK:Gc mg "OTHER_MARK" (tx [48,48,48,50])) (C_ONE_MARK:Gc mg "ONE_MARK" (tx [48,48,48,49])) (B_dict:Gb mg "dict") (B_range:Gb mg "range") (B_len:Gb mg "len") {f:Addr}{fd:FuncData}(F:Fun K "crossed_deck" "crossed_deck" zU_ f fd) (len:∀ vs H Q E,zF_ K vs H Q E→vs.length=3)
  (rd:∀ vs H Q E,zF_ K vs H Q E→zaV_ K { nx:=fun _ H'=>Q .non H',rt:=Q } (start Qn10 vs) H):FnOk P w K mg base CX0 2 f fd Qn5 (zF_ K):=by
 refine F.ok zaC_ len (fun cdv A outer s H vs Q E hr h=>⟨_,zez_ G_shared_length G_card_with C_BODY_WIDTH C_LOW C_HIGH C_OTHER_MARK C_ONE_MARK B_dict B_range B_len hr,rd vs H Q E h⟩)
theorem zcC_:FnScope Qn5 Qn5 (defScope zu_):=⟨rfl,rfl,rfl,by decide +kernel,rfl,by decide +kernel,by decide +kernel⟩
theorem zcG_ (G_begins_with:Gd P w K mg base CX0 1 "begins_with" Qn14 (zS_ K)) (G_crossed_deck:Gd P w K mg base CX0 2 "crossed_deck" Qn5 (zF_ K)) {cdv:Value}{A:Around}{outer:List Env}{s:Shared}{H:Hp}{E:XK}{f:Addr}(hr:Room 2 (A.deeper (envOfC "parting_of_orders" (defScope zu_) s.heap.objs.size f cdv))) :
  (PSs (cxOf CX0 P w K mg base Qn5 "parting_of_orders" (defScope zu_) f cdv A outer s H E).nox (defBody zu_) (z5_ K)) := 
 (zd_ (zaw_ (zs_ (za9_ hr.u60) (za_ 1) (za_ 2)) (zi_ (z0_ zb0_)) zR_) (zd_ (zaw_ (zdx_ (zo_ G_begins_with (hr.mono (j:=1) (by decide)) (zb_ (za_ 2) (zb_ (za_ 1) zj_)))) (zi_ (z0_ (zo_ G_crossed_deck (hr.mono (j:=2) (by decide)) (zb_ (za_ 0) (zb_ (za_ 2) (zb_ (za_ 1) zj_)))))) zR_) (zi_ (z0_ (zo_ G_crossed_deck (hr.mono (j:=2) (by decide)) (zb_ (za_ 0) (zb_ (za_ 1) (zb_ (za_ 2) zj_))))))))
theorem zcN_ (G_begins_with:Gd P w K mg base CX0 1 "begins_with" Qn14 (zS_ K)) (G_crossed_deck:Gd P w K mg base CX0 2 "crossed_deck" Qn5 (zF_ K)) {f:Addr}{fd:FuncData}(F:Fun K "parting_of_orders" "parting_of_orders" zu_ f fd) (len:∀ vs H Q E,zr_ K vs H Q E→vs.length=3)
  (rd:∀ vs H Q E,zr_ K vs H Q E→z5_ K { nx:=fun _ H'=>Q .non H',rt:=Q } (start Qn5 vs) H):FnOk P w K mg base CX0 3 f fd Qn5 (zr_ K):=by
 refine F.ok zcC_ len (fun cdv A outer s H vs Q E hr h=>⟨_,zcG_ G_begins_with G_crossed_deck hr,rd vs H Q E h⟩)
theorem zba_:FnScope Qn16 ["row", "other"] (defScope zac_):=⟨rfl,rfl,rfl,by decide +kernel,rfl,by decide +kernel,by decide +kernel⟩
theorem zfy_ (G_sense_of:Gd P w K mg base CX0 2 "sense_of" ["row"] (zag_ K)) (G_card_with:Gd P w K mg base CX0 1 "card_with" Qn25 (zw_ K)) (G_parting_of_picks:Gd P w K mg base CX0 3 "parting_of_picks" Qn19 (zv_ K)) (G_parting_of_orders:Gd P w K mg base CX0 3 "parting_of_orders" Qn5 (zr_ K)) (C_ONE_MARK:Gc mg "ONE_MARK" (tx [48,48,48,49])) {cdv:Value}{A:Around}{outer:List Env}{s:Shared}{H:Hp}{E:XK}{f:Addr}(hr:Room 3 (A.deeper (envOfC "parting_of" (defScope zac_) s.heap.objs.size f cdv))) :
  (PSs (cxOf CX0 P w K mg base Qn16 "parting_of" (defScope zac_) f cdv A outer s H E).nox (defBody zac_) (zbu_ K)) := 
 (zd_ (zB_ (i:=2) zba_.nd rfl (by first | exact Or.inl rfl | exact Or.inr rfl) (zo_ G_sense_of (hr.mono (j:=2) (by decide)) (zb_ (za_ 0) zj_))) (zd_ (zB_ (i:=3) zba_.nd rfl (by first | exact Or.inl rfl | exact Or.inr rfl) (zo_ G_sense_of (hr.mono (j:=2) (by decide)) (zb_ (za_ 1) zj_))) (zd_ (zaw_ (zs_ (zmP_ hr.u60) (za_ 2) (za_ 3)) (zi_ (z0_ zb0_)) zR_) (zd_ (zaw_ (zs_ zdQ_ (za_ 2) zb0_) (zi_ (z0_ (zbD_ (zb_ (zo_ G_card_with (hr.mono (j:=1) (by decide)) (zb_ (za3_ ix_M (za_ 3) zh_ (fun _ _=>rfl)) (zb_ (zfp_ C_ONE_MARK) zj_))) zj_)))) zR_) (zd_ (zaw_ (zs_ zdQ_ (za_ 3) zb0_) (zi_ (z0_ (zbD_ (zb_ (zo_ G_card_with (hr.mono (j:=1) (by decide)) (zb_ (za3_ ix_M (za_ 2) zh_ (fun _ _=>rfl)) (zb_ (zfp_ C_ONE_MARK) zj_))) zj_)))) zR_) (zd_ (zB_ (i:=4) zba_.nd rfl (by first | exact Or.inl rfl | exact Or.inr rfl) (zo_ G_parting_of_picks (hr.mono (j:=3) (by decide)) (zb_ (za3_ ix_M (za_ 2) zh_ (fun _ _=>rfl)) (zb_ (za3_ ix_M (za_ 3) zh_ (fun _ _=>rfl)) zj_)))) (zd_ (zaw_ (zs_ zdQ_ (za_ 4) zb0_) (zi_ (zB_ (i:=4) zba_.nd rfl (by first | exact Or.inl rfl | exact Or.inr rfl) (zo_ G_parting_of_orders (hr.mono (j:=3) (by decide)) (zb_ (za3_ ix_M (za_ 2) zh_ (fun _ _=>rfl)) (zb_ (za3_ ix_M (za_ 2) zh_ (fun _ _=>rfl)) (zb_ (za3_ ix_M (za_ 3) zh_ (fun _ _=>rfl)) zj_)))))) zR_) (zi_ (z0_ (za_ 4))))))))))
theorem zfv_ (G_sense_of:Gd P w K mg base CX0 2 "sense_of" ["row"] (zag_ K)) (G_card_with:Gd P w K mg base CX0 1 "card_with" Qn25 (zw_ K)) (G_parting_of_picks:Gd P w K mg base CX0 3 "parting_of_picks" Qn19 (zv_ K)) (G_parting_of_orders:Gd P w K mg base CX0 3 "parting_of_orders" Qn5 (zr_ K)) (C_ONE_MARK:Gc mg "ONE_MARK" (tx [48,48,48,49])) {f:Addr}{fd:FuncData}(F:Fun K "parting_of" "parting_of" zac_ f fd) (len:∀ vs H Q E,zY_ K vs H Q E→vs.length=2)
  (rd:∀ vs H Q E,zY_ K vs H Q E→zbu_ K { nx:=fun _ H'=>Q .non H',rt:=Q } (start Qn16 vs) H):FnOk P w K mg base CX0 4 f fd ["row", "other"] (zY_ K):=by
 refine F.ok zba_ len (fun cdv A outer s H vs Q E hr h=>⟨_,zfy_ G_sense_of G_card_with G_parting_of_picks G_parting_of_orders C_ONE_MARK hr,rd vs H Q E h⟩)
theorem zK_:FnScope Qn4 ["_law_row", "_law_cells"] (defScope zt_):=⟨rfl,rfl,rfl,by decide +kernel,rfl,by decide +kernel,by decide +kernel⟩
theorem zcE_ (B_range:Gb mg "range") (B_len:Gb mg "len") {cdv:Value}{A:Around}{outer:List Env}{s:Shared}{H:Hp}{E:XK}{f:Addr}(hr:Room 0 (A.deeper (envOfC "_law_same_in_sense" (defScope zt_) s.heap.objs.size f cdv))) :
  (PSs (cxOf CX0 P w K mg base Qn4 "_law_same_in_sense" (defScope zt_) f cdv A outer s H E).nox (defBody zt_) (z3_ K)) := 
 (zd_ (zB_ (i:=2) zK_.nd rfl (by first | exact Or.inl rfl | exact Or.inr rfl) (zbD_ zj_)) (zd_ (zB_ (i:=3) zK_.nd rfl (by first | exact Or.inl rfl | exact Or.inr rfl) (zbD_ zj_)) (zd_ (zcw_ PassesOwn.never rfl (zeP_ B_range (zb_ (ze3_ zay_ B_len (zb_ (za_ 0) zj_)) zj_)) (zap_ (i:=4) zK_.nd rfl (by first | exact Or.inl rfl | exact Or.inr rfl)) (zd_ (zB_ (i:=5) zK_.nd rfl (by first | exact Or.inl rfl | exact Or.inr rfl) (za3_ ix_M (za_ 0) (za_ 4) (fun _ _=>rfl))) (zd_ (zB_ (i:=6) zK_.nd rfl (by first | exact Or.inl rfl | exact Or.inr rfl) (zaz_ zaj_ (zaz_ zc8_ (za3_ ix_M (za_ 1) (za_ 4) (fun _ _=>rfl)) zh_) zh_)) (zd_ (zaw_ (PW.pt (zb3_ (zs_ (za9_ hr.u60) (za3_ ix_M (za_ 5) zh_ (fun _ _=>rfl)) (zbJ_ (l:=[112,105,99,107]))) (zcm_ (zs_ (zg7_ hr.u60) (za_ 6) zh_)))) (zi_ (zcp_ (zim_ PySem.F.plainAttrs_list PySem.F.slot_list_append PySem.F.type_list_append zbj_ (za_ 2) (zb_ (za_ 5) zj_)))) zR_) (zd_ (zaw_ (PW.pt (zeZ_ (PW.pt (zb3_ (zs_ (za9_ hr.u60) (za3_ ix_M (za_ 5) zh_ (fun _ _=>rfl)) (zbJ_ (l:=[112,105,99,107]))) (zcm_ (zs_ (za9_ hr.u60) (za_ 6) zh_)))) (zgp_ (PW.pt (zb3_ (zs_ (za9_ hr.u60) (za3_ ix_M (za_ 5) zh_ (fun _ _=>rfl)) (zbJ_ (l:=[100,101,97,108]))) (zcm_ (zs_ (za9_ hr.u60) (za_ 6) zh_))))))) (zi_ (zcp_ (zim_ PySem.F.plainAttrs_list PySem.F.slot_list_append PySem.F.type_list_append zbj_ (za_ 3) (zb_ (zh9_ (zb_ (zbJ_ (l:=[100,101,97,108])) (zb_ (za3_ ix_M (za_ 5) zh_ (fun _ _=>rfl)) zj_))) zj_)))) zR_) (zi_ (zaw_ (PW.pt (zeZ_ (zs_ (za9_ hr.u60) (za3_ ix_M (za_ 5) zh_ (fun _ _=>rfl)) (zbJ_ (l:=[100,101,97,108]))) (zgp_ (zs_ zj9_ (za_ 6) zh_)))) (zi_ (zcp_ (zim_ PySem.F.plainAttrs_list PySem.F.slot_list_append PySem.F.type_list_append zbj_ (za_ 3) (zb_ (za_ 5) zj_)))) zR_))))))) (zi_ (z0_ (zaz_ zaG_ (za_ 2) (za_ 3)))))))
theorem zcH_ (B_range:Gb mg "range") (B_len:Gb mg "len") {f:Addr}{fd:FuncData}(F:Fun K "_law_same_in_sense" "_law_same_in_sense" zt_ f fd) (len:∀ vs H Q E,zq_ K vs H Q E→vs.length=2)
  (rd:∀ vs H Q E,zq_ K vs H Q E→z3_ K { nx:=fun _ H'=>Q .non H',rt:=Q } (start Qn4 vs) H):FnOk P w K mg base CX0 1 f fd ["_law_row", "_law_cells"] (zq_ K):=by
 refine F.ok zK_ len (fun cdv A outer s H vs Q E hr h=>⟨_,zcE_ B_range B_len hr,rd vs H Q E h⟩)
theorem zfc_:FnScope ["some", "deck", "pocket"] ["some"] (defScope zbT_):=⟨rfl,rfl,rfl,by decide +kernel,rfl,by decide +kernel,by decide +kernel⟩
theorem zjJ_  {cdv:Value}{A:Around}{outer:List Env}{s:Shared}{H:Hp}{E:XK}{f:Addr}(hr:Room 0 (A.deeper (envOfC "gather" (defScope zbT_) s.heap.objs.size f cdv))) :
  (PSs (cxOf CX0 P w K mg base ["some", "deck", "pocket"] "gather" (defScope zbT_) f cdv A outer s H E).nox (defBody zbT_) (zdR_ K)) := 
 (zd_ (zB_ (i:=1) zfc_.nd rfl (by first | exact Or.inl rfl | exact Or.inr rfl) (zbD_ zj_)) (zd_ (zcw_ PassesOwn.never rfl (zdn_ (za_ 0)) (zap_ (i:=2) zfc_.nd rfl (by first | exact Or.inl rfl | exact Or.inr rfl)) (zi_ (zcp_ (zim_ PySem.F.plainAttrs_list PySem.F.slot_list_extend PySem.F.type_list_extend zj8_ (za_ 1) (zb_ (za_ 2) zj_))))) (zi_ (z0_ (za_ 1)))))
theorem zkd_  {f:Addr}{fd:FuncData}(F:Fun K "gather" "gather" zbT_ f fd) (len:∀ vs H Q E,zbp_ K vs H Q E→vs.length=1)
  (rd:∀ vs H Q E,zbp_ K vs H Q E→zdR_ K { nx:=fun _ H'=>Q .non H',rt:=Q } (start ["some", "deck", "pocket"] vs) H):FnOk P w K mg base CX0 1 f fd ["some"] (zbp_ K):=by
 refine F.ok zfc_ len (fun cdv A outer s H vs Q E hr h=>⟨_,zjJ_  hr,rd vs H Q E h⟩)
theorem zia_:FnScope ["text"] ["text"] (defScope zbq_):=⟨rfl,rfl,rfl,by decide +kernel,rfl,by decide +kernel,by decide +kernel⟩
theorem zje_ (C_SIGNS:Gc mg "SIGNS" (tx SG)) (B_len:Gb mg "len") {cdv:Value}{A:Around}{outer:List Env}{s:Shared}{H:Hp}{E:XK}{f:Addr}(hr:Room 0 (A.deeper (envOfC "is_sign" (defScope zbq_) s.heap.objs.size f cdv))) :
  (PSs (cxOf CX0 P w K mg base ["text"] "is_sign" (defScope zbq_) f cdv A outer s H E).nox (defBody zbq_) (zc4_ K)) := 
 (zi_ (z0_ (zk0_ (zcA_ (za9_ hr.u60) (ze3_ zay_ B_len (zb_ (za_ 0) zj_)) zh_) (znG_ (zcA_ znU_ (za_ 0) (zfp_ C_SIGNS))))))
theorem ziO_ (C_SIGNS:Gc mg "SIGNS" (tx SG)) (B_len:Gb mg "len") {f:Addr}{fd:FuncData}(F:Fun K "is_sign" "is_sign" zbq_ f fd) (len:∀ vs H Q E,zaL_ K vs H Q E→vs.length=1)
  (rd:∀ vs H Q E,zaL_ K vs H Q E→zc4_ K { nx:=fun _ H'=>Q .non H',rt:=Q } (start ["text"] vs) H):FnOk P w K mg base CX0 1 f fd ["text"] (zaL_ K):=by
 refine F.ok zia_ len (fun cdv A outer s H vs Q E hr h=>⟨_,zje_ C_SIGNS B_len hr,rd vs H Q E h⟩)
theorem zhS_:FnScope ["sign"] ["sign"] (defScope zbh_):=⟨rfl,rfl,rfl,by decide +kernel,rfl,by decide +kernel,by decide +kernel⟩
theorem zhR_ (G_is_sign:Gd P w K mg base CX0 1 "is_sign" ["text"] (zaL_ K)) (C_SIGNS:Gc mg "SIGNS" (tx SG)) (C_NoCard:Gc mg "NoCard" (.ref (gA K "NoCard"))) (M_NoCard:mg "NoCard" = some (.ref (gA K "NoCard"))) (Q_NoCard:excK K (gA K "NoCard")=true) {cdv:Value}{A:Around}{outer:List Env}{s:Shared}{H:Hp}{E:XK}{f:Addr}(hr:Room 1 (A.deeper (envOfC "rank_of" (defScope zbh_) s.heap.objs.size f cdv))) :
  (PSs (cxOf (CXx P w) P w K mg base ["sign"] "rank_of" (defScope zbh_) f cdv A outer s H E) (defBody zbh_) (zdh_ K E)) := 
 (zd_ (zaw_ (zfX_ (zdx_ (zo_ G_is_sign (hr.mono (j:=1) (by decide)) (zb_ (za_ 0) zj_)))) (zi_ (zlG_ zla_ rfl Q_NoCard M_NoCard (zb_ (zkb_ (zko_ (znR_ (za_ 0)) (zko_ (zbJ_ (l:=[32,105,115,32,110,111,32,115,105,103,110])) zow_))) zj_))) zR_) (zi_ (z0_ (znY_ PySem.F.slot_str_index PySem.F.type_str_index zle_ (zfp_ C_SIGNS) (zb_ (za_ 0) zj_)))))
theorem zhQ_ (G_is_sign:Gd P w K mg base CX0 1 "is_sign" ["text"] (zaL_ K)) (C_SIGNS:Gc mg "SIGNS" (tx SG)) (C_NoCard:Gc mg "NoCard" (.ref (gA K "NoCard"))) (M_NoCard:mg "NoCard" = some (.ref (gA K "NoCard"))) (Q_NoCard:excK K (gA K "NoCard")=true) {f:Addr}{fd:FuncData}(F:Fun K "rank_of" "rank_of" zbh_ f fd) (len:∀ vs H Q E,zaZ_ K vs H Q E→vs.length=1)
  (rd:∀ vs H Q E,zaZ_ K vs H Q E→zdh_ K E { nx:=fun _ H'=>Q .non H',rt:=Q } (start ["sign"] vs) H):FnOk P w K mg base (CXx P w) 2 f fd ["sign"] (zaZ_ K):=by
 refine F.okX zhS_ len (fun cdv A outer s H vs Q E hr h=>⟨_,zhR_ G_is_sign C_SIGNS C_NoCard M_NoCard Q_NoCard hr,rd vs H Q E h⟩)
theorem ziv_:FnScope Qn18 Qn18 (defScope zbo_):=⟨rfl,rfl,rfl,by decide +kernel,rfl,by decide +kernel,by decide +kernel⟩
theorem ziD_  {cdv:Value}{A:Around}{outer:List Env}{s:Shared}{H:Hp}{E:XK}{f:Addr}(hr:Room 0 (A.deeper (envOfC "sign_at" (defScope zbo_) s.heap.objs.size f cdv))) :
  (PSs (cxOf CX0 P w K mg base Qn18 "sign_at" (defScope zbo_) f cdv A outer s H E).nox (defBody zbo_) (zcV_ K)) := 
 (zi_ (z0_ (za3_ ix_M (za_ 0) (zaz_ zfn_ (za_ 1) zh_) (fun _ _=>rfl))))
theorem zij_  {f:Addr}{fd:FuncData}(F:Fun K "sign_at" "sign_at" zbo_ f fd) (len:∀ vs H Q E,zad_ K vs H Q E→vs.length=2)
  (rd:∀ vs H Q E,zad_ K vs H Q E→zcV_ K { nx:=fun _ H'=>Q .non H',rt:=Q } (start Qn18 vs) H):FnOk P w K mg base CX0 1 f fd Qn18 (zad_ K):=by
 refine F.ok ziv_ len (fun cdv A outer s H vs Q E hr h=>⟨_,ziD_  hr,rd vs H Q E h⟩)
theorem zcq_:FnScope Qn21 ["deck", "column"] (defScope zab_):=⟨rfl,rfl,rfl,by decide +kernel,rfl,by decide +kernel,by decide +kernel⟩
theorem zfG_ (G_rank_of:Gd P w K mg base (CXx P w) 2 "rank_of" ["sign"] (zaZ_ K)) (G_sign_at:Gd P w K mg base CX0 1 "sign_at" Qn18 (zad_ K)) (C_SIGNS:Gc mg "SIGNS" (tx SG)) {cdv:Value}{A:Around}{outer:List Env}{s:Shared}{H:Hp}{E:XK}{f:Addr}(hr:Room 2 (A.deeper (envOfC "pockets_of" (defScope zab_) s.heap.objs.size f cdv))) :
  (PSs (cxOf (CXx P w) P w K mg base Qn21 "pockets_of" (defScope zab_) f cdv A outer s H E) (defBody zab_) (zbv_ K E)) := 
 (zd_ (zd8_ (cl:=[]) (lv:=["sign"]) (fr:=[]) rfl ⟨rfl,by decide +kernel,rfl,by decide +kernel,(by intro q hq; cases hq)⟩ (zdn_ (zfp_ C_SIGNS)) (fun _ _ _ _=>(zap_ (i:=0) (show List.Nodup (["sign"]:List Str) from by decide +kernel) rfl (Or.inl rfl))) (fun _ _ _ _=>zk4_) (fun _ _ _ _=>(zbD_ zj_)) (zap_ (i:=2) zcq_.nd rfl (by first | exact Or.inl rfl | exact Or.inr rfl))) (zd_ (zcw_ PassesOwn.leaving rfl (zdn_ (za_ 0)) (zap_ (i:=3) zcq_.nd rfl (by first | exact Or.inl rfl | exact Or.inr rfl)) (zi_ (zcp_ (zim_ PySem.F.plainAttrs_list PySem.F.slot_list_append PySem.F.type_list_append zbj_ (za3_ ix_M (za_ 2) (zee_ G_rank_of (hr.mono (j:=2) (by decide)) ze8_ (zb_ (zo_ G_sign_at (hr.mono (j:=1) (by decide)) (zb_ (za_ 3) (zb_ (za_ 1) zj_))) zj_)) (fun _ _=>rfl)) (zb_ (za_ 3) zj_))))) (zi_ (z0_ (za_ 2)))))
theorem zfH_ (G_rank_of:Gd P w K mg base (CXx P w) 2 "rank_of" ["sign"] (zaZ_ K)) (G_sign_at:Gd P w K mg base CX0 1 "sign_at" Qn18 (zad_ K)) (C_SIGNS:Gc mg "SIGNS" (tx SG)) {f:Addr}{fd:FuncData}(F:Fun K "pockets_of" "pockets_of" zab_ f fd) (len:∀ vs H Q E,z4_ K vs H Q E→vs.length=2)
  (rd:∀ vs H Q E,z4_ K vs H Q E→zbv_ K E { nx:=fun _ H'=>Q .non H',rt:=Q } (start Qn21 vs) H):FnOk P w K mg base (CXx P w) 3 f fd ["deck", "column"] (z4_ K):=by
 refine F.okX zcq_ len (fun cdv A outer s H vs Q E hr h=>⟨_,zfG_ G_rank_of G_sign_at C_SIGNS hr,rd vs H Q E h⟩)
theorem zcs_:FnScope ["deck", "row", "dealt", "column"] Qn22 (defScope zaN_):=⟨rfl,rfl,rfl,by decide +kernel,rfl,by decide +kernel,by decide +kernel⟩
theorem zhr_ (G_gather:Gd P w K mg base CX0 1 "gather" ["some"] (zbp_ K)) (G_pockets_of:Gd P w K mg base (CXx P w) 3 "pockets_of" ["deck", "column"] (z4_ K)) (B_list:Gb mg "list") {cdv:Value}{A:Around}{outer:List Env}{s:Shared}{H:Hp}{E:XK}{f:Addr}(hr:Room 3 (A.deeper (envOfC "deal_all" (defScope zaN_) s.heap.objs.size f cdv))) :
  (PSs (cxOf (CXx P w) P w K mg base ["deck", "row", "dealt", "column"] "deal_all" (defScope zaN_) f cdv A outer s H E) (defBody zaN_) (zcl_ K E)) := 
 (zd_ (zB_ (i:=2) zcs_.nd rfl (by first | exact Or.inl rfl | exact Or.inr rfl) (zk5_ "list" (zce_ rfl) B_list (zb_ (za_ 0) zj_))) (zd_ (zcw_ PassesOwn.leaving rfl (zdn_ (za_ 1)) (zap_ (i:=3) zcs_.nd rfl (by first | exact Or.inl rfl | exact Or.inr rfl)) (zi_ (zB_ (i:=2) zcs_.nd rfl (by first | exact Or.inl rfl | exact Or.inr rfl) (zo_ G_gather (hr.mono (j:=1) (by decide)) (zb_ (zee_ G_pockets_of (hr.mono (j:=3) (by decide)) ze8_ (zb_ (za_ 2) (zb_ (za_ 3) zj_))) zj_))))) (zi_ (z0_ (za_ 2)))))
theorem zhi_ (G_gather:Gd P w K mg base CX0 1 "gather" ["some"] (zbp_ K)) (G_pockets_of:Gd P w K mg base (CXx P w) 3 "pockets_of" ["deck", "column"] (z4_ K)) (B_list:Gb mg "list") {f:Addr}{fd:FuncData}(F:Fun K "deal_all" "deal_all" zaN_ f fd) (len:∀ vs H Q E,zau_ K vs H Q E→vs.length=2)
  (rd:∀ vs H Q E,zau_ K vs H Q E→zcl_ K E { nx:=fun _ H'=>Q .non H',rt:=Q } (start ["deck", "row", "dealt", "column"] vs) H):FnOk P w K mg base (CXx P w) 4 f fd Qn22 (zau_ K):=by
 refine F.okX zcs_ len (fun cdv A outer s H vs Q E hr h=>⟨_,zhr_ G_gather G_pockets_of B_list hr,rd vs H Q E h⟩)
theorem zbK_:FnScope ["deck", "row", "gone", "step"] Qn22 (defScope zaJ_):=⟨rfl,rfl,rfl,by decide +kernel,rfl,by decide +kernel,by decide +kernel⟩
theorem zg0_ (G_deal_all:Gd P w K mg base (CXx P w) 4 "deal_all" Qn22 (zau_ K)) (G_sign_at:Gd P w K mg base CX0 1 "sign_at" Qn18 (zad_ K)) (B_list:Gb mg "list") {cdv:Value}{A:Around}{outer:List Env}{s:Shared}{H:Hp}{E:XK}{f:Addr}(hr:Room 4 (A.deeper (envOfC "pass_all" (defScope zaJ_) s.heap.objs.size f cdv))) :
  (PSs (cxOf (CXx P w) P w K mg base ["deck", "row", "gone", "step"] "pass_all" (defScope zaJ_) f cdv A outer s H E) (defBody zaJ_) (zcn_ K E)) := 
 (zd_ (zB_ (i:=2) zbK_.nd rfl (by first | exact Or.inl rfl | exact Or.inr rfl) (zk5_ "list" (zce_ rfl) B_list (zb_ (za_ 0) zj_))) (zd_ (zcw_ PassesOwn.leaving rfl (zdn_ (za_ 1)) (zap_ (i:=3) zbK_.nd rfl (by first | exact Or.inl rfl | exact Or.inr rfl)) (zi_ (zaw_ (zs_ (za9_ hr.u60) (za3_ ix_M (za_ 3) zh_ (fun _ _=>rfl)) (zbJ_ (l:=[100,101,97,108]))) (zi_ (zB_ (i:=2) zbK_.nd rfl (by first | exact Or.inl rfl | exact Or.inr rfl) (zee_ G_deal_all (hr.mono (j:=4) (by decide)) ze8_ (zb_ (za_ 2) (zb_ (zbD_ (zb_ (za3_ ix_M (za_ 3) zh_ (fun _ _=>rfl)) zj_)) zj_))))) (zi_ (zd8_ (cl:=_) (lv:=["card"]) (fr:=[("step",3)]) rfl ⟨rfl,by decide +kernel,rfl,by decide +kernel,(zgC_ (by refine ⟨rfl,by decide +kernel,?_,?_⟩<;>first | exact Or.inl rfl | exact Or.inr rfl) zlf_)⟩ (zdn_ (za_ 2)) (fun _ _ _ _=>(zap_ (i:=0) (show List.Nodup (["card", "step"]:List Str) from by decide +kernel) rfl (Or.inl rfl))) (fun _ _ _ _=>(zkw_ (zs_ (za9_ hr.u60) (zo_ G_sign_at (hr.mono (j:=1) (by decide)) (zb_ (za_ 0) (zb_ (za3_ ix_M (za_ 1) zh_ (fun _ _=>rfl)) zj_))) (za3_ ix_M (za_ 1) zh_ (fun _ _=>rfl))))) (fun _ _ _ _=>(za_ 0)) (zap_ (i:=2) zbK_.nd rfl (by first | exact Or.inl rfl | exact Or.inr rfl))))))) (zi_ (z0_ (za_ 2)))))
theorem zhG_ (G_deal_all:Gd P w K mg base (CXx P w) 4 "deal_all" Qn22 (zau_ K)) (G_sign_at:Gd P w K mg base CX0 1 "sign_at" Qn18 (zad_ K)) (B_list:Gb mg "list") {f:Addr}{fd:FuncData}(F:Fun K "pass_all" "pass_all" zaJ_ f fd) (len:∀ vs H Q E,zaf_ K vs H Q E→vs.length=2)
  (rd:∀ vs H Q E,zaf_ K vs H Q E→zcn_ K E { nx:=fun _ H'=>Q .non H',rt:=Q } (start ["deck", "row", "gone", "step"] vs) H):FnOk P w K mg base (CXx P w) 5 f fd Qn22 (zaf_ K):=by
 refine F.okX zbK_ len (fun cdv A outer s H vs Q E hr h=>⟨_,zg0_ G_deal_all G_sign_at B_list hr,rd vs H Q E h⟩)
theorem zbs_:FnScope Qn8 Qn23 (defScope zaP_):=⟨rfl,rfl,rfl,by decide +kernel,rfl,by decide +kernel,by decide +kernel⟩
theorem zhq_ (B_len:Gb mg "len") {cdv:Value}{A:Around}{outer:List Env}{s:Shared}{H:Hp}{E:XK}{f:Addr}(hr:Room 0 (A.deeper (envOfC "_law_done" (defScope zaP_) s.heap.objs.size f cdv))) :
  (PSs (cxOf CX0 P w K mg base Qn8 "_law_done" (defScope zaP_) f cdv A outer s H E).nox (defBody zaP_) (zci_ K)) := 
 (zd_ (zB_ (i:=2) zbs_.nd rfl (by first | exact Or.inl rfl | exact Or.inr rfl) (zaz_ zfn_ (za3_ ix_M (za_ 1) zh_ (fun _ _=>rfl)) zh_)) (zd_ (zaw_ (zs_ (za9_ hr.u60) (za3_ ix_M (za_ 1) zh_ (fun _ _=>rfl)) (zbJ_ (l:=[112,105,99,107]))) (zi_ (z0_ (zne_ (cl:=_) (lv:=["_law_card"]) (fr:=[("_law_at",2),("_law_one",1)]) rfl ⟨rfl,by decide +kernel,rfl,by decide +kernel,(zgC_ (by refine ⟨rfl,by decide +kernel,?_,?_⟩<;>first | exact Or.inl rfl | exact Or.inr rfl) (zgC_ (by refine ⟨rfl,by decide +kernel,?_,?_⟩<;>first | exact Or.inl rfl | exact Or.inr rfl) zlf_))⟩ (zdn_ (za_ 0)) (fun _ _ _ _=>(zap_ (i:=0) (show List.Nodup (["_law_card", "_law_at", "_law_one"]:List Str) from by decide +kernel) rfl (Or.inl rfl))) (fun _ _ _ _=>(zkw_ (zs_ (za9_ hr.u60) (za3_ ix_M (za_ 0) (za_ 1) (fun _ _=>rfl)) (za3_ ix_M (za_ 2) zh_ (fun _ _=>rfl))))) (fun _ _ _ _=>(za_ 0))))) zR_) (zd_ (zB_ (i:=3) zbs_.nd rfl (by first | exact Or.inl rfl | exact Or.inr rfl) (zbD_ zj_)) (zd_ (zcw_ PassesOwn.never rfl (zdn_ (za_ 0)) (zap_ (i:=4) zbs_.nd rfl (by first | exact Or.inl rfl | exact Or.inr rfl)) (zd_ (zB_ (i:=5) zbs_.nd rfl (by first | exact Or.inl rfl | exact Or.inr rfl) (ze3_ zay_ B_len (zb_ (za_ 3) zj_))) (zd_ (zja_ PassesOwn.never (PW.pt (zb3_ (zs_ zj9_ (za_ 5) zh_) (zcm_ (zs_ (zg7_ hr.u60) (za3_ ix_M (za_ 4) (za_ 2) (fun _ _=>rfl)) (za3_ ix_M (za3_ ix_M (za_ 3) (zaz_ zfn_ (za_ 5) zh_) (fun _ _=>rfl)) (za_ 2) (fun _ _=>rfl)))))) (zi_ (zB_ (i:=5) zbs_.nd rfl (by first | exact Or.inl rfl | exact Or.inr rfl) (zaz_ zfn_ (za_ 5) zh_)))) (zi_ (zcp_ (zim_ PySem.F.plainAttrs_list PySem.F.slot_list_insert PySem.F.type_list_insert zj6_ (za_ 3) (zb_ (za_ 5) (zb_ (za_ 4) zj_)))))))) (zi_ (z0_ (za_ 3)))))))
theorem zg5_ (B_len:Gb mg "len") {f:Addr}{fd:FuncData}(F:Fun K "_law_done" "_law_done" zaP_ f fd) (len:∀ vs H Q E,zas_ K vs H Q E→vs.length=2)
  (rd:∀ vs H Q E,zas_ K vs H Q E→zci_ K { nx:=fun _ H'=>Q .non H',rt:=Q } (start Qn8 vs) H):FnOk P w K mg base CX0 1 f fd Qn23 (zas_ K):=by
 refine F.ok zbs_ len (fun cdv A outer s H vs Q E hr h=>⟨_,zhq_ B_len hr,rd vs H Q E h⟩)
theorem za5_:FnScope Qn11 Qn24 (defScope zW_):=⟨rfl,rfl,rfl,by decide +kernel,rfl,by decide +kernel,by decide +kernel⟩
theorem zem_ (G_law_done:Gd P w K mg base CX0 1 "_law_done" Qn23 (zas_ K)) (B_list:Gb mg "list") {cdv:Value}{A:Around}{outer:List Env}{s:Shared}{H:Hp}{E:XK}{f:Addr}(hr:Room 1 (A.deeper (envOfC "_law_all_done" (defScope zW_) s.heap.objs.size f cdv))) :
  (PSs (cxOf CX0 P w K mg base Qn11 "_law_all_done" (defScope zW_) f cdv A outer s H E).nox (defBody zW_) (zaI_ K)) := 
 (zd_ (zB_ (i:=2) za5_.nd rfl (by first | exact Or.inl rfl | exact Or.inr rfl) (zk5_ "list" (zce_ rfl) B_list (zb_ (za_ 0) zj_))) (zd_ (zcw_ PassesOwn.never rfl (zdn_ (za_ 1)) (zap_ (i:=3) za5_.nd rfl (by first | exact Or.inl rfl | exact Or.inr rfl)) (zi_ (zB_ (i:=2) za5_.nd rfl (by first | exact Or.inl rfl | exact Or.inr rfl) (zo_ G_law_done (hr.mono (j:=1) (by decide)) (zb_ (za_ 2) (zb_ (za_ 3) zj_)))))) (zi_ (z0_ (za_ 2)))))
theorem zev_ (G_law_done:Gd P w K mg base CX0 1 "_law_done" Qn23 (zas_ K)) (B_list:Gb mg "list") {f:Addr}{fd:FuncData}(F:Fun K "_law_all_done" "_law_all_done" zW_ f fd) (len:∀ vs H Q E,zG_ K vs H Q E→vs.length=2)
  (rd:∀ vs H Q E,zG_ K vs H Q E→zaI_ K { nx:=fun _ H'=>Q .non H',rt:=Q } (start Qn11 vs) H):FnOk P w K mg base CX0 2 f fd Qn24 (zG_ K):=by
 refine F.ok za5_ len (fun cdv A outer s H vs Q E hr h=>⟨_,zem_ G_law_done B_list hr,rd vs H Q E h⟩)
theorem zcM_:FnScope Qn6 Qn3 (defScope zat_):=⟨rfl,rfl,rfl,by decide +kernel,rfl,by decide +kernel,by decide +kernel⟩
theorem zgb_ (G_pass_all:Gd P w K mg base (CXx P w) 5 "pass_all" Qn22 (zaf_ K)) (G_law_all_done:Gd P w K mg base CX0 2 "_law_all_done" Qn24 (zG_ K)) (B_isinstance:Gb mg "isinstance") (B_list:Gb mg "list") {cdv:Value}{A:Around}{outer:List Env}{s:Shared}{H:Hp}{E:XK}{f:Addr}(hr:Room 5 (A.deeper (envOfC "_law_alike" (defScope zat_) s.heap.objs.size f cdv))) :
  (PSs (cxOf CX0 P w K mg base Qn6 "_law_alike" (defScope zat_) f cdv A outer s H E).nox (defBody zat_) (zbO_ K)) := 
 (zd_ (zB_ (i:=4) zcM_.nd rfl (by first | exact Or.inl rfl | exact Or.inr rfl) (zee_ G_pass_all (hr.mono (j:=5) (by decide)) passX0 (zb_ (za_ 1) (zb_ (za_ 2) zj_)))) (zd_ (zB_ (i:=5) zcM_.nd rfl (by first | exact Or.inl rfl | exact Or.inr rfl) (zee_ G_pass_all (hr.mono (j:=5) (by decide)) passX0 (zb_ (za_ 1) (zb_ (za_ 3) zj_)))) (zd_ (zaw_ (PW.pt (zeZ_ (zfX_ (zdx_ (ze3_ zff_ B_isinstance (zb_ (za_ 4) (zb_ (znH_ "list" B_list) zj_))))) (zgp_ (zfX_ (zdx_ (ze3_ zff_ B_isinstance (zb_ (za_ 5) (zb_ (znH_ "list" B_list) zj_)))))))) (zi_ (z0_ zkn_)) zR_) (zd_ (zaw_ (PW.pt (zeZ_ (zs_ (zhf_ hr.u60) (za_ 4) (zo_ G_law_all_done (hr.mono (j:=2) (by decide)) (zb_ (za_ 1) (zb_ (za_ 2) zj_)))) (zgp_ (zs_ (zhf_ hr.u60) (za_ 5) (zo_ G_law_all_done (hr.mono (j:=2) (by decide)) (zb_ (za_ 1) (zb_ (za_ 3) zj_))))))) (zi_ (z0_ zkn_)) zR_) (zi_ (z0_ (zcA_ (za9_ hr.u60) (zcA_ (za9_ hr.u60) (za_ 4) (za_ 5)) (zcA_ zdQ_ (za_ 0) zb0_))))))))
theorem zfZ_ (G_pass_all:Gd P w K mg base (CXx P w) 5 "pass_all" Qn22 (zaf_ K)) (G_law_all_done:Gd P w K mg base CX0 2 "_law_all_done" Qn24 (zG_ K)) (B_isinstance:Gb mg "isinstance") (B_list:Gb mg "list") {f:Addr}{fd:FuncData}(F:Fun K "_law_alike" "_law_alike" zat_ f fd) (len:∀ vs H Q E,zQ_ K vs H Q E→vs.length=4)
  (rd:∀ vs H Q E,zQ_ K vs H Q E→zbO_ K { nx:=fun _ H'=>Q .non H',rt:=Q } (start Qn6 vs) H):FnOk P w K mg base CX0 6 f fd Qn3 (zQ_ K):=by
 refine F.ok zcM_ len (fun cdv A outer s H vs Q E hr h=>⟨_,zgb_ G_pass_all G_law_all_done B_isinstance B_list hr,rd vs H Q E h⟩)
theorem zfi_:FnScope Qn13 Qn17 (defScope zbf_):=⟨rfl,rfl,rfl,by decide +kernel,rfl,by decide +kernel,by decide +kernel⟩
theorem zh1_ (G_law_alike:Gd P w K mg base CX0 6 "_law_alike" Qn3 (zQ_ K)) (B_isinstance:Gb mg "isinstance") (B_list:Gb mg "list") (B_len:Gb mg "len") (B_str:Gb mg "str") {cdv:Value}{A:Around}{outer:List Env}{s:Shared}{H:Hp}{E:XK}{f:Addr}(hr:Room 6 (A.deeper (envOfC "_law_two" (defScope zbf_) s.heap.objs.size f cdv))) :
  (PSs (cxOf CX0 P w K mg base Qn13 "_law_two" (defScope zbf_) f cdv A outer s H E).nox (defBody zbf_) (zdc_ K)) := 
 (zd_ (zaw_ (zs_ zdQ_ (za_ 0) zb0_) (zi_ (z0_ zkn_)) zR_) (zd_ (zaw_ (PW.pt (zeZ_ (zfX_ (zdx_ (ze3_ zff_ B_isinstance (zb_ (za_ 0) (zb_ (znH_ "list" B_list) zj_))))) (zeZ_ (zs_ (zg7_ hr.u60) (ze3_ zay_ B_len (zb_ (za_ 0) zj_)) zh_) (zgp_ (zs_ zj9_ (ze3_ zay_ B_len (zb_ (za_ 0) zj_)) zh_))))) (zi_ (z0_ zkn_)) zR_) (zd_ (zcw_ PassesOwn.never rfl (zdn_ (za_ 0)) (zap_ (i:=3) zfi_.nd rfl (by first | exact Or.inl rfl | exact Or.inr rfl)) (zi_ (zaw_ (PW.pt (zeZ_ (zfX_ (zdx_ (ze3_ zff_ B_isinstance (zb_ (za_ 3) (zb_ (znH_ "str" B_str) zj_))))) (zgp_ (zs_ (zhf_ hr.u60) (ze3_ zay_ B_len (zb_ (za_ 3) zj_)) zh_)))) (zi_ (z0_ zkn_)) zR_))) (zd_ (zaw_ (PW.pt (zb3_ (zs_ (za9_ hr.u60) (ze3_ zay_ B_len (zb_ (za_ 0) zj_)) zh_) (zcm_ (zs_ (za9_ hr.u60) (zbH_ sl_M (za3_ ix_M (za_ 0) zh_ (fun _ _=>rfl)) (po_M zh_) zdy_) (zbH_ sl_M (za3_ ix_M (za_ 0) zh_ (fun _ _=>rfl)) (po_M zh_) zdy_))))) (zi_ (z0_ zkn_)) zR_) (zi_ (z0_ (zo_ G_law_alike (hr.mono (j:=6) (by decide)) (zb_ (za_ 0) (zb_ (za_ 0) (zb_ (za_ 1) (zb_ (za_ 2) zj_)))))))))))
theorem zjk_ (G_law_alike:Gd P w K mg base CX0 6 "_law_alike" Qn3 (zQ_ K)) (B_isinstance:Gb mg "isinstance") (B_list:Gb mg "list") (B_len:Gb mg "len") (B_str:Gb mg "str") {f:Addr}{fd:FuncData}(F:Fun K "_law_two" "_law_two" zbf_ f fd) (len:∀ vs H Q E,zaB_ K vs H Q E→vs.length=3)
  (rd:∀ vs H Q E,zaB_ K vs H Q E→zdc_ K { nx:=fun _ H'=>Q .non H',rt:=Q } (start Qn13 vs) H):FnOk P w K mg base CX0 7 f fd Qn17 (zaB_ K):=by
 refine F.ok zfi_ len (fun cdv A outer s H vs Q E hr h=>⟨_,zh1_ G_law_alike B_isinstance B_list B_len B_str hr,rd vs H Q E h⟩)
theorem zbQ_:FnScope Qn2 Qn7 (defScope zaX_):=⟨rfl,rfl,rfl,by decide +kernel,rfl,by decide +kernel,by decide +kernel⟩
theorem zhB_  {cdv:Value}{A:Around}{outer:List Env}{s:Shared}{H:Hp}{E:XK}{f:Addr}(hr:Room 0 (A.deeper (envOfC "_law_pass" (defScope zaX_) s.heap.objs.size f cdv))) :
  (PSs (cxOf CX0 P w K mg base Qn2 "_law_pass" (defScope zaX_) f cdv A outer s H E).nox (defBody zaX_) (zcd_ K)) := 
 (zd_ (zB_ (i:=5) zbQ_.nd rfl (by first | exact Or.inl rfl | exact Or.inr rfl) (zbJ_ (l:=SG))) (zd_ (zB_ (i:=6) zbQ_.nd rfl (by first | exact Or.inl rfl | exact Or.inr rfl) (zaz_ zaG_ (zaz_ zaj_ (za_ 0) zh_) zh_)) (zd_ (zB_ (i:=6) zbQ_.nd rfl (by first | exact Or.inl rfl | exact Or.inr rfl) (zaz_ zaj_ (zaz_ zdY_ (za_ 6) (za_ 6)) zh_)) (zd_ (zB_ (i:=7) zbQ_.nd rfl (by first | exact Or.inl rfl | exact Or.inr rfl) (zaz_ zaG_ zh_ (zaz_ zaj_ (zaz_ zaG_ (za_ 2) (zaz_ zaj_ (zaz_ zc8_ (za_ 6) zh_) (za_ 3))) zh_))) (zd_ (zaw_ (zs_ zn0_ (zaz_ zaj_ (za_ 6) zh_) (za_ 4)) (zi_ (z0_ (zh9_ (zb_ (zbJ_ (l:=[100,101,97,108])) (zb_ (za_ 7) zj_))))) zR_) (zd_ (zaw_ (zs_ (za9_ hr.u60) (zaz_ zaj_ (zaz_ zc8_ (za_ 6) zh_) zh_) zh_) (zi_ (z0_ (zh9_ (zb_ (zbJ_ (l:=[112,105,99,107])) (zb_ (za_ 7) (zb_ (za3_ ix_M (za_ 5) (zaz_ zaj_ (zaz_ zc8_ (za_ 6) zh_) zh_) (fun _ _=>rfl)) zj_)))))) zR_) (zi_ (z0_ (zh9_ (zb_ (zbJ_ (l:=[112,105,99,107])) (zb_ (za_ 7) (zb_ (za3_ ix_M (za_ 1) (zaz_ zfn_ (za_ 7) zh_) (fun _ _=>rfl)) zj_))))))))))))
theorem zhl_  {f:Addr}{fd:FuncData}(F:Fun K "_law_pass" "_law_pass" zaX_ f fd) (len:∀ vs H Q E,zar_ K vs H Q E→vs.length=5)
  (rd:∀ vs H Q E,zar_ K vs H Q E→zcd_ K { nx:=fun _ H'=>Q .non H',rt:=Q } (start Qn2 vs) H):FnOk P w K mg base CX0 1 f fd Qn7 (zar_ K):=by
 refine F.ok zbQ_ len (fun cdv A outer s H vs Q E hr h=>⟨_,zhB_  hr,rd vs H Q E h⟩)
theorem zb5_:FnScope Qn0 ["_law_script"] (defScope zhH_):=⟨rfl,rfl,rfl,by decide +kernel,rfl,by decide +kernel,by decide +kernel⟩
theorem zot_ (G_law_cell_at:Gd P w K mg base CX0 1 "_law_cell_at" Qn12 (zn_ K)) (G_law_deck:Gd P w K mg base CX0 2 "_law_deck" Qn15 (zax_ K)) (G_law_pass:Gd P w K mg base CX0 1 "_law_pass" Qn7 (zar_ K)) (G_law_same_in_sense:Gd P w K mg base CX0 1 "_law_same_in_sense" ["_law_row", "_law_cells"] (zq_ K)) (G_parting_of:Gd P w K mg base CX0 4 "parting_of" ["row", "other"] (zY_ K)) (G_law_two:Gd P w K mg base CX0 7 "_law_two" Qn17 (zaB_ K)) (G_law_alike:Gd P w K mg base CX0 6 "_law_alike" Qn3 (zQ_ K)) (B_len:Gb mg "len") (B_list:Gb mg "list") {cdv:Value}{A:Around}{outer:List Env}{s:Shared}{H:Hp}{E:XK}{f:Addr}(hr:Room 7 (A.deeper (envOfC "law" (defScope zhH_) s.heap.objs.size f cdv))) :
  (PSs (cxOf CX0 P w K mg base Qn0 "law" (defScope zhH_) f cdv A outer s H E).nox (defBody zhH_) (znj_ K)) := 
 (zd_ (zB_ (i:=1) zb5_.nd rfl (by first | exact Or.inl rfl | exact Or.inr rfl) (zaz_ zaj_ (zo_ G_law_cell_at (hr.mono (j:=1) (by decide)) (zb_ (za_ 0) (zb_ zh_ zj_))) zh_)) (zd_ (zB_ (i:=2) zb5_.nd rfl (by first | exact Or.inl rfl | exact Or.inr rfl) (za3_ ix_M (zbD_ (zb_ zh_ (zb_ zh_ (zb_ zh_ (zb_ zh_ zj_))))) (zaz_ zaj_ (zo_ G_law_cell_at (hr.mono (j:=1) (by decide)) (zb_ (za_ 0) (zb_ zh_ zj_))) zh_) (fun _ _=>rfl))) (zd_ (zB_ (i:=3) zb5_.nd rfl (by first | exact Or.inl rfl | exact Or.inr rfl) (zaz_ zaj_ (zaz_ zc8_ (zo_ G_law_cell_at (hr.mono (j:=1) (by decide)) (zb_ (za_ 0) (zb_ zh_ zj_))) zh_) zh_)) (zd_ (zB_ (i:=4) zb5_.nd rfl (by first | exact Or.inl rfl | exact Or.inr rfl) (zo_ G_law_deck (hr.mono (j:=2) (by decide)) (zb_ (zo_ G_law_cell_at (hr.mono (j:=1) (by decide)) (zb_ (za_ 0) (zb_ zh_ zj_))) (zb_ (za_ 1) (zb_ (za_ 2) zj_))))) (zd_ (zB_ (i:=5) zb5_.nd rfl (by first | exact Or.inl rfl | exact Or.inr rfl) (za3_ ix_M (zaz_ zaG_ (za_ 4) (zbD_ (zb_ (zaz_ zdY_ (zbJ_ (l:=[32])) zh_) zj_))) zh_ (fun _ _=>rfl))) (zd_ (zB_ (i:=6) zb5_.nd rfl (by first | exact Or.inl rfl | exact Or.inr rfl) (zo_ G_law_cell_at (hr.mono (j:=1) (by decide)) (zb_ (za_ 0) (zb_ zh_ zj_)))) (zd_ (zB_ (i:=7) zb5_.nd rfl (by first | exact Or.inl rfl | exact Or.inr rfl) (za3_ ix_M (zbD_ (zb_ zh_ (zb_ zh_ (zb_ zh_ (zb_ zh_ zj_))))) (zaz_ zaj_ (za_ 6) zh_) (fun _ _=>rfl))) (zd_ (zB_ (i:=8) zb5_.nd rfl (by first | exact Or.inl rfl | exact Or.inr rfl) (zbD_ zj_)) (zd_ (zcw_ PassesOwn.never rfl (zdn_ (zbH_ sl_M (za_ 0) (po_M zh_) (po_M zh_))) (zap_ (i:=9) zb5_.nd rfl (by first | exact Or.inl rfl | exact Or.inr rfl)) (zi_ (zcp_ (zim_ PySem.F.plainAttrs_list PySem.F.slot_list_append PySem.F.type_list_append zbj_ (za_ 8) (zb_ (zo_ G_law_pass (hr.mono (j:=1) (by decide)) (zb_ (za_ 9) (zb_ (za_ 5) (zb_ (za_ 3) (zb_ (za_ 7) (zb_ (za3_ ix_M (zbD_ (zb_ zh_ (zb_ zh_ (zb_ zh_ zj_)))) (zaz_ zaj_ (zaz_ zc8_ (za_ 6) zh_) zh_) (fun _ _=>rfl)) zj_)))))) zj_))))) (zd_ (zB_ (i:=10) zb5_.nd rfl (by first | exact Or.inl rfl | exact Or.inr rfl) (zcA_ (za9_ hr.u60) (zaz_ zaj_ (zo_ G_law_cell_at (hr.mono (j:=1) (by decide)) (zb_ (za_ 0) (zb_ zh_ zj_))) zh_) zh_)) (zd_ (zB_ (i:=11) zb5_.nd rfl (by first | exact Or.inl rfl | exact Or.inr rfl) (zaz_ zaj_ (zaz_ zc8_ (zo_ G_law_cell_at (hr.mono (j:=1) (by decide)) (zb_ (za_ 0) (zb_ zh_ zj_))) zh_) (zaz_ zaG_ (ze3_ zay_ B_len (zb_ (za_ 8) zj_)) zh_))) (zd_ (zB_ (i:=12) zb5_.nd rfl (by first | exact Or.inl rfl | exact Or.inr rfl) (zaz_ zaG_ (zbH_ sl_M (za_ 8) (po_M (za_ 11)) zdy_) (zbH_ sl_M (za_ 8) zdy_ (po_M (za_ 11))))) (zd_ (zaw_ (zs_ (za9_ hr.u60) (zaz_ zaj_ (zo_ G_law_cell_at (hr.mono (j:=1) (by decide)) (zb_ (za_ 0) (zb_ zh_ zj_))) zh_) zh_) (zi_ (zB_ (i:=12) zb5_.nd rfl (by first | exact Or.inl rfl | exact Or.inr rfl) (zaz_ zaG_ (zn4_ (zbH_ sl_M (za_ 8) zdy_ (po_M (za_ 11))) (po_M (zn3_ zh_))) (zbH_ sl_M (za_ 8) (po_M (za_ 11)) zdy_)))) zR_) (zd_ (zaw_ (znk_ (za_ 10)) (zi_ (zB_ (i:=12) zb5_.nd rfl (by first | exact Or.inl rfl | exact Or.inr rfl) (zo_ G_law_same_in_sense (hr.mono (j:=1) (by decide)) (zb_ (za_ 8) (zb_ (zbH_ sl_M (za_ 0) (po_M zh_) (po_M zh_)) zj_))))) zR_) (zd_ (zB_ (i:=13) zb5_.nd rfl (by first | exact Or.inl rfl | exact Or.inr rfl) (zbD_ (zb_ (zk5_ "list" (zce_ rfl) B_list (zb_ (za_ 8) zj_)) (zb_ (zk5_ "list" (zce_ rfl) B_list (zb_ (za_ 12) zj_)) zj_)))) (zd_ (zB_ (i:=14) zb5_.nd rfl (by first | exact Or.inl rfl | exact Or.inr rfl) (zo_ G_parting_of (hr.mono (j:=4) (by decide)) (zb_ (za3_ ix_M (za_ 13) zh_ (fun _ _=>rfl)) (zb_ (za3_ ix_M (za_ 13) zh_ (fun _ _=>rfl)) zj_)))) (zd_ (zaw_ (PW.pt (zeZ_ (PW.pt (zb3_ (znk_ (za_ 10)) (zcm_ (zs_ zjA_ (za_ 14) zb0_)))) (zeZ_ (zs_ (zhf_ hr.u60) (za_ 13) (zbD_ (zb_ (za_ 8) (zb_ (za_ 12) zj_)))) (zgp_ (zfX_ (zdx_ (zo_ G_law_two (hr.mono (j:=7) (by decide)) (zb_ (za_ 14) (zb_ (za_ 8) (zb_ (za_ 12) zj_)))))))))) (zi_ (z0_ zkn_)) zR_) (zd_ (zaw_ (PW.pt (zb3_ (zs_ zdQ_ (za_ 14) zb0_) (zcm_ (zfX_ (zdx_ (zo_ G_law_alike (hr.mono (j:=6) (by decide)) (zb_ zb0_ (zb_ (za_ 4) (zb_ (za_ 8) (zb_ (za_ 12) zj_)))))))))) (zi_ (z0_ zkn_)) zR_) (zd_ (zB_ (i:=15) zb5_.nd rfl (by first | exact Or.inl rfl | exact Or.inr rfl) (zo_ G_parting_of (hr.mono (j:=4) (by decide)) (zb_ (za_ 12) (zb_ (za_ 8) zj_)))) (zi_ (z0_ (zk0_ (zcA_ (za9_ hr.u60) (zcA_ zdQ_ (za_ 15) zb0_) (zcA_ zdQ_ (za_ 14) zb0_)) (znG_ (zo_ G_law_two (hr.mono (j:=7) (by decide)) (zb_ (za_ 15) (zb_ (za_ 12) (zb_ (za_ 8) zj_)))))))))))))))))))))))))))
theorem zop_ (G_law_cell_at:Gd P w K mg base CX0 1 "_law_cell_at" Qn12 (zn_ K)) (G_law_deck:Gd P w K mg base CX0 2 "_law_deck" Qn15 (zax_ K)) (G_law_pass:Gd P w K mg base CX0 1 "_law_pass" Qn7 (zar_ K)) (G_law_same_in_sense:Gd P w K mg base CX0 1 "_law_same_in_sense" ["_law_row", "_law_cells"] (zq_ K)) (G_parting_of:Gd P w K mg base CX0 4 "parting_of" ["row", "other"] (zY_ K)) (G_law_two:Gd P w K mg base CX0 7 "_law_two" Qn17 (zaB_ K)) (G_law_alike:Gd P w K mg base CX0 6 "_law_alike" Qn3 (zQ_ K)) (B_len:Gb mg "len") (B_list:Gb mg "list") {f:Addr}{fd:FuncData}(F:Fun K "law" "law" zhH_ f fd) (len:∀ vs H Q E,zfI_ K vs H Q E→vs.length=1)
  (rd:∀ vs H Q E,zfI_ K vs H Q E→znj_ K { nx:=fun _ H'=>Q .non H',rt:=Q } (start Qn0 vs) H):FnOk P w K mg base CX0 8 f fd ["_law_script"] (zfI_ K):=by
 refine F.ok zb5_ len (fun cdv A outer s H vs Q E hr h=>⟨_,zot_ G_law_cell_at G_law_deck G_law_pass G_law_same_in_sense G_parting_of G_law_two G_law_alike B_len B_list hr,rd vs H Q E h⟩)
end
end K18
namespace K18
open PySem PySem.Spec PyProof.Rows L2
theorem zfJ_ {K:Fgg}{E:XK}(c:(Int×Int)):EvS K (zbx_ K) E [(Sl.fz tyInt c.1),(Sl.fz tyInt c.2),Sl.dead,Sl.dead,Sl.dead] (zbY_ c.1 c.2) (fun _:Unit=>[]) (fun _:Unit=>[]) (owL tyInt) :=
 (zaS_ (i:=2) rfl (za0_ zP_) (zcQ_ tyInt) fun found_1=>(at_ [(Sl.fz tyInt c.1),(Sl.fz tyInt c.2),(Sl.ow (owL tyInt) found_1),Sl.dead,Sl.dead] (zdj_ (i:=3) rfl zP_ (zx_ zbN_ (zx_ zam_ (zc_ 0 rfl) (zl_ 2147483647)) (zl_ 48271)) fun number_2=>(at_ [(Sl.fz tyInt c.1),(Sl.fz tyInt c.2),(Sl.ow (owL tyInt) found_1),(Sl.fz tyInt number_2),Sl.dead] (zbn_ (LS:=(fun s_7:(Int×(List Int))=>[(Sl.fz tyInt c.1),(Sl.fz tyInt c.2),(Sl.ow (owL tyInt) s_7.2),(Sl.fz tyInt s_7.1),Sl.dead])) (zb4_ (L':=[(Sl.fz tyInt c.1),(Sl.fz tyInt c.2),(Sl.ow (owL tyInt) found_1),(Sl.fz tyInt number_2),Sl.dead]) (S4 (.same .nil)) (zfV_ (LS:=(fun s_7:(Int×(List Int))=>[(Sl.fz tyInt c.1),(Sl.fz tyInt c.2),(Sl.ow (owL tyInt) s_7.2),(Sl.fz tyInt s_7.1),Sl.dead])) (s0:=(number_2,found_1)) (zgH_ (zf_ (zc_ 1 rfl))) (zaE_ 4) fun s_7 x_9=>at_ [(Sl.fz tyInt c.1),(Sl.fz tyInt c.2),(Sl.ow (owL tyInt) s_7.2),(Sl.fz tyInt s_7.1),(Sl.fz tyInt x_9)] (zdj_ (i:=3) rfl zP_ (zx_ zam_ (zx_ zbN_ (zx_ zbN_ (zx_ zei_ (zc_ 3 rfl) (zc_ 3 rfl)) (zx_ zei_ (zl_ 48271) (zc_ 3 rfl))) (zc_ 4 rfl)) (zl_ 2147483647)) fun number_10=>(at_ [(Sl.fz tyInt c.1),(Sl.fz tyInt c.2),(Sl.ow (owL tyInt) s_7.2),(Sl.fz tyInt number_10),(Sl.fz tyInt x_9)] (zcX_ (zcI_ (i:=2) rfl zP_ (zc_ 3 rfl) fun a_21=>(at_ [(Sl.fz tyInt c.1),(Sl.fz tyInt c.2),(Sl.ow (owL tyInt) (s_7.2++[a_21])),(Sl.fz tyInt number_10),(Sl.fz tyInt x_9)] (zm_ (S4 (.dead .nil)))))))))) fun s_7=>(at_ [(Sl.fz tyInt c.1),(Sl.fz tyInt c.2),(Sl.ow (owL tyInt) s_7.2),(Sl.fz tyInt s_7.1),Sl.dead] (zfC_ (i:=2) rfl)))))))
theorem zfE_ {K:Fgg}:RD_law_stream K:=zdt_ (K:=K) (N:=Qn9) (C:=(csCons tyInt (csLast tyInt))) (O:=(owL tyInt)) (t:=fun E=>zbx_ K) (ss:=fun c=>[(Sl.fz tyInt c.1),(Sl.fz tyInt c.2)]) (f:=fun c=>zbY_ c.1 c.2) 2 3 (ze_ zg_) rfl (zD_ zJ_) fun c E=>zfJ_ c
theorem zgY_ {K:Fgg}{E:XK}(c:(Int×(Int×Int))):EvS K (zcj_ K) E [(Sl.fz tyInt c.1),(Sl.fz tyInt c.2.1),(Sl.fz tyInt c.2.2),Sl.dead,Sl.dead,Sl.dead,Sl.dead,Sl.dead,Sl.dead,Sl.dead,Sl.dead] (zdi_ c.1 c.2.1 c.2.2) (fun _:Unit=>[]) (fun _:Unit=>[]) (owL tyStr) :=
 (zdj_ (i:=3) rfl zA_ (zaH_ SG) fun signs_1=>(at_ [(Sl.fz tyInt c.1),(Sl.fz tyInt c.2.1),(Sl.fz tyInt c.2.2),(Sl.fz tyStr signs_1),Sl.dead,Sl.dead,Sl.dead,Sl.dead,Sl.dead,Sl.dead,Sl.dead] (zaS_ (i:=4) rfl (za0_ zP_) (zbd_ (zk_ (zc_ 0 rfl) (zf_ (zx_ zei_ (zl_ 36) (zc_ 1 rfl))))) fun numbers_2=>zio_ (i:=4) rfl (at_ [(Sl.fz tyInt c.1),(Sl.fz tyInt c.2.1),(Sl.fz tyInt c.2.2),(Sl.fz tyStr signs_1),(Sl.fz (tyL tyInt) numbers_2),Sl.dead,Sl.dead,Sl.dead,Sl.dead,Sl.dead,Sl.dead] (zaS_ (i:=5) rfl (za0_ zA_) (zcQ_ tyStr) fun deck_here_8=>(at_ [(Sl.fz tyInt c.1),(Sl.fz tyInt c.2.1),(Sl.fz tyInt c.2.2),(Sl.fz tyStr signs_1),(Sl.fz (tyL tyInt) numbers_2),(Sl.ow (owL tyStr) deck_here_8),Sl.dead,Sl.dead,Sl.dead,Sl.dead,Sl.dead] (zbn_ (LS:=(fun s_9:(List (List Nat))=>[(Sl.fz tyInt c.1),(Sl.fz tyInt c.2.1),(Sl.fz tyInt c.2.2),(Sl.fz tyStr signs_1),(Sl.fz (tyL tyInt) numbers_2),(Sl.ow (owL tyStr) s_9),Sl.dead,Sl.dead,Sl.dead,Sl.dead,Sl.dead])) (zb4_ (L':=[(Sl.fz tyInt c.1),(Sl.fz tyInt c.2.1),(Sl.fz tyInt c.2.2),(Sl.fz tyStr signs_1),(Sl.fz (tyL tyInt) numbers_2),(Sl.ow (owL tyStr) deck_here_8),Sl.dead,Sl.dead,Sl.dead,Sl.dead,Sl.dead]) (S4 (S4 (.same (.same (.same .nil))))) (zfV_ (LS:=(fun s_9:(List (List Nat))=>[(Sl.fz tyInt c.1),(Sl.fz tyInt c.2.1),(Sl.fz tyInt c.2.2),(Sl.fz tyStr signs_1),(Sl.fz (tyL tyInt) numbers_2),(Sl.ow (owL tyStr) s_9),Sl.dead,Sl.dead,Sl.dead,Sl.dead,Sl.dead])) (s0:=deck_here_8) (zgH_ (zf_ (zc_ 1 rfl))) (zaE_ 6) fun s_9 x_11=>at_ [(Sl.fz tyInt c.1),(Sl.fz tyInt c.2.1),(Sl.fz tyInt c.2.2),(Sl.fz tyStr signs_1),(Sl.fz (tyL tyInt) numbers_2),(Sl.ow (owL tyStr) s_9),(Sl.fz tyInt x_11),Sl.dead,Sl.dead,Sl.dead,Sl.dead] (zdj_ (i:=7) rfl zA_ (zaH_ []) fun text_12=>(at_ [(Sl.fz tyInt c.1),(Sl.fz tyInt c.2.1),(Sl.fz tyInt c.2.2),(Sl.fz tyStr signs_1),(Sl.fz (tyL tyInt) numbers_2),(Sl.ow (owL tyStr) s_9),(Sl.fz tyInt x_11),(Sl.fz tyStr text_12),Sl.dead,Sl.dead,Sl.dead] (zbn_ (LS:=(fun s_13:(List Nat)=>[(Sl.fz tyInt c.1),(Sl.fz tyInt c.2.1),(Sl.fz tyInt c.2.2),(Sl.fz tyStr signs_1),(Sl.fz (tyL tyInt) numbers_2),(Sl.ow (owL tyStr) s_9),(Sl.fz tyInt x_11),(Sl.fz tyStr s_13),Sl.dead,Sl.dead,Sl.dead])) (zb4_ (L':=[(Sl.fz tyInt c.1),(Sl.fz tyInt c.2.1),(Sl.fz tyInt c.2.2),(Sl.fz tyStr signs_1),(Sl.fz (tyL tyInt) numbers_2),(Sl.ow (owL tyStr) s_9),(Sl.fz tyInt x_11),(Sl.fz tyStr text_12),Sl.dead,Sl.dead,Sl.dead]) (S4 (S4 (.same (.same (.same .nil))))) (zfV_ (LS:=(fun s_13:(List Nat)=>[(Sl.fz tyInt c.1),(Sl.fz tyInt c.2.1),(Sl.fz tyInt c.2.2),(Sl.fz tyStr signs_1),(Sl.fz (tyL tyInt) numbers_2),(Sl.ow (owL tyStr) s_9),(Sl.fz tyInt x_11),(Sl.fz tyStr s_13),Sl.dead,Sl.dead,Sl.dead])) (s0:=text_12) (zgH_ (zf_ (zl_ 36))) (zaE_ 8) fun s_13 x_15=>at_ [(Sl.fz tyInt c.1),(Sl.fz tyInt c.2.1),(Sl.fz tyInt c.2.2),(Sl.fz tyStr signs_1),(Sl.fz (tyL tyInt) numbers_2),(Sl.ow (owL tyStr) s_9),(Sl.fz tyInt x_11),(Sl.fz tyStr s_13),(Sl.fz tyInt x_15),Sl.dead,Sl.dead] (zdj_ (i:=9) rfl zP_ (zx_ zam_ (zx_ zbX_ (zx_ zcD_ (zc_ 4 rfl) (zx_ zbN_ (zx_ zei_ (zl_ 36) (zc_ 6 rfl)) (zc_ 8 rfl))) (zl_ 7)) (zc_ 2 rfl)) fun step_16=>(at_ [(Sl.fz tyInt c.1),(Sl.fz tyInt c.2.1),(Sl.fz tyInt c.2.2),(Sl.fz tyStr signs_1),(Sl.fz (tyL tyInt) numbers_2),(Sl.ow (owL tyStr) s_9),(Sl.fz tyInt x_11),(Sl.fz tyStr s_13),(Sl.fz tyInt x_15),(Sl.fz tyInt step_16),Sl.dead] (zcX_ (zdj_ (i:=7) rfl zA_ (zx_ zi2_ (zc_ 7 rfl) (zx_ zfb_ (zc_ 3 rfl) (zx_ zam_ (zx_ zbN_ (zc_ 0 rfl) (zc_ 9 rfl)) (zl_ 37)))) fun text_27=>(at_ [(Sl.fz tyInt c.1),(Sl.fz tyInt c.2.1),(Sl.fz tyInt c.2.2),(Sl.fz tyStr signs_1),(Sl.fz (tyL tyInt) numbers_2),(Sl.ow (owL tyStr) s_9),(Sl.fz tyInt x_11),(Sl.fz tyStr text_27),(Sl.fz tyInt x_15),(Sl.fz tyInt step_16),Sl.dead] (zm_ (S4 (S4 (.dead (.dead (.same .nil))))))))))))) fun s_13=>(at_ [(Sl.fz tyInt c.1),(Sl.fz tyInt c.2.1),(Sl.fz tyInt c.2.2),(Sl.fz tyStr signs_1),(Sl.fz (tyL tyInt) numbers_2),(Sl.ow (owL tyStr) s_9),(Sl.fz tyInt x_11),(Sl.fz tyStr s_13),Sl.dead,Sl.dead,Sl.dead] (zaS_ (i:=10) rfl (za0_ zA_) (zi3_ zlV_ (EvO.fr (zeB_ zg_ zbG_ (zf_ (zx_ zfb_ (zc_ 3 rfl) (zx_ zam_ (zx_ zbX_ (zc_ 0 rfl) (zl_ 37)) (zl_ 37)))))) (zl_ 4)) fun mark_37=>(at_ [(Sl.fz tyInt c.1),(Sl.fz tyInt c.2.1),(Sl.fz tyInt c.2.2),(Sl.fz tyStr signs_1),(Sl.fz (tyL tyInt) numbers_2),(Sl.ow (owL tyStr) s_9),(Sl.fz tyInt x_11),(Sl.fz tyStr s_13),Sl.dead,Sl.dead,(Sl.ow (owL tyStr) mark_37)] (zmn_ (i:=10) rfl zA_ (zx_ zfb_ (zc_ 3 rfl) (zx_ zam_ (zx_ zbN_ (zc_ 0 rfl) (zc_ 6 rfl)) (zl_ 37))) (zx_ zam_ (zc_ 0 rfl) (zl_ 4)) fun mark_63=>(at_ [(Sl.fz tyInt c.1),(Sl.fz tyInt c.2.1),(Sl.fz tyInt c.2.2),(Sl.fz tyStr signs_1),(Sl.fz (tyL tyInt) numbers_2),(Sl.ow (owL tyStr) s_9),(Sl.fz tyInt x_11),(Sl.fz tyStr s_13),Sl.dead,Sl.dead,(Sl.ow (owL tyStr) mark_63)] (zcX_ (zcI_ (i:=5) rfl zA_ (zx_ zi2_ (zc_ 7 rfl) (zog_ zkU_ (zaH_ []) (zf_ (zbc_ 10 rfl)))) fun a_68=>(at_ [(Sl.fz tyInt c.1),(Sl.fz tyInt c.2.1),(Sl.fz tyInt c.2.2),(Sl.fz tyStr signs_1),(Sl.fz (tyL tyInt) numbers_2),(Sl.ow (owL tyStr) (s_9++[a_68])),(Sl.fz tyInt x_11),(Sl.fz tyStr s_13),Sl.dead,Sl.dead,(Sl.ow (owL tyStr) mark_63)] (zm_ (S4 (.same (.same (.dead (.dead (.same (.same (.dead .nil)))))))))))))))))))))) fun s_9=>(at_ [(Sl.fz tyInt c.1),(Sl.fz tyInt c.2.1),(Sl.fz tyInt c.2.2),(Sl.fz tyStr signs_1),(Sl.fz (tyL tyInt) numbers_2),(Sl.ow (owL tyStr) s_9),Sl.dead,Sl.dead,Sl.dead,Sl.dead,Sl.dead] (zbn_ (LS:=(fun s_78:(List (List Nat))=>[(Sl.fz tyInt c.1),(Sl.fz tyInt c.2.1),(Sl.fz tyInt c.2.2),(Sl.fz tyStr signs_1),(Sl.fz (tyL tyInt) numbers_2),(Sl.ow (owL tyStr) s_78),Sl.dead,Sl.dead,Sl.dead,Sl.dead,Sl.dead])) (s_if (zdD_ (zI_ (zx_ zjZ_ (zc_ 1 rfl) (zl_ 2))) (zI_ (zx_ ze4_ (zx_ zam_ (zc_ 0 rfl) (zl_ 5)) (zl_ 1)))) (zcX_ (zmn_ (i:=5) rfl zA_ (zx_ zcD_ (zbc_ 5 rfl) (zl_ 0)) (zl_ 1) fun deck_here_85=>(at_ [(Sl.fz tyInt c.1),(Sl.fz tyInt c.2.1),(Sl.fz tyInt c.2.2),(Sl.fz tyStr signs_1),(Sl.fz (tyL tyInt) numbers_2),(Sl.ow (owL tyStr) deck_here_85),Sl.dead,Sl.dead,Sl.dead,Sl.dead,Sl.dead] (zm_ (S4 (S4 (.same (.same (.same .nil))))))))) (zm_ (S4 (S4 (.same (.same (.same .nil))))))) fun s_78=>(at_ [(Sl.fz tyInt c.1),(Sl.fz tyInt c.2.1),(Sl.fz tyInt c.2.2),(Sl.fz tyStr signs_1),(Sl.fz (tyL tyInt) numbers_2),(Sl.ow (owL tyStr) s_78),Sl.dead,Sl.dead,Sl.dead,Sl.dead,Sl.dead] (zfC_ (i:=5) rfl)))))))))))
theorem zg6_ {K:Fgg}:RD_law_deck K:=zdt_ (K:=K) (N:=Qn1) (C:=(csCons tyInt (csCons tyInt (csLast tyInt)))) (O:=(owL tyStr)) (t:=fun E=>zcj_ K) (ss:=fun c=>[(Sl.fz tyInt c.1),(Sl.fz tyInt c.2.1),(Sl.fz tyInt c.2.2)]) (f:=fun c=>zdi_ c.1 c.2.1 c.2.2) 3 8 (ze_ (ze_ zg_)) rfl (zD_ (zD_ zJ_)) fun c E=>zgY_ c
theorem ze1_ {K:Fgg}{E:XK}(c:((List Int)×Int)):EvS K (zbb_ K) E [(Sl.fz (tySc K) c.1),(Sl.fz tyInt c.2)] (zbC_ c.1 c.2) (fun _:Unit=>[]) (fun _:Unit=>[]) (owF tyInt) :=
 (zbn_ (LS:=(fun _:Unit=>[(Sl.fz (tySc K) c.1),(Sl.fz tyInt c.2)])) (s_if (zI_ (zx_ zfo_ (zc_ 1 rfl) (zgv_ zlt_ (zf_ (zc_ 0 rfl))))) (zdr_ (zbk_ zP_) (EvF.ow (zx_ zmJ_ (zc_ 0 rfl) (zc_ 1 rfl)))) (zm_ (.same (.same .nil)))) fun _=>(at_ [(Sl.fz (tySc K) c.1),(Sl.fz tyInt c.2)] (zdr_ (zbk_ zP_) (EvF.ow (zl_ 0)))))
theorem ze2_ {K:Fgg}:RD_law_cell_at K:=zdt_ (K:=K) (N:=Qn12) (C:=(csCons (tySc K) (csLast tyInt))) (O:=(owF tyInt)) (t:=fun E=>zbb_ K) (ss:=fun c=>[(Sl.fz (tySc K) c.1),(Sl.fz tyInt c.2)]) (f:=fun c=>zbC_ c.1 c.2) 2 0 (ze_ zg_) rfl (zD_ zJ_) fun c E=>ze1_ c
theorem zep_ {K:Fgg}{E:XK}(c:(List Pas)):EvS K (zaM_ K) E [(Sl.fz (tyL tyPass) c),Sl.dead,Sl.dead] (zbl_ c) (fun _:Unit=>[]) (fun _:Unit=>[]) (owF (tyOpt (tyD kInt tyStr))) :=
 (zaS_ (i:=1) rfl (zjv_ zA_) (zmo_ kInt tyStr) fun signs_1=>(at_ [(Sl.fz (tyL tyPass) c),(Sl.ow (owD kInt tyStr) signs_1),Sl.dead] (zbn_ (LS:=(fun s_2:Qq1=>[(Sl.fz (tyL tyPass) c),(Sl.ow (owD kInt tyStr) s_2),Sl.dead])) (zb4_ (L':=[(Sl.fz (tyL tyPass) c),(Sl.ow (owD kInt tyStr) signs_1),Sl.dead]) (.same (.same (.same .nil))) (zfV_ (LS:=(fun s_2:Qq1=>[(Sl.fz (tyL tyPass) c),(Sl.ow (owD kInt tyStr) s_2),Sl.dead])) (s0:=signs_1) (ei_l (zc_ 0 rfl)) (zaE_ 2) fun s_2 x_3=>at_ [(Sl.fz (tyL tyPass) c),(Sl.ow (owD kInt tyStr) s_2),(Sl.fz tyPass x_3)] (zcX_ (zbn_ (LS:=(fun s_8:Qq1=>[(Sl.fz (tyL tyPass) c),(Sl.ow (owD kInt tyStr) s_8),(Sl.fz tyPass x_3)])) (s_if (zI_ (zx_ zdA_ (zb9_ (zc_ 2 rfl)) (zaH_ [112,105,99,107]))) (zoL_ (i:=1) rfl zA_ zP_ (zcf_ (zc_ 2 rfl)) (zeW_ (zc_ 2 rfl)) zoD_ (fun q_11=>atF [(Sl.fz (tyL tyPass) c),(Sl.ow (owD kInt tyStr) q_11.2),(Sl.fz tyPass x_3)] (zeW_ (zc_ 2 rfl))) (fun q_11=>at_ [(Sl.fz (tyL tyPass) c),(Sl.ow (owD kInt tyStr) q_11.2),(Sl.fz tyPass x_3)] (zdo_ (EvF.ow zdX_))) (fun q_11=>at_ [(Sl.fz (tyL tyPass) c),(Sl.ow (owD kInt tyStr) q_11.2),(Sl.fz tyPass x_3)] (zm_ (.same (.same (.same .nil)))))) (zm_ (.same (.same (.same .nil))))) fun s_8=>(at_ [(Sl.fz (tyL tyPass) c),(Sl.ow (owD kInt tyStr) s_8),(Sl.fz tyPass x_3)] (zm_ (.same (.same (.dead .nil))))))))) fun s_2=>(at_ [(Sl.fz (tyL tyPass) c),(Sl.ow (owD kInt tyStr) s_2),Sl.dead] (zio_ (i:=1) rfl (at_ [(Sl.fz (tyL tyPass) c),(Sl.fz (tyD kInt tyStr) s_2),Sl.dead] (zdo_ (EvF.ow (zcT_ (fun _ _ _=>zmm_) (zc_ 1 rfl))))))))))
theorem zey_ {K:Fgg}:RD_picked_signs K:=zdt_ (K:=K) (N:=["row", "signs", "step"]) (C:=(csLast (tyL tyPass))) (O:=(owF (tyOpt (tyD kInt tyStr)))) (t:=fun E=>zaM_ K) (ss:=fun c=>[(Sl.fz (tyL tyPass) c)]) (f:=fun c=>zbl_ c) 1 2 zg_ rfl zJ_ fun c E=>zep_ c
theorem zhg_ {K:Fgg}{E:XK}(c:(List Pas)):EvS K (zcb_ K) E [(Sl.fz (tyL tyPass) c),Sl.dead,Sl.dead,Sl.dead] (zdf_ c) (fun _:Unit=>[]) (fun _:Unit=>[]) (owF (tyOpt Qq0)) :=
 (zfj_ (i:=1) rfl (zp_ (zf_ (zc_ 0 rfl))) fun signs_2=>(at_ [(Sl.fz (tyL tyPass) c),(Sl.fz (tyOpt (tyD kInt tyStr)) signs_2),Sl.dead,Sl.dead] (zbn_ (LS:=(fun _:Unit=>[(Sl.fz (tyL tyPass) c),(Sl.fz (tyOpt (tyD kInt tyStr)) signs_2),Sl.dead,Sl.dead])) (s_if (zI_ (zx_ zcg_ (zc_ 1 rfl) zdC_)) (zdo_ (EvF.ow zdX_)) (zm_ (S4 .nil))) fun _=>(at_ [(Sl.fz (tyL tyPass) c),(Sl.fz (tyOpt (tyD kInt tyStr)) signs_2),Sl.dead,Sl.dead] (zfD_ (T:=(tyD kInt tyStr)) (i:=1) rfl fun signs_9=>at_ [(Sl.fz (tyL tyPass) c),(Sl.fz (tyD kInt tyStr) signs_9),Sl.dead,Sl.dead] (zaS_ (i:=2) rfl (za0_ zP_) (zcQ_ tyInt) fun columns_10=>(at_ [(Sl.fz (tyL tyPass) c),(Sl.fz (tyD kInt tyStr) signs_9),(Sl.ow (owL tyInt) columns_10),Sl.dead] (zbn_ (LS:=(fun s_11:(List Int)=>[(Sl.fz (tyL tyPass) c),(Sl.fz (tyD kInt tyStr) signs_9),(Sl.ow (owL tyInt) s_11),Sl.dead])) (zb4_ (L':=[(Sl.fz (tyL tyPass) c),(Sl.fz (tyD kInt tyStr) signs_9),(Sl.ow (owL tyInt) columns_10),Sl.dead]) (S4 .nil) (zfV_ (LS:=(fun s_11:(List Int)=>[(Sl.fz (tyL tyPass) c),(Sl.fz (tyD kInt tyStr) signs_9),(Sl.ow (owL tyInt) s_11),Sl.dead])) (s0:=columns_10) (zoo_ (zf_ (zc_ 0 rfl))) (zaE_ 3) fun s_11 x_13=>at_ [(Sl.fz (tyL tyPass) c),(Sl.fz (tyD kInt tyStr) signs_9),(Sl.ow (owL tyInt) s_11),(Sl.fz tyPass x_13)] (zcX_ (zbn_ (LS:=(fun s_26:(List Int)=>[(Sl.fz (tyL tyPass) c),(Sl.fz (tyD kInt tyStr) signs_9),(Sl.ow (owL tyInt) s_26),(Sl.fz tyPass x_13)])) (s_if (zdD_ (zI_ (zx_ zdA_ (zb9_ (zc_ 3 rfl)) (zaH_ [100,101,97,108]))) (zdD_ (zI_ (zmz_ true (zcf_ (zc_ 3 rfl)) (zc_ 1 rfl))) (zI_ (zx_ (zkH_ zkM_) (zcf_ (zc_ 3 rfl)) (zbc_ 2 rfl))))) (zcX_ (zcI_ (i:=2) rfl zP_ (zcf_ (zc_ 3 rfl)) fun a_28=>(at_ [(Sl.fz (tyL tyPass) c),(Sl.fz (tyD kInt tyStr) signs_9),(Sl.ow (owL tyInt) (s_11++[a_28])),(Sl.fz tyPass x_13)] (zm_ (S4 .nil))))) (zm_ (S4 .nil))) fun s_26=>(at_ [(Sl.fz (tyL tyPass) c),(Sl.fz (tyD kInt tyStr) signs_9),(Sl.ow (owL tyInt) s_26),(Sl.fz tyPass x_13)] (zm_ (.same (.same (.same (.dead .nil)))))))))) fun s_11=>(at_ [(Sl.fz (tyL tyPass) c),(Sl.fz (tyD kInt tyStr) signs_9),(Sl.ow (owL tyInt) s_11),Sl.dead] (zio_ (i:=2) rfl (at_ [(Sl.fz (tyL tyPass) c),(Sl.fz (tyD kInt tyStr) signs_9),(Sl.fz (tyL tyInt) s_11),Sl.dead] (zdo_ (EvF.ow (zcT_ (fun _ _ _=>zn6_) (zoc_ (ze_ zg_) (zk_ (zc_ 1 rfl) (zf_ (zc_ 2 rfl))))))))))))))))))
theorem zhb_ {K:Fgg}:RD_sense_of K:=zdt_ (K:=K) (N:=["row", "signs", "columns", "step"]) (C:=(csLast (tyL tyPass))) (O:=(owF (tyOpt Qq0))) (t:=fun E=>zcb_ K) (ss:=fun c=>[(Sl.fz (tyL tyPass) c)]) (f:=fun c=>zdf_ c) 1 3 zg_ rfl zJ_ fun c E=>zhg_ c
theorem zf7_ {K:Fgg}{E:XK}(c:(Qq1×(List Nat))):EvS K (zbL_ K) E [(Sl.fz (tyD kInt tyStr) c.1),(Sl.fz tyStr c.2),Sl.dead] (zct_ c.1 c.2) (fun _:Unit=>[]) (fun _:Unit=>[]) (owF tyStr) :=
 (zaS_ (i:=2) rfl (za0_ zA_) (zic_ (zkW_ (zk_ (zl_ 1) (zf_ (zx_ zbN_ (zl_ 36) (zl_ 1))))) (zaE_ 0) (fun _=>dead1) (fun x_7=>zks_) (fun x_7=>(zlw_ (zc_ 1 rfl) (zc_ 0 rfl) (zaH_ [32])))) fun body_1=>zio_ (i:=2) rfl (at_ [(Sl.fz (tyD kInt tyStr) c.1),(Sl.fz tyStr c.2),(Sl.fz (tyL tyStr) body_1)] (zdr_ (zbk_ zA_) (EvF.ow (zx_ zi2_ (zog_ zkU_ (zaH_ []) (zf_ (zc_ 2 rfl))) (zc_ 1 rfl))))))
theorem zgc_ {K:Fgg}:RD_card_with K:=zdt_ (K:=K) (N:=["signs", "mark", "body"]) (C:=(csCons (tyD kInt tyStr) (csLast tyStr))) (O:=(owF tyStr)) (t:=fun E=>zbL_ K) (ss:=fun c=>[(Sl.fz (tyD kInt tyStr) c.1),(Sl.fz tyStr c.2)]) (f:=fun c=>zct_ c.1 c.2) 2 1 (ze_ zg_) rfl (zD_ zJ_) fun c E=>zf7_ c
theorem zeu_ {K:Fgg}{E:XK}(c:(Qq1×Qq1)):EvS K (zaY_ K) E [(Sl.fz (tyD kInt tyStr) c.1),(Sl.fz (tyD kInt tyStr) c.2),Sl.dead,Sl.dead] (zbr_ c.1 c.2) (fun _:Unit=>[]) (fun _:Unit=>[]) (owF (tyOpt tyStr)) :=
 (zbn_ (LS:=(fun _:Unit=>[(Sl.fz (tyD kInt tyStr) c.1),(Sl.fz (tyD kInt tyStr) c.2),Sl.dead,Sl.dead])) (zb4_ (L':=[(Sl.fz (tyD kInt tyStr) c.1),(Sl.fz (tyD kInt tyStr) c.2),Sl.dead,Sl.dead]) (S4 .nil) (zfV_ (LS:=(fun _:Unit=>[(Sl.fz (tyD kInt tyStr) c.1),(Sl.fz (tyD kInt tyStr) c.2),Sl.dead,Sl.dead])) (s0:=()) (ei_l (EvO.fr (ze7_ (ziw_ znL_ zn5_ zoh_) (zf_ (zc_ 0 rfl))))) (zaE_ 2) fun _ x_3=>at_ [(Sl.fz (tyD kInt tyStr) c.1),(Sl.fz (tyD kInt tyStr) c.2),(Sl.fz tyInt x_3),Sl.dead] (s_if (zI_ (zx_ znc_ (zlc_ (fun _ _ _=>zmT_) (zc_ 1 rfl) (zc_ 2 rfl)) (zkV_ (zc_ 0 rfl) (zc_ 2 rfl)))) (zaS_ (i:=3) rfl (zjv_ zA_) (ze7_ zi9_ (zf_ (zc_ 1 rfl))) fun seen_11=>(at_ [(Sl.fz (tyD kInt tyStr) c.1),(Sl.fz (tyD kInt tyStr) c.2),(Sl.fz tyInt x_3),(Sl.ow (owD kInt tyStr) seen_11)] (zl4_ (i:=3) rfl zA_ zP_ (zc_ 2 rfl) (ev_if (zI_ (zx_ zdA_ (zkV_ (zc_ 0 rfl) (zc_ 2 rfl)) (zaH_ [48]))) (zaH_ [49]) (zaH_ [48])) fun m_15=>(at_ [(Sl.fz (tyD kInt tyStr) c.1),(Sl.fz (tyD kInt tyStr) c.2),(Sl.fz tyInt x_3),(Sl.ow (owD kInt tyStr) m_15)] (zdr_ (zbk_ (zgD_ zA_)) (EvF.ow (zcT_ (fun _ _ _=>zmT_) (zp_ (zk_ (ziW_ 3 rfl) (zf_ (zaH_ [48,48,48,49]))))))))))) (zm_ (.same (.same (.dead (.same .nil)))))))) fun _=>(at_ [(Sl.fz (tyD kInt tyStr) c.1),(Sl.fz (tyD kInt tyStr) c.2),Sl.dead,Sl.dead] (zdr_ (zbk_ (zgD_ zA_)) (EvF.ow zdX_))))
theorem zeo_ {K:Fgg}:RD_stopped_card K:=zdt_ (K:=K) (N:=Qn20) (C:=(csCons (tyD kInt tyStr) (csLast (tyD kInt tyStr)))) (O:=(owF (tyOpt tyStr))) (t:=fun E=>zaY_ K) (ss:=fun c=>[(Sl.fz (tyD kInt tyStr) c.1),(Sl.fz (tyD kInt tyStr) c.2)]) (f:=fun c=>zbr_ c.1 c.2) 2 2 (ze_ zg_) rfl (zD_ zJ_) fun c E=>zeu_ c
theorem zc0_ {K:Fgg}{E:XK}(c:(Qq1×Qq1)):EvS K (z8_ K) E [(Sl.fz (tyD kInt tyStr) c.1),(Sl.fz (tyD kInt tyStr) c.2),Sl.dead] (zZ_ c.1 c.2) (fun _:Unit=>[]) (fun _:Unit=>[]) (owF (tyOpt (tyL tyStr))) :=
 (zdj_ (i:=2) rfl (zgD_ zA_) (zp_ (zk_ (zc_ 0 rfl) (zf_ (zc_ 1 rfl)))) fun card_2=>(at_ [(Sl.fz (tyD kInt tyStr) c.1),(Sl.fz (tyD kInt tyStr) c.2),(Sl.fz (tyOpt tyStr) card_2)] (zbn_ (LS:=(fun s_9:(Option (List Nat))=>[(Sl.fz (tyD kInt tyStr) c.1),(Sl.fz (tyD kInt tyStr) c.2),(Sl.fz (tyOpt tyStr) s_9)])) (s_if (zI_ (zx_ zcg_ (zc_ 2 rfl) zdC_)) (zcX_ (zdj_ (i:=2) rfl (zgD_ zA_) (zp_ (zk_ (zc_ 1 rfl) (zf_ (zc_ 0 rfl)))) fun card_11=>(at_ [(Sl.fz (tyD kInt tyStr) c.1),(Sl.fz (tyD kInt tyStr) c.2),(Sl.fz (tyOpt tyStr) card_11)] (zm_ (.same (.same (.same .nil))))))) (zm_ (.same (.same (.same .nil))))) fun s_9=>(at_ [(Sl.fz (tyD kInt tyStr) c.1),(Sl.fz (tyD kInt tyStr) c.2),(Sl.fz (tyOpt tyStr) s_9)] (zmt_ (zI_ (zx_ zcg_ (zc_ 2 rfl) zdC_)) (zdo_ (EvF.ow zdX_)) (zfD_ (T:=tyStr) (i:=2) rfl fun card_19=>at_ [(Sl.fz (tyD kInt tyStr) c.1),(Sl.fz (tyD kInt tyStr) c.2),(Sl.fz tyStr card_19)] (zdo_ (EvF.ow (zcT_ (fun _ _ _=>nn_l) (EvO.fr (zeB_ zg_ zbG_ (zf_ (zc_ 2 rfl)))))))))))))
theorem zcY_ {K:Fgg}:RD_parting_of_picks K:=zdt_ (K:=K) (N:=["signs", "others", "card"]) (C:=(csCons (tyD kInt tyStr) (csLast (tyD kInt tyStr)))) (O:=(owF (tyOpt (tyL tyStr)))) (t:=fun E=>z8_ K) (ss:=fun c=>[(Sl.fz (tyD kInt tyStr) c.1),(Sl.fz (tyD kInt tyStr) c.2)]) (f:=fun c=>zZ_ c.1 c.2) 2 1 (ze_ zg_) rfl (zD_ zJ_) fun c E=>zc0_ c
theorem zeU_ {K:Fgg}{E:XK}(c:((List Int)×(List Int))):EvS K (za7_ K) E [(Sl.fz (tyL tyInt) c.1),(Sl.fz (tyL tyInt) c.2)] (zbB_ c.1 c.2) (fun _:Unit=>[]) (fun _:Unit=>[]) (owF tyBl) :=
 (zdr_ (zbk_ zcP_) (EvF.ow (zx_ (zlz_ (zkE_ zir_)) (EvO.fr (zhn_ (zc_ 0 rfl) zkQ_ (zhD_ (zgv_ zcB_ (zf_ (zc_ 1 rfl)))))) (zc_ 1 rfl))))
theorem zeV_ {K:Fgg}:RD_begins_with K:=zdt_ (K:=K) (N:=Qn14) (C:=(csCons (tyL tyInt) (csLast (tyL tyInt)))) (O:=(owF tyBl)) (t:=fun E=>za7_ K) (ss:=fun c=>[(Sl.fz (tyL tyInt) c.1),(Sl.fz (tyL tyInt) c.2)]) (f:=fun c=>zbB_ c.1 c.2) 2 0 (ze_ zg_) rfl (zD_ zJ_) fun c E=>zeU_ c
theorem zef_ {K:Fgg}{E:XK}(c:((List Int)×(List Int))):EvS K (zaA_ K) E [(Sl.fz (tyL tyInt) c.1),(Sl.fz (tyL tyInt) c.2),Sl.dead] (za4_ c.1 c.2) (fun _:Unit=>[]) (fun _:Unit=>[]) (owF tyInt) :=
 (zdj_ (i:=2) rfl zP_ (zl_ 0) fun length_1=>(at_ [(Sl.fz (tyL tyInt) c.1),(Sl.fz (tyL tyInt) c.2),(Sl.fz tyInt length_1)] (zbn_ (LS:=(fun s_2:Int=>[(Sl.fz (tyL tyInt) c.1),(Sl.fz (tyL tyInt) c.2),(Sl.fz tyInt s_2)])) (zb4_ (L':=[(Sl.fz (tyL tyInt) c.1),(Sl.fz (tyL tyInt) c.2),(Sl.fz tyInt length_1)]) (.same (.same (.same .nil))) (zkX_ (LS:=(fun s_2:Int=>[(Sl.fz (tyL tyInt) c.1),(Sl.fz (tyL tyInt) c.2),(Sl.fz tyInt s_2)])) (s0:=length_1) fuelW (fun s_2=>(zdD_ (zI_ (zx_ zfo_ (zc_ 2 rfl) (zgv_ znQ_ (zk_ (zgv_ zcB_ (zf_ (zc_ 0 rfl))) (zf_ (zgv_ zcB_ (zf_ (zc_ 1 rfl)))))))) (zI_ (zx_ ze4_ (zx_ zcD_ (zc_ 0 rfl) (zc_ 2 rfl)) (zx_ zcD_ (zc_ 1 rfl) (zc_ 2 rfl)))))) fun s_2=>at_ [(Sl.fz (tyL tyInt) c.1),(Sl.fz (tyL tyInt) c.2),(Sl.fz tyInt s_2)] (zcX_ (zdj_ (i:=2) rfl zP_ (zx_ zbN_ (zc_ 2 rfl) (zl_ 1)) fun length_17=>(at_ [(Sl.fz (tyL tyInt) c.1),(Sl.fz (tyL tyInt) c.2),(Sl.fz tyInt length_17)] (zm_ (.same (.same (.same .nil))))))))) fun s_2=>(at_ [(Sl.fz (tyL tyInt) c.1),(Sl.fz (tyL tyInt) c.2),(Sl.fz tyInt s_2)] (zdr_ (zbk_ zP_) (EvF.ow (zc_ 2 rfl)))))))
theorem zd4_ {K:Fgg}:RD_shared_length K:=zdt_ (K:=K) (N:=["one", "other", "length"]) (C:=(csCons (tyL tyInt) (csLast (tyL tyInt)))) (O:=(owF tyInt)) (t:=fun E=>zaA_ K) (ss:=fun c=>[(Sl.fz (tyL tyInt) c.1),(Sl.fz (tyL tyInt) c.2)]) (f:=fun c=>za4_ c.1 c.2) 2 1 (ze_ zg_) rfl (zD_ zJ_) fun c E=>zef_ c
theorem zet_ {K:Fgg}{E:XK}(c:(Qq1×((List Int)×(List Int)))):EvS K (zaV_ K) E [(Sl.fz (tyD kInt tyStr) c.1),(Sl.fz (tyL tyInt) c.2.1),(Sl.fz (tyL tyInt) c.2.2),Sl.dead,Sl.dead,Sl.dead,Sl.dead] (zbi_ c.1 c.2.1 c.2.2) (fun _:Unit=>[]) (fun _:Unit=>[]) (owL tyStr) :=
 (zdj_ (i:=3) rfl zP_ (zp_ (zk_ (zc_ 1 rfl) (zf_ (zc_ 2 rfl)))) fun shared_1=>(at_ [(Sl.fz (tyD kInt tyStr) c.1),(Sl.fz (tyL tyInt) c.2.1),(Sl.fz (tyL tyInt) c.2.2),(Sl.fz tyInt shared_1),Sl.dead,Sl.dead,Sl.dead] (zaS_ (i:=4) rfl (zjv_ zA_) (ze7_ zi9_ (zf_ (zc_ 0 rfl))) fun low_5=>(at_ [(Sl.fz (tyD kInt tyStr) c.1),(Sl.fz (tyL tyInt) c.2.1),(Sl.fz (tyL tyInt) c.2.2),(Sl.fz tyInt shared_1),(Sl.ow (owD kInt tyStr) low_5),Sl.dead,Sl.dead] (zaS_ (i:=5) rfl (zjv_ zA_) (ze7_ zi9_ (zf_ (zc_ 0 rfl))) fun high_7=>(at_ [(Sl.fz (tyD kInt tyStr) c.1),(Sl.fz (tyL tyInt) c.2.1),(Sl.fz (tyL tyInt) c.2.2),(Sl.fz tyInt shared_1),(Sl.ow (owD kInt tyStr) low_5),(Sl.ow (owD kInt tyStr) high_7),Sl.dead] (zbn_ (LS:=(fun s_9:(Qq1×Qq1)=>[(Sl.fz (tyD kInt tyStr) c.1),(Sl.fz (tyL tyInt) c.2.1),(Sl.fz (tyL tyInt) c.2.2),(Sl.fz tyInt shared_1),(Sl.ow (owD kInt tyStr) s_9.1),(Sl.ow (owD kInt tyStr) s_9.2),Sl.dead])) (zb4_ (L':=[(Sl.fz (tyD kInt tyStr) c.1),(Sl.fz (tyL tyInt) c.2.1),(Sl.fz (tyL tyInt) c.2.2),(Sl.fz tyInt shared_1),(Sl.ow (owD kInt tyStr) low_5),(Sl.ow (owD kInt tyStr) high_7),Sl.dead]) (S4 (.same (.same (.same .nil)))) (zfV_ (LS:=(fun s_9:(Qq1×Qq1)=>[(Sl.fz (tyD kInt tyStr) c.1),(Sl.fz (tyL tyInt) c.2.1),(Sl.fz (tyL tyInt) c.2.2),(Sl.fz tyInt shared_1),(Sl.ow (owD kInt tyStr) s_9.1),(Sl.ow (owD kInt tyStr) s_9.2),Sl.dead])) (s0:=(low_5,high_7)) (zkW_ (zk_ (zl_ 1) (zf_ (zx_ zbN_ (zl_ 36) (zl_ 1))))) (zaE_ 6) fun s_9 x_15=>at_ [(Sl.fz (tyD kInt tyStr) c.1),(Sl.fz (tyL tyInt) c.2.1),(Sl.fz (tyL tyInt) c.2.2),(Sl.fz tyInt shared_1),(Sl.ow (owD kInt tyStr) s_9.1),(Sl.ow (owD kInt tyStr) s_9.2),(Sl.fz tyInt x_15)] (zcX_ (zbn_ (LS:=(fun s_26:(Qq1×Qq1)=>[(Sl.fz (tyD kInt tyStr) c.1),(Sl.fz (tyL tyInt) c.2.1),(Sl.fz (tyL tyInt) c.2.2),(Sl.fz tyInt shared_1),(Sl.ow (owD kInt tyStr) s_26.1),(Sl.ow (owD kInt tyStr) s_26.2),(Sl.fz tyInt x_15)])) (s_if (zdD_ (zI_ (zmz_ true (zc_ 6 rfl) (zc_ 0 rfl))) (zI_ (zx_ (zkH_ zkM_) (zc_ 6 rfl) (EvO.fr (zhn_ (zc_ 1 rfl) zkQ_ (zhD_ (zc_ 3 rfl))))))) (zjY_ (i:=4) rfl zA_ zP_ (zaH_ [48]) (zc_ 6 rfl) fun a_27 y_28=>(at_ [(Sl.fz (tyD kInt tyStr) c.1),(Sl.fz (tyL tyInt) c.2.1),(Sl.fz (tyL tyInt) c.2.2),(Sl.fz tyInt shared_1),(Sl.ow (owD kInt tyStr) (putA s_9.1 y_28 a_27)),(Sl.ow (owD kInt tyStr) s_9.2),(Sl.fz tyInt x_15)] (zcX_ (zjY_ (i:=5) rfl zA_ zP_ (zaH_ [49]) (zc_ 6 rfl) fun a_29 y_30=>(at_ [(Sl.fz (tyD kInt tyStr) c.1),(Sl.fz (tyL tyInt) c.2.1),(Sl.fz (tyL tyInt) c.2.2),(Sl.fz tyInt shared_1),(Sl.ow (owD kInt tyStr) (putA s_9.1 y_28 a_27)),(Sl.ow (owD kInt tyStr) (putA s_9.2 y_30 a_29)),(Sl.fz tyInt x_15)] (zm_ (S4 (.same (.same (.same .nil)))))))))) (zm_ (S4 (.same (.same (.same .nil)))))) fun s_26=>(at_ [(Sl.fz (tyD kInt tyStr) c.1),(Sl.fz (tyL tyInt) c.2.1),(Sl.fz (tyL tyInt) c.2.2),(Sl.fz tyInt shared_1),(Sl.ow (owD kInt tyStr) s_26.1),(Sl.ow (owD kInt tyStr) s_26.2),(Sl.fz tyInt x_15)] (zm_ (S4 (.same (.same (.dead .nil)))))))))) fun s_9=>(at_ [(Sl.fz (tyD kInt tyStr) c.1),(Sl.fz (tyL tyInt) c.2.1),(Sl.fz (tyL tyInt) c.2.2),(Sl.fz tyInt shared_1),(Sl.ow (owD kInt tyStr) s_9.1),(Sl.ow (owD kInt tyStr) s_9.2),Sl.dead] (zbn_ (LS:=(fun s_36:(Qq1×Qq1)=>[(Sl.fz (tyD kInt tyStr) c.1),(Sl.fz (tyL tyInt) c.2.1),(Sl.fz (tyL tyInt) c.2.2),(Sl.fz tyInt shared_1),(Sl.ow (owD kInt tyStr) s_36.1),(Sl.ow (owD kInt tyStr) s_36.2),Sl.dead])) (s_if (zI_ (zx_ zfo_ (zc_ 3 rfl) (zgv_ zcB_ (zf_ (zc_ 2 rfl))))) (zjY_ (i:=4) rfl zA_ zP_ (zaH_ [49]) (zx_ zcD_ (zc_ 2 rfl) (zc_ 3 rfl)) fun a_39 y_40=>(at_ [(Sl.fz (tyD kInt tyStr) c.1),(Sl.fz (tyL tyInt) c.2.1),(Sl.fz (tyL tyInt) c.2.2),(Sl.fz tyInt shared_1),(Sl.ow (owD kInt tyStr) (putA s_9.1 y_40 a_39)),(Sl.ow (owD kInt tyStr) s_9.2),Sl.dead] (zcX_ (zjY_ (i:=5) rfl zA_ zP_ (zaH_ [48]) (zx_ zcD_ (zc_ 2 rfl) (zc_ 3 rfl)) fun a_43 y_44=>(at_ [(Sl.fz (tyD kInt tyStr) c.1),(Sl.fz (tyL tyInt) c.2.1),(Sl.fz (tyL tyInt) c.2.2),(Sl.fz tyInt shared_1),(Sl.ow (owD kInt tyStr) (putA s_9.1 y_40 a_39)),(Sl.ow (owD kInt tyStr) (putA s_9.2 y_44 a_43)),Sl.dead] (zm_ (S4 (.same (.same (.same .nil)))))))))) (zm_ (S4 (.same (.same (.same .nil)))))) fun s_36=>(at_ [(Sl.fz (tyD kInt tyStr) c.1),(Sl.fz (tyL tyInt) c.2.1),(Sl.fz (tyL tyInt) c.2.2),(Sl.fz tyInt shared_1),(Sl.ow (owD kInt tyStr) s_36.1),(Sl.ow (owD kInt tyStr) s_36.2),Sl.dead] (zdr_ (za0_ zA_) (zeB_ (ze_ zg_) (zb2_ zbG_) (zk_ (zp_ (zk_ (ziW_ 5 rfl) (zf_ (zaH_ [48,48,48,49])))) (zf_ (zp_ (zk_ (ziW_ 4 rfl) (zf_ (zaH_ [48,48,48,50]))))))))))))))))))
theorem zeD_ {K:Fgg}:RD_crossed_deck K:=zdt_ (K:=K) (N:=Qn10) (C:=(csCons (tyD kInt tyStr) (csCons (tyL tyInt) (csLast (tyL tyInt))))) (O:=(owL tyStr)) (t:=fun E=>zaV_ K) (ss:=fun c=>[(Sl.fz (tyD kInt tyStr) c.1),(Sl.fz (tyL tyInt) c.2.1),(Sl.fz (tyL tyInt) c.2.2)]) (f:=fun c=>zbi_ c.1 c.2.1 c.2.2) 3 4 (ze_ (ze_ zg_)) rfl (zD_ (zD_ zJ_)) fun c E=>zet_ c
theorem zcF_ {K:Fgg}{E:XK}(c:(Qq1×((List Int)×(List Int)))):EvS K (z5_ K) E [(Sl.fz (tyD kInt tyStr) c.1),(Sl.fz (tyL tyInt) c.2.1),(Sl.fz (tyL tyInt) c.2.2)] (zak_ c.1 c.2.1 c.2.2) (fun _:Unit=>[]) (fun _:Unit=>[]) (owF (tyOpt (tyL tyStr))) :=
 (zbn_ (LS:=(fun _:Unit=>[(Sl.fz (tyD kInt tyStr) c.1),(Sl.fz (tyL tyInt) c.2.1),(Sl.fz (tyL tyInt) c.2.2)])) (s_if (zI_ (zx_ (zlz_ (zkE_ zir_)) (zc_ 1 rfl) (zc_ 2 rfl))) (zdo_ (EvF.ow zdX_)) (zm_ (.same (.same (.same .nil))))) fun _=>(at_ [(Sl.fz (tyD kInt tyStr) c.1),(Sl.fz (tyL tyInt) c.2.1),(Sl.fz (tyL tyInt) c.2.2)] (zbn_ (LS:=(fun _:Unit=>[(Sl.fz (tyD kInt tyStr) c.1),(Sl.fz (tyL tyInt) c.2.1),(Sl.fz (tyL tyInt) c.2.2)])) (s_if (zI_ (zp_ (zk_ (zc_ 2 rfl) (zf_ (zc_ 1 rfl))))) (zdo_ (EvF.ow (zcT_ (fun _ _ _=>nn_l) (EvO.fr (zbd_ (zk_ (zc_ 0 rfl) (zk_ (zc_ 2 rfl) (zf_ (zc_ 1 rfl))))))))) (zm_ (.same (.same (.same .nil))))) fun _=>(at_ [(Sl.fz (tyD kInt tyStr) c.1),(Sl.fz (tyL tyInt) c.2.1),(Sl.fz (tyL tyInt) c.2.2)] (zdo_ (EvF.ow (zcT_ (fun _ _ _=>nn_l) (EvO.fr (zbd_ (zk_ (zc_ 0 rfl) (zk_ (zc_ 1 rfl) (zf_ (zc_ 2 rfl)))))))))))))
theorem zcO_ {K:Fgg}:RD_parting_of_orders K:=zdt_ (K:=K) (N:=Qn5) (C:=(csCons (tyD kInt tyStr) (csCons (tyL tyInt) (csLast (tyL tyInt))))) (O:=(owF (tyOpt (tyL tyStr)))) (t:=fun E=>z5_ K) (ss:=fun c=>[(Sl.fz (tyD kInt tyStr) c.1),(Sl.fz (tyL tyInt) c.2.1),(Sl.fz (tyL tyInt) c.2.2)]) (f:=fun c=>zak_ c.1 c.2.1 c.2.2) 3 0 (ze_ (ze_ zg_)) rfl (zD_ (zD_ zJ_)) fun c E=>zcF_ c
theorem zfm_ {K:Fgg}{E:XK}(c:((List Pas)×(List Pas))):EvS K (zbu_ K) E [(Sl.fz (tyL tyPass) c.1),(Sl.fz (tyL tyPass) c.2),Sl.dead,Sl.dead,Sl.dead] (zaa_ c.1 c.2) (fun _:Unit=>[]) (fun _:Unit=>[]) (owF (tyOpt (tyL tyStr))) :=
 (zfj_ (i:=2) rfl (zp_ (zf_ (zc_ 0 rfl))) fun sense_2=>(at_ [(Sl.fz (tyL tyPass) c.1),(Sl.fz (tyL tyPass) c.2),(Sl.fz (tyOpt Qq0) sense_2),Sl.dead,Sl.dead] (zfj_ (i:=3) rfl (zp_ (zf_ (zc_ 1 rfl))) fun other_sense_5=>(at_ [(Sl.fz (tyL tyPass) c.1),(Sl.fz (tyL tyPass) c.2),(Sl.fz (tyOpt Qq0) sense_2),(Sl.fz (tyOpt Qq0) other_sense_5),Sl.dead] (zbn_ (LS:=(fun _:Unit=>[(Sl.fz (tyL tyPass) c.1),(Sl.fz (tyL tyPass) c.2),(Sl.fz (tyOpt Qq0) sense_2),(Sl.fz (tyOpt Qq0) other_sense_5),Sl.dead])) (s_if (zI_ (zx_ zmv_ (zc_ 2 rfl) (zc_ 3 rfl))) (zdo_ (EvF.ow zdX_)) (zm_ (S4 (.same .nil)))) fun _=>(at_ [(Sl.fz (tyL tyPass) c.1),(Sl.fz (tyL tyPass) c.2),(Sl.fz (tyOpt Qq0) sense_2),(Sl.fz (tyOpt Qq0) other_sense_5),Sl.dead] (zbn_ (LS:=(fun _:Unit=>[(Sl.fz (tyL tyPass) c.1),(Sl.fz (tyL tyPass) c.2),(Sl.fz (tyOpt Qq0) sense_2),(Sl.fz (tyOpt Qq0) other_sense_5),Sl.dead])) (s_if (zI_ (zx_ zcg_ (zc_ 2 rfl) zdC_)) (zdo_ (EvF.ow (zcT_ (fun _ _ _=>nn_l) (EvO.fr (O:=(owL tyStr)) (zeB_ zg_ zbG_ (zf_ (zp_ (zk_ (zgl_ (i:=0) at_0 (zl0_ (zc_ 3 rfl))) (zf_ (zaH_ [48,48,48,49])))))))))) (zm_ (S4 (.same .nil)))) fun _=>(at_ [(Sl.fz (tyL tyPass) c.1),(Sl.fz (tyL tyPass) c.2),(Sl.fz (tyOpt Qq0) sense_2),(Sl.fz (tyOpt Qq0) other_sense_5),Sl.dead] (zfD_ (T:=Qq0) (i:=2) rfl fun sense_24=>at_ [(Sl.fz (tyL tyPass) c.1),(Sl.fz (tyL tyPass) c.2),(Sl.fz Qq0 sense_24),(Sl.fz (tyOpt Qq0) other_sense_5),Sl.dead] (zbn_ (LS:=(fun _:Unit=>[(Sl.fz (tyL tyPass) c.1),(Sl.fz (tyL tyPass) c.2),(Sl.fz Qq0 sense_24),(Sl.fz (tyOpt Qq0) other_sense_5),Sl.dead])) (s_if (zI_ (zx_ zcg_ (zc_ 3 rfl) zdC_)) (zdo_ (EvF.ow (zcT_ (fun _ _ _=>nn_l) (EvO.fr (O:=(owL tyStr)) (zeB_ zg_ zbG_ (zf_ (zp_ (zk_ (zgl_ (i:=0) at_0 (zc_ 2 rfl)) (zf_ (zaH_ [48,48,48,49])))))))))) (zm_ (S4 (.same .nil)))) fun _=>(at_ [(Sl.fz (tyL tyPass) c.1),(Sl.fz (tyL tyPass) c.2),(Sl.fz Qq0 sense_24),(Sl.fz (tyOpt Qq0) other_sense_5),Sl.dead] (zfD_ (T:=Qq0) (i:=3) rfl fun other_sense_36=>at_ [(Sl.fz (tyL tyPass) c.1),(Sl.fz (tyL tyPass) c.2),(Sl.fz Qq0 sense_24),(Sl.fz Qq0 other_sense_36),Sl.dead] (zfj_ (i:=4) rfl (zp_ (zk_ (zgl_ (i:=0) at_0 (zc_ 2 rfl)) (zf_ (zgl_ (i:=0) at_0 (zc_ 3 rfl))))) fun deck_38=>(at_ [(Sl.fz (tyL tyPass) c.1),(Sl.fz (tyL tyPass) c.2),(Sl.fz Qq0 sense_24),(Sl.fz Qq0 other_sense_36),(Sl.fz (tyOpt (tyL tyStr)) deck_38)] (zbn_ (LS:=(fun s_47:(Option (List (List Nat)))=>[(Sl.fz (tyL tyPass) c.1),(Sl.fz (tyL tyPass) c.2),(Sl.fz Qq0 sense_24),(Sl.fz Qq0 other_sense_36),(Sl.fz (tyOpt (tyL tyStr)) s_47)])) (s_if (zI_ (zx_ zcg_ (zc_ 4 rfl) zdC_)) (zcX_ (zfj_ (i:=4) rfl (zp_ (zk_ (zgl_ (i:=0) at_0 (zc_ 2 rfl)) (zk_ (zgl_ (i:=1) (at_s ziF_) (zc_ 2 rfl)) (zf_ (zgl_ (i:=1) (at_s ziF_) (zc_ 3 rfl)))))) fun deck_49=>(at_ [(Sl.fz (tyL tyPass) c.1),(Sl.fz (tyL tyPass) c.2),(Sl.fz Qq0 sense_24),(Sl.fz Qq0 other_sense_36),(Sl.fz (tyOpt (tyL tyStr)) deck_49)] (zm_ (S4 (.same .nil)))))) (zm_ (S4 (.same .nil)))) fun s_47=>(at_ [(Sl.fz (tyL tyPass) c.1),(Sl.fz (tyL tyPass) c.2),(Sl.fz Qq0 sense_24),(Sl.fz Qq0 other_sense_36),(Sl.fz (tyOpt (tyL tyStr)) s_47)] (zdo_ (EvF.ow (zc_ 4 rfl)))))))))))))))))))
theorem zfL_ {K:Fgg}:RD_parting_of K:=zdt_ (K:=K) (N:=Qn16) (C:=(csCons (tyL tyPass) (csLast (tyL tyPass)))) (O:=(owF (tyOpt (tyL tyStr)))) (t:=fun E=>zbu_ K) (ss:=fun c=>[(Sl.fz (tyL tyPass) c.1),(Sl.fz (tyL tyPass) c.2)]) (f:=fun c=>zaa_ c.1 c.2) 2 3 (ze_ zg_) rfl (zD_ zJ_) fun c E=>zfm_ c
theorem zcJ_ {K:Fgg}{E:XK}(c:((List Pas)×(List Int))):EvS K (z3_ K) E [(Sl.fz (tyL tyPass) c.1),(Sl.fz (tyL tyInt) c.2),Sl.dead,Sl.dead,Sl.dead,Sl.dead,Sl.dead] (zai_ c.1 c.2) (fun _:Unit=>[]) (fun _:Unit=>[]) (owL tyPass) :=
 (zaS_ (i:=2) rfl (za0_ zaD_) (zcQ_ tyPass) fun ahead_1=>(at_ [(Sl.fz (tyL tyPass) c.1),(Sl.fz (tyL tyInt) c.2),(Sl.ow (owL tyPass) ahead_1),Sl.dead,Sl.dead,Sl.dead,Sl.dead] (zaS_ (i:=3) rfl (za0_ zaD_) (zcQ_ tyPass) fun behind_2=>(at_ [(Sl.fz (tyL tyPass) c.1),(Sl.fz (tyL tyInt) c.2),(Sl.ow (owL tyPass) ahead_1),(Sl.ow (owL tyPass) behind_2),Sl.dead,Sl.dead,Sl.dead] (zbn_ (LS:=(fun s_3:((List Pas)×(List Pas))=>[(Sl.fz (tyL tyPass) c.1),(Sl.fz (tyL tyInt) c.2),(Sl.ow (owL tyPass) s_3.1),(Sl.ow (owL tyPass) s_3.2),Sl.dead,Sl.dead,Sl.dead])) (zb4_ (L':=[(Sl.fz (tyL tyPass) c.1),(Sl.fz (tyL tyInt) c.2),(Sl.ow (owL tyPass) ahead_1),(Sl.ow (owL tyPass) behind_2),Sl.dead,Sl.dead,Sl.dead]) (S4 (.same (.same (.same .nil)))) (zfV_ (LS:=(fun s_3:((List Pas)×(List Pas))=>[(Sl.fz (tyL tyPass) c.1),(Sl.fz (tyL tyInt) c.2),(Sl.ow (owL tyPass) s_3.1),(Sl.ow (owL tyPass) s_3.2),Sl.dead,Sl.dead,Sl.dead])) (s0:=(ahead_1,behind_2)) (zgH_ (zf_ (zgv_ zcB_ (zf_ (zc_ 0 rfl))))) (zaE_ 4) fun s_3 x_6=>at_ [(Sl.fz (tyL tyPass) c.1),(Sl.fz (tyL tyInt) c.2),(Sl.ow (owL tyPass) s_3.1),(Sl.ow (owL tyPass) s_3.2),(Sl.fz tyInt x_6),Sl.dead,Sl.dead] (zdj_ (i:=5) rfl zaD_ (zx_ zcD_ (zc_ 0 rfl) (zc_ 4 rfl)) fun one_7=>(at_ [(Sl.fz (tyL tyPass) c.1),(Sl.fz (tyL tyInt) c.2),(Sl.ow (owL tyPass) s_3.1),(Sl.ow (owL tyPass) s_3.2),(Sl.fz tyInt x_6),(Sl.fz tyPass one_7),Sl.dead] (zdj_ (i:=6) rfl zP_ (zx_ zam_ (zx_ zbX_ (zx_ zcD_ (zc_ 1 rfl) (zc_ 4 rfl)) (zl_ 3)) (zl_ 4)) fun way_10=>(at_ [(Sl.fz (tyL tyPass) c.1),(Sl.fz (tyL tyInt) c.2),(Sl.ow (owL tyPass) s_3.1),(Sl.ow (owL tyPass) s_3.2),(Sl.fz tyInt x_6),(Sl.fz tyPass one_7),(Sl.fz tyInt way_10)] (zbn_ (LS:=(fun s_24:(List Pas)=>[(Sl.fz (tyL tyPass) c.1),(Sl.fz (tyL tyInt) c.2),(Sl.ow (owL tyPass) s_24),(Sl.ow (owL tyPass) s_3.2),(Sl.fz tyInt x_6),(Sl.fz tyPass one_7),(Sl.fz tyInt way_10)])) (s_if (zdD_ (zI_ (zx_ zdA_ (zb9_ (zc_ 5 rfl)) (zaH_ [112,105,99,107]))) (zI_ (zx_ zfo_ (zc_ 6 rfl) (zl_ 2)))) (zcX_ (zcI_ (i:=2) rfl zaD_ (zc_ 5 rfl) fun a_25=>(at_ [(Sl.fz (tyL tyPass) c.1),(Sl.fz (tyL tyInt) c.2),(Sl.ow (owL tyPass) (s_3.1++[a_25])),(Sl.ow (owL tyPass) s_3.2),(Sl.fz tyInt x_6),(Sl.fz tyPass one_7),(Sl.fz tyInt way_10)] (zm_ (S4 (.same (.same (.same .nil)))))))) (zm_ (S4 (.same (.same (.same .nil)))))) fun s_24=>(at_ [(Sl.fz (tyL tyPass) c.1),(Sl.fz (tyL tyInt) c.2),(Sl.ow (owL tyPass) s_24),(Sl.ow (owL tyPass) s_3.2),(Sl.fz tyInt x_6),(Sl.fz tyPass one_7),(Sl.fz tyInt way_10)] (zbn_ (LS:=(fun s_40:(List Pas)=>[(Sl.fz (tyL tyPass) c.1),(Sl.fz (tyL tyInt) c.2),(Sl.ow (owL tyPass) s_24),(Sl.ow (owL tyPass) s_40),(Sl.fz tyInt x_6),(Sl.fz tyPass one_7),(Sl.fz tyInt way_10)])) (s_if (zjQ_ (zdD_ (zI_ (zx_ zdA_ (zb9_ (zc_ 5 rfl)) (zaH_ [112,105,99,107]))) (zI_ (zx_ ze4_ (zc_ 6 rfl) (zl_ 2)))) (zdD_ (zI_ (zx_ zdA_ (zb9_ (zc_ 5 rfl)) (zaH_ [100,101,97,108]))) (zI_ (zx_ ze4_ (zc_ 6 rfl) (zl_ 1))))) (zcX_ (zcI_ (i:=3) rfl zaD_ (zkv_ (zcf_ (zc_ 5 rfl))) fun a_43=>(at_ [(Sl.fz (tyL tyPass) c.1),(Sl.fz (tyL tyInt) c.2),(Sl.ow (owL tyPass) s_24),(Sl.ow (owL tyPass) (s_3.2++[a_43])),(Sl.fz tyInt x_6),(Sl.fz tyPass one_7),(Sl.fz tyInt way_10)] (zm_ (S4 (.same (.same (.same .nil)))))))) (zm_ (S4 (.same (.same (.same .nil)))))) fun s_40=>(at_ [(Sl.fz (tyL tyPass) c.1),(Sl.fz (tyL tyInt) c.2),(Sl.ow (owL tyPass) s_24),(Sl.ow (owL tyPass) s_40),(Sl.fz tyInt x_6),(Sl.fz tyPass one_7),(Sl.fz tyInt way_10)] (zcX_ (zbn_ (LS:=(fun s_51:(List Pas)=>[(Sl.fz (tyL tyPass) c.1),(Sl.fz (tyL tyInt) c.2),(Sl.ow (owL tyPass) s_24),(Sl.ow (owL tyPass) s_51),(Sl.fz tyInt x_6),(Sl.fz tyPass one_7),(Sl.fz tyInt way_10)])) (s_if (zjQ_ (zI_ (zx_ zdA_ (zb9_ (zc_ 5 rfl)) (zaH_ [100,101,97,108]))) (zI_ (zx_ zjZ_ (zc_ 6 rfl) (zl_ 0)))) (zcX_ (zcI_ (i:=3) rfl zaD_ (zc_ 5 rfl) fun a_52=>(at_ [(Sl.fz (tyL tyPass) c.1),(Sl.fz (tyL tyInt) c.2),(Sl.ow (owL tyPass) s_24),(Sl.ow (owL tyPass) (s_40++[a_52])),(Sl.fz tyInt x_6),(Sl.fz tyPass one_7),(Sl.fz tyInt way_10)] (zm_ (S4 (.same (.same (.same .nil)))))))) (zm_ (S4 (.same (.same (.same .nil)))))) fun s_51=>(at_ [(Sl.fz (tyL tyPass) c.1),(Sl.fz (tyL tyInt) c.2),(Sl.ow (owL tyPass) s_24),(Sl.ow (owL tyPass) s_51),(Sl.fz tyInt x_6),(Sl.fz tyPass one_7),(Sl.fz tyInt way_10)] (zm_ (S4 (.dead (.dead (.dead .nil)))))))))))))))))) fun s_3=>(at_ [(Sl.fz (tyL tyPass) c.1),(Sl.fz (tyL tyInt) c.2),(Sl.ow (owL tyPass) s_3.1),(Sl.ow (owL tyPass) s_3.2),Sl.dead,Sl.dead,Sl.dead] (zdr_ (za0_ zaD_) (zi3_ zgE_ (zbc_ 2 rfl) (zbc_ 3 rfl)))))))))
theorem zcK_ {K:Fgg}:RD_law_same_in_sense K:=zdt_ (K:=K) (N:=Qn4) (C:=(csCons (tyL tyPass) (csLast (tyL tyInt)))) (O:=(owL tyPass)) (t:=fun E=>z3_ K) (ss:=fun c=>[(Sl.fz (tyL tyPass) c.1),(Sl.fz (tyL tyInt) c.2)]) (f:=fun c=>zai_ c.1 c.2) 2 5 (ze_ zg_) rfl (zD_ zJ_) fun c E=>zcJ_ c
theorem zkc_ {K:Fgg}{E:XK}(c:(List (List (List Nat)))):EvS K (zdR_ K) E [(Sl.fz (tyL (tyL tyStr)) c),Sl.dead,Sl.dead] (zeR_ c) (fun _:Unit=>[]) (fun _:Unit=>[]) (owL tyStr) :=
 (zaS_ (i:=1) rfl (za0_ zA_) (zcQ_ tyStr) fun deck_1=>(at_ [(Sl.fz (tyL (tyL tyStr)) c),(Sl.ow (owL tyStr) deck_1),Sl.dead] (zbn_ (LS:=(fun s_2:(List (List Nat))=>[(Sl.fz (tyL (tyL tyStr)) c),(Sl.ow (owL tyStr) s_2),Sl.dead])) (zb4_ (L':=[(Sl.fz (tyL (tyL tyStr)) c),(Sl.ow (owL tyStr) deck_1),Sl.dead]) (.same (.same (.same .nil))) (zfV_ (LS:=(fun s_2:(List (List Nat))=>[(Sl.fz (tyL (tyL tyStr)) c),(Sl.ow (owL tyStr) s_2),Sl.dead])) (s0:=deck_1) (ei_l (zc_ 0 rfl)) (zaE_ 2) fun s_2 x_3=>at_ [(Sl.fz (tyL (tyL tyStr)) c),(Sl.ow (owL tyStr) s_2),(Sl.fz (tyL tyStr) x_3)] (zcX_ (zma_ (i:=1) rfl zA_ (zc_ 2 rfl) fun a_4=>(at_ [(Sl.fz (tyL (tyL tyStr)) c),(Sl.ow (owL tyStr) (s_2++a_4)),(Sl.fz (tyL tyStr) x_3)] (zm_ (.same (.same (.dead .nil))))))))) fun s_2=>(at_ [(Sl.fz (tyL (tyL tyStr)) c),(Sl.ow (owL tyStr) s_2),Sl.dead] (zfC_ (i:=1) rfl)))))
theorem zjS_ {K:Fgg}:RD_gather K:=zdt_ (K:=K) (N:=["some", "deck", "pocket"]) (C:=(csLast (tyL (tyL tyStr)))) (O:=(owL tyStr)) (t:=fun E=>zdR_ K) (ss:=fun c=>[(Sl.fz (tyL (tyL tyStr)) c)]) (f:=fun c=>zeR_ c) 1 2 zg_ rfl zJ_ fun c E=>zkc_ c
theorem zjj_ {K:Fgg}{E:XK}(c:(List Nat)):EvS K (zc4_ K) E [(Sl.fz tyStr c)] (zdN_ c) (fun _:Unit=>[]) (fun _:Unit=>[]) (owF tyBl) :=
 (zdr_ (zbk_ zcP_) (EvF.ow (znE_ (zx_ ze4_ (zgv_ zkx_ (zf_ (zc_ 0 rfl))) (zl_ 1)) (zx_ zoG_ (zc_ 0 rfl) (zaH_ SG)))))
theorem zhK_ {K:Fgg}:RD_is_sign K:=zdt_ (K:=K) (N:=["text"]) (C:=(csLast tyStr)) (O:=(owF tyBl)) (t:=fun E=>zc4_ K) (ss:=fun c=>[(Sl.fz tyStr c)]) (f:=fun c=>zdN_ c) 1 0 zg_ rfl zJ_ fun c E=>zjj_ c
theorem ziQ_ {K:Fgg}{E:XK}(c:(List Nat)):EvS K (zdh_ K E) E [(Sl.fz tyStr c)] (zdG_ c) (fun _:Unit=>[]) (fun _:Unit=>[]) (owF tyInt) :=
 (zbn_ (LS:=(fun _:Unit=>[(Sl.fz tyStr c)])) (s_if (zfY_ (zI_ (zp_ (zf_ (zc_ 0 rfl))))) zmV_ (zm_ (.same .nil))) fun _=>(at_ [(Sl.fz tyStr c)] (zdr_ (zbk_ zP_) (EvF.ow (zog_ zk9_ (zaH_ SG) (zf_ (zc_ 0 rfl)))))))
theorem ziy_ {K:Fgg}(FX:Fx K):RD_rank_of K:=zdt_ (K:=K) (N:=["sign"]) (C:=(csLast tyStr)) (O:=(owF tyInt)) (t:=fun E=>zdh_ K E) (ss:=fun c=>[(Sl.fz tyStr c)]) (f:=fun c=>zdG_ c) 1 0 zg_ rfl zJ_ fun c E=>ziQ_ c
theorem zhJ_ {K:Fgg}{E:XK}(c:((List Nat)×Int)):EvS K (zcV_ K) E [(Sl.fz tyStr c.1),(Sl.fz tyInt c.2)] (zdF_ c.1 c.2) (fun _:Unit=>[]) (fun _:Unit=>[]) (owF tyStr) :=
 (zdr_ (zbk_ zA_) (EvF.ow (zx_ zfb_ (zc_ 0 rfl) (zx_ zfx_ (zc_ 1 rfl) (zl_ 1)))))
theorem ziC_ {K:Fgg}:RD_sign_at K:=zdt_ (K:=K) (N:=Qn18) (C:=(csCons tyStr (csLast tyInt))) (O:=(owF tyStr)) (t:=fun E=>zcV_ K) (ss:=fun c=>[(Sl.fz tyStr c.1),(Sl.fz tyInt c.2)]) (f:=fun c=>zdF_ c.1 c.2) 2 0 (ze_ zg_) rfl (zD_ zJ_) fun c E=>zhJ_ c
theorem zfT_ {K:Fgg}{E:XK}(c:((List (List Nat))×Int)):EvS K (zbv_ K E) E [(Sl.fz (tyL tyStr) c.1),(Sl.fz tyInt c.2),Sl.dead,Sl.dead] (zbV_ c.1 c.2) (fun _:Unit=>[]) (fun _:Unit=>[]) (owLL tyStr) :=
 (zaS_ (i:=2) rfl (zml_ zA_) (zlp_ (zor_ (zaH_ SG)) (zaE_ 0) (fun _=>dead1) (fun x_3=>zks_) (fun x_3=>(zcQ_ tyStr))) fun pockets_1=>(at_ [(Sl.fz (tyL tyStr) c.1),(Sl.fz tyInt c.2),(Sl.ow (owLL tyStr) pockets_1),Sl.dead] (zbn_ (LS:=(fun s_5:(List (List (List Nat)))=>[(Sl.fz (tyL tyStr) c.1),(Sl.fz tyInt c.2),(Sl.ow (owLL tyStr) s_5),Sl.dead])) (zb4_ (L':=[(Sl.fz (tyL tyStr) c.1),(Sl.fz tyInt c.2),(Sl.ow (owLL tyStr) pockets_1),Sl.dead]) (S4 .nil) (zfV_ (LS:=(fun s_5:(List (List (List Nat)))=>[(Sl.fz (tyL tyStr) c.1),(Sl.fz tyInt c.2),(Sl.ow (owLL tyStr) s_5),Sl.dead])) (s0:=pockets_1) (ei_l (zc_ 0 rfl)) (zaE_ 3) fun s_5 x_6=>at_ [(Sl.fz (tyL tyStr) c.1),(Sl.fz tyInt c.2),(Sl.ow (owLL tyStr) s_5),(Sl.fz tyStr x_6)] (zcX_ (zjN_ (i:=2) rfl zA_ (zlg_ (zf_ (zp_ (zk_ (zc_ 3 rfl) (zf_ (zc_ 1 rfl)))))) (zc_ 3 rfl) fun n_12 a_13=>(at_ [(Sl.fz (tyL tyStr) c.1),(Sl.fz tyInt c.2),(Sl.ow (owLL tyStr) (appN s_5 n_12 a_13)),(Sl.fz tyStr x_6)] (zm_ (.same (.same (.same (.dead .nil)))))))))) fun s_5=>(at_ [(Sl.fz (tyL tyStr) c.1),(Sl.fz tyInt c.2),(Sl.ow (owLL tyStr) s_5),Sl.dead] (zfC_ (i:=2) rfl)))))
theorem zfs_ {K:Fgg}(FX:Fx K):RD_pockets_of K:=zdt_ (K:=K) (N:=Qn21) (C:=(csCons (tyL tyStr) (csLast tyInt))) (O:=(owLL tyStr)) (t:=fun E=>zbv_ K E) (ss:=fun c=>[(Sl.fz (tyL tyStr) c.1),(Sl.fz tyInt c.2)]) (f:=fun c=>zbV_ c.1 c.2) 2 2 (ze_ zg_) rfl (zD_ zJ_) fun c E=>zfT_ c
theorem zhu_ {K:Fgg}{E:XK}(c:((List (List Nat))×(List Int))):EvS K (zcl_ K E) E [(Sl.fz (tyL tyStr) c.1),(Sl.fz (tyL tyInt) c.2),Sl.dead,Sl.dead] (zdg_ c.1 c.2) (fun _:Unit=>[]) (fun _:Unit=>[]) (owL tyStr) :=
 (zaS_ (i:=2) rfl (za0_ zA_) (ze7_ zfR_ (zf_ (zc_ 0 rfl))) fun dealt_1=>(at_ [(Sl.fz (tyL tyStr) c.1),(Sl.fz (tyL tyInt) c.2),(Sl.ow (owL tyStr) dealt_1),Sl.dead] (zbn_ (LS:=(fun s_3:(List (List Nat))=>[(Sl.fz (tyL tyStr) c.1),(Sl.fz (tyL tyInt) c.2),(Sl.ow (owL tyStr) s_3),Sl.dead])) (zb4_ (L':=[(Sl.fz (tyL tyStr) c.1),(Sl.fz (tyL tyInt) c.2),(Sl.ow (owL tyStr) dealt_1),Sl.dead]) (S4 .nil) (zfV_ (LS:=(fun s_3:(List (List Nat))=>[(Sl.fz (tyL tyStr) c.1),(Sl.fz (tyL tyInt) c.2),(Sl.ow (owL tyStr) s_3),Sl.dead])) (s0:=dealt_1) (ei_l (zc_ 1 rfl)) (zaE_ 3) fun s_3 x_4=>at_ [(Sl.fz (tyL tyStr) c.1),(Sl.fz (tyL tyInt) c.2),(Sl.ow (owL tyStr) s_3),(Sl.fz tyInt x_4)] (zcX_ (zaS_ (i:=2) rfl (za0_ zA_) (zbd_ (zf_ (EvO.fr (ziX_ (zk_ (zbc_ 2 rfl) (zf_ (zc_ 3 rfl))))))) fun dealt_5=>(at_ [(Sl.fz (tyL tyStr) c.1),(Sl.fz (tyL tyInt) c.2),(Sl.ow (owL tyStr) dealt_5),(Sl.fz tyInt x_4)] (zm_ (.same (.same (.same (.dead .nil)))))))))) fun s_3=>(at_ [(Sl.fz (tyL tyStr) c.1),(Sl.fz (tyL tyInt) c.2),(Sl.ow (owL tyStr) s_3),Sl.dead] (zfC_ (i:=2) rfl)))))
theorem zg1_ {K:Fgg}(FX:Fx K):RD_deal_all K:=zdt_ (K:=K) (N:=["deck", "row", "dealt", "column"]) (C:=(csCons (tyL tyStr) (csLast (tyL tyInt)))) (O:=(owL tyStr)) (t:=fun E=>zcl_ K E) (ss:=fun c=>[(Sl.fz (tyL tyStr) c.1),(Sl.fz (tyL tyInt) c.2)]) (f:=fun c=>zdg_ c.1 c.2) 2 2 (ze_ zg_) rfl (zD_ zJ_) fun c E=>zhu_ c
theorem zg2_ {K:Fgg}{E:XK}(c:((List (List Nat))×(List Pas))):EvS K (zcn_ K E) E [(Sl.fz (tyL tyStr) c.1),(Sl.fz (tyL tyPass) c.2),Sl.dead,Sl.dead] (zcW_ c.1 c.2) (fun _:Unit=>[]) (fun _:Unit=>[]) (owL tyStr) :=
 (zaS_ (i:=2) rfl (za0_ zA_) (ze7_ zfR_ (zf_ (zc_ 0 rfl))) fun gone_1=>(at_ [(Sl.fz (tyL tyStr) c.1),(Sl.fz (tyL tyPass) c.2),(Sl.ow (owL tyStr) gone_1),Sl.dead] (zbn_ (LS:=(fun s_3:(List (List Nat))=>[(Sl.fz (tyL tyStr) c.1),(Sl.fz (tyL tyPass) c.2),(Sl.ow (owL tyStr) s_3),Sl.dead])) (zb4_ (L':=[(Sl.fz (tyL tyStr) c.1),(Sl.fz (tyL tyPass) c.2),(Sl.ow (owL tyStr) gone_1),Sl.dead]) (S4 .nil) (zfV_ (LS:=(fun s_3:(List (List Nat))=>[(Sl.fz (tyL tyStr) c.1),(Sl.fz (tyL tyPass) c.2),(Sl.ow (owL tyStr) s_3),Sl.dead])) (s0:=gone_1) (ei_l (zc_ 1 rfl)) (zaE_ 3) fun s_3 x_4=>at_ [(Sl.fz (tyL tyStr) c.1),(Sl.fz (tyL tyPass) c.2),(Sl.ow (owL tyStr) s_3),(Sl.fz tyPass x_4)] (zcX_ (zbn_ (LS:=(fun s_9:(List (List Nat))=>[(Sl.fz (tyL tyStr) c.1),(Sl.fz (tyL tyPass) c.2),(Sl.ow (owL tyStr) s_9),(Sl.fz tyPass x_4)])) (s_if (zI_ (zx_ zdA_ (zb9_ (zc_ 3 rfl)) (zaH_ [100,101,97,108]))) (zcX_ (zaS_ (i:=2) rfl (za0_ zA_) (ziX_ (zk_ (zbc_ 2 rfl) (zf_ (EvO.fr (zeB_ zg_ zbG_ (zf_ (zcf_ (zc_ 3 rfl)))))))) fun gone_10=>(at_ [(Sl.fz (tyL tyStr) c.1),(Sl.fz (tyL tyPass) c.2),(Sl.ow (owL tyStr) gone_10),(Sl.fz tyPass x_4)] (zm_ (S4 .nil))))) (zcX_ (zaS_ (i:=2) rfl (za0_ zA_) (zic_ (ei_l (zbc_ 2 rfl)) (zaE_ 0) (fun _=>dead1) (fun x_17=>(zI_ (zx_ zdA_ (zp_ (zk_ (zc_ 0 rfl) (zf_ (zcf_ (zc_ 1 rfl))))) (zeW_ (zc_ 1 rfl))))) (fun x_17=>(zc_ 0 rfl))) fun gone_16=>(at_ [(Sl.fz (tyL tyStr) c.1),(Sl.fz (tyL tyPass) c.2),(Sl.ow (owL tyStr) gone_16),(Sl.fz tyPass x_4)] (zm_ (S4 .nil)))))) fun s_9=>(at_ [(Sl.fz (tyL tyStr) c.1),(Sl.fz (tyL tyPass) c.2),(Sl.ow (owL tyStr) s_9),(Sl.fz tyPass x_4)] (zm_ (.same (.same (.same (.dead .nil)))))))))) fun s_3=>(at_ [(Sl.fz (tyL tyStr) c.1),(Sl.fz (tyL tyPass) c.2),(Sl.ow (owL tyStr) s_3),Sl.dead] (zfC_ (i:=2) rfl)))))
theorem zgZ_ {K:Fgg}(FX:Fx K):RD_pass_all K:=zdt_ (K:=K) (N:=["deck", "row", "gone", "step"]) (C:=(csCons (tyL tyStr) (csLast (tyL tyPass)))) (O:=(owL tyStr)) (t:=fun E=>zcn_ K E) (ss:=fun c=>[(Sl.fz (tyL tyStr) c.1),(Sl.fz (tyL tyPass) c.2)]) (f:=fun c=>zcW_ c.1 c.2) 2 2 (ze_ zg_) rfl (zD_ zJ_) fun c E=>zg2_ c
theorem zg9_ {K:Fgg}{E:XK}(c:((List (List Nat))×Pas)):EvS K (zci_ K) E [(Sl.fz (tyL tyStr) c.1),(Sl.fz tyPass c.2),Sl.dead,Sl.dead,Sl.dead,Sl.dead] (zc1_ c.1 c.2) (fun _:Unit=>[]) (fun _:Unit=>[]) (owL tyStr) :=
 (zdj_ (i:=2) rfl zP_ (zx_ zfx_ (zcf_ (zc_ 1 rfl)) (zl_ 1)) fun at_1=>(at_ [(Sl.fz (tyL tyStr) c.1),(Sl.fz tyPass c.2),(Sl.fz tyInt at_1),Sl.dead,Sl.dead,Sl.dead] (zbn_ (LS:=(fun _:Unit=>[(Sl.fz (tyL tyStr) c.1),(Sl.fz tyPass c.2),(Sl.fz tyInt at_1),Sl.dead,Sl.dead,Sl.dead])) (s_if (zI_ (zx_ zdA_ (zb9_ (zc_ 1 rfl)) (zaH_ [112,105,99,107]))) (zdr_ (za0_ zA_) (zic_ (ei_l (zc_ 0 rfl)) (zaE_ 0) (fun _=>dead1) (fun x_10=>(zI_ (zx_ zdA_ (zx_ zfb_ (zc_ 0 rfl) (zc_ 1 rfl)) (zeW_ (zc_ 2 rfl))))) (fun x_10=>(zc_ 0 rfl)))) (zm_ (S4 (.same (.same .nil))))) fun _=>(at_ [(Sl.fz (tyL tyStr) c.1),(Sl.fz tyPass c.2),(Sl.fz tyInt at_1),Sl.dead,Sl.dead,Sl.dead] (zaS_ (i:=3) rfl (za0_ zA_) (zcQ_ tyStr) fun found_18=>(at_ [(Sl.fz (tyL tyStr) c.1),(Sl.fz tyPass c.2),(Sl.fz tyInt at_1),(Sl.ow (owL tyStr) found_18),Sl.dead,Sl.dead] (zbn_ (LS:=(fun s_19:(List (List Nat))=>[(Sl.fz (tyL tyStr) c.1),(Sl.fz tyPass c.2),(Sl.fz tyInt at_1),(Sl.ow (owL tyStr) s_19),Sl.dead,Sl.dead])) (zb4_ (L':=[(Sl.fz (tyL tyStr) c.1),(Sl.fz tyPass c.2),(Sl.fz tyInt at_1),(Sl.ow (owL tyStr) found_18),Sl.dead,Sl.dead]) (S4 (.same (.same .nil))) (zfV_ (LS:=(fun s_19:(List (List Nat))=>[(Sl.fz (tyL tyStr) c.1),(Sl.fz tyPass c.2),(Sl.fz tyInt at_1),(Sl.ow (owL tyStr) s_19),Sl.dead,Sl.dead])) (s0:=found_18) (ei_l (zc_ 0 rfl)) (zaE_ 4) fun s_19 x_20=>at_ [(Sl.fz (tyL tyStr) c.1),(Sl.fz tyPass c.2),(Sl.fz tyInt at_1),(Sl.ow (owL tyStr) s_19),(Sl.fz tyStr x_20),Sl.dead] (zdj_ (i:=5) rfl zP_ (zgv_ zcB_ (zf_ (zbc_ 3 rfl))) fun here_21=>(at_ [(Sl.fz (tyL tyStr) c.1),(Sl.fz tyPass c.2),(Sl.fz tyInt at_1),(Sl.ow (owL tyStr) s_19),(Sl.fz tyStr x_20),(Sl.fz tyInt here_21)] (zbn_ (LS:=(fun s_23:Int=>[(Sl.fz (tyL tyStr) c.1),(Sl.fz tyPass c.2),(Sl.fz tyInt at_1),(Sl.ow (owL tyStr) s_19),(Sl.fz tyStr x_20),(Sl.fz tyInt s_23)])) (zb4_ (L':=[(Sl.fz (tyL tyStr) c.1),(Sl.fz tyPass c.2),(Sl.fz tyInt at_1),(Sl.ow (owL tyStr) s_19),(Sl.fz tyStr x_20),(Sl.fz tyInt here_21)]) (S4 (.same (.same .nil))) (zkX_ (LS:=(fun s_23:Int=>[(Sl.fz (tyL tyStr) c.1),(Sl.fz tyPass c.2),(Sl.fz tyInt at_1),(Sl.ow (owL tyStr) s_19),(Sl.fz tyStr x_20),(Sl.fz tyInt s_23)])) (s0:=here_21) fuelW (fun s_23=>(zdD_ (zI_ (zx_ zjZ_ (zc_ 5 rfl) (zl_ 0))) (zI_ (zx_ znb_ (zx_ zfb_ (zc_ 4 rfl) (zc_ 2 rfl)) (zx_ zfb_ (zx_ zcD_ (zbc_ 3 rfl) (zx_ zfx_ (zc_ 5 rfl) (zl_ 1))) (zc_ 2 rfl)))))) fun s_23=>at_ [(Sl.fz (tyL tyStr) c.1),(Sl.fz tyPass c.2),(Sl.fz tyInt at_1),(Sl.ow (owL tyStr) s_19),(Sl.fz tyStr x_20),(Sl.fz tyInt s_23)] (zcX_ (zdj_ (i:=5) rfl zP_ (zx_ zfx_ (zc_ 5 rfl) (zl_ 1)) fun here_37=>(at_ [(Sl.fz (tyL tyStr) c.1),(Sl.fz tyPass c.2),(Sl.fz tyInt at_1),(Sl.ow (owL tyStr) s_19),(Sl.fz tyStr x_20),(Sl.fz tyInt here_37)] (zm_ (S4 (.same (.same .nil))))))))) fun s_23=>(at_ [(Sl.fz (tyL tyStr) c.1),(Sl.fz tyPass c.2),(Sl.fz tyInt at_1),(Sl.ow (owL tyStr) s_19),(Sl.fz tyStr x_20),(Sl.fz tyInt s_23)] (zcX_ (zlA_ (i:=3) rfl zA_ (zc_ 5 rfl) (zc_ 4 rfl) fun j_40 a_41=>(at_ [(Sl.fz (tyL tyStr) c.1),(Sl.fz tyPass c.2),(Sl.fz tyInt at_1),(Sl.ow (owL tyStr) (insL s_19 j_40 a_41)),(Sl.fz tyStr x_20),(Sl.fz tyInt s_23)] (zm_ (S4 (.dead (.dead .nil))))))))))))) fun s_19=>(at_ [(Sl.fz (tyL tyStr) c.1),(Sl.fz tyPass c.2),(Sl.fz tyInt at_1),(Sl.ow (owL tyStr) s_19),Sl.dead,Sl.dead] (zfC_ (i:=3) rfl)))))))))
theorem zg8_ {K:Fgg}:RD_law_done K:=zdt_ (K:=K) (N:=Qn8) (C:=(csCons (tyL tyStr) (csLast tyPass))) (O:=(owL tyStr)) (t:=fun E=>zci_ K) (ss:=fun c=>[(Sl.fz (tyL tyStr) c.1),(Sl.fz tyPass c.2)]) (f:=fun c=>zc1_ c.1 c.2) 2 4 (ze_ zg_) rfl (zD_ zJ_) fun c E=>zg9_ c
theorem zex_ {K:Fgg}{E:XK}(c:((List (List Nat))×(List Pas))):EvS K (zaI_ K) E [(Sl.fz (tyL tyStr) c.1),(Sl.fz (tyL tyPass) c.2),Sl.dead,Sl.dead] (zbm_ c.1 c.2) (fun _:Unit=>[]) (fun _:Unit=>[]) (owL tyStr) :=
 (zaS_ (i:=2) rfl (za0_ zA_) (ze7_ zfR_ (zf_ (zc_ 0 rfl))) fun found_1=>(at_ [(Sl.fz (tyL tyStr) c.1),(Sl.fz (tyL tyPass) c.2),(Sl.ow (owL tyStr) found_1),Sl.dead] (zbn_ (LS:=(fun s_3:(List (List Nat))=>[(Sl.fz (tyL tyStr) c.1),(Sl.fz (tyL tyPass) c.2),(Sl.ow (owL tyStr) s_3),Sl.dead])) (zb4_ (L':=[(Sl.fz (tyL tyStr) c.1),(Sl.fz (tyL tyPass) c.2),(Sl.ow (owL tyStr) found_1),Sl.dead]) (S4 .nil) (zfV_ (LS:=(fun s_3:(List (List Nat))=>[(Sl.fz (tyL tyStr) c.1),(Sl.fz (tyL tyPass) c.2),(Sl.ow (owL tyStr) s_3),Sl.dead])) (s0:=found_1) (ei_l (zc_ 1 rfl)) (zaE_ 3) fun s_3 x_4=>at_ [(Sl.fz (tyL tyStr) c.1),(Sl.fz (tyL tyPass) c.2),(Sl.ow (owL tyStr) s_3),(Sl.fz tyPass x_4)] (zcX_ (zaS_ (i:=2) rfl (za0_ zA_) (zbd_ (zk_ (zbc_ 2 rfl) (zf_ (zc_ 3 rfl)))) fun found_5=>(at_ [(Sl.fz (tyL tyStr) c.1),(Sl.fz (tyL tyPass) c.2),(Sl.ow (owL tyStr) found_5),(Sl.fz tyPass x_4)] (zm_ (.same (.same (.same (.dead .nil)))))))))) fun s_3=>(at_ [(Sl.fz (tyL tyStr) c.1),(Sl.fz (tyL tyPass) c.2),(Sl.ow (owL tyStr) s_3),Sl.dead] (zfC_ (i:=2) rfl)))))
theorem zew_ {K:Fgg}:RD_law_all_done K:=zdt_ (K:=K) (N:=Qn11) (C:=(csCons (tyL tyStr) (csLast (tyL tyPass)))) (O:=(owL tyStr)) (t:=fun E=>zaI_ K) (ss:=fun c=>[(Sl.fz (tyL tyStr) c.1),(Sl.fz (tyL tyPass) c.2)]) (f:=fun c=>zbm_ c.1 c.2) 2 2 (ze_ zg_) rfl (zD_ zJ_) fun c E=>zex_ c
theorem zf6_ {K:Fgg}{E:XK}(c:((Option (List (List Nat)))×((List (List Nat))×((List Pas)×(List Pas))))):EvS K (zbO_ K) E [(Sl.fz (tyOpt (tyL tyStr)) c.1),(Sl.fz (tyL tyStr) c.2.1),(Sl.fz (tyL tyPass) c.2.2.1),(Sl.fz (tyL tyPass) c.2.2.2),Sl.dead,Sl.dead] (zcv_ c.1 c.2.1 c.2.2.1 c.2.2.2) (fun _:Unit=>[]) (fun _:Unit=>[]) (owF tyBl) :=
 (zaS_ (i:=4) rfl (za0_ zA_) (zbd_ (zk_ (zc_ 1 rfl) (zf_ (zc_ 2 rfl)))) fun here_1=>zio_ (i:=4) rfl (at_ [(Sl.fz (tyOpt (tyL tyStr)) c.1),(Sl.fz (tyL tyStr) c.2.1),(Sl.fz (tyL tyPass) c.2.2.1),(Sl.fz (tyL tyPass) c.2.2.2),(Sl.fz (tyL tyStr) here_1),Sl.dead] (zaS_ (i:=5) rfl (za0_ zA_) (zbd_ (zk_ (zc_ 1 rfl) (zf_ (zc_ 3 rfl)))) fun there_5=>zio_ (i:=5) rfl (at_ [(Sl.fz (tyOpt (tyL tyStr)) c.1),(Sl.fz (tyL tyStr) c.2.1),(Sl.fz (tyL tyPass) c.2.2.1),(Sl.fz (tyL tyPass) c.2.2.2),(Sl.fz (tyL tyStr) here_1),(Sl.fz (tyL tyStr) there_5)] (zbn_ (LS:=(fun _:Unit=>[(Sl.fz (tyOpt (tyL tyStr)) c.1),(Sl.fz (tyL tyStr) c.2.1),(Sl.fz (tyL tyPass) c.2.2.1),(Sl.fz (tyL tyPass) c.2.2.2),(Sl.fz (tyL tyStr) here_1),(Sl.fz (tyL tyStr) there_5)])) (s_if (zjQ_ (zfY_ (zI_ (zj5_ tn_l (zc_ 4 rfl)))) (zfY_ (zI_ (zj5_ tn_l (zc_ 5 rfl))))) (zdr_ (zbk_ zcP_) (EvF.ow (zkS_ false))) (zm_ (S4 (.same (.same .nil))))) fun _=>(at_ [(Sl.fz (tyOpt (tyL tyStr)) c.1),(Sl.fz (tyL tyStr) c.2.1),(Sl.fz (tyL tyPass) c.2.2.1),(Sl.fz (tyL tyPass) c.2.2.2),(Sl.fz (tyL tyStr) here_1),(Sl.fz (tyL tyStr) there_5)] (zbn_ (LS:=(fun _:Unit=>[(Sl.fz (tyOpt (tyL tyStr)) c.1),(Sl.fz (tyL tyStr) c.2.1),(Sl.fz (tyL tyPass) c.2.2.1),(Sl.fz (tyL tyPass) c.2.2.2),(Sl.fz (tyL tyStr) here_1),(Sl.fz (tyL tyStr) there_5)])) (s_if (zjQ_ (zI_ (zx_ (znC_ (zkE_ zgB_)) (zc_ 4 rfl) (EvO.fr (zbd_ (zk_ (zc_ 1 rfl) (zf_ (zc_ 2 rfl))))))) (zI_ (zx_ (znC_ (zkE_ zgB_)) (zc_ 5 rfl) (EvO.fr (zbd_ (zk_ (zc_ 1 rfl) (zf_ (zc_ 3 rfl)))))))) (zdr_ (zbk_ zcP_) (EvF.ow (zkS_ false))) (zm_ (S4 (.same (.same .nil))))) fun _=>(at_ [(Sl.fz (tyOpt (tyL tyStr)) c.1),(Sl.fz (tyL tyStr) c.2.1),(Sl.fz (tyL tyPass) c.2.2.1),(Sl.fz (tyL tyPass) c.2.2.2),(Sl.fz (tyL tyStr) here_1),(Sl.fz (tyL tyStr) there_5)] (zdr_ (zbk_ zcP_) (EvF.ow (zx_ zm6_ (zx_ (zlz_ (zkE_ zgB_)) (zc_ 4 rfl) (zc_ 5 rfl)) (zx_ zcg_ (zc_ 0 rfl) zdC_))))))))))))
theorem zf3_ {K:Fgg}:RD_law_alike K:=zdt_ (K:=K) (N:=Qn6) (C:=(csCons (tyOpt (tyL tyStr)) (csCons (tyL tyStr) (csCons (tyL tyPass) (csLast (tyL tyPass)))))) (O:=(owF tyBl)) (t:=fun E=>zbO_ K) (ss:=fun c=>[(Sl.fz (tyOpt (tyL tyStr)) c.1),(Sl.fz (tyL tyStr) c.2.1),(Sl.fz (tyL tyPass) c.2.2.1),(Sl.fz (tyL tyPass) c.2.2.2)]) (f:=fun c=>zcv_ c.1 c.2.1 c.2.2.1 c.2.2.2) 4 2 (ze_ (ze_ (ze_ zg_))) rfl (zD_ (zD_ (zD_ zJ_))) fun c E=>zf6_ c
theorem zin_ {K:Fgg}{E:XK}(c:((Option (List (List Nat)))×((List Pas)×(List Pas)))):EvS K (zdc_ K) E [(Sl.fz (tyOpt (tyL tyStr)) c.1),(Sl.fz (tyL tyPass) c.2.1),(Sl.fz (tyL tyPass) c.2.2),Sl.dead] (zdO_ c.1 c.2.1 c.2.2) (fun _:Unit=>[]) (fun _:Unit=>[]) (owF tyBl) :=
 (zbn_ (LS:=(fun _:Unit=>[(Sl.fz (tyOpt (tyL tyStr)) c.1),(Sl.fz (tyL tyPass) c.2.1),(Sl.fz (tyL tyPass) c.2.2),Sl.dead])) (s_if (zI_ (zx_ zcg_ (zc_ 0 rfl) zdC_)) (zdr_ (zbk_ zcP_) (EvF.ow (zkS_ true))) (zm_ (S4 .nil))) fun _=>(at_ [(Sl.fz (tyOpt (tyL tyStr)) c.1),(Sl.fz (tyL tyPass) c.2.1),(Sl.fz (tyL tyPass) c.2.2),Sl.dead] (zfD_ (T:=(tyL tyStr)) (i:=0) rfl fun found_6=>at_ [(Sl.fz (tyL tyStr) found_6),(Sl.fz (tyL tyPass) c.2.1),(Sl.fz (tyL tyPass) c.2.2),Sl.dead] (zbn_ (LS:=(fun _:Unit=>[(Sl.fz (tyL tyStr) found_6),(Sl.fz (tyL tyPass) c.2.1),(Sl.fz (tyL tyPass) c.2.2),Sl.dead])) (s_if (zjQ_ (zfY_ (zI_ (zj5_ tn_l (zc_ 0 rfl)))) (zjQ_ (zI_ (zx_ zfo_ (zgv_ zcB_ (zf_ (zc_ 0 rfl))) (zl_ 1))) (zI_ (zx_ zjZ_ (zgv_ zcB_ (zf_ (zc_ 0 rfl))) (zl_ 2))))) (zdr_ (zbk_ zcP_) (EvF.ow (zkS_ false))) (zm_ (S4 .nil))) fun _=>(at_ [(Sl.fz (tyL tyStr) found_6),(Sl.fz (tyL tyPass) c.2.1),(Sl.fz (tyL tyPass) c.2.2),Sl.dead] (zbn_ (LS:=(fun _:Unit=>[(Sl.fz (tyL tyStr) found_6),(Sl.fz (tyL tyPass) c.2.1),(Sl.fz (tyL tyPass) c.2.2),Sl.dead])) (zb4_ (L':=[(Sl.fz (tyL tyStr) found_6),(Sl.fz (tyL tyPass) c.2.1),(Sl.fz (tyL tyPass) c.2.2),Sl.dead]) (S4 .nil) (zfV_ (LS:=(fun _:Unit=>[(Sl.fz (tyL tyStr) found_6),(Sl.fz (tyL tyPass) c.2.1),(Sl.fz (tyL tyPass) c.2.2),Sl.dead])) (s0:=()) (ei_l (zc_ 0 rfl)) (zaE_ 3) fun _ x_21=>at_ [(Sl.fz (tyL tyStr) found_6),(Sl.fz (tyL tyPass) c.2.1),(Sl.fz (tyL tyPass) c.2.2),(Sl.fz tyStr x_21)] (s_if (zjQ_ (zfY_ (zI_ (zj5_ zn7_ (zc_ 3 rfl)))) (zI_ (zx_ zou_ (zgv_ zkx_ (zf_ (zc_ 3 rfl))) (zl_ 40)))) (zdr_ (zbk_ zcP_) (EvF.ow (zkS_ false))) (zm_ (.same (.same (.same (.dead .nil)))))))) fun _=>(at_ [(Sl.fz (tyL tyStr) found_6),(Sl.fz (tyL tyPass) c.2.1),(Sl.fz (tyL tyPass) c.2.2),Sl.dead] (zbn_ (LS:=(fun _:Unit=>[(Sl.fz (tyL tyStr) found_6),(Sl.fz (tyL tyPass) c.2.1),(Sl.fz (tyL tyPass) c.2.2),Sl.dead])) (s_if (zdD_ (zI_ (zx_ ze4_ (zgv_ zcB_ (zf_ (zc_ 0 rfl))) (zl_ 2))) (zI_ (zx_ zdA_ (znF_ (zx_ zcD_ (zc_ 0 rfl) (zl_ 0)) (zhD_ (zl_ 36)) zkQ_) (znF_ (zx_ zcD_ (zc_ 0 rfl) (zl_ 1)) (zhD_ (zl_ 36)) zkQ_)))) (zdr_ (zbk_ zcP_) (EvF.ow (zkS_ false))) (zm_ (S4 .nil))) fun _=>(at_ [(Sl.fz (tyL tyStr) found_6),(Sl.fz (tyL tyPass) c.2.1),(Sl.fz (tyL tyPass) c.2.2),Sl.dead] (zdr_ (zbk_ zcP_) (EvF.ow (zp_ (zk_ (zcT_ (fun _ _ _=>nn_l) (zc_ 0 rfl)) (zk_ (zc_ 0 rfl) (zk_ (zc_ 1 rfl) (zf_ (zc_ 2 rfl)))))))))))))))))
theorem zh0_ {K:Fgg}:RD_law_two K:=zdt_ (K:=K) (N:=Qn13) (C:=(csCons (tyOpt (tyL tyStr)) (csCons (tyL tyPass) (csLast (tyL tyPass))))) (O:=(owF tyBl)) (t:=fun E=>zdc_ K) (ss:=fun c=>[(Sl.fz (tyOpt (tyL tyStr)) c.1),(Sl.fz (tyL tyPass) c.2.1),(Sl.fz (tyL tyPass) c.2.2)]) (f:=fun c=>zdO_ c.1 c.2.1 c.2.2) 3 1 (ze_ (ze_ zg_)) rfl (zD_ (zD_ zJ_)) fun c E=>zin_ c
theorem zgX_ {K:Fgg}{E:XK}(c:(Int×((List Nat)×(Int×(Int×Int))))):EvS K (zcd_ K) E [(Sl.fz tyInt c.1),(Sl.fz tyStr c.2.1),(Sl.fz tyInt c.2.2.1),(Sl.fz tyInt c.2.2.2.1),(Sl.fz tyInt c.2.2.2.2),Sl.dead,Sl.dead,Sl.dead] (zc6_ c.1 c.2.1 c.2.2.1 c.2.2.2.1 c.2.2.2.2) (fun _:Unit=>[]) (fun _:Unit=>[]) (owF tyPass) :=
 (zdj_ (i:=5) rfl zA_ (zaH_ SG) fun signs_1=>(at_ [(Sl.fz tyInt c.1),(Sl.fz tyStr c.2.1),(Sl.fz tyInt c.2.2.1),(Sl.fz tyInt c.2.2.2.1),(Sl.fz tyInt c.2.2.2.2),(Sl.fz tyStr signs_1),Sl.dead,Sl.dead] (zdj_ (i:=6) rfl zP_ (zx_ zbN_ (zx_ zam_ (zc_ 0 rfl) (zl_ 2147483647)) (zl_ 69621)) fun number_2=>(at_ [(Sl.fz tyInt c.1),(Sl.fz tyStr c.2.1),(Sl.fz tyInt c.2.2.1),(Sl.fz tyInt c.2.2.2.1),(Sl.fz tyInt c.2.2.2.2),(Sl.fz tyStr signs_1),(Sl.fz tyInt number_2),Sl.dead] (zdj_ (i:=6) rfl zP_ (zx_ zam_ (zx_ zei_ (zc_ 6 rfl) (zc_ 6 rfl)) (zl_ 2147483629)) fun number_7=>(at_ [(Sl.fz tyInt c.1),(Sl.fz tyStr c.2.1),(Sl.fz tyInt c.2.2.1),(Sl.fz tyInt c.2.2.2.1),(Sl.fz tyInt c.2.2.2.2),(Sl.fz tyStr signs_1),(Sl.fz tyInt number_7),Sl.dead] (zdj_ (i:=7) rfl zP_ (zx_ zbN_ (zl_ 1) (zx_ zam_ (zx_ zbN_ (zc_ 2 rfl) (zx_ zam_ (zx_ zbX_ (zc_ 6 rfl) (zl_ 8)) (zc_ 3 rfl))) (zl_ 36))) fun column_12=>(at_ [(Sl.fz tyInt c.1),(Sl.fz tyStr c.2.1),(Sl.fz tyInt c.2.2.1),(Sl.fz tyInt c.2.2.2.1),(Sl.fz tyInt c.2.2.2.2),(Sl.fz tyStr signs_1),(Sl.fz tyInt number_7),(Sl.fz tyInt column_12)] (zbn_ (LS:=(fun _:Unit=>[(Sl.fz tyInt c.1),(Sl.fz tyStr c.2.1),(Sl.fz tyInt c.2.2.1),(Sl.fz tyInt c.2.2.2.1),(Sl.fz tyInt c.2.2.2.2),(Sl.fz tyStr signs_1),(Sl.fz tyInt number_7),(Sl.fz tyInt column_12)])) (s_if (zI_ (zx_ zoj_ (zx_ zam_ (zc_ 6 rfl) (zl_ 8)) (zc_ 4 rfl))) (zdr_ (zbk_ zaD_) (EvF.ow (zkv_ (zc_ 7 rfl)))) (zm_ (S4 (S4 .nil)))) fun _=>(at_ [(Sl.fz tyInt c.1),(Sl.fz tyStr c.2.1),(Sl.fz tyInt c.2.2.1),(Sl.fz tyInt c.2.2.2.1),(Sl.fz tyInt c.2.2.2.2),(Sl.fz tyStr signs_1),(Sl.fz tyInt number_7),(Sl.fz tyInt column_12)] (zbn_ (LS:=(fun _:Unit=>[(Sl.fz tyInt c.1),(Sl.fz tyStr c.2.1),(Sl.fz tyInt c.2.2.1),(Sl.fz tyInt c.2.2.2.1),(Sl.fz tyInt c.2.2.2.2),(Sl.fz tyStr signs_1),(Sl.fz tyInt number_7),(Sl.fz tyInt column_12)])) (s_if (zI_ (zx_ ze4_ (zx_ zam_ (zx_ zbX_ (zc_ 6 rfl) (zl_ 512)) (zl_ 7)) (zl_ 1))) (zdr_ (zbk_ zaD_) (EvF.ow (zkT_ (zc_ 7 rfl) (zx_ zfb_ (zc_ 5 rfl) (zx_ zam_ (zx_ zbX_ (zc_ 6 rfl) (zl_ 4096)) (zl_ 37)))))) (zm_ (S4 (S4 .nil)))) fun _=>(at_ [(Sl.fz tyInt c.1),(Sl.fz tyStr c.2.1),(Sl.fz tyInt c.2.2.1),(Sl.fz tyInt c.2.2.2.1),(Sl.fz tyInt c.2.2.2.2),(Sl.fz tyStr signs_1),(Sl.fz tyInt number_7),(Sl.fz tyInt column_12)] (zdr_ (zbk_ zaD_) (EvF.ow (zkT_ (zc_ 7 rfl) (zx_ zfb_ (zc_ 1 rfl) (zx_ zfx_ (zc_ 7 rfl) (zl_ 1))))))))))))))))))
theorem zhx_ {K:Fgg}:RD_law_pass K:=zdt_ (K:=K) (N:=Qn2) (C:=(csCons tyInt (csCons tyStr (csCons tyInt (csCons tyInt (csLast tyInt)))))) (O:=(owF tyPass)) (t:=fun E=>zcd_ K) (ss:=fun c=>[(Sl.fz tyInt c.1),(Sl.fz tyStr c.2.1),(Sl.fz tyInt c.2.2.1),(Sl.fz tyInt c.2.2.2.1),(Sl.fz tyInt c.2.2.2.2)]) (f:=fun c=>zc6_ c.1 c.2.1 c.2.2.1 c.2.2.2.1 c.2.2.2.2) 5 3 (ze_ (ze_ (ze_ (ze_ zg_)))) rfl (zD_ (zD_ (zD_ (zD_ zJ_)))) fun c E=>zgX_ c
theorem znW_ {K:Fgg}{E:XK}(c:(List Int)):EvS K (znj_ K) E [(Sl.fz (tySc K) c),Sl.dead,Sl.dead,Sl.dead,Sl.dead,Sl.dead,Sl.dead,Sl.dead,Sl.dead,Sl.dead,Sl.dead,Sl.dead,Sl.dead,Sl.dead,Sl.dead,Sl.dead] (znI_ c) (fun _:Unit=>[]) (fun _:Unit=>[]) (owF tyBl) :=
 (zdj_ (i:=1) rfl zP_ (zx_ zam_ (zp_ (zk_ (zc_ 0 rfl) (zf_ (zl_ 0)))) (zl_ 7)) fun many_1=>(at_ [(Sl.fz (tySc K) c),(Sl.fz tyInt many_1),Sl.dead,Sl.dead,Sl.dead,Sl.dead,Sl.dead,Sl.dead,Sl.dead,Sl.dead,Sl.dead,Sl.dead,Sl.dead,Sl.dead,Sl.dead,Sl.dead] (zdj_ (i:=2) rfl zP_ (zx_ zcD_ (EvO.fr (zeB_ (ze_ (ze_ (ze_ zg_))) (zb2_ (zb2_ (zb2_ zbG_))) (zk_ (zl_ 2) (zk_ (zl_ 3) (zk_ (zl_ 1) (zf_ (zl_ 37))))))) (zx_ zam_ (zp_ (zk_ (zc_ 0 rfl) (zf_ (zl_ 2)))) (zl_ 4))) fun spread_7=>(at_ [(Sl.fz (tySc K) c),(Sl.fz tyInt many_1),(Sl.fz tyInt spread_7),Sl.dead,Sl.dead,Sl.dead,Sl.dead,Sl.dead,Sl.dead,Sl.dead,Sl.dead,Sl.dead,Sl.dead,Sl.dead,Sl.dead,Sl.dead] (zdj_ (i:=3) rfl zP_ (zx_ zam_ (zx_ zbX_ (zp_ (zk_ (zc_ 0 rfl) (zf_ (zl_ 2)))) (zl_ 4)) (zl_ 36)) fun start_22=>(at_ [(Sl.fz (tySc K) c),(Sl.fz tyInt many_1),(Sl.fz tyInt spread_7),(Sl.fz tyInt start_22),Sl.dead,Sl.dead,Sl.dead,Sl.dead,Sl.dead,Sl.dead,Sl.dead,Sl.dead,Sl.dead,Sl.dead,Sl.dead,Sl.dead] (zaS_ (i:=4) rfl (za0_ zA_) (zbd_ (zk_ (zp_ (zk_ (zc_ 0 rfl) (zf_ (zl_ 1)))) (zk_ (zc_ 1 rfl) (zf_ (zc_ 2 rfl))))) fun deck_here_30=>zio_ (i:=4) rfl (at_ [(Sl.fz (tySc K) c),(Sl.fz tyInt many_1),(Sl.fz tyInt spread_7),(Sl.fz tyInt start_22),(Sl.fz (tyL tyStr) deck_here_30),Sl.dead,Sl.dead,Sl.dead,Sl.dead,Sl.dead,Sl.dead,Sl.dead,Sl.dead,Sl.dead,Sl.dead,Sl.dead] (zdj_ (i:=5) rfl zA_ (zx_ zcD_ (EvO.fr (zi3_ zgE_ (zc_ 4 rfl) (EvO.fr (zeB_ zg_ zbG_ (zf_ (zx_ zk8_ (zaH_ [32]) (zl_ 40))))))) (zl_ 0)) fun hero_39=>(at_ [(Sl.fz (tySc K) c),(Sl.fz tyInt many_1),(Sl.fz tyInt spread_7),(Sl.fz tyInt start_22),(Sl.fz (tyL tyStr) deck_here_30),(Sl.fz tyStr hero_39),Sl.dead,Sl.dead,Sl.dead,Sl.dead,Sl.dead,Sl.dead,Sl.dead,Sl.dead,Sl.dead,Sl.dead] (zdj_ (i:=6) rfl zP_ (zp_ (zk_ (zc_ 0 rfl) (zf_ (zl_ 3)))) fun ways_47=>(at_ [(Sl.fz (tySc K) c),(Sl.fz tyInt many_1),(Sl.fz tyInt spread_7),(Sl.fz tyInt start_22),(Sl.fz (tyL tyStr) deck_here_30),(Sl.fz tyStr hero_39),(Sl.fz tyInt ways_47),Sl.dead,Sl.dead,Sl.dead,Sl.dead,Sl.dead,Sl.dead,Sl.dead,Sl.dead,Sl.dead] (zdj_ (i:=7) rfl zP_ (zx_ zcD_ (EvO.fr (zeB_ (ze_ (ze_ (ze_ zg_))) (zb2_ (zb2_ (zb2_ zbG_))) (zk_ (zl_ 2) (zk_ (zl_ 1) (zk_ (zl_ 4) (zf_ (zl_ 36))))))) (zx_ zam_ (zc_ 6 rfl) (zl_ 4))) fun reach_51=>(at_ [(Sl.fz (tySc K) c),(Sl.fz tyInt many_1),(Sl.fz tyInt spread_7),(Sl.fz tyInt start_22),(Sl.fz (tyL tyStr) deck_here_30),(Sl.fz tyStr hero_39),(Sl.fz tyInt ways_47),(Sl.fz tyInt reach_51),Sl.dead,Sl.dead,Sl.dead,Sl.dead,Sl.dead,Sl.dead,Sl.dead,Sl.dead] (zaS_ (i:=8) rfl (za0_ zaD_) (zcQ_ tyPass) fun row_63=>(at_ [(Sl.fz (tySc K) c),(Sl.fz tyInt many_1),(Sl.fz tyInt spread_7),(Sl.fz tyInt start_22),(Sl.fz (tyL tyStr) deck_here_30),(Sl.fz tyStr hero_39),(Sl.fz tyInt ways_47),(Sl.fz tyInt reach_51),(Sl.ow (owL tyPass) row_63),Sl.dead,Sl.dead,Sl.dead,Sl.dead,Sl.dead,Sl.dead,Sl.dead] (zbn_ (LS:=(fun s_64:(List Pas)=>[(Sl.fz (tySc K) c),(Sl.fz tyInt many_1),(Sl.fz tyInt spread_7),(Sl.fz tyInt start_22),(Sl.fz (tyL tyStr) deck_here_30),(Sl.fz tyStr hero_39),(Sl.fz tyInt ways_47),(Sl.fz tyInt reach_51),(Sl.ow (owL tyPass) s_64),Sl.dead,Sl.dead,Sl.dead,Sl.dead,Sl.dead,Sl.dead,Sl.dead])) (zb4_ (L':=[(Sl.fz (tySc K) c),(Sl.fz tyInt many_1),(Sl.fz tyInt spread_7),(Sl.fz tyInt start_22),(Sl.fz (tyL tyStr) deck_here_30),(Sl.fz tyStr hero_39),(Sl.fz tyInt ways_47),(Sl.fz tyInt reach_51),(Sl.ow (owL tyPass) row_63),Sl.dead,Sl.dead,Sl.dead,Sl.dead,Sl.dead,Sl.dead,Sl.dead]) (S4 (S4 (S4 (S4 .nil)))) (zfV_ (LS:=(fun s_64:(List Pas)=>[(Sl.fz (tySc K) c),(Sl.fz tyInt many_1),(Sl.fz tyInt spread_7),(Sl.fz tyInt start_22),(Sl.fz (tyL tyStr) deck_here_30),(Sl.fz tyStr hero_39),(Sl.fz tyInt ways_47),(Sl.fz tyInt reach_51),(Sl.ow (owL tyPass) s_64),Sl.dead,Sl.dead,Sl.dead,Sl.dead,Sl.dead,Sl.dead,Sl.dead])) (s0:=row_63) (ei_l (EvO.fr (zkJ_ (zc_ 0 rfl) (zhD_ (zl_ 5)) (zhD_ (zl_ 55))))) (zaE_ 9) fun s_64 x_70=>at_ [(Sl.fz (tySc K) c),(Sl.fz tyInt many_1),(Sl.fz tyInt spread_7),(Sl.fz tyInt start_22),(Sl.fz (tyL tyStr) deck_here_30),(Sl.fz tyStr hero_39),(Sl.fz tyInt ways_47),(Sl.fz tyInt reach_51),(Sl.ow (owL tyPass) s_64),(Sl.fz tyInt x_70),Sl.dead,Sl.dead,Sl.dead,Sl.dead,Sl.dead,Sl.dead] (zcX_ (zcI_ (i:=8) rfl zaD_ (zp_ (zk_ (zc_ 9 rfl) (zk_ (zc_ 5 rfl) (zk_ (zc_ 3 rfl) (zk_ (zc_ 7 rfl) (zf_ (zx_ zcD_ (EvO.fr (zeB_ (ze_ (ze_ zg_)) (zb2_ (zb2_ zbG_)) (zk_ (zl_ 2) (zk_ (zl_ 0) (zf_ (zl_ 4)))))) (zx_ zam_ (zx_ zbX_ (zc_ 6 rfl) (zl_ 4)) (zl_ 3))))))))) fun a_91=>(at_ [(Sl.fz (tySc K) c),(Sl.fz tyInt many_1),(Sl.fz tyInt spread_7),(Sl.fz tyInt start_22),(Sl.fz (tyL tyStr) deck_here_30),(Sl.fz tyStr hero_39),(Sl.fz tyInt ways_47),(Sl.fz tyInt reach_51),(Sl.ow (owL tyPass) (s_64++[a_91])),(Sl.fz tyInt x_70),Sl.dead,Sl.dead,Sl.dead,Sl.dead,Sl.dead,Sl.dead] (zm_ (S4 (S4 (.same (.dead (S4 (.same (.same .nil))))))))))))) fun s_64=>(at_ [(Sl.fz (tySc K) c),(Sl.fz tyInt many_1),(Sl.fz tyInt spread_7),(Sl.fz tyInt start_22),(Sl.fz (tyL tyStr) deck_here_30),(Sl.fz tyStr hero_39),(Sl.fz tyInt ways_47),(Sl.fz tyInt reach_51),(Sl.ow (owL tyPass) s_64),Sl.dead,Sl.dead,Sl.dead,Sl.dead,Sl.dead,Sl.dead,Sl.dead] (zdj_ (i:=10) rfl zcP_ (zx_ ze4_ (zx_ zam_ (zp_ (zk_ (zc_ 0 rfl) (zf_ (zl_ 4)))) (zl_ 2)) (zl_ 0)) fun made_93=>(at_ [(Sl.fz (tySc K) c),(Sl.fz tyInt many_1),(Sl.fz tyInt spread_7),(Sl.fz tyInt start_22),(Sl.fz (tyL tyStr) deck_here_30),(Sl.fz tyStr hero_39),(Sl.fz tyInt ways_47),(Sl.fz tyInt reach_51),(Sl.ow (owL tyPass) s_64),Sl.dead,(Sl.fz tyBl made_93),Sl.dead,Sl.dead,Sl.dead,Sl.dead,Sl.dead] (zdj_ (i:=11) rfl zP_ (zx_ zam_ (zx_ zbX_ (zp_ (zk_ (zc_ 0 rfl) (zf_ (zl_ 4)))) (zl_ 4)) (zx_ zbN_ (zgv_ zcB_ (zf_ (zbc_ 8 rfl))) (zl_ 1))) fun at_101=>(at_ [(Sl.fz (tySc K) c),(Sl.fz tyInt many_1),(Sl.fz tyInt spread_7),(Sl.fz tyInt start_22),(Sl.fz (tyL tyStr) deck_here_30),(Sl.fz tyStr hero_39),(Sl.fz tyInt ways_47),(Sl.fz tyInt reach_51),(Sl.ow (owL tyPass) s_64),Sl.dead,(Sl.fz tyBl made_93),(Sl.fz tyInt at_101),Sl.dead,Sl.dead,Sl.dead,Sl.dead] (zaS_ (i:=12) rfl (za0_ zaD_) (zi3_ zgE_ (EvO.fr (zhn_ (zbc_ 8 rfl) (zhD_ (zc_ 11 rfl)) zkQ_)) (EvO.fr (zhn_ (zbc_ 8 rfl) zkQ_ (zhD_ (zc_ 11 rfl))))) fun other_112=>zio_ (i:=12) rfl (at_ [(Sl.fz (tySc K) c),(Sl.fz tyInt many_1),(Sl.fz tyInt spread_7),(Sl.fz tyInt start_22),(Sl.fz (tyL tyStr) deck_here_30),(Sl.fz tyStr hero_39),(Sl.fz tyInt ways_47),(Sl.fz tyInt reach_51),(Sl.ow (owL tyPass) s_64),Sl.dead,(Sl.fz tyBl made_93),(Sl.fz tyInt at_101),(Sl.fz (tyL tyPass) other_112),Sl.dead,Sl.dead,Sl.dead] (zbn_ (LS:=(fun s_131:(List Pas)=>[(Sl.fz (tySc K) c),(Sl.fz tyInt many_1),(Sl.fz tyInt spread_7),(Sl.fz tyInt start_22),(Sl.fz (tyL tyStr) deck_here_30),(Sl.fz tyStr hero_39),(Sl.fz tyInt ways_47),(Sl.fz tyInt reach_51),(Sl.ow (owL tyPass) s_64),Sl.dead,(Sl.fz tyBl made_93),(Sl.fz tyInt at_101),(Sl.fz (tyL tyPass) s_131),Sl.dead,Sl.dead,Sl.dead])) (s_if (zI_ (zx_ ze4_ (zx_ zam_ (zp_ (zk_ (zc_ 0 rfl) (zf_ (zl_ 4)))) (zl_ 4)) (zl_ 3))) (zcX_ (zaS_ (i:=12) rfl (za0_ zaD_) (zi3_ zgE_ (EvO.fr (znM_ (EvO.fr (zhn_ (zbc_ 8 rfl) zkQ_ (zhD_ (zc_ 11 rfl)))) (zhD_ (zoC_ (zl_ 1))))) (EvO.fr (zhn_ (zbc_ 8 rfl) (zhD_ (zc_ 11 rfl)) zkQ_))) fun other_132=>zio_ (i:=12) rfl (at_ [(Sl.fz (tySc K) c),(Sl.fz tyInt many_1),(Sl.fz tyInt spread_7),(Sl.fz tyInt start_22),(Sl.fz (tyL tyStr) deck_here_30),(Sl.fz tyStr hero_39),(Sl.fz tyInt ways_47),(Sl.fz tyInt reach_51),(Sl.ow (owL tyPass) s_64),Sl.dead,(Sl.fz tyBl made_93),(Sl.fz tyInt at_101),(Sl.fz (tyL tyPass) other_132),Sl.dead,Sl.dead,Sl.dead] (zm_ (S4 (S4 (S4 (S4 .nil)))))))) (zm_ (S4 (S4 (S4 (S4 .nil)))))) fun s_131=>(at_ [(Sl.fz (tySc K) c),(Sl.fz tyInt many_1),(Sl.fz tyInt spread_7),(Sl.fz tyInt start_22),(Sl.fz (tyL tyStr) deck_here_30),(Sl.fz tyStr hero_39),(Sl.fz tyInt ways_47),(Sl.fz tyInt reach_51),(Sl.ow (owL tyPass) s_64),Sl.dead,(Sl.fz tyBl made_93),(Sl.fz tyInt at_101),(Sl.fz (tyL tyPass) s_131),Sl.dead,Sl.dead,Sl.dead] (zbn_ (LS:=(fun s_145:(List Pas)=>[(Sl.fz (tySc K) c),(Sl.fz tyInt many_1),(Sl.fz tyInt spread_7),(Sl.fz tyInt start_22),(Sl.fz (tyL tyStr) deck_here_30),(Sl.fz tyStr hero_39),(Sl.fz tyInt ways_47),(Sl.fz tyInt reach_51),(Sl.ow (owL tyPass) s_64),Sl.dead,(Sl.fz tyBl made_93),(Sl.fz tyInt at_101),(Sl.fz (tyL tyPass) s_145),Sl.dead,Sl.dead,Sl.dead])) (s_if (zmB_ (zc_ 10 rfl)) (zcX_ (zaS_ (i:=12) rfl (za0_ zaD_) (zbd_ (zk_ (zbc_ 8 rfl) (zf_ (EvO.fr (zkJ_ (zc_ 0 rfl) (zhD_ (zl_ 5)) (zhD_ (zl_ 55))))))) fun other_146=>zio_ (i:=12) rfl (at_ [(Sl.fz (tySc K) c),(Sl.fz tyInt many_1),(Sl.fz tyInt spread_7),(Sl.fz tyInt start_22),(Sl.fz (tyL tyStr) deck_here_30),(Sl.fz tyStr hero_39),(Sl.fz tyInt ways_47),(Sl.fz tyInt reach_51),(Sl.ow (owL tyPass) s_64),Sl.dead,(Sl.fz tyBl made_93),(Sl.fz tyInt at_101),(Sl.fz (tyL tyPass) other_146),Sl.dead,Sl.dead,Sl.dead] (zm_ (S4 (S4 (S4 (S4 .nil)))))))) (zm_ (S4 (S4 (S4 (S4 .nil)))))) fun s_145=>(at_ [(Sl.fz (tySc K) c),(Sl.fz tyInt many_1),(Sl.fz tyInt spread_7),(Sl.fz tyInt start_22),(Sl.fz (tyL tyStr) deck_here_30),(Sl.fz tyStr hero_39),(Sl.fz tyInt ways_47),(Sl.fz tyInt reach_51),(Sl.ow (owL tyPass) s_64),Sl.dead,(Sl.fz tyBl made_93),(Sl.fz tyInt at_101),(Sl.fz (tyL tyPass) s_145),Sl.dead,Sl.dead,Sl.dead] (zio_ (i:=8) rfl (at_ [(Sl.fz (tySc K) c),(Sl.fz tyInt many_1),(Sl.fz tyInt spread_7),(Sl.fz tyInt start_22),(Sl.fz (tyL tyStr) deck_here_30),(Sl.fz tyStr hero_39),(Sl.fz tyInt ways_47),(Sl.fz tyInt reach_51),(Sl.fz (tyL tyPass) s_64),Sl.dead,(Sl.fz tyBl made_93),(Sl.fz tyInt at_101),(Sl.fz (tyL tyPass) s_145),Sl.dead,Sl.dead,Sl.dead] (zfj_ (i:=13) rfl (ev_hl (ze_ zg_) (zk_ (EvO.fr (ze7_ zfR_ (zf_ (zc_ 8 rfl)))) (zf_ (EvO.fr (ze7_ zfR_ (zf_ (zc_ 12 rfl))))))) fun handed_155=>(at_ [(Sl.fz (tySc K) c),(Sl.fz tyInt many_1),(Sl.fz tyInt spread_7),(Sl.fz tyInt start_22),(Sl.fz (tyL tyStr) deck_here_30),(Sl.fz tyStr hero_39),(Sl.fz tyInt ways_47),(Sl.fz tyInt reach_51),(Sl.fz (tyL tyPass) s_64),Sl.dead,(Sl.fz tyBl made_93),(Sl.fz tyInt at_101),(Sl.fz (tyL tyPass) s_145),(Sl.fz (tyH (csCons (tyL tyPass) (csLast (tyL tyPass)))) handed_155),Sl.dead,Sl.dead] (zfj_ (i:=14) rfl (zp_ (zk_ (zno_ (i:=0) at_0 (zc_ 13 rfl)) (zf_ (zno_ (i:=1) (at_s ziF_) (zc_ 13 rfl))))) fun found_165=>(at_ [(Sl.fz (tySc K) c),(Sl.fz tyInt many_1),(Sl.fz tyInt spread_7),(Sl.fz tyInt start_22),(Sl.fz (tyL tyStr) deck_here_30),(Sl.fz tyStr hero_39),(Sl.fz tyInt ways_47),(Sl.fz tyInt reach_51),(Sl.fz (tyL tyPass) s_64),Sl.dead,(Sl.fz tyBl made_93),(Sl.fz tyInt at_101),(Sl.fz (tyL tyPass) s_145),(Sl.fz (tyH (csCons (tyL tyPass) (csLast (tyL tyPass)))) handed_155),(Sl.fz (tyOpt (tyL tyStr)) found_165),Sl.dead] (zbn_ (LS:=(fun _:Unit=>[(Sl.fz (tySc K) c),(Sl.fz tyInt many_1),(Sl.fz tyInt spread_7),(Sl.fz tyInt start_22),(Sl.fz (tyL tyStr) deck_here_30),(Sl.fz tyStr hero_39),(Sl.fz tyInt ways_47),(Sl.fz tyInt reach_51),(Sl.fz (tyL tyPass) s_64),Sl.dead,(Sl.fz tyBl made_93),(Sl.fz tyInt at_101),(Sl.fz (tyL tyPass) s_145),(Sl.fz (tyH (csCons (tyL tyPass) (csLast (tyL tyPass)))) handed_155),(Sl.fz (tyOpt (tyL tyStr)) found_165),Sl.dead])) (s_if (zjQ_ (zdD_ (zmB_ (zc_ 10 rfl)) (zI_ (zx_ zlX_ (zc_ 14 rfl) zdC_))) (zjQ_ (zI_ (zx_ (zn9_ (eqt_h (zlh_ (zkE_ ziY_) (zl3_ (zkE_ ziY_))))) (zc_ 13 rfl) (ev_hl (ze_ zg_) (zk_ (zc_ 8 rfl) (zf_ (zc_ 12 rfl)))))) (zfY_ (zI_ (zp_ (zk_ (zc_ 14 rfl) (zk_ (zc_ 8 rfl) (zf_ (zc_ 12 rfl))))))))) (zdr_ (zbk_ zcP_) (EvF.ow (zkS_ false))) (zm_ (S4 (S4 (S4 (S4 .nil)))))) fun _=>(at_ [(Sl.fz (tySc K) c),(Sl.fz tyInt many_1),(Sl.fz tyInt spread_7),(Sl.fz tyInt start_22),(Sl.fz (tyL tyStr) deck_here_30),(Sl.fz tyStr hero_39),(Sl.fz tyInt ways_47),(Sl.fz tyInt reach_51),(Sl.fz (tyL tyPass) s_64),Sl.dead,(Sl.fz tyBl made_93),(Sl.fz tyInt at_101),(Sl.fz (tyL tyPass) s_145),(Sl.fz (tyH (csCons (tyL tyPass) (csLast (tyL tyPass)))) handed_155),(Sl.fz (tyOpt (tyL tyStr)) found_165),Sl.dead] (zbn_ (LS:=(fun _:Unit=>[(Sl.fz (tySc K) c),(Sl.fz tyInt many_1),(Sl.fz tyInt spread_7),(Sl.fz tyInt start_22),(Sl.fz (tyL tyStr) deck_here_30),(Sl.fz tyStr hero_39),(Sl.fz tyInt ways_47),(Sl.fz tyInt reach_51),(Sl.fz (tyL tyPass) s_64),Sl.dead,(Sl.fz tyBl made_93),(Sl.fz tyInt at_101),(Sl.fz (tyL tyPass) s_145),(Sl.fz (tyH (csCons (tyL tyPass) (csLast (tyL tyPass)))) handed_155),(Sl.fz (tyOpt (tyL tyStr)) found_165),Sl.dead])) (s_if (zdD_ (zI_ (zx_ zcg_ (zc_ 14 rfl) zdC_)) (zfY_ (zI_ (zp_ (zk_ zdX_ (zk_ (zc_ 4 rfl) (zk_ (zc_ 8 rfl) (zf_ (zc_ 12 rfl))))))))) (zdr_ (zbk_ zcP_) (EvF.ow (zkS_ false))) (zm_ (S4 (S4 (S4 (S4 .nil)))))) fun _=>(at_ [(Sl.fz (tySc K) c),(Sl.fz tyInt many_1),(Sl.fz tyInt spread_7),(Sl.fz tyInt start_22),(Sl.fz (tyL tyStr) deck_here_30),(Sl.fz tyStr hero_39),(Sl.fz tyInt ways_47),(Sl.fz tyInt reach_51),(Sl.fz (tyL tyPass) s_64),Sl.dead,(Sl.fz tyBl made_93),(Sl.fz tyInt at_101),(Sl.fz (tyL tyPass) s_145),(Sl.fz (tyH (csCons (tyL tyPass) (csLast (tyL tyPass)))) handed_155),(Sl.fz (tyOpt (tyL tyStr)) found_165),Sl.dead] (zfj_ (i:=15) rfl (zp_ (zk_ (zc_ 12 rfl) (zf_ (zc_ 8 rfl)))) fun again_204=>(at_ [(Sl.fz (tySc K) c),(Sl.fz tyInt many_1),(Sl.fz tyInt spread_7),(Sl.fz tyInt start_22),(Sl.fz (tyL tyStr) deck_here_30),(Sl.fz tyStr hero_39),(Sl.fz tyInt ways_47),(Sl.fz tyInt reach_51),(Sl.fz (tyL tyPass) s_64),Sl.dead,(Sl.fz tyBl made_93),(Sl.fz tyInt at_101),(Sl.fz (tyL tyPass) s_145),(Sl.fz (tyH (csCons (tyL tyPass) (csLast (tyL tyPass)))) handed_155),(Sl.fz (tyOpt (tyL tyStr)) found_165),(Sl.fz (tyOpt (tyL tyStr)) again_204)] (zdr_ (zbk_ zcP_) (EvF.ow (znE_ (zx_ zm6_ (zx_ zcg_ (zc_ 15 rfl) zdC_) (zx_ zcg_ (zc_ 14 rfl) zdC_)) (zp_ (zk_ (zc_ 15 rfl) (zk_ (zc_ 12 rfl) (zf_ (zc_ 8 rfl))))))))))))))))))))))))))))))))))))))))))))))))
theorem zkh_ (hf:∀ ns:List Int,ns.length≤63→BitsOk ns→znK_ ns=.ok true) {K:Fgg}:RD_law K:=by
 rintro vs H Q E ⟨a,ns,rfl,hS,hl,hb,q⟩
 refine zdt_ (K:=K) (N:=Qn0) (C:=(csLast (tySc K))) (O:=owF tyBl) (t:=fun E=>znj_ K) (ss:=fun c=>[(Sl.fz (tySc K) c)]) (f:=fun c=>znI_ c) 1 15 zg_ rfl zJ_ (fun c E=>znW_ c) _ H Q E ⟨H,ns,Same.refl _,⟨_,rfl,a,rfl,hS⟩,?_⟩
 show After K (znK_ ns) E H H _
 rw [hf ns hl hb]
 rintro F' H' x v h _ _ _ ⟨_,rfl⟩
 exact q H'
end K18
namespace K18
open PySem PySem.Spec PyProof.Rows L2
local macro_rules | `(tactic| walk_at "mo") => `(tactic| simp only [Mo.okB, Mo.exB, Mo.noB, Mo.noexO, Mo.optS, zlq_, zlB_, zlZ_, zl5_, zox_, zmc_, zng_, zgL_, zlU_, grd_T, Bool.not_true, Bool.not_false, if_true, if_false, Bool.false_eq_true, Option.map_some, Option.map_none, ite_true, ite_false, Int.reduceLT, Int.reduceLE, Int.reduceNeg, Int.reduceSub, Int.reduceAdd, Int.reduceMul, Nat.reduceAdd, Nat.reduceLT, decide_true, decide_false, Option.isSome_none, Option.isSome_some, Option.isNone_none, Option.isNone_some, Bool.and_true, Bool.and_false])
theorem lim40 {α:Type}{c:Crd}(h:isC c) (k:Mo α):Mo.lim c.length k=k:=Mo.lim_ok (by rw [h.1]; lia)
theorem zfS_ {c:Crd}{col:Int}(h:isC c) (hc:colOk col):zc9_ c col=.ok [sg c col]:=by
 unfold zc9_ zdF_
 walk_at "mo"
 rw [lim40 h,(zka_ h hc).1]
 rfl
theorem zhW_ {x:Nat}(h:x∈SG):zdH_ [x]=.ok true:=by
 unfold zdH_ zdN_
 walk_at "mo"
 rw [Mo.lim_ok (by simp)]
 have:inS [x] SG=true:=decide_eq_true h
 simp [this]
theorem zm9_ {x:Nat}(h:x∈SG):zdJ_ [x]=.ok (rk1 x:Int):=by
 unfold zdJ_ zdG_
 walk_at "mo"
 rw [zhW_ h]
 walk_at "mo"
 rw [zlQ_ h,Mo.grd_ok (by lia)]
 rfl
theorem zjR_ (cell:Int) {many:Int}(h0:0≤many) (h1:many≤5000):∃ ns,zbR_ cell many=.ok ns∧ns.length=many.toNat:=by
 unfold zbR_ zbY_
 walk_at "mo"
 rw [Mo.grd_ok ⟨by lia,by lia⟩]
 walk_at "mo"
 have hn:many.toNat≤5000:=by lia
 generalize many.toNat=n at hn
 refine zal_ (G:=fun m=>∃ c:List Int,fnO (thenO m _)=.ok c∧c.length=n) (fun d (s:Int×List Int)=>s.2.length=d.length∧0≤s.1∧s.1<4294967296) ⟨rfl,by show 0≤cell % 2147483647+48271; lia,by show cell % 2147483647+48271<4294967296; lia⟩ ?_ ?_
 ·rintro d x ⟨nn,cs⟩ ⟨r,hr⟩ ⟨q1,q3,q4⟩
  have hd:d.length≤5000:=by
   have:=congrArg List.length hr
   rw [zbe_,List.length_append] at this; lia
  simp only at q1 q3 q4
  have hmul:IntMulOk nn nn:=zdS_ (.inl ⟨by lia,by lia⟩)
  walk_at "mo"
  rw [Mo.grd_ok hmul]
  walk_at "mo"
  rw [Mo.lim_ok (by lia)]
  exact ⟨_,rfl,by simp; exact q1,Int.emod_nonneg _ (by decide),Int.lt_trans (Int.emod_lt_of_pos _ (by decide)) (by decide)⟩
 ·rintro s ⟨q1,_,_⟩
  rw [zbe_] at q1
  exact ⟨s.2,rfl,q1⟩
theorem zjq_ (k:Int):∃ x,atI SG (k % 37)=some x∧x∈SG:=zco_ (xs:=SG) (Int.emod_nonneg _ (by decide)) (Int.emod_lt_of_pos _ (by decide))
theorem limSG {α:Type}(k:Mo α):Mo.lim SG.length k=k:=Mo.lim_ok (by decide)
theorem znp_ (cell:Int) {many spread:Int}(h0:0≤many) (h1:many≤100) (hs:0<spread):∃ d,zcR_ cell many spread=.ok d∧d.length=many.toNat∧∀ c∈d,isC c:=by
 unfold zcR_ zdi_
 walk_at "mo"
 obtain ⟨st,es,hst⟩:=zjR_ cell (many:=36*many) (by lia) (by lia)
 rw [es]
 walk_at "mo"
 rw [Mo.grd_ok ⟨by lia,by lia⟩]
 walk_at "mo"
 refine zal_ (G:=fun m=>∃ c:List Crd,fnO (thenO m _)=.ok c∧c.length=many.toNat∧∀ x∈c,isC x) (fun d (s:List Crd)=>s.length=d.length∧∀ x∈s,isC x) ⟨rfl,by simp⟩ ?_ ?_
 ·rintro d k s ⟨r,hr⟩ ⟨q1,q2⟩
  have hk:k∈rngI 0 many.toNat:=by rw [hr]; simp
  have hk:=zeb_.mp hk
  have hd:d.length≤100:=by
   have:=congrArg List.length hr
   rw [zbe_,List.length_append] at this; lia
  rw [Mo.grd_ok (show (-2 ^ 62≤(36:Int)∧(36:Int)<2 ^ 62) by decide)]
  walk_at "mo"
  refine zal_ (G:=fun m=>∃ s':List Crd,thenO m _=Mo.ok (Out.nx s')∧s'.length=(d++[k]).length∧∀ x∈s',isC x) (fun dd (t:List Nat)=>t.length=dd.length∧∀ x∈t,x∈SG) ⟨rfl,by simp⟩ ?_ ?_
  ·rintro dd x t ⟨r',hr'⟩ ⟨w1,w2⟩
   have hx:x∈rngI 0 (Int.toNat 36):=by rw [hr']; simp
   have hx:=zeb_.mp hx
   have hx2:x<36:=by simpa using hx.2
   have hdd:dd.length≤36:=by
    have:=congrArg List.length hr'
    rw [zbe_,List.length_append] at this; simp at this; lia
   obtain ⟨a,ea,_⟩:=zco_ (xs:=st) (k:=36*k+x) (by lia) (by lia)
   rw [ea]
   walk_at "mo"
   rw [zgL_ hs]
   walk_at "mo"
   obtain ⟨y,ey,hy⟩:=zjq_ (cell+a / 7 % spread)
   rw [limSG,ey]
   walk_at "mo"
   rw [Mo.lim_ok (by simp; lia)]
   walk_at "mo"
   refine ⟨_,rfl,by simp; exact w1,fun z hz=>?_⟩
   rcases List.mem_append.mp hz with hz | hz
   ·exact w2 z hz
   ·rw [List.mem_singleton.mp hz]; exact hy
  ·rintro t ⟨w1,w2⟩
   rw [zbe_] at w1
   have w1':t.length=36:=w1
   walk_at "mo"
   obtain ⟨y,ey,hy⟩:=zjq_ (cell / 37)
   obtain ⟨z,ez,hz⟩:=zjq_ (cell+k)
   rw [limSG,limSG,ey,ez]
   walk_at "mo"
   rw [Mo.grd_ok (show CRep [[y]].length 4 by unfold CRep; simp)]
   walk_at "mo"
   have hm4:0≤cell % 4∧cell % 4<4:=⟨Int.emod_nonneg _ (by decide),Int.emod_lt_of_pos _ (by decide)⟩
   rw [show repL [[y]] 4=[[y],[y],[y],[y]] from rfl]
   rw [zis_ hm4.1 (by simpa using hm4.2)]
   walk_at "mo"
   have hmk:∃ w:List Nat,([[y],[y],[y],[y]]:List (List Nat)).set (cell % 4).toNat [z]=w.map (fun c=>[c])∧w.length=4∧∀ c∈w,c∈SG:=by
    refine ⟨([y,y,y,y]:List Nat).set (cell % 4).toNat z,?_,by simp,fun c hc=>?_⟩
    ·rw [List.map_set]; rfl
    ·rcases List.mem_or_eq_of_mem_set hc with h | h
     ·simp at h; rw [h]; exact hy
     ·rw [h]; exact hz
   obtain ⟨w,ew,hw1,hw2⟩:=hmk
   rw [ew]
   have esl:strsL (w.map fun c=>[c])=w.map fun c=>(⟨#[c]⟩:Str):=by unfold strsL; rw [List.map_map]; rfl
   rw [esl]
   have hj:JoinOk { cps:=#[] } (w.map fun c=>(⟨#[c]⟩:Str))=true:=zd2_ (by rw [List.length_map,hw1]; decide) (fun q hq=>by
    obtain ⟨c,_,rfl⟩:=List.mem_map.mp hq
    simp [Str.length])
   rw [Mo.grd_ok hj,L2.zgu_]
   walk_at "mo"
   rw [Mo.lim_ok (by lia)]
   walk_at "mo"
   rw [Mo.lim_ok (by lia)]
   refine ⟨_,rfl,by simp; exact q1,fun x hx=>?_⟩
   rcases List.mem_append.mp hx with hx | hx
   ·exact q2 x hx
   ·rw [List.mem_singleton.mp hx]
    refine ⟨by rw [List.length_append]; lia,fun c hc=>?_⟩
    rcases List.mem_append.mp hc with hc | hc
    ·exact w2 c hc
    ·exact hw2 c hc
 ·rintro s ⟨q1,q2⟩
  rw [zbe_] at q1
  walk_at "mo"
  by_cases hz:2<many∧cell % 5=1
  ·rw [decide_eq_true hz.1,decide_eq_true hz.2]
   walk_at "mo"
   obtain ⟨a,ea,ha⟩:=zco_ (xs:=s) (k:=0) (by lia) (by lia)
   rw [ea]
   walk_at "mo"
   rw [zis_ (by lia) (by lia)]
   walk_at "mo"
   refine ⟨_,rfl,by rw [List.length_set]; exact q1,fun x hx=>?_⟩
   rcases List.mem_or_eq_of_mem_set hx with h | h
   ·exact q2 x h
   ·rw [h]; exact q2 a ha
  ·have e:(if decide (2<many)=true then (Mo.ok (decide (cell % 5=1)):Mo Bool) else Mo.ok false)=.ok false:=by
    by_cases h2:2<many
    ·rw [decide_eq_true h2,if_pos rfl,decide_eq_false (fun h=>hz ⟨h2,h⟩)]
    ·rw [decide_eq_false h2]; rfl
   rw [e]
   exact ⟨s,rfl,q1,q2⟩
theorem zi8_ {d:List Crd}{col:Int}(hd:∀ c∈d,isC c) (hc:colOk col) (hl:d.length≤1000):zbU_ d col=.ok (pok d col):=by
 unfold zbU_ zbV_
 walk_at "mo"
 rw [zeX_ (f:=fun _=>cond1 (Mo.ok true) (Mo.ok [])) (g:=fun _=>([]:List Crd)) (fun x _=>rfl) (by rw [List.length_map]; decide),zm2_ col]
 walk_at "mo"
 refine zal_ (G:=fun m=>fnO (thenO m _)=.ok (pok d col)) (fun dn s=>s=pok dn col) rfl ?_ ?_
 ·rintro dn x s ⟨r,hr⟩ rfl
  have hx:isC x:=hd x (by rw [hr]; simp)
  have hdl:dn.length≤1000:=by have:=congrArg List.length hr; rw [List.length_append] at this; lia
  rw [zfS_ hx hc]
  walk_at "mo"
  rw [zm9_ (zka_ hx hc).2]
  walk_at "mo"
  rw [zmM_,zis_ (by lia) (by have:=ziE_ (sg x col); lia)]
  walk_at "mo"
  rw [Int.toNat_natCast]
  have hg:((pok dn col)[rk1 (sg x col)]?.getD []).length≤dn.length:=by
   unfold pok
   rw [List.getElem?_map,List.getElem?_range (ziE_ _)]
   exact List.length_filter_le _ _
  rw [Mo.lim_ok (by lia)]
  exact ⟨_,rfl,by rw [zlI_]; rfl⟩
 ·rintro s rfl
  rfl
theorem zjC_ {xss:List (List Crd)}(hl:xss.flatten.length≤1000):zfh_ xss=.ok xss.flatten:=by
 unfold zfh_ zeR_
 walk_at "mo"
 refine zal_ (G:=fun m=>fnO (thenO m _)=.ok xss.flatten) (fun dn s=>s=dn.flatten) rfl ?_ ?_
 ·rintro dn x s ⟨r,hr⟩ rfl
  have:dn.flatten.length+x.length≤1000:=by
   have:=congrArg (fun l=>(List.flatten l).length) hr
   simp only [List.flatten_append,List.flatten_cons,List.length_append] at this
   lia
  rw [Mo.lim_ok (by lia)]
  exact ⟨_,rfl,by simp⟩
 ·rintro s rfl
  rfl
theorem zhs_ {d:List Crd}{row:List Int}(hd:∀ c∈d,isC c) (hc:∀ c∈row,colOk c) (hl:d.length≤1000):zda_ d row=.ok (sK (kv row.reverse) d):=by
 unfold zda_ zdg_
 walk_at "mo"
 refine zal_ (G:=fun m=>fnO (thenO m _)=.ok (sK (kv row.reverse) d)) (fun dn s=>s=sK (kv dn.reverse) d) (by rw [List.reverse_nil,zjB_,zgA_]) ?_ ?_
 ·rintro dn c s ⟨r,hr⟩ rfl
  rw [zi8_ (fun x hx=>hd x ((zhe_ d).mp hx)) (hc c (by rw [hr]; simp)) (by rw [ziu_]; exact hl)]
  walk_at "mo"
  rw [zjC_ (by rw [zh3_,zlY_,ziu_]; exact hl),zh3_]
  walk_at "mo"
  exact ⟨_,rfl,by rw [zdK_,List.reverse_append]; rfl⟩
 ·rintro s rfl
  rfl
noncomputable def psOk (p:Pas):Prop:=(1≤p.1∧p.1≤36)∧∀ s,p.2=some s→∃ x,s=[x]∧x∈SG
theorem psOk.col {p:Pas}(h:psOk p):colOk p.1:=⟨h.1.1,by have:=h.1.2; lia⟩
noncomputable def doP (d:List Crd) (p:Pas):List Crd:=match p.2 with | none=>sK (kv [p.1]) d | some s=>d.filter fun x=>decide ([sg x p.1]=s)
theorem znn_ {d:List Crd}{p:Pas}{x:Crd}(h:x∈doP d p):x∈d:=by
 obtain ⟨c,o⟩:=p
 cases o with
 | none=>exact (zhe_ d).mp h
 | some s=>exact (List.mem_filter.mp h).1
theorem zmj_ (d:List Crd) (p:Pas):(doP d p).length≤d.length:=by
 obtain ⟨c,o⟩:=p
 cases o with
 | none=>show (sK _ d).length≤_; rw [ziu_]; exact Nat.le_refl _
 | some s=>exact List.length_filter_le _ _
theorem ziH_ {row:List Pas}:∀ {d:List Crd}{x:Crd},x∈row.foldl doP d→x∈d:=by
 induction row with
 | nil=>exact fun h=>h
 | cons p row ih=>exact fun h=>znn_ (ih h)
theorem ziG_ (row:List Pas):∀ (d:List Crd),(row.foldl doP d).length≤d.length:=by
 induction row with
 | nil=>exact fun d=>Nat.le_refl _
 | cons p row ih=>exact fun d=>Nat.le_trans (ih _) (zmj_ d p)
theorem zeK_ {d:List Crd}{row:List Pas}(hd:∀ c∈d,isC c) (hr:∀ p∈row,psOk p) (hl:d.length≤1000):zck_ d row=.ok (row.foldl doP d):=by
 unfold zck_ zcW_
 walk_at "mo"
 refine zal_ (G:=fun m=>fnO (thenO m _)=.ok (row.foldl doP d)) (fun dn s=>s=dn.foldl doP d) rfl ?_ ?_
 ·rintro dn p s ⟨r,hrr⟩ rfl
  have hp:psOk p:=hr p (by rw [hrr]; simp)
  have hm:∀ x∈dn.foldl doP d,isC x:=fun x hx=>hd x (ziH_ hx)
  have hml:=ziG_ dn d
  rw [List.foldl_append]
  generalize dn.foldl doP d=g at hm hml
  obtain ⟨c,o⟩:=p
  cases o with
  | none =>
   have e:decide (pTag (c,none)=[100,101,97,108])=true:=rfl
   simp only [e]
   walk_at "mo"
   rw [zhs_ hm (fun x hx=>by rw [List.mem_singleton.mp hx]; exact hp.col) (by lia)]
   walk_at "mo"
   exact ⟨_,rfl,rfl⟩
  | some s =>
   have e:decide (pTag (c,some s)=[100,101,97,108])=false:=by show decide (([112,105,99,107]:List Nat)=[100,101,97,108])=false; decide
   simp only [e]
   walk_at "mo"
   rw [zd7_ (g:=fun x=>decide ([sg x c]=s)) (fun x hx=>?_) (by simpa using (by lia:g.length≤100000))]
   ·exact ⟨_,rfl,rfl⟩
   ·unfold cond1
    rw [zfS_ (hm x hx) hp.col]
    walk_at "mo"
    by_cases h:[sg x c]=s
    ·rw [decide_eq_true h]; rfl
    ·rw [decide_eq_false h]; rfl
 ·rintro s rfl
  rfl
theorem zmH_ {x y:Nat}(hx:x∈SG) (hy:y∈SG):(x≤y↔rk1 x≤rk1 y):=by
 have:∀ x∈SG,∀ y∈SG,(x≤y↔rk1 x≤rk1 y):=by decide +kernel
 exact this x hx y hy
theorem zm1_ {d:List Crd}{c:Int}(hd:∀ x∈d,isC x) (hc:colOk c):sK (fun x=>sg x c) d=sK (kv [c]) d:=by
 refine zhO_ d fun a ha b hb=>?_
 have:=zmH_ (zka_ (hd a ha) hc).2 (zka_ (hd b hb) hc).2
 show _↔rnk a c*1+0≤rnk b c*1+0
 unfold rnk
 lia
theorem zmp_ {d:List Crd}{p:Pas}(hd:∀ c∈d,isC c) (hp:psOk p) (hl:d.length≤1000):zcZ_ d p=.ok (doP d p):=by
 unfold zcZ_ zc1_
 walk_at "mo"
 obtain ⟨c,o⟩:=p
 have hc:colOk c:=hp.col
 cases o with
 | some s =>
  have e:decide (pTag (c,some s)=[112,105,99,107])=true:=rfl
  simp only [e]
  walk_at "mo"
  rw [zd7_ (g:=fun x=>decide ([sg x c]=s)) (fun x hx=>?_) (by simpa using (by lia:d.length≤100000))]
  ·rfl
  ·unfold cond1
   rw [lim40 (hd x hx),(zka_ (hd x hx) hc).1]
   walk_at "mo"
   by_cases h:[sg x c]=s
   ·rw [decide_eq_true h]; rfl
   ·rw [decide_eq_false h]; rfl
 | none =>
  have e:decide (pTag (c,none)=[112,105,99,107])=false:=by show decide (([100,101,97,108]:List Nat)=[112,105,99,107])=false; decide
  simp only [e]
  walk_at "mo"
  show _=Mo.ok (sK (kv [c]) d)
  rw [← zm1_ hd hc]
  refine zal_ (G:=fun m=>fnO (thenO m _)=.ok (sK (fun x=>sg x c) d)) (fun dn s=>s=sK (fun x=>sg x c) dn) rfl ?_ ?_
  ·rintro dn x s ⟨r,hr⟩ rfl
   have hx:isC x:=hd x (by rw [hr]; simp)
   have hdn:∀ y∈dn,isC y:=fun y hy=>hd y (by rw [hr]; simp [hy])
   have hdl:dn.length≤1000:=by have:=congrArg List.length hr; rw [List.length_append] at this; lia
   generalize hs:sK (fun x=>sg x c) dn=s
   have hsl:s.length≤1000:=by rw [← hs,ziu_]; exact hdl
   have hsm:∀ y∈s,isC y:=fun y hy=>hdn y (by rw [← hs] at hy; exact (zhe_ dn).mp hy)
   let p:=fun y:Crd=>decide (sg x c<sg y c)
   rw [zeF_ (f:=fun n=>insAt p s n) (fun i=>match s[i-1]? with | some y=>p y | none=>false) fuelW s.length (by rw [ziL_]; lia) (fun i h1 h2=>?_) rfl (fun i hi=>?_) rfl]
   ·walk_at "mo"
    have hle:insAt p s s.length≤s.length:=by
     have hsp:=zdL_ (zjE_ (fun x=>sg x c) dn) (sg x c)
     rw [hs] at hsp
     rw [hsp,ziq_ (fun y hy=>?_) (fun y hy=>?_),List.length_append]
     ·lia
     ·have:=(List.mem_filter.mp hy).2; simp at this; show decide (sg x c<sg y c)=false; simp; lia
     ·have:=(List.mem_filter.mp hy).2; exact this
    rw [Mo.grd_ok ⟨by lia,by lia⟩,Mo.lim_ok (by lia),← hs,znt_ (zjE_ (fun x=>sg x c) dn) x p (fun y=>rfl)]
    exact ⟨_,rfl,by rw [zb6_]⟩
   ·have hi:i-1<s.length:=by lia
    have e:atI s ((i:Int)-1)=some s[i-1]:=by
     rw [show ((i:Int)-1)=((i-1:Nat):Int) by lia,zfB_ (by lia),Int.toNat_natCast,List.getElem?_eq_getElem hi]
    have hy:=hsm _ (List.getElem_mem hi)
    rw [decide_eq_true (show (0:Int)<i by lia),if_pos rfl,lim40 hx,(zka_ hx hc).1,e]
    walk_at "mo"
    rw [lim40 hy,(zka_ hy hc).1,List.getElem?_eq_getElem hi]
    refine ⟨?_,?_⟩
    ·show Mo.ok (decide ([sg x c]<[sg s[i-1] c]))=Mo.ok (decide (sg x c<sg s[i-1] c))
     congr 1
     rw [decide_eq_decide]
     generalize sg x c=u
     generalize sg s[i-1] c=v
     constructor
     ·intro h; cases h with
      | rel h=>exact h
      | cons h=>cases h
     ·intro h; exact List.Lex.rel h
    ·first | rfl | trivial
   ·show insAt _ _ (i+1)=_
    rw [show insAt p s (i+1)=(match s[i]? with | some y=>if p y then insAt p s i else i+1 | none=>0) from rfl,show i+1-1=i by lia,List.getElem?_eq_getElem hi]
  ·rintro s rfl
   rfl
theorem zny_ (cell:Int) {hero:Crd}(hh:isC hero) (start:Int) {reach:Int}(hr:0<reach) (share:Int):∃ p,zc5_ cell hero start reach share=.ok p∧psOk p:=by
 unfold zc5_ zc6_
 walk_at "mo"
 rw [Mo.grd_ok (zdS_ (.inl ⟨by lia,by lia⟩))]
 walk_at "mo"
 rw [zgL_ hr]
 walk_at "mo"
 generalize (cell % 2147483647+69621)*(cell % 2147483647+69621) % 2147483629=n
 have hc:1≤1+(start+n / 8 % reach) % 36∧1+(start+n / 8 % reach) % 36≤36:=by lia
 generalize 1+(start+n / 8 % reach) % 36=col at hc
 by_cases h1:share≤n % 8
 ·rw [decide_eq_true h1]
  walk_at "mo"
  exact ⟨_,rfl,hc,fun s z=>by cases z⟩
 ·rw [decide_eq_false h1]
  walk_at "mo"
  by_cases h2:n / 512 % 7=1
  ·rw [decide_eq_true h2]
   walk_at "mo"
   obtain ⟨y,ey,hy⟩:=zjq_ (n / 4096)
   rw [limSG,ey]
   walk_at "mo"
   exact ⟨_,rfl,hc,fun s z=>by cases z; exact ⟨y,rfl,hy⟩⟩
  ·rw [decide_eq_false h2]
   walk_at "mo"
   have hco:colOk col:=⟨hc.1,by lia⟩
   rw [lim40 hh,(zka_ hh hco).1]
   walk_at "mo"
   exact ⟨_,rfl,hc,fun s z=>by cases z; exact ⟨_,rfl,(zka_ hh hco).2⟩⟩
theorem zjU_ {α S B ρ:Type}{step:S→α→Mo (Out ρ S S)}{xs:List α}{s:S}{G:Mo (Out ρ B S)→Prop}(P:List α→S→Prop) (h0:P [] s)
  (hs:∀ d x s,(∃ r,xs=d++x::r)→P d s→(∃ s',step s x=.ok (.nx s')∧P (d++[x]) s')∨∃ a,step s x=.ok (.rt a)∧G (.ok (.rt a))) (hk:∀ s',P xs s'→G (.ok (.nx s'))):G (forO step xs s):=by
 have all:∀ (r d:List α) (s:S),xs=d++r→P d s→G (forO step r s):=by
  intro r
  induction r with
  | nil=>intro d s e p; rw [List.append_nil] at e; subst e; exact hk s p
  | cons x r ih =>
   intro d s e p
   rcases hs d x s ⟨r,e⟩ p with ⟨s',e1,p'⟩ | ⟨a,e1,g⟩
   ·show G ((step s x).bind _)
    rw [e1]
    exact ih (d++[x]) s' (by rw [e]; simp) p'
   ·show G ((step s x).bind _)
    rw [e1]
    exact g
 exact all xs [] s rfl h0
theorem zjG_ {k:Crd→Nat}(p:Crd→Bool) (xs:List Crd):(sK k xs).filter p=sK k (xs.filter p):=by
 refine zbw_ (P:=fun xs=>(sK k xs).filter p=sK k (xs.filter p)) rfl (fun xs x ih=>?_) xs
 have hs:=zjE_ k xs
 rw [zb6_,List.filter_append]
 by_cases hx:p x=true
 ·rw [show [x].filter p=[x] by simp [hx],zb6_,← ih]
  unfold insK
  rw [List.filter_append,List.filter_cons,if_pos hx]
  simp only [List.filter_filter,Bool.and_comm]
 ·rw [show [x].filter p=[] by simp [hx],List.append_nil,← ih]
  unfold insK
  rw [List.filter_append,List.filter_cons,if_neg hx]
  have:=zdL_ (k:=k) (List.Pairwise.filter p hs) (k x)
  conv=>rhs; rw [this]
  simp only [List.filter_filter,Bool.and_comm]
noncomputable def pcols (row:List Pas):List Int:=row.filterMap fun p=>match p.2 with | none=>some p.1 | some _=>none
noncomputable def pfit (row:List Pas) (x:Crd):Bool:=row.all fun p=>match p.2 with | none=>true | some s=>decide ([sg x p.1]=s)
theorem zcS_ (row:List Pas) (p:Pas) (x:Crd):pfit (row++[p]) x=(pfit row x && match p.2 with | none=>true | some s=>decide ([sg x p.1]=s)):=by
 unfold pfit; rw [List.all_append]; simp
theorem zgT_ (d:List Crd) (row:List Pas):row.foldl doP d=sK (kv (pcols row).reverse) (d.filter (pfit row)):=by
 refine zbw_ (P:=fun row=>row.foldl doP d=sK (kv (pcols row).reverse) (d.filter (pfit row))) ?_ (fun row p ih=>?_) row
 ·show d=sK (kv []) (d.filter fun _=>true)
  rw [zjB_,zgA_]; exact (List.filter_eq_self.mpr fun _ _=>rfl).symm
 ·rw [List.foldl_append,ih]
  obtain ⟨c,o⟩:=p
  cases o with
  | none =>
   have e1:pcols (row++[(c,none)])=pcols row++[c]:=by unfold pcols; rw [List.filterMap_append]; rfl
   have e2:pfit (row++[(c,none)])=pfit row:=by funext x; rw [zcS_]; simp
   rw [e1,e2,List.reverse_append]
   show sK (kv [c]) _=sK (kv (c::(pcols row).reverse)) _
   exact (zjn_ [c] _).symm.trans (zdK_ _ c _)
  | some s =>
   have e1:pcols (row++[(c,some s)])=pcols row:=by unfold pcols; rw [List.filterMap_append]; simp
   have e2:d.filter (pfit (row++[(c,some s)]))=(d.filter (pfit row)).filter fun x=>decide ([sg x c]=s):=by
    rw [List.filter_filter]
    refine List.filter_congr fun x _=>?_
    rw [zcS_,Bool.and_comm]
   rw [e1,e2]
   exact zjG_ (fun x=>decide ([sg x c]=s)) _
theorem zdl_ {m:List (Int×List Nat)}{c:Int}{s:List Nat}(h:getA m c=some s):(c,s)∈m:=by
 unfold getA at h
 cases g:m.find? (fun q=>decide (q.1=c)) with
 | none=>rw [g] at h; cases h
 | some q =>
  rw [g] at h
  have h1:=List.mem_of_find?_eq_some g
  have h2:=List.find?_some g
  simp at h2
  have h3:q.2=s:=Option.some.inj h
  rw [← h2,← h3]; exact h1
theorem zl6_ {m:List (Int×List Nat)}{c:Int}(s:List Nat) (h:getA m c=none):putA m c s=m++[(c,s)]:=by
 unfold putA
 rw [if_neg]
 intro z
 rw [List.any_eq_true] at z
 obtain ⟨q,hq,hc⟩:=z
 unfold getA at h
 cases g:m.find? (fun q=>decide (q.1=c)) with
 | none=>exact absurd hc (by simpa using List.find?_eq_none.mp g q hq)
 | some q=>rw [g] at h; cases h
noncomputable def Cf (row:List Pas):Prop:=∃ c s s',s≠s'∧((c,some s):Pas)∈row∧((c,some s'):Pas)∈row
theorem Cf.fit {row:List Pas}(h:Cf row) (x:Crd):pfit row x=false:=by
 obtain ⟨c,s,s',hs,h1,h2⟩:=h
 cases hf:pfit row x with
 | false=>rfl
 | true =>
  unfold pfit at hf
  rw [List.all_eq_true] at hf
  have g1:=hf _ h1
  have g2:=hf _ h2
  simp at g1 g2
  exact absurd (g1.symm.trans g2) hs
structure PkOk (row:List Pas) (m:List (Int×List Nat)):Prop where
 fit:∀ x,(m.all fun q=>decide ([sg x q.1]=q.2))=pfit row x
 mem:∀ c s,getA m c=some s→(c,some s)∈row
 all:∀ c s,((c,some s):Pas)∈row→getA m c=some s
 len:m.length≤row.length
 col:∀ q∈m,1≤q.1∧q.1≤36
 val:∀ q∈m,∃ x,q.2=[x]∧x∈SG
 nd:(m.map (·.1)).Nodup
theorem zjL_ {row:List Pas}(hr:∀ p∈row,psOk p) (hl:row.length≤1000):(zaO_ row=.ok none∧Cf row)∨∃ m,zaO_ row=.ok (some m)∧PkOk row m:=by
 unfold zaO_ zbl_
 walk_at "mo"
 refine zjU_ (G:=fun z=>(fnO (thenO z _)=.ok none∧Cf row)∨∃ m,fnO (thenO z _)=.ok (some m)∧PkOk row m) (fun dn m=>PkOk dn m) ⟨fun x=>rfl,fun c s z=>(by cases z),fun c s z=>(by cases z),Nat.le_refl _,fun q z=>(by cases z),fun q z=>(by cases z),by simp⟩ ?_ ?_
 ·rintro dn p m ⟨r,hrr⟩ w
  have hp:psOk p:=hr p (by rw [hrr]; simp)
  have hdl:dn.length≤1000:=by have:=congrArg List.length hrr; rw [List.length_append] at this; lia
  have hml:=w.len
  obtain ⟨c,o⟩:=p
  cases o with
  | none =>
   have e:decide (pTag (c,none)=[112,105,99,107])=false:=by show decide (([100,101,97,108]:List Nat)=[112,105,99,107])=false; decide
   simp only [e]
   walk_at "mo"
   refine .inl ⟨_,rfl,⟨fun x=>by rw [w.fit,zcS_]; simp,fun c s z=>List.mem_append_left _ (w.mem c s z),fun c' s' z=>?_,by simp; lia,w.col,w.val,w.nd⟩⟩
   rcases List.mem_append.mp z with z | z
   ·exact w.all c' s' z
   ·simp at z
  | some s =>
   have e:decide (pTag (c,some s)=[112,105,99,107])=true:=rfl
   simp only [e]
   walk_at "mo"
   rw [Mo.lim_ok (by lia)]
   unfold sdA
   cases g:getA m c with
   | some s0 =>
    by_cases hs:s0=s
    ·subst hs
     simp only [decide_true,Bool.not_true]
     walk_at "mo"
     refine .inl ⟨_,rfl,⟨fun x=>?_,fun c s z=>List.mem_append_left _ (w.mem c s z),fun c' s' z=>?_,by simp; lia,w.col,w.val,w.nd⟩⟩
     ·rw [zcS_,w.fit]
      cases hf:pfit dn x with
      | false=>rfl
      | true =>
       rw [← w.fit,List.all_eq_true] at hf
       have:=hf _ (zdl_ g)
       simpa using this
     ·rcases List.mem_append.mp z with z | z
      ·exact w.all c' s' z
      ·have z:=List.mem_singleton.mp z
       cases z; exact g
    ·simp only [decide_eq_false hs,Bool.not_false]
     walk_at "mo"
     exact .inr ⟨_,rfl,.inl ⟨rfl,c,s0,s,hs,by rw [hrr]; exact List.mem_append_left _ (w.mem c s0 g),by rw [hrr]; simp⟩⟩
   | none =>
    simp only [decide_true,Bool.not_true]
    walk_at "mo"
    have hput:=zl6_ s g
    rw [hput]
    refine .inl ⟨_,rfl,⟨fun x=>?_,fun c' s' z=>?_,fun c' s' z=>?_,by simp; exact w.len,fun q hq=>?_,fun q hq=>?_,?_⟩⟩
    ·rw [List.all_append,w.fit,zcS_]; simp
    ·rw [← hput,zbS_] at z
     split at z
     ·rename_i h; subst h; cases z; simp
     ·exact List.mem_append_left _ (w.mem c' s' z)
    ·rw [← hput,zbS_]
     rcases List.mem_append.mp z with z | z
     ·have h1:=w.all c' s' z
      rw [if_neg (fun e=>by rw [← e,g] at h1; cases h1)]; exact h1
     ·have z:=List.mem_singleton.mp z
      cases z; rw [if_pos rfl]
    ·rcases List.mem_append.mp hq with h | h
     ·exact w.col q h
     ·rw [List.mem_singleton.mp h]; exact hp.1
    ·rcases List.mem_append.mp hq with h | h
     ·exact w.val q h
     ·rw [List.mem_singleton.mp h]; exact hp.2 s rfl
    ·rw [List.map_append,List.nodup_append]
     refine ⟨w.nd,by simp,fun a ha b hb z=>?_⟩
     have hb:b=c:=by simpa using hb
     obtain ⟨q,hq,hqa⟩:=List.mem_map.mp ha
     have:=w.mem
     unfold getA at g
     cases g2:m.find? (fun q=>decide (q.1=c)) with
     | some q=>rw [g2] at g; cases g
     | none=>exact absurd (hqa.trans (z.trans hb)) (by simpa using List.find?_eq_none.mp g2 q hq)
 ·intro m w
  exact .inr ⟨m,rfl,w⟩
noncomputable def skey (row:List Pas) (m:List (Int×List Nat)):List Int:=onceL ((pcols row).reverse.filter fun c=>!(getA m c).isSome)
theorem zdI_ (L:List Int) (c:Int):onceL (L++[c])=if c∈onceL L then onceL L else onceL L++[c]:=by unfold onceL; rw [List.foldl_append]; rfl
theorem ziK_ (L:List Int):(onceL L).length≤L.length:=by
 refine zbw_ (P:=fun L=>(onceL L).length≤L.length) (Nat.le_refl _) (fun L c ih=>?_) L
 rw [zdI_]; split<;>simp<;>lia
theorem zlE_ {L:List Int}{c:Int}:c∈onceL L→c∈L:=by
 refine zbw_ (P:=fun L=>c∈onceL L→c∈L) (fun h=>h) (fun L x ih h=>?_) L
 rw [zdI_] at h
 split at h
 ·exact List.mem_append_left _ (ih h)
 ·rcases List.mem_append.mp h with h | h
  ·exact List.mem_append_left _ (ih h)
  ·exact List.mem_append_right _ h
theorem zd9_ {row:List Pas}(hr:∀ p∈row,psOk p) (hl:row.length≤1000):(zbM_ row=.ok none∧Cf row)∨∃ m,zbM_ row=.ok (some (m,skey row m))∧PkOk row m:=by
 unfold zbM_ zdf_
 walk_at "mo"
 rcases zjL_ hr hl with ⟨e,h⟩ | ⟨m,e,w⟩
 ·rw [e]
  walk_at "mo"
  first | exact .inl ⟨rfl,h⟩ | exact .inl ⟨trivial,h⟩
 ·rw [e]
  walk_at "mo"
  refine .inr ⟨m,?_,w⟩
  refine zal_ (G:=fun z=>fnO (thenO z _)=.ok (some (m,skey row m))) (fun dn s=>s=onceL ((pcols dn).filter fun c=>!(getA m c).isSome)) rfl ?_ ?_
  ·rintro dn p s ⟨r,hrr⟩ rfl
   have hdl:dn.length≤1000:=by have:=congrArg List.length hrr; rw [List.length_append,List.length_reverse] at this; lia
   obtain ⟨c,o⟩:=p
   cases o with
   | some s =>
    have e:decide (pTag (c,some s)=[100,101,97,108])=false:=by show decide (([112,105,99,107]:List Nat)=[100,101,97,108])=false; decide
    have e1:pcols (dn++[(c,some s)])=pcols dn:=by unfold pcols; rw [List.filterMap_append]; simp
    simp only [e]
    walk_at "mo"
    exact ⟨_,rfl,by rw [e1]⟩
   | none =>
    have e:decide (pTag (c,none)=[100,101,97,108])=true:=rfl
    have e1:pcols (dn++[(c,none)])=pcols dn++[c]:=by unfold pcols; rw [List.filterMap_append]; rfl
    have hpl:(pcols dn).length≤dn.length:=List.length_filterMap_le _ _
    have hol:=Nat.le_trans (ziK_ ((pcols dn).filter fun c=>!(getA m c).isSome)) (List.length_filter_le _ _)
    simp only [e]
    walk_at "mo"
    rw [e1,List.filter_append]
    cases g:getA m c with
    | some s =>
     walk_at "mo"
     exact ⟨_,rfl,by simp [g]⟩
    | none =>
     have e2:[c].filter (fun c=>!(getA m c).isSome)=[c]:=by simp [g]
     rw [e2,zdI_]
     walk_at "mo"
     by_cases hc:c∈onceL ((pcols dn).filter fun c=>!(getA m c).isSome)
     ·rw [show (onceL ((pcols dn).filter fun c=>!(getA m c).isSome)).any (fun y=>decide (y=c))=true by rw [List.any_eq_true]; exact ⟨c,hc,by simp⟩,if_pos hc]
      walk_at "mo"
      exact ⟨_,rfl,rfl⟩
     ·rw [show (onceL ((pcols dn).filter fun c=>!(getA m c).isSome)).any (fun y=>decide (y=c))=false by rw [List.any_eq_false]; intro y hy z; simp at z; exact hc (z ▸ hy),if_neg hc]
      walk_at "mo"
      rw [Mo.lim_ok (by lia)]
      walk_at "mo"
      exact ⟨_,rfl,rfl⟩
  ·rintro s rfl
   walk_at "mo"
   unfold skey
   rw [show pcols row.reverse=(pcols row).reverse by unfold pcols; rw [List.filterMap_reverse]]
theorem ahd_or (L:List Int) (a b:Crd):(∀ c∈L,rnk a c=rnk b c)∨ahd L a b=true∨ahd L b a=true:=by
 induction L with
 | nil=>exact .inl fun c h=>by cases h
 | cons c L ih =>
  unfold ahd
  by_cases h:rnk a c=rnk b c
  ·rw [if_pos h,if_pos h.symm]
   rcases ih with ih | ih
   ·exact .inl fun x hx=>by
     rcases List.mem_cons.mp hx with rfl | hx
     ·exact h
     ·exact ih x hx
   ·exact .inr ih
  ·rw [if_neg h,if_neg (fun z=>h z.symm)]
   right
   rcases Nat.lt_or_gt_of_ne h with z | z
   ·exact .inl (decide_eq_true z)
   ·exact .inr (decide_eq_true z)
theorem ziz_ (q:Int→Bool) (L:List Int) (a b:Crd) (h:∀ c,q c=false→rnk a c=rnk b c):ahd (L.filter q) a b=ahd L a b:=by
 induction L with
 | nil=>rfl
 | cons c L ih =>
  rw [List.filter_cons]
  cases g:q c with
  | true=>rw [if_pos rfl]; unfold ahd; rw [ih]
  | false=>rw [if_neg (by decide),ih]; conv=>rhs; unfold ahd; rw [if_pos (h c g)]
theorem zfP_:∀ (l l':List Int),l.Nodup→(∀ x∈l,x∈l')→l'.length≤l.length→∀ x∈l',x∈l
 | [],l',_,_,hl,x,hx=>by
  cases l' with
  | nil=>cases hx
  | cons a t=>simp at hl
 | a::t,l',hn,hs,hl,x,hx=>by
  obtain ⟨h1,h2⟩:=List.nodup_cons.mp hn
  by_cases e:x=a
  ·rw [e]; exact List.mem_cons_self
  ·refine List.mem_cons_of_mem _ (zfP_ t (l'.erase a) h2 (fun y hy=>?_) ?_ x ((List.mem_erase_of_ne e).mpr hx))
   ·exact (List.mem_erase_of_ne (show y≠a from fun z=>h1 (by rw [← z]; exact hy))).mpr (hs y (List.mem_cons_of_mem _ hy))
   ·rw [List.length_erase_of_mem (hs a List.mem_cons_self)]; simp at hl; lia
theorem zdM_:∀ (l l':List Int),l.Nodup→(∀ x∈l,x∈l')→l.length≤l'.length
 | [],_,_,_=>Nat.zero_le _
 | a::t,l',hn,hs=>by
  obtain ⟨h1,h2⟩:=List.nodup_cons.mp hn
  have h3:=zdM_ t (l'.erase a) h2 fun y hy=>(List.mem_erase_of_ne (show y≠a from fun z=>h1 (by rw [← z]; exact hy))).mpr (hs y (List.mem_cons_of_mem _ hy))
  rw [List.length_erase_of_mem (hs a List.mem_cons_self)] at h3
  have h4:0<l'.length:=List.length_pos_of_mem (hs a List.mem_cons_self)
  simp; lia
theorem zkF_ {m:List (Int×List Nat)}(hn:(m.map (·.1)).Nodup) {q:Int×List Nat}(hq:q∈m):getA m q.1=some q.2:=by
 unfold getA
 induction m with
 | nil=>cases hq
 | cons x ks ih =>
  rw [List.find?_cons]
  rcases List.mem_cons.mp hq with rfl | hq
  ·simp
  ·have hne:x.1≠q.1:=fun z=>(List.nodup_cons.mp hn).1 (by show x.1∈_; rw [z]; exact List.mem_map.mpr ⟨q,hq,rfl⟩)
   rw [decide_eq_false hne]
   exact ih (List.nodup_cons.mp hn).2 hq
noncomputable def SP (row other:List Pas):Prop:=∀ c s,((c,some s):Pas)∈row↔((c,some s):Pas)∈other
theorem PkOk.key {row:List Pas}{m:List (Int×List Nat)}(w:PkOk row m) {c:Int}{s:List Nat}(h:((c,some s):Pas)∈row):c∈m.map (·.1):=List.mem_map.mpr ⟨_,zdl_ (w.all c s h),rfl⟩
theorem PkOk.of {row:List Pas}{m:List (Int×List Nat)}(w:PkOk row m) {q:Int×List Nat}(h:q∈m):((q.1,some q.2):Pas)∈row:=w.mem _ _ (zkF_ w.nd h)
theorem PkOk.nc {row:List Pas}{m:List (Int×List Nat)}(w:PkOk row m):¬ Cf row:=by
 rintro ⟨c,s,s',hs,h1,h2⟩
 have:=(w.all c s h1).symm.trans (w.all c s' h2)
 exact hs (Option.some.inj this)
theorem ziB_ {row other:List Pas}{m m':List (Int×List Nat)}(w:PkOk row m) (w':PkOk other m'):eqDm m m'=true↔SP row other:=by
 unfold eqDm
 rw [Bool.and_eq_true,List.all_eq_true,beq_iff_eq]
 constructor
 ·rintro ⟨hl,ha⟩ c s
  have fw:∀ q∈m,getA m' q.1=some q.2:=fun q hq=>by simpa using ha q hq
  constructor
  ·intro h
   exact w'.mem c s (fw _ (zdl_ (w.all c s h)))
  ·intro h
   have hk:=zfP_ (m.map (·.1)) (m'.map (·.1)) w.nd (fun x hx=>by
    obtain ⟨q,hq,rfl⟩:=List.mem_map.mp hx
    exact List.mem_map.mpr ⟨_,zdl_ (fw q hq),rfl⟩) (by simp; lia) c (w'.key h)
   obtain ⟨q,hq,rfl⟩:=List.mem_map.mp hk
   have h1:=(fw q hq).symm.trans (w'.all q.1 s h)
   rw [← Option.some.inj h1]
   exact w.of hq
 ·intro h
  refine ⟨Nat.le_antisymm ?_ ?_,fun q hq=>decide_eq_true (w'.all _ _ ((h _ _).mp (w.of hq)))⟩
  ·have:=zdM_ (m.map (·.1)) (m'.map (·.1)) w.nd fun x hx=>by
    obtain ⟨q,hq,rfl⟩:=List.mem_map.mp hx
    exact w'.key ((h _ _).mp (w.of hq))
   simpa using this
  ·have:=zdM_ (m'.map (·.1)) (m.map (·.1)) w'.nd fun x hx=>by
    obtain ⟨q,hq,rfl⟩:=List.mem_map.mp hx
    exact w.key ((h _ _).mpr (w'.of hq))
   simpa using this
theorem zdk_ {row:List Pas}{x:Crd}:pfit row x=true↔∀ c s,((c,some s):Pas)∈row→[sg x c]=s:=by
 unfold pfit
 rw [List.all_eq_true]
 constructor
 ·intro h c s hc
  simpa using h _ hc
 ·rintro h ⟨c,o⟩ hp
  cases o with
  | none=>rfl
  | some s=>simpa using h c s hp
theorem SP.fit {row other:List Pas}(h:SP row other) (x:Crd):pfit row x=pfit other x:=by
 rw [Bool.eq_iff_iff,zdk_,zdk_]
 exact ⟨fun g c s hc=>g c s ((h c s).mpr hc),fun g c s hc=>g c s ((h c s).mp hc)⟩
theorem PkOk.no {row:List Pas}{m:List (Int×List Nat)}(w:PkOk row m) {a b:Crd}(ha:pfit row a=true) (hb:pfit row b=true) (c:Int) (hc:(!(getA m c).isSome)=false):rnk a c=rnk b c:=by
 cases g:getA m c with
 | none=>rw [g] at hc; cases hc
 | some s =>
  have h1:=zdk_.mp ha c s (w.mem c s g)
  have h2:=zdk_.mp hb c s (w.mem c s g)
  have h3:([sg a c]:List Nat)=[sg b c]:=h1.trans h2.symm
  injection h3 with h3
  unfold rnk; rw [h3]
theorem nf {row:List Pas}{m:List (Int×List Nat)}(w:PkOk row m) (d:List Crd):row.foldl doP d=sK (kv (skey row m)) (d.filter (pfit row)):=by
 rw [zgT_]
 have key:∀ a b,pfit row a=true→pfit row b=true→(kv (pcols row).reverse a<kv (pcols row).reverse b↔kv (skey row m) a<kv (skey row m) b):=fun a b ha hb=>by
  have h:=ziz_ (fun c=>!(getA m c).isSome) (pcols row).reverse a b (w.no ha hb)
  have h2:ahd (skey row m) a b=ahd (pcols row).reverse a b:=by unfold skey; rw [zlM_,h]
  rw [zkj_,zkj_] at h2
  rw [decide_eq_decide] at h2
  exact h2.symm
 refine zhO_ _ fun a ha b hb=>?_
 have h:=key b a (List.mem_filter.mp hb).2 (List.mem_filter.mp ha).2
 lia
noncomputable def sgn (s:List (Int×List Nat)) (c:Int):Nat:=((getA s c).getD [32]).headD 0
noncomputable def cw (s:List (Int×List Nat)) (mk:List Nat):Crd:=(List.range 36).map (fun i:Nat=>sgn s ((i:Int)+1))++mk
noncomputable def Vok (s:List (Int×List Nat)):Prop:=∀ c v,getA s c=some v→∃ x,v=[x]∧x∈SG
theorem Vok.at {s:List (Int×List Nat)}(h:Vok s) (c:Int):(getA s c).getD [32]=[sgn s c]∧sgn s c∈SG:=by
 unfold sgn
 cases g:getA s c with
 | none=>exact ⟨rfl,by decide⟩
 | some v=>obtain ⟨x,rfl,hx⟩:=h c v g; exact ⟨rfl,hx⟩
theorem PkOk.vok {row:List Pas}{m:List (Int×List Nat)}(w:PkOk row m):Vok m:=fun c v h=>w.val _ (zdl_ h)
theorem cw_eq {s:List (Int×List Nat)}(h:Vok s) {mk:List Nat}(hm:mk.length=4):zaF_ s mk=.ok (cw s mk):=by
 unfold zaF_ zct_
 walk_at "mo"
 rw [Mo.grd_ok (by decide)]
 walk_at "mo"
 rw [zeX_ (f:=fun x_7=>cond1 (Mo.ok true) (Mo.ok ((getA s x_7).getD [32]))) (g:=fun c=>(getA s c).getD [32]) (fun x _=>rfl) (by rw [zbe_]; decide)]
 have e:([]:List (List Nat))++(rngI 1 (37-1:Int).toNat).map (fun c=>(getA s c).getD [32])=((List.range 36).map fun i:Nat=>sgn s ((i:Int)+1)).map fun c=>[c]:=by
  rw [List.nil_append,List.map_map]
  unfold rngI
  rw [List.map_map]
  refine List.map_congr_left fun i _=>?_
  show (getA s (1+(i:Int))).getD [32]=[sgn s ((i:Int)+1)]
  rw [Int.add_comm]; exact (h.at _).1
 rw [show (37:Int)-1=(37-1:Int) from rfl] at *
 walk_at "mo"
 rw [show ([]:List (List Nat))++(rngI 1 (36:Int).toNat).map (fun c=>(getA s c).getD [32])=((List.range 36).map fun i:Nat=>sgn s ((i:Int)+1)).map fun c=>[c] from e]
 generalize hw:(List.range 36).map (fun i:Nat=>sgn s ((i:Int)+1))=ws
 have hwl:ws.length=36:=by rw [← hw]; simp
 have esl:strsL (ws.map fun c=>[c])=ws.map fun c=>(⟨#[c]⟩:Str):=by unfold strsL; rw [List.map_map]; rfl
 rw [esl]
 have hj:JoinOk { cps:=#[] } (ws.map fun c=>(⟨#[c]⟩:Str))=true:=zd2_ (by rw [List.length_map,hwl]; decide) (fun q hq=>by
  obtain ⟨c,_,rfl⟩:=List.mem_map.mp hq
  simp [Str.length])
 rw [Mo.grd_ok hj,L2.zgu_]
 walk_at "mo"
 rw [Mo.lim_ok (by lia)]
 walk_at "mo"
 unfold cw
 rw [hw]
theorem cw_isC {s:List (Int×List Nat)}(h:Vok s) {mk:List Nat}(hm:mk.length=4) (hs:∀ x∈mk,x∈SG):isC (cw s mk):=by
 refine ⟨by unfold cw; simp; lia,fun x hx=>?_⟩
 rcases List.mem_append.mp hx with hx | hx
 ·obtain ⟨i,_,rfl⟩:=List.mem_map.mp hx
  exact (h.at _).2
 ·exact hs x hx
theorem cw_sg (s:List (Int×List Nat)) (mk:List Nat) {c:Int}(h1:1≤c) (h2:c≤36):sg (cw s mk) c=sgn s c:=by
 unfold sg cw
 rw [List.getD_eq_getElem?_getD,List.getElem?_append_left (by simp; lia),List.getElem?_map,List.getElem?_range (by lia)]
 show sgn s (((c-1).toNat:Int)+1)=_
 congr 1
 lia
theorem fold1 (row:List Pas) (x:Crd):row.foldl doP [x]=if pfit row x=true then [x] else []:=by
 rw [zgT_]
 cases h:pfit row x with
 | true=>simp [h,sK,insK]
 | false=>simp [h,sK]
theorem part1 {row other:List Pas}{x:Crd}(h1:pfit row x=false) (h2:pfit other x=true):row.foldl doP [x]≠other.foldl doP [x]∧other.foldl doP [x]≠row.foldl doP [x]:=by
 rw [fold1,fold1,h1,h2]
 exact ⟨by simp,by simp⟩
noncomputable def mk1:List Nat:=[48,48,48,49]
noncomputable def mk2:List Nat:=[48,48,48,50]
theorem cw_fit {row:List Pas}{m s:List (Int×List Nat)}(w:PkOk row m) (mk:List Nat) (h:∀ c v,getA m c=some v→getA s c=some v):pfit row (cw s mk)=true:=by
 rw [zdk_]
 intro c v hc
 have g:=w.all c v hc
 obtain ⟨x,rfl,_⟩:=w.vok c v g
 obtain ⟨c1,c2⟩:=w.col _ (zdl_ g)
 rw [cw_sg s mk c1 c2]
 unfold sgn
 rw [h c _ g]; rfl
theorem PkOk.l36 {row:List Pas}{m:List (Int×List Nat)}(w:PkOk row m):m.length≤36:=by
 have:=zdM_ (m.map (·.1)) (rngI 1 36) w.nd fun x hx=>by
  obtain ⟨q,hq,rfl⟩:=List.mem_map.mp hx
  have:=w.col q hq
  exact zeb_.mpr ⟨this.1,by have:=this.2; lia⟩
 rw [List.length_map,zbe_] at this; exact this
theorem zkq_ {row other:List Pas}{m m':List (Int×List Nat)}(w:PkOk row m) (w':PkOk other m') :
  (zV_ m m'=.ok none∧∀ c s,((c,some s):Pas)∈row→((c,some s):Pas)∈other)∨∃ x,zV_ m m'=.ok (some x)∧isC x∧pfit row x=false∧pfit other x=true:=by
 have hm:=w.l36
 have hm':=w'.l36
 have hsd:∀ c v,getA m c=some v→Vok (sdA m' c (if decide (v=[48])=true then [49] else [48])).2∧(sdA m' c (if decide (v=[48])=true then [49] else [48])).2.length≤64∧(∀ c' v',getA m' c'=some v'→getA (sdA m' c (if decide (v=[48])=true then [49] else [48])).2 c'=some v')∧(getA m' c≠some v→[sgn (sdA m' c (if decide (v=[48])=true then [49] else [48])).2 c]≠v):=by
  intro c v hv
  have hd:∃ y,(if decide (v=[48])=true then ([49]:List Nat) else [48])=[y]∧y∈SG∧[y]≠v:=by
   by_cases e:v=[48]
   ·rw [decide_eq_true e]; exact ⟨49,rfl,by decide,by rw [e]; decide⟩
   ·rw [decide_eq_false e]; exact ⟨48,rfl,by decide,fun z=>e z.symm⟩
  obtain ⟨y,ey,hy,hyv⟩:=hd
  rw [ey]
  unfold sdA
  cases g:getA m' c with
  | some u =>
   refine ⟨w'.vok,by simp; lia,fun c' v' h=>h,fun hne z=>hne ?_⟩
   obtain ⟨x,rfl,_⟩:=w'.vok c u g
   have:sgn m' c=x:=by unfold sgn; rw [g]; rfl
   simp only at z
   rw [this] at z; rw [z]
  | none =>
   refine ⟨fun c' v' h=>?_,?_,fun c' v' h=>?_,fun _=>?_⟩
   ·simp only at h
    rw [zbS_] at h
    split at h
    ·cases h; exact ⟨y,rfl,hy⟩
    ·exact w'.vok c' v' h
   ·exact Nat.le_trans (zgk_ _ _ _) (by lia)
   ·simp only
    rw [zbS_,if_neg (fun e=>by rw [← e,g] at h; cases h)]; exact h
   ·have:sgn (putA m' c [y]) c=y:=by unfold sgn; rw [zbS_,if_pos rfl]; rfl
    simp only
    rw [this]; exact hyv
 have hkey:∀ c∈srtL ltI (m.map (·.1)),∃ v,getA m c=some v∧(c,v)∈m:=fun c hc=>by
  obtain ⟨q,hq,rfl⟩:=List.mem_map.mp ((zeN_ ltI (m.map (·.1))).mem_iff.mp hc)
  exact ⟨q.2,zkF_ w.nd hq,hq⟩
 unfold zV_ zbr_
 walk_at "mo"
 rw [Mo.grd_ok (by lia)]
 walk_at "mo"
 rw [zgU_ (p:=fun c=>!decide (getA m' c=getA m c)) (a:=fun c=>some (cw (sdA m' c (if decide (getA m c=some [48])=true then [49] else [48])).2 mk1)) (fun c hc=>?_)]
 ·cases g:(srtL ltI (m.map (·.1))).find? (fun c=>!decide (getA m' c=getA m c)) with
  | none =>
   refine .inl ⟨rfl,fun c s hc=>?_⟩
   have h1:=List.find?_eq_none.mp g c ((zeN_ ltI (m.map (·.1))).mem_iff.mpr (w.key hc))
   have h2:getA m' c=getA m c:=by simpa using h1
   exact w'.mem c s (h2.trans (w.all c s hc))
  | some c =>
   obtain ⟨v,hv,hmem⟩:=hkey c (List.mem_of_find?_eq_some g)
   obtain ⟨a1,a2,a3,a4⟩:=hsd c v hv
   have hne:getA m' c≠some v:=by
    have:=List.find?_some g
    rw [hv] at this
    simpa using this
   have e48:decide (getA m c=some [48])=decide (v=[48]):=by rw [hv,decide_eq_decide]; exact ⟨fun h=>Option.some.inj h,fun h=>by rw [h]⟩
   refine .inr ⟨_,rfl,?_,?_,?_⟩
   ·rw [e48]; exact cw_isC a1 rfl (by decide)
   ·rw [e48]
    cases hf:pfit row (cw (sdA m' c (if decide (v=[48])=true then [49] else [48])).2 mk1) with
    | false=>rfl
    | true =>
     have h1:=zdk_.mp hf c v (w.mem c v hv)
     obtain ⟨c1,c2⟩:=w.col _ hmem
     rw [cw_sg _ _ c1 c2] at h1
     exact absurd h1 (a4 hne)
   ·rw [e48]; exact cw_fit w' mk1 a3
 ·obtain ⟨v,hv,_⟩:=hkey c hc
  obtain ⟨a1,a2,a3,a4⟩:=hsd c v hv
  rw [hv]
  walk_at "mo"
  have e48:decide (some v=some ([48]:List Nat))=decide (v=[48]):=by rw [decide_eq_decide]; exact ⟨fun h=>Option.some.inj h,fun h=>by rw [h]⟩
  by_cases e:getA m' c=some v
  ·rw [decide_eq_true e]; rfl
  ·rw [decide_eq_false e,e48]
   walk_at "mo"
   have ite:(if decide (v=[48])=true then (Mo.ok ([49]:List Nat)) else Mo.ok [48])=Mo.ok (if decide (v=[48])=true then [49] else [48]):=by split<;>rfl
   rw [ite]
   walk_at "mo"
   rw [Mo.lim_ok (by lia),cw_eq (mk:=[48,48,48,49]) a1 rfl]
   rfl
theorem zmQ_ {ρ B:Type}{c:Int→Mo Bool}{step:Int→Mo (Out ρ Int Int)}(p:Nat→Bool) (hs:∀ i:Nat,step (i:Int)=.ok (.nx ((i:Int)+1))) (hc:∀ i:Nat,c (i:Int)=.ok (p i)) :
  ∀ (n fuel i:Nat),n<fuel→p (i+n)=false→∃ k:Nat,whileO (B:=B) c step fuel (i:Int)=.ok (.nx (k:Int))∧i≤k∧p k=false∧∀ j,i≤j→j<k→p j=true
 | n,0,i,h,_=>by lia
 | n,fuel+1,i,h,hp=>by
  cases e:p i with
  | false =>
   refine ⟨i,?_,Nat.le_refl _,e,fun j a b=>by lia⟩
   show (c i).bind _=_
   rw [hc,e]; rfl
  | true =>
   cases n with
   | zero=>rw [Nat.add_zero,e] at hp; cases hp
   | succ n =>
    obtain ⟨k,h1,h2,h3,h4⟩:=zmQ_ p hs hc n fuel (i+1) (by lia) (by rw [← hp]; congr 1; lia)
    refine ⟨k,?_,by lia,h3,fun j a b=>?_⟩
    ·rw [← h1]
     show (c i).bind _=_
     rw [hc,e]
     show (step i).bind _=_
     rw [hs]; rfl
    ·by_cases z:j=i
     ·rw [z]; exact e
     ·exact h4 j (by lia) b
theorem zkm_ (one other:List Int) (h:one.length≤1000):∃ k:Nat,za6_ one other=.ok (k:Int)∧k≤one.length∧k≤other.length∧(∀ j,j<k→one[j]?=other[j]?)∧(k<one.length→k<other.length→one[k]?≠other[k]?):=by
 let p:Nat→Bool:=fun i=>decide (i<min one.length other.length) && decide (one[i]?=other[i]?)
 unfold za6_ za4_
 walk_at "mo"
 obtain ⟨k,h1,_,h3,h4⟩:=zmQ_ (ρ:=Int) (B:=Unit) (c:=fun s_2=>if decide (s_2<min (one.length:Int) (other.length:Int))=true then (Mo.opt (atI one s_2)).bind fun a_14=>(Mo.opt (atI other s_2)).bind fun b_15=>Mo.ok (decide (a_14=b_15)) else Mo.ok false) (step:=fun s_2=>Mo.ok (Out.nx (s_2+1))) p (fun i=>rfl) (fun i=>by
  by_cases hi:i<min one.length other.length
  ·have h1:i<one.length:=by lia
   have h2:i<other.length:=by lia
   rw [decide_eq_true (by lia),if_pos rfl,zfB_ (by lia),zfB_ (by lia),Int.toNat_natCast,List.getElem?_eq_getElem h1,List.getElem?_eq_getElem h2]
   show Mo.ok (decide (one[i]=other[i]))=Mo.ok (decide (i<min one.length other.length) && decide (one[i]?=other[i]?))
   rw [decide_eq_true hi,Bool.true_and,List.getElem?_eq_getElem h1,List.getElem?_eq_getElem h2]
   congr 1
   rw [decide_eq_decide]
   exact ⟨fun z=>by rw [z],fun z=>Option.some.inj z⟩
  ·rw [decide_eq_false (by lia),if_neg (by decide)]
   show Mo.ok false=Mo.ok (decide (i<min one.length other.length) && _)
   rw [decide_eq_false hi]; rfl) 1000 fuelW 0 (by rw [ziL_]; lia) (by show (decide (_<_) && _)=false; rw [decide_eq_false (by lia)]; rfl)
 have h1':whileO (ρ:=Int) (B:=Unit) (fun s_2=>if decide (s_2<min (one.length:Int) (other.length:Int))=true then (Mo.opt (atI one s_2)).bind fun a_14=>(Mo.opt (atI other s_2)).bind fun b_15=>Mo.ok (decide (a_14=b_15)) else Mo.ok false) (fun s_2=>Mo.ok (Out.nx (s_2+1))) fuelW 0=.ok (.nx (k:Int)):=h1
 rw [h1']
 have hp:∀ j,j<k→j<min one.length other.length∧one[j]?=other[j]?:=fun j hj=>by
  have:=h4 j (Nat.zero_le _) hj
  rw [Bool.and_eq_true] at this
  exact ⟨of_decide_eq_true this.1,of_decide_eq_true this.2⟩
 have hkl:k≤min one.length other.length:=by
  cases k with
  | zero=>lia
  | succ k=>have:=(hp k (by lia)).1; lia
 refine ⟨k,rfl,by lia,by lia,fun j hj=>(hp j hj).2,fun a b z=>?_⟩
 have:p k=true:=by show (decide _ && decide _)=true; rw [decide_eq_true (by lia),decide_eq_true z]; rfl
 rw [h3] at this; cases this
theorem zi7_ {l:List Int}{k:Nat}{c:Int}:c∈l.take k↔∃ j,j<k∧l[j]?=some c:=by
 constructor
 ·intro h
  obtain ⟨i,hi,e⟩:=List.mem_iff_getElem.mp h
  rw [List.length_take] at hi
  rw [List.getElem_take] at e
  exact ⟨i,by lia,by rw [List.getElem?_eq_getElem (by lia),e]⟩
 ·rintro ⟨j,hj,e⟩
  refine List.mem_of_getElem? (i:=j) ?_
  rw [List.getElem?_take,if_pos hj]; exact e
noncomputable def frC (m:List (Int×List Nat)) (pre:List Int) (c:Int):Prop:=(1≤c∧c≤36)∧getA m c=none∧c∉pre
open Classical in
theorem zit_ {row:List Pas}{m:List (Int×List Nat)}(w:PkOk row m) {one other:List Int}(h1:one.length≤1000) (h2:other.length≤1000) :
  ∃ (k:Nat) (lo hi:List (Int×List Nat)),zav_ m one other=.ok [cw hi mk1,cw lo mk2]∧k≤one.length∧k≤other.length∧(∀ j,j<k→one[j]?=other[j]?)∧(k<one.length→k<other.length→one[k]?≠other[k]?)∧Vok lo∧Vok hi ∧
   (∀ c,getA lo c=if other[k]?=some c then some [49] else if frC m (one.take k) c then some [48] else getA m c)∧(∀ c,getA hi c=if other[k]?=some c then some [48] else if frC m (one.take k) c then some [49] else getA m c):=by
 have hml:=w.l36
 obtain ⟨k,ek,k1,k2,k3,k4⟩:=zkm_ one other h1
 unfold zav_ zbi_
 walk_at "mo"
 rw [ek]
 walk_at "mo"
 rw [Mo.grd_ok (by decide)]
 walk_at "mo"
 rw [ziZ_ (by lia),Int.toNat_natCast]
 refine zal_ (G:=fun z=>∃ (k:Nat) (lo hi:List (Int×List Nat)),fnO (thenO z _)=.ok [cw hi mk1,cw lo mk2]∧k≤one.length∧k≤other.length∧(∀ j,j<k→one[j]?=other[j]?)∧(k<one.length→k<other.length→one[k]?≠other[k]?)∧Vok lo∧Vok hi∧(∀ c,getA lo c=if other[k]?=some c then some [49] else if frC m (one.take k) c then some [48] else getA m c)∧(∀ c,getA hi c=if other[k]?=some c then some [48] else if frC m (one.take k) c then some [49] else getA m c))
  (fun dn (s:List (Int×List Nat)×List (Int×List Nat))=>s.1.length≤63+dn.length∧s.2.length≤63+dn.length∧(∀ c,getA s.1 c=if c∈dn∧frC m (one.take k) c then some [48] else getA m c)∧∀ c,getA s.2 c=if c∈dn∧frC m (one.take k) c then some [49] else getA m c) ?_ ?_ ?_
 ·exact ⟨by simp; lia,by simp; lia,fun c=>by rw [if_neg (by simp)],fun c=>by rw [if_neg (by simp)]⟩
 ·rintro dn c ⟨lo,hi⟩ ⟨r,hr⟩ ⟨g1,g2,g3,g4⟩
  simp only at g1 g2 g3 g4 ⊢
  have hdn:dn.length≤36:=by
   have:=congrArg List.length hr
   rw [zbe_,List.length_append] at this; simp at this; lia
  have hc:c∈rngI 1 36:=by
   have:c∈rngI 1 (Int.toNat 36):=by rw [show rngI 1 (Int.toNat 36)=_ from hr]; simp
   exact this
  have hc:=zeb_.mp hc
  have hcr:1≤c∧c≤36:=⟨hc.1,by have:=hc.2; lia⟩
  have same:¬ frC m (one.take k) c→(∀ x,(if x∈dn++[c]∧frC m (one.take k) x then some ([48]:List Nat) else getA m x)=if x∈dn∧frC m (one.take k) x then some [48] else getA m x)∧∀ x,(if x∈dn++[c]∧frC m (one.take k) x then some ([49]:List Nat) else getA m x)=if x∈dn∧frC m (one.take k) x then some [49] else getA m x:=fun hn=>by
   have:∀ x,(x∈dn++[c]∧frC m (one.take k) x)↔(x∈dn∧frC m (one.take k) x):=fun x=>by
    constructor
    ·rintro ⟨a,b⟩
     rcases List.mem_append.mp a with a | a
     ·exact ⟨a,b⟩
     ·rw [List.mem_singleton.mp a] at b; exact absurd b hn
    ·rintro ⟨a,b⟩; exact ⟨List.mem_append_left _ a,b⟩
   exact ⟨fun x=>by simp only [this x],fun x=>by simp only [this x]⟩
  cases g:getA m c with
  | some v =>
   walk_at "mo"
   have hn:¬ frC m (one.take k) c:=fun z=>by have:=z.2.1; rw [g] at this; cases this
   exact ⟨_,rfl,by simp; lia,by simp; lia,fun x=>by rw [g3 x,(same hn).1 x],fun x=>by rw [g4 x,(same hn).2 x]⟩
  | none =>
   walk_at "mo"
   by_cases hp:c∈one.take k
   ·rw [show (one.take k).any (fun y=>decide (y=c))=true by rw [List.any_eq_true]; exact ⟨c,hp,by simp⟩]
    walk_at "mo"
    have hn:¬ frC m (one.take k) c:=fun z=>z.2.2 hp
    exact ⟨_,rfl,by simp; lia,by simp; lia,fun x=>by rw [g3 x,(same hn).1 x],fun x=>by rw [g4 x,(same hn).2 x]⟩
   ·rw [show (one.take k).any (fun y=>decide (y=c))=false by rw [List.any_eq_false]; intro y hy z; simp at z; exact hp (z ▸ hy)]
    walk_at "mo"
    rw [Mo.lim_ok (by lia),Mo.lim_ok (by lia)]
    walk_at "mo"
    have hf:frC m (one.take k) c:=⟨hcr,g,hp⟩
    have one1:∀ x (v:List Nat),(if x∈dn++[c]∧frC m (one.take k) x then some v else getA m x)=if c=x then some v else if x∈dn∧frC m (one.take k) x then some v else getA m x:=fun x v=>by
     by_cases e:c=x
     ·subst e; rw [if_pos rfl,if_pos ⟨by simp,hf⟩]
     ·rw [if_neg e]
      have:(x∈dn++[c]∧frC m (one.take k) x)↔(x∈dn∧frC m (one.take k) x):=by
       constructor
       ·rintro ⟨a,b⟩
        rcases List.mem_append.mp a with a | a
        ·exact ⟨a,b⟩
        ·exact absurd (List.mem_singleton.mp a).symm e
       ·rintro ⟨a,b⟩; exact ⟨List.mem_append_left _ a,b⟩
      simp only [this]
    refine ⟨_,rfl,Nat.le_trans (zgk_ _ _ _) (by simp; lia),Nat.le_trans (zgk_ _ _ _) (by simp; lia),fun x=>?_,fun x=>?_⟩
    ·rw [zbS_,g3 x,one1]
    ·rw [zbS_,g4 x,one1]
 ·rintro ⟨lo,hi⟩ ⟨g1,g2,g3,g4⟩
  simp only at g1 g2 g3 g4 ⊢
  have hrl:(rngI 1 36).length=36:=zbe_ ..
  have hlo:lo.length≤99:=by have:lo.length≤63+(rngI 1 36).length:=g1; lia
  have hhi:hi.length≤99:=by have:hi.length≤63+(rngI 1 36).length:=g2; lia
  have hin:∀ c,(c∈rngI 1 36∧frC m (one.take k) c)↔frC m (one.take k) c:=fun c=>⟨fun z=>z.2,fun z=>⟨zeb_.mpr ⟨z.1.1,by have:=z.1.2; lia⟩,z⟩⟩
  have g3':∀ c,getA lo c=if frC m (one.take k) c then some [48] else getA m c:=fun c=>by
   rw [g3 c]
   by_cases z:frC m (one.take k) c
   ·rw [if_pos z,if_pos ⟨((hin c).mpr z).1,z⟩]
   ·rw [if_neg z,if_neg (fun y=>z y.2)]
  have g4':∀ c,getA hi c=if frC m (one.take k) c then some [49] else getA m c:=fun c=>by
   rw [g4 c]
   by_cases z:frC m (one.take k) c
   ·rw [if_pos z,if_pos ⟨((hin c).mpr z).1,z⟩]
   ·rw [if_neg z,if_neg (fun y=>z y.2)]
  have fin:∀ lo' hi',(∀ c,getA lo' c=if other[k]?=some c then some [49] else if frC m (one.take k) c then some [48] else getA m c)→(∀ c,getA hi' c=if other[k]?=some c then some [48] else if frC m (one.take k) c then some [49] else getA m c)→Vok lo'∧Vok hi':=fun lo' hi' a b=>by
   refine ⟨fun c v h=>?_,fun c v h=>?_⟩
   ·rw [a] at h
    split at h
    ·cases h; exact ⟨49,rfl,by decide⟩
    ·split at h
     ·cases h; exact ⟨48,rfl,by decide⟩
     ·exact w.vok c v h
   ·rw [b] at h
    split at h
    ·cases h; exact ⟨48,rfl,by decide⟩
    ·split at h
     ·cases h; exact ⟨49,rfl,by decide⟩
     ·exact w.vok c v h
  walk_at "mo"
  by_cases hk:k<other.length
  ·have ea:atI other (k:Int)=some other[k]:=by rw [zfB_ (by lia),Int.toNat_natCast,List.getElem?_eq_getElem hk]
   rw [decide_eq_true (show (k:Int)<other.length by lia),ea]
   walk_at "mo"
   rw [Mo.lim_ok (by lia),Mo.lim_ok (by lia)]
   walk_at "mo"
   have q:∀ c,(other[k]?=some c)↔other[k]=c:=fun c=>by rw [List.getElem?_eq_getElem hk]; exact ⟨fun z=>Option.some.inj z,fun z=>by rw [z]⟩
   have a1:∀ c,getA (putA lo other[k] [49]) c=if other[k]?=some c then some [49] else if frC m (one.take k) c then some [48] else getA m c:=fun c=>by
    rw [zbS_,g3' c]; simp only [q c]
   have a2:∀ c,getA (putA hi other[k] [48]) c=if other[k]?=some c then some [48] else if frC m (one.take k) c then some [49] else getA m c:=fun c=>by
    rw [zbS_,g4' c]; simp only [q c]
   obtain ⟨v1,v2⟩:=fin _ _ a1 a2
   rw [cw_eq (mk:=[48,48,48,49]) v2 rfl,cw_eq (mk:=[48,48,48,50]) v1 rfl]
   exact ⟨k,_,_,rfl,k1,k2,k3,k4,v1,v2,a1,a2⟩
  ·rw [decide_eq_false (show ¬ (k:Int)<other.length by lia)]
   walk_at "mo"
   have q:∀ c,¬ (other[k]?=some c):=fun c z=>by rw [List.getElem?_eq_none (by lia)] at z; cases z
   have a1:∀ c,getA lo c=if other[k]?=some c then some [49] else if frC m (one.take k) c then some [48] else getA m c:=fun c=>by rw [if_neg (q c)]; exact g3' c
   have a2:∀ c,getA hi c=if other[k]?=some c then some [48] else if frC m (one.take k) c then some [49] else getA m c:=fun c=>by rw [if_neg (q c)]; exact g4' c
   obtain ⟨v1,v2⟩:=fin _ _ a1 a2
   rw [cw_eq (mk:=[48,48,48,49]) v2 rfl,cw_eq (mk:=[48,48,48,50]) v1 rfl]
   exact ⟨k,_,_,rfl,k1,k2,k3,k4,v1,v2,a1,a2⟩
theorem zi4_ (L:List Int):(onceL L).Nodup:=by
 refine zbw_ (P:=fun L=>(onceL L).Nodup) (by show ([]:List Int).Nodup; simp) (fun L c ih=>?_) L
 rw [zdI_]
 split
 ·exact ih
 ·rename_i h
  rw [List.nodup_append]
  exact ⟨ih,by simp,fun a ha b hb z=>h (by rw [← List.mem_singleton.mp hb,← z]; exact ha)⟩
theorem zky_ {row:List Pas}{m:List (Int×List Nat)}(hr:∀ p∈row,psOk p):(skey row m).Nodup∧(skey row m).length≤row.length∧∀ c∈skey row m,(1≤c∧c≤36)∧getA m c=none:=by
 refine ⟨zi4_ _,Nat.le_trans (ziK_ _) (Nat.le_trans (List.length_filter_le _ _) (by rw [List.length_reverse]; exact List.length_filterMap_le _ _)),fun c hc=>?_⟩
 obtain ⟨h1,h2⟩:=List.mem_filter.mp (zlE_ hc)
 rw [List.mem_reverse] at h1
 unfold pcols at h1
 obtain ⟨p,hp,hq⟩:=List.mem_filterMap.mp h1
 have h3:=(hr p hp).1
 obtain ⟨c',o⟩:=p
 cases o with
 | some s=>cases hq
 | none =>
  have hq:c'=c:=Option.some.inj hq
  subst hq
  refine ⟨h3,?_⟩
  show getA m c'=none
  cases g:getA m c' with
  | none=>rfl
  | some v=>rw [g] at h2; cases h2
theorem zmf_ {a b:Crd}:∀ {L:List Int},(∀ c∈L,rnk a c=rnk b c)→ahd L a b=false
 | [],_=>rfl
 | c::L,h=>by unfold ahd; rw [if_pos (h c List.mem_cons_self)]; exact zmf_ fun x hx=>h x (List.mem_cons_of_mem _ hx)
theorem zip_ {a b:Crd}:∀ (k:Nat) {L:List Int}{c:Int},L[k]?=some c→(∀ j x,j<k→L[j]?=some x→rnk a x=rnk b x)→rnk a c≠rnk b c→ahd L a b=decide (rnk a c<rnk b c)
 | 0,[],c,h,_,_=>by cases h
 | 0,x::L,c,h,_,hn=>by cases h; unfold ahd; rw [if_neg hn]
 | k+1,[],c,h,_,_=>by cases h
 | k+1,x::L,c,h,hp,hn=>by
  unfold ahd
  rw [if_pos (hp 0 x (by lia) rfl)]
  exact zip_ k (by simpa using h) (fun j y hj hy=>hp (j+1) y (by lia) (by simpa using hy)) hn
theorem nd_at {L:List Int}(hn:L.Nodup) {i j:Nat}{c:Int}(h1:L[i]?=some c) (h2:L[j]?=some c):i=j:=by
 obtain ⟨a,e⟩:=List.getElem?_eq_some_iff.mp h1
 obtain ⟨b,e2⟩:=List.getElem?_eq_some_iff.mp h2
 exact (List.getElem_inj hn).mp (e.trans e2.symm)
theorem zgM_ {row:List Pas}{m:List (Int×List Nat)}(w:PkOk row m) {one other:List Int}(n1:one.Nodup) (n2:other.Nodup) (l1:one.length≤1000) (l2:other.length≤1000)
  (c1:∀ c∈one,(1≤c∧c≤36)∧getA m c=none) (c2:∀ c∈other,(1≤c∧c≤36)∧getA m c=none) (hlong:∀ k,k≤one.length→k≤other.length→(∀ j,j<k→one[j]?=other[j]?)→(k<one.length→k<other.length→one[k]?≠other[k]?)→k<one.length) :
  ∃ H Lw,zav_ m one other=.ok [H,Lw]∧isC H∧isC Lw∧H.drop 36≠Lw.drop 36∧pfit row H=true∧pfit row Lw=true∧ahd one Lw H=true∧ahd other Lw H=false:=by
 obtain ⟨k,lo,hi,e,k1,k2,k3,k4,v1,v2,a1,a2⟩:=zit_ w l1 l2
 have hk:=hlong k k1 k2 k3 k4
 have fitS:∀ c v,getA m c=some v→getA lo c=some v∧getA hi c=some v:=fun c v h=>by
  have hs:¬ other[k]?=some c:=fun z=>by have:=(c2 c (List.mem_of_getElem? z)).2; rw [h] at this; cases this
  have hf:¬ frC m (one.take k) c:=fun z=>by have:=z.2.1; rw [h] at this; cases this
  rw [a1,a2,if_neg hs,if_neg hf,if_neg hs,if_neg hf]; exact ⟨h,h⟩
 have pre:∀ j x,j<k→one[j]?=some x→rnk (cw lo mk2) x=rnk (cw hi mk1) x:=fun j x hj hx=>by
  obtain ⟨b1,b2⟩:=(c1 x (List.mem_of_getElem? hx)).1
  have hs:¬ other[k]?=some x:=fun z=>by
   have:=nd_at n2 z ((k3 j hj).symm.trans hx); lia
  have hf:¬ frC m (one.take k) x:=fun z=>z.2.2 (zi7_.mpr ⟨j,hj,hx⟩)
  unfold rnk
  rw [cw_sg _ _ b1 b2,cw_sg _ _ b1 b2]
  unfold sgn
  rw [a1,a2,if_neg hs,if_neg hf,if_neg hs,if_neg hf]
 have hone:one[k]?=some one[k]:=List.getElem?_eq_getElem hk
 have hs:¬ other[k]?=some one[k]:=fun z=>by
  have hk2:k<other.length:=(List.getElem?_eq_some_iff.mp z).1
  exact k4 hk hk2 (hone.trans z.symm)
 have hcol:=c1 one[k] (List.getElem_mem hk)
 have hf:frC m (one.take k) one[k]:=⟨hcol.1,hcol.2,fun z=>by
  obtain ⟨j,hj,hx⟩:=zi7_.mp z
  have:=nd_at n1 hx hone; lia⟩
 have r1:rnk (cw lo mk2) one[k]=rk1 48∧rnk (cw hi mk1) one[k]=rk1 49:=by
  unfold rnk
  rw [cw_sg _ _ hcol.1.1 hcol.1.2,cw_sg _ _ hcol.1.1 hcol.1.2]
  unfold sgn
  rw [a1,a2,if_neg hs,if_pos hf,if_neg hs,if_pos hf]
  exact ⟨rfl,rfl⟩
 have h48:rk1 48<rk1 49:=by decide +kernel
 refine ⟨cw hi mk1,cw lo mk2,e,cw_isC v2 rfl (by decide),cw_isC v1 rfl (by decide),?_,cw_fit w mk1 fun c v h=>(fitS c v h).2,cw_fit w mk2 fun c v h=>(fitS c v h).1,?_,?_⟩
 ·have:∀ s mk,(cw s mk).drop 36=mk:=fun s mk=>by unfold cw; rw [List.drop_left' (by simp)]
  rw [this,this]; decide
 ·rw [zip_ k hone pre (by rw [r1.1,r1.2]; lia),r1.1,r1.2]; exact decide_eq_true h48
 ·by_cases hk2:k<other.length
  ·have hoth:other[k]?=some other[k]:=List.getElem?_eq_getElem hk2
   have hcol2:=(c2 other[k] (List.getElem_mem hk2)).1
   have r2:rnk (cw lo mk2) other[k]=rk1 49∧rnk (cw hi mk1) other[k]=rk1 48:=by
    unfold rnk
    rw [cw_sg _ _ hcol2.1 hcol2.2,cw_sg _ _ hcol2.1 hcol2.2]
    unfold sgn
    rw [a1,a2,if_pos hoth,if_pos hoth]
    exact ⟨rfl,rfl⟩
   rw [zip_ k hoth (fun j x hj hx=>pre j x hj ((k3 j hj).trans hx)) (by rw [r2.1,r2.2]; lia),r2.1,r2.2]
   exact decide_eq_false (by lia)
  ·refine zmf_ fun c hc=>?_
   obtain ⟨j,hj,ej⟩:=List.mem_iff_getElem.mp hc
   exact pre j c (by lia) ((k3 j (by lia)).trans (by rw [List.getElem?_eq_getElem hj,ej]))
theorem zjp_ {row:List Pas}{m:List (Int×List Nat)}(w:PkOk row m) {L L':List Int}(n1:L.Nodup) (n2:L'.Nodup) (l1:L.length≤1000) (l2:L'.length≤1000)
  (c1:∀ c∈L,(1≤c∧c≤36)∧getA m c=none) (c2:∀ c∈L',(1≤c∧c≤36)∧getA m c=none) (hne:L≠L') :
  ∃ H Lw,zO_ m L L'=.ok (some [H,Lw])∧isC H∧isC Lw∧H.drop 36≠Lw.drop 36∧pfit row H=true∧pfit row Lw=true∧ahd L Lw H≠ahd L' Lw H:=by
 have dec:∀ a b:Int,(fun a b=>decide (a=b)) a b=decide (a=b):=fun _ _=>rfl
 unfold zO_ zak_
 walk_at "mo"
 rw [zfM_ dec,decide_eq_false hne]
 walk_at "mo"
 have eb:zbz_ L' L=.ok (decide (L'.take L.length=L)):=by
  unfold zbz_ zbB_
  walk_at "mo"
  rw [ziZ_ (by lia),Int.toNat_natCast,zfM_ dec]
 rw [eb]
 walk_at "mo"
 by_cases hp:L'.take L.length=L
 ·rw [decide_eq_true hp]
  walk_at "mo"
  have hLL:L.length≤L'.length:=by have:=congrArg List.length hp; rw [List.length_take] at this; lia
  obtain ⟨H,Lw,e,i1,i2,i3,i4,i5,i6,i7⟩:=zgM_ w n2 n1 l2 l1 c2 c1 (fun k k1 k2 k3 k4=>by
   have hk:k=L.length:=by
    refine Nat.le_antisymm k2 (Nat.le_of_not_lt fun z=>k4 (by lia) z ?_)
    conv=>rhs; rw [← hp]
    rw [List.getElem?_take,if_pos z]
   refine Nat.lt_of_le_of_ne k1 fun z=>hne ?_
   rw [← hp,List.take_of_length_le (by lia)])
  rw [e]
  exact ⟨H,Lw,rfl,i1,i2,i3,i4,i5,by rw [i6,i7]; decide⟩
 ·rw [decide_eq_false hp]
  walk_at "mo"
  obtain ⟨H,Lw,e,i1,i2,i3,i4,i5,i6,i7⟩:=zgM_ w n1 n2 l1 l2 c1 c2 (fun k k1 k2 k3 k4=>by
   refine Nat.lt_of_le_of_ne k1 fun z=>hp ?_
   apply List.ext_getElem?
   intro j
   rw [List.getElem?_take]
   split
   ·rename_i hj; exact (k3 j (by lia)).symm
   ·rw [List.getElem?_eq_none (by lia)])
  rw [e]
  exact ⟨H,Lw,rfl,i1,i2,i3,i4,i5,by rw [i6,i7]; decide⟩
theorem sK2 (k:Crd→Nat) (a b:Crd):sK k [a,b]=if k b<k a then [b,a] else [a,b]:=by
 show insK k b (insK k a [])=_
 unfold insK
 by_cases h:k b<k a
 ·simp [h,show ¬ k a≤k b by lia]
 ·simp [h,show k a≤k b by lia]
noncomputable def sameS (row other:List Pas):Prop:=(Cf row∧Cf other)∨∃ m m',PkOk row m∧PkOk other m'∧SP row other∧skey row m=skey other m'
theorem sameS.symm {row other:List Pas}(h:sameS row other):sameS other row:=by
 rcases h with ⟨a,b⟩ | ⟨m,m',w,w',h1,h2⟩
 ·exact .inl ⟨b,a⟩
 ·exact .inr ⟨m',m,w',w,fun c s=>(h1 c s).symm,h2.symm⟩
theorem sameS.fold {row other:List Pas}(h:sameS row other) (d:List Crd):row.foldl doP d=other.foldl doP d:=by
 rcases h with ⟨a,b⟩ | ⟨m,m',w,w',h1,h2⟩
 ·rw [zgT_,zgT_,show pfit row=fun _=>false from funext a.fit,show pfit other=fun _=>false from funext b.fit]
  rw [show d.filter (fun _=>false)=[] by simp]
  rfl
 ·rw [nf w,nf w',h2,show pfit row=pfit other from funext h1.fit]
noncomputable def Parts (row other:List Pas) (d:List Crd):Prop:=1≤d.length∧d.length≤2∧(∀ c∈d,isC c)∧(∀ a b,d=[a,b]→a.drop 36≠b.drop 36)∧row.foldl doP d≠other.foldl doP d
theorem parts1 {row other:List Pas}{x:Crd}(hx:isC x) (h:row.foldl doP [x]≠other.foldl doP [x]):Parts row other [x]:=⟨by simp,by simp,fun c hc=>by rw [List.mem_singleton.mp hc]; exact hx,fun a b z=>by simp at z,h⟩
theorem zh2_ {row other:List Pas}(hr:∀ p∈row,psOk p) (ho:∀ p∈other,psOk p) (hl:row.length≤1000) (hl':other.length≤1000):(zy_ row other=.ok none∧sameS row other)∨∃ d,zy_ row other=.ok (some d)∧Parts row other d∧¬ sameS row other:=by
 have fin:∀ d,zy_ row other=.ok (some d)→Parts row other d→(zy_ row other=.ok none∧sameS row other)∨∃ d,zy_ row other=.ok (some d)∧Parts row other d∧¬ sameS row other:=fun d e p=>.inr ⟨d,e,p,fun z=>p.2.2.2.2 (z.fold d)⟩
 rcases zd9_ hr (by lia) with ⟨e1,f1⟩ | ⟨m,e1,w⟩
 ·rcases zd9_ ho (by lia) with ⟨e2,f2⟩ | ⟨m',e2,w'⟩
  ·refine .inl ⟨?_,.inl ⟨f1,f2⟩⟩
   unfold zy_ zaa_
   walk_at "mo"
   rw [e1,e2]
   rfl
  ·refine fin [cw m' mk1] ?_ (parts1 (cw_isC w'.vok rfl (by decide)) (part1 (f1.fit _) (cw_fit w' mk1 fun c v h=>h)).1)
   unfold zy_ zaa_
   walk_at "mo"
   rw [e1,e2]
   walk_at "mo"
   rw [show eqSn none (some (m',skey other m'))=false from rfl]
   walk_at "mo"
   rw [cw_eq (mk:=[48,48,48,49]) w'.vok rfl]
   rfl
 ·rcases zd9_ ho (by lia) with ⟨e2,f2⟩ | ⟨m',e2,w'⟩
  ·refine fin [cw m mk1] ?_ (parts1 (cw_isC w.vok rfl (by decide)) (part1 (f2.fit _) (cw_fit w mk1 fun c v h=>h)).2)
   unfold zy_ zaa_
   walk_at "mo"
   rw [e1,e2]
   walk_at "mo"
   rw [show eqSn (some (m,skey row m)) none=false from rfl]
   walk_at "mo"
   rw [cw_eq (mk:=[48,48,48,49]) w.vok rfl]
   rfl
  ·have dec:∀ a b:Int,(fun a b=>decide (a=b)) a b=decide (a=b):=fun _ _=>rfl
   have ee:eqSn (some (m,skey row m)) (some (m',skey other m'))=(eqDm m m' && decide (skey row m=skey other m')):=by
    show (eqDm m m' && eqL (fun a b=>decide (a=b)) (skey row m) (skey other m'))=_
    rw [zfM_ dec]
   by_cases hs:SP row other∧skey row m=skey other m'
   ·refine .inl ⟨?_,.inr ⟨m,m',w,w',hs.1,hs.2⟩⟩
    unfold zy_ zaa_
    walk_at "mo"
    rw [e1,e2]
    walk_at "mo"
    rw [ee,(ziB_ w w').mpr hs.1,decide_eq_true hs.2]
    rfl
   ·have e0:eqSn (some (m,skey row m)) (some (m',skey other m'))=false:=by
     rw [ee]
     cases h:eqDm m m' with
     | false=>rfl
     | true=>rw [Bool.true_and]; exact decide_eq_false fun z=>hs ⟨(ziB_ w w').mp h,z⟩
    have top:∀ {r:Option (List (List Nat))},zC_ m m'=.ok r→(r.isNone=true→∃ d,zO_ m (skey row m) (skey other m')=.ok (some d))→∃ d,zy_ row other=.ok (some d)∧((r=some d)∨(r=none∧zO_ m (skey row m) (skey other m')=.ok (some d))):=by
     intro r h1 h2
     cases r with
     | none =>
      obtain ⟨d,hd⟩:=h2 rfl
      refine ⟨d,?_,.inr ⟨rfl,hd⟩⟩
      unfold zy_ zaa_
      walk_at "mo"
      rw [e1,e2]
      walk_at "mo"
      rw [e0]
      walk_at "mo"
      rw [h1]
      walk_at "mo"
      rw [hd]
      rfl
     | some d =>
      refine ⟨d,?_,.inl rfl⟩
      unfold zy_ zaa_
      walk_at "mo"
      rw [e1,e2]
      walk_at "mo"
      rw [e0]
      walk_at "mo"
      rw [h1]
      rfl
    have pick:∀ x,(zV_ m m'=.ok (some x)∨(zV_ m m'=.ok none∧zV_ m' m=.ok (some x)))→zC_ m m'=.ok (some [x]):=by
     rintro x (h | ⟨h,h'⟩)
     ·unfold zC_ zZ_
      walk_at "mo"
      rw [h]
      rfl
     ·unfold zC_ zZ_
      walk_at "mo"
      rw [h]
      walk_at "mo"
      rw [h']
      rfl
    rcases zkq_ w w' with ⟨s1,b1⟩ | ⟨x,s1,x1,x2,x3⟩
    ·rcases zkq_ w' w with ⟨s2,b2⟩ | ⟨x,s2,x1,x2,x3⟩
     ·have hsp:SP row other:=fun c s=>⟨b1 c s,b2 c s⟩
      have hne:skey row m≠skey other m':=fun z=>hs ⟨hsp,z⟩
      obtain ⟨n1,l1,c1⟩:=zky_ (m:=m) hr
      obtain ⟨n2,l2,c2⟩:=zky_ (m:=m') ho
      have c2':∀ c∈skey other m',(1≤c∧c≤36)∧getA m c=none:=fun c hc=>⟨(c2 c hc).1,by
       cases g:getA m c with
       | none=>rfl
       | some v =>
        have:=w'.all c v ((hsp c v).mp (w.mem c v g))
        rw [(c2 c hc).2] at this; cases this⟩
      obtain ⟨H,Lw,eo,i1,i2,i3,i4,i5,i6⟩:=zjp_ w n1 n2 (by lia) (by lia) c1 c2' hne
      have hpk:zC_ m m'=.ok none:=by
       unfold zC_ zZ_
       walk_at "mo"
       rw [s1]
       walk_at "mo"
       rw [s2]
       rfl
      obtain ⟨d,hd,hor⟩:=top hpk fun _=>⟨_,eo⟩
      rcases hor with z | ⟨_,z⟩
      ·cases z
      ·rw [eo] at z
       have z':[H,Lw]=d:=by injection z with z; exact Option.some.inj z
       subst z'
       refine fin _ hd ⟨by simp,by simp,fun c hc=>?_,fun a b z=>?_,?_⟩
       ·rcases List.mem_cons.mp hc with rfl | hc
        ·exact i1
        ·rw [List.mem_singleton.mp hc]; exact i2
       ·injection z with z1 z2
        injection z2 with z2
        rw [← z1,← z2]; exact i3
       ·rw [nf w,nf w',show pfit other=pfit row from (funext hsp.fit).symm]
        have hfl:[H,Lw].filter (pfit row)=[H,Lw]:=by simp [i4,i5]
        rw [hfl,sK2,sK2]
        rw [zkj_,zkj_] at i6
        have hHL:[Lw,H]≠[H,Lw]:=fun z=>i3 (by injection z with z; rw [z])
        by_cases q1:kv (skey row m) Lw<kv (skey row m) H
        ·by_cases q2:kv (skey other m') Lw<kv (skey other m') H
         ·rw [decide_eq_true q1,decide_eq_true q2] at i6; exact absurd rfl i6
         ·rw [if_pos q1,if_neg q2]; exact hHL
        ·by_cases q2:kv (skey other m') Lw<kv (skey other m') H
         ·rw [if_neg q1,if_pos q2]; exact hHL.symm
         ·rw [decide_eq_false q1,decide_eq_false q2] at i6; exact absurd rfl i6
     ·obtain ⟨d,hd,hor⟩:=top (pick x (.inr ⟨s1,s2⟩)) fun z=>by cases z
      rcases hor with z | ⟨z,_⟩
      ·cases z; exact fin _ hd (parts1 x1 (part1 x2 x3).2)
      ·cases z
    ·obtain ⟨d,hd,hor⟩:=top (pick x (.inl s1)) fun z=>by cases z
     rcases hor with z | ⟨z,_⟩
     ·cases z; exact fin _ hd (parts1 x1 (part1 x2 x3).1)
     ·cases z
theorem znJ_ (L:List Int):onceL L=L.foldl (fun acc c=>if c∈acc then acc else acc++[c]) []:=rfl
noncomputable def oSt (acc:List Int) (c:Int):List Int:=if c∈acc then acc else acc++[c]
theorem oSt2 (acc:List Int) (c:Int):oSt (oSt acc c) c=oSt acc c:=by
 unfold oSt
 by_cases h:c∈acc
 ·rw [if_pos h,if_pos h]
 ·rw [if_neg h,if_pos (by simp)]
noncomputable def Kp (row r bh:List Pas):Prop:=∀ q:Int→Bool,(∀ c s,((c,some s):Pas)∈row→q c=false)→∀ acc,((pcols bh).reverse.filter q).foldl oSt acc=((pcols r).reverse.filter q).foldl oSt acc
theorem zao_ (r:List Pas) (p:Pas):(pcols (r++[p])).reverse=(match p.2 with | none=>[p.1] | some _=>[])++(pcols r).reverse:=by
 unfold pcols
 rw [List.filterMap_append,List.reverse_append]
 obtain ⟨c,o⟩:=p
 cases o<;>rfl
theorem Kp.deal {row r bh:List Pas}(h:Kp row r bh) (c:Int):Kp row (r++[(c,none)]) (bh++[(c,none)]):=fun q hq acc=>by
 rw [zao_,zao_]
 simp only [List.filter_append,List.foldl_append]
 exact h q hq _
theorem Kp.deal2 {row r bh:List Pas}(h:Kp row r bh) (c:Int):Kp row (r++[(c,none)]) (bh++[(c,none)]++[(c,none)]):=fun q hq acc=>by
 rw [zao_,zao_,zao_]
 simp only [List.filter_append,List.foldl_append]
 rw [h q hq]
 congr 1
 cases g:q c with
 | true=>rw [show [c].filter q=[c] by simp [g]]; exact oSt2 acc c
 | false=>rw [show [c].filter q=[] by simp [g]]; rfl
theorem Kp.pick {row r bh:List Pas}(h:Kp row r bh) (c:Int) (s:List Nat):Kp row (r++[(c,some s)]) bh∧Kp row (r++[(c,some s)]) (bh++[(c,some s)]):=by
 constructor
 ·intro q hq acc
  rw [zao_]
  exact h q hq acc
 ·intro q hq acc
  rw [zao_,zao_]
  exact h q hq acc
theorem Kp.pick2 {row r bh:List Pas}(h:Kp row r bh) {c:Int}{s:List Nat}(hc:((c,some s):Pas)∈row):Kp row (r++[(c,some s)]) (bh++[(c,none)]++[(c,some s)]):=fun q hq acc=>by
 rw [zao_,zao_,zao_]
 simp only [List.filter_append,List.foldl_append]
 rw [show [c].filter q=[] by simp [hq c s hc]]
 exact h q hq acc
theorem zna_ {n:Nat}{dn r:List Int}{x:Int}(h:rngI 0 n=dn++x::r):x=(dn.length:Int)∧dn.length<n:=by
 have h1:(rngI 0 n)[dn.length]?=some x:=by rw [h]; simp
 have h2:dn.length<n:=by have:=congrArg List.length h; rw [zbe_,List.length_append] at this; simp at this; lia
 unfold rngI at h1
 rw [List.getElem?_map,List.getElem?_range h2] at h1
 have:(0:Int)+(dn.length:Int)=x:=Option.some.inj h1
 exact ⟨by lia,h2⟩
structure Sis (row r ah bh:List Pas):Prop where
 la:ah.length≤r.length
 lb:bh.length≤2*r.length
 oa:∀ p∈ah,psOk p∧p.2≠none
 ob:∀ p∈bh,psOk p
 sp:∀ c s,(((c,some s):Pas)∈ah++bh)↔((c,some s):Pas)∈r
 kp:Kp row r bh
theorem zn8_ {row:List Pas}{cells:List Int}(hr:∀ p∈row,psOk p) (hl:row.length≤cells.length) (h64:row.length≤64) :
  ∃ ah bh,z1_ row cells=.ok (ah++bh)∧Sis row row ah bh:=by
 unfold z1_ zai_
 walk_at "mo"
 rw [Mo.grd_ok (by lia),Int.toNat_natCast]
 walk_at "mo"
 refine zal_ (G:=fun z=>∃ ah bh,fnO (thenO z _)=.ok (ah++bh)∧Sis row row ah bh) (fun dn (s:List Pas×List Pas)=>Sis row (row.take dn.length) s.1 s.2) ⟨Nat.zero_le _,Nat.zero_le _,fun p z=>(by cases z),fun p z=>(by cases z),fun c s=>⟨fun z=>(by cases z),fun z=>(by simp at z)⟩,fun q hq acc=>rfl⟩ ?_ ?_
 ·rintro dn x ⟨ah,bh⟩ ⟨r,hrr⟩ w
  simp only at w ⊢
  obtain ⟨hx,hdl⟩:=zna_ hrr
  subst hx
  have hla:=w.la
  have hlb:=w.lb
  rw [List.length_take] at hla hlb
  have hdc:dn.length<cells.length:=by lia
  rw [zfB_ (by lia),Int.toNat_natCast,List.getElem?_eq_getElem hdl,zfB_ (by lia),Int.toNat_natCast,List.getElem?_eq_getElem hdc]
  walk_at "mo"
  have hp:psOk row[dn.length]:=hr _ (List.getElem_mem hdl)
  have hin:row[dn.length]∈row:=List.getElem_mem hdl
  have htk:row.take (dn++[(dn.length:Int)]).length=row.take dn.length++[row[dn.length]]:=by
   rw [List.length_append]; exact (List.take_append_getElem hdl).symm
  have hw:0≤cells[dn.length] / 3 % 4∧cells[dn.length] / 3 % 4<4:=by lia
  rw [htk]
  generalize cells[dn.length] / 3 % 4=way at hw
  generalize row[dn.length]=p at hp hin
  have hrl:(row.take dn.length).length=dn.length:=by rw [List.length_take]; lia
  generalize row.take dn.length=done at w hrl
  have la':(done++[p]).length=dn.length+1:=by rw [List.length_append,hrl]; rfl
  obtain ⟨c,o⟩:=p
  cases o with
  | some s =>
   have e1:decide (pTag (c,some s)=[112,105,99,107])=true:=rfl
   have e2:decide (pTag (c,some s)=[100,101,97,108])=false:=by show decide (([112,105,99,107]:List Nat)=[100,101,97,108])=false; decide
   have spA:∀ (X:List Pas),(∀ q:Pas,q∈X↔(q∈ah++bh∨q=(c,some s)∨(q=(c,none)∧q∈X)))→∀ c' s',((c',some s'):Pas)∈X↔((c',some s'):Pas)∈done++[(c,some s)]:=fun X hX c' s'=>by
    rw [hX,w.sp,List.mem_append,List.mem_singleton]
    constructor
    ·rintro (h | h | h)
     ·exact .inl h
     ·exact .inr h
     ·cases h.1
    ·rintro (h | h)
     ·exact .inl h
     ·exact .inr (.inl h)
   have oa':∀ p∈ah++[(c,some s)],psOk p∧p.2≠none:=fun p h=>by
    rcases List.mem_append.mp h with h | h
    ·exact w.oa p h
    ·rw [List.mem_singleton.mp h]; exact ⟨hp,by simp⟩
   have ob':∀ p∈bh++[(c,some s)],psOk p:=fun p h=>by
    rcases List.mem_append.mp h with h | h
    ·exact w.ob p h
    ·rw [List.mem_singleton.mp h]; exact hp
   simp only [e1,e2]
   by_cases w0:way=0
   ·subst w0
    walk_at "mo"
    rw [Mo.lim_ok (by lia)]
    walk_at "mo"
    refine ⟨_,rfl,by rw [la']; simp; lia,by rw [la']; dsimp only; lia,oa',w.ob,spA _ fun q=>?_,(w.kp.pick c s).1⟩
    simp only [List.mem_append,List.mem_singleton]
    constructor
    ·rintro ((h | h) | h)
     ·exact .inl (.inl h)
     ·exact .inr (.inl h)
     ·exact .inl (.inr h)
    ·rintro ((h | h) | h | h)
     ·exact .inl (.inl h)
     ·exact .inr h
     ·exact .inl (.inr h)
     ·exact h.2
   by_cases w1:way=1
   ·subst w1
    walk_at "mo"
    rw [Mo.lim_ok (by lia),show decide ((1:Int)=2)=false from rfl]
    walk_at "mo"
    rw [Mo.lim_ok (by lia)]
    refine ⟨(ah++[(c,some s)],bh++[(c,some s)]),rfl,by rw [la']; simp; lia,by rw [la']; simp; lia,oa',ob',spA _ fun q=>?_,(w.kp.pick c s).2⟩
    simp only [List.mem_append,List.mem_singleton]
    constructor
    ·rintro ((h | h) | (h | h))
     ·exact .inl (.inl h)
     ·exact .inr (.inl h)
     ·exact .inl (.inr h)
     ·exact .inr (.inl h)
    ·rintro ((h | h) | h | h)
     ·exact .inl (.inl h)
     ·exact .inr (.inl h)
     ·exact .inl (.inr h)
     ·exact h.2
   by_cases w2:way=2
   ·subst w2
    walk_at "mo"
    rw [Mo.lim_ok (by lia)]
    walk_at "mo"
    rw [Mo.lim_ok (by simp; lia)]
    walk_at "mo"
    refine ⟨_,rfl,by rw [la']; dsimp only; lia,by rw [la']; simp; lia,w.oa,fun p h=>?_,spA _ fun q=>?_,w.kp.pick2 hin⟩
    ·rcases List.mem_append.mp h with h | h
     ·rcases List.mem_append.mp h with h | h
      ·exact w.ob p h
      ·rw [List.mem_singleton.mp h]; exact ⟨hp.1,fun s z=>by cases z⟩
     ·rw [List.mem_singleton.mp h]; exact hp
    ·simp only [List.mem_append,List.mem_singleton]
     constructor
     ·rintro (h | ((h | h) | h))
      ·exact .inl (.inl h)
      ·exact .inl (.inr h)
      ·exact .inr (.inr ⟨h,.inr (.inl (.inr h))⟩)
      ·exact .inr (.inl h)
     ·rintro ((h | h) | h | h)
      ·exact .inl h
      ·exact .inr (.inl (.inl h))
      ·exact .inr (.inr h)
      ·exact h.2
   have w3:way=3:=by lia
   subst w3
   walk_at "mo"
   rw [show decide ((3:Int)=2)=false from rfl]
   walk_at "mo"
   rw [Mo.lim_ok (by lia)]
   refine ⟨(ah,bh++[(c,some s)]),rfl,by rw [la']; dsimp only; lia,by rw [la']; simp; lia,w.oa,ob',spA _ fun q=>?_,(w.kp.pick c s).2⟩
   simp only [List.mem_append,List.mem_singleton]
   constructor
   ·rintro (h | (h | h))
    ·exact .inl (.inl h)
    ·exact .inl (.inr h)
    ·exact .inr (.inl h)
   ·rintro ((h | h) | h | h)
    ·exact .inl h
    ·exact .inr (.inl h)
    ·exact .inr (.inr h)
    ·exact h.2
  | none =>
   have e1:decide (pTag (c,none)=[112,105,99,107])=false:=by show decide (([100,101,97,108]:List Nat)=[112,105,99,107])=false; decide
   have e2:decide (pTag (c,none)=[100,101,97,108])=true:=rfl
   have spA:∀ (X:List Pas),(∀ q:Pas,q∈X↔(q∈ah++bh∨q=(c,none)))→∀ c' s',((c',some s'):Pas)∈X↔((c',some s'):Pas)∈done++[(c,none)]:=fun X hX c' s'=>by
    rw [hX,w.sp,List.mem_append,List.mem_singleton]
   have ob':∀ p∈bh++[(c,none)],psOk p:=fun p h=>by
    rcases List.mem_append.mp h with h | h
    ·exact w.ob p h
    ·rw [List.mem_singleton.mp h]; exact hp
   simp only [e1,e2]
   by_cases w1:way=1
   ·subst w1
    walk_at "mo"
    rw [Mo.lim_ok (by lia)]
    walk_at "mo"
    rw [Mo.lim_ok (by simp; lia)]
    walk_at "mo"
    refine ⟨_,rfl,by rw [la']; dsimp only; lia,by rw [la']; simp; lia,w.oa,fun p h=>?_,spA _ fun q=>?_,w.kp.deal2 c⟩
    ·rcases List.mem_append.mp h with h | h
     ·exact ob' p h
     ·rw [List.mem_singleton.mp h]; exact hp
    ·simp only [List.mem_append,List.mem_singleton]
     constructor
     ·rintro (h | ((h | h) | h))
      ·exact .inl (.inl h)
      ·exact .inl (.inr h)
      ·exact .inr h
      ·exact .inr h
     ·rintro ((h | h) | h)
      ·exact .inl h
      ·exact .inr (.inl (.inl h))
      ·exact .inr (.inr h)
   ·rw [decide_eq_false w1]
    walk_at "mo"
    rw [Mo.lim_ok (by lia)]
    walk_at "mo"
    refine ⟨_,rfl,by rw [la']; dsimp only; lia,by rw [la']; simp; lia,w.oa,ob',spA _ fun q=>?_,w.kp.deal c⟩
    simp only [List.mem_append,List.mem_singleton]
    constructor
    ·rintro (h | (h | h))
     ·exact .inl (.inl h)
     ·exact .inl (.inr h)
     ·exact .inr h
    ·rintro ((h | h) | h)
     ·exact .inl h
     ·exact .inr (.inl h)
     ·exact .inr (.inr h)
 ·rintro ⟨ah,bh⟩ w
  simp only at w ⊢
  rw [zbe_,List.take_of_length_le (Nat.le_refl _)] at w
  have:=w.la
  have:=w.lb
  walk_at "mo"
  rw [Mo.lim_ok (by lia)]
  exact ⟨ah,bh,rfl,w⟩
theorem Sis.same {row ah bh:List Pas}(hr:∀ p∈row,psOk p) (h64:row.length≤64) (w:Sis row row ah bh):sameS row (ah++bh):=by
 have hsp:SP row (ah++bh):=fun c s=>(w.sp c s).symm
 have ho:∀ p∈ah++bh,psOk p:=fun p hp=>by
  rcases List.mem_append.mp hp with h | h
  ·exact (w.oa p h).1
  ·exact w.ob p h
 have:=w.la
 have:=w.lb
 have cf:Cf row↔Cf (ah++bh):=⟨fun ⟨c,s,s',a,b,d⟩=>⟨c,s,s',a,(hsp c s).mp b,(hsp c s').mp d⟩,fun ⟨c,s,s',a,b,d⟩=>⟨c,s,s',a,(hsp c s).mpr b,(hsp c s').mpr d⟩⟩
 rcases zd9_ hr (by lia) with ⟨_,f1⟩ | ⟨m,_,w1⟩
 ·exact .inl ⟨f1,cf.mp f1⟩
 ·rcases zd9_ ho (by rw [List.length_append]; lia) with ⟨_,f2⟩ | ⟨m',_,w2⟩
  ·exact absurd (cf.mpr f2) w1.nc
  ·refine .inr ⟨m,m',w1,w2,hsp,?_⟩
   have hg:∀ c,(getA m c).isSome=(getA m' c).isSome:=fun c=>by
    cases g:getA m c with
    | some s=>rw [w2.all c s ((hsp c s).mp (w1.mem c s g))]
    | none =>
     cases g':getA m' c with
     | none=>rfl
     | some s=>have:=w1.all c s ((hsp c s).mpr (w2.mem c s g')); rw [g] at this; cases this
   have ha:pcols (ah++bh)=pcols bh:=by
    unfold pcols
    rw [List.filterMap_append]
    have:ah.filterMap (fun p:Pas=>match p.2 with | none=>some p.1 | some _=>none)=[]:=by
     rw [List.filterMap_eq_nil_iff]
     intro p hp
     have:=(w.oa p hp).2
     cases h:p.2 with
     | none=>exact absurd h this
     | some s=>rfl
    rw [this]; rfl
   unfold skey
   rw [ha,show (fun c=>!(getA m' c).isSome)=fun c=>!(getA m c).isSome from funext fun c=>by rw [hg]]
   exact (w.kp _ (fun c s hc=>by rw [w1.all c s hc]; rfl) []).symm
theorem zeH_ {d:List Crd}{row:List Pas}(hd:∀ c∈d,isC c) (hr:∀ p∈row,psOk p) (hl:d.length≤1000):zaT_ d row=.ok (row.foldl doP d):=by
 unfold zaT_ zbm_
 walk_at "mo"
 refine zal_ (G:=fun m=>fnO (thenO m _)=.ok (row.foldl doP d)) (fun dn s=>s=dn.foldl doP d) rfl ?_ ?_
 ·rintro dn p s ⟨r,hrr⟩ rfl
  have hp:psOk p:=hr p (by rw [hrr]; simp)
  rw [zmp_ (fun x hx=>hd x (ziH_ hx)) hp (Nat.le_trans (ziG_ dn d) hl)]
  walk_at "mo"
  exact ⟨_,rfl,by rw [List.foldl_append]; rfl⟩
 ·rintro s rfl
  rfl
theorem ziM_ (fo:Option (List Crd)) {d:List Crd}{row other:List Pas}(hd:∀ c∈d,isC c) (hr:∀ p∈row,psOk p) (ho:∀ p∈other,psOk p) (hl:d.length≤1000):za1_ fo d row other=.ok (decide (decide (row.foldl doP d=other.foldl doP d)=fo.isNone)):=by
 have dec:∀ a b:List Nat,(fun a b=>decide (a=b)) a b=decide (a=b):=fun _ _=>rfl
 unfold za1_ zcv_
 walk_at "mo"
 rw [zeK_ hd hr hl,zeK_ hd ho hl]
 walk_at "mo"
 rw [zeH_ hd hr hl]
 walk_at "mo"
 rw [zea_ (by simp)]
 walk_at "mo"
 rw [zeH_ hd ho hl]
 walk_at "mo"
 rw [zea_ (by simp)]
 walk_at "mo"
 rw [zfM_ dec]
theorem zig_ (row other:List Pas):zbA_ none row other=.ok true:=rfl
theorem zmK_ {row other:List Pas}{d:List Crd}(hr:∀ p∈row,psOk p) (ho:∀ p∈other,psOk p) (h:Parts row other d):zbA_ (some d) row other=.ok true:=by
 obtain ⟨h1,h2,h3,h4,h5⟩:=h
 unfold zbA_ zdO_
 walk_at "mo"
 rw [decide_eq_false (show ¬ (d.length:Int)<1 by lia)]
 walk_at "mo"
 rw [decide_eq_false (show ¬ (2:Int)<d.length by lia)]
 walk_at "mo"
 refine zal_ (G:=fun z=>fnO (thenO z _)=.ok true) (fun _ _=>True) trivial ?_ ?_
 ·rintro dn x s ⟨r,hrr⟩ _
  have hx:=h3 x (by rw [hrr]; simp)
  rw [lim40 hx,show (x.length:Int)=40 by rw [hx.1]; rfl]
  walk_at "mo"
  exact ⟨(),trivial,trivial⟩
 ·intro s _
  walk_at "mo"
  rw [ziM_ _ h3 hr ho (by lia),decide_eq_false h5]
  by_cases hd:d.length=2
  ·rw [decide_eq_true (show (d.length:Int)=2 by lia)]
   obtain ⟨a,b,rfl⟩:∃ a b,d=[a,b]:=by
    match d,hd with
    | [a,b],_=>exact ⟨a,b,rfl⟩
   have ha:=h3 a (by simp)
   have hb:=h3 b (by simp)
   rw [show atI [a,b] 0=some a from rfl,show atI [a,b] 1=some b from rfl]
   walk_at "mo"
   rw [lim40 ha,lim40 hb,zeO_ (by lia),zeO_ (by lia)]
   walk_at "mo"
   rw [decide_eq_false (show ¬ a.drop (Int.toNat 36)=b.drop (Int.toNat 36) from h4 a b rfl)]
   rfl
  ·rw [decide_eq_false (show ¬ (d.length:Int)=2 by lia)]
   rfl
theorem zfA_ (ns:List Int) (k:Int) (h:0≤k):∃ c,zN_ ns k=.ok c:=by
 unfold zN_ zbC_
 walk_at "mo"
 by_cases hk:k<(ns.length:Int)
 ·obtain ⟨x,e,_⟩:=zco_ h hk
  rw [decide_eq_true hk,if_pos rfl,e]
  exact ⟨x,rfl⟩
 ·rw [decide_eq_false hk,if_neg (by decide)]
  exact ⟨0,rfl⟩
theorem fin18 {row other:List Pas}{d:List Crd}(hr:∀ p∈row,psOk p) (ho:∀ p∈other,psOk p) (hl:row.length≤1000) (hl':other.length≤1000) (hd:∀ c∈d,isC c) (hdl:d.length≤1000) :
  ∃ f g,zy_ row other=.ok f∧zy_ other row=.ok g∧f.isNone=g.isNone∧zbA_ f row other=.ok true∧zbA_ g other row=.ok true∧(f.isNone=true→za1_ none d row other=.ok true)∧(sameS row other→f=none):=by
 rcases zh2_ hr ho hl hl' with ⟨e,s⟩ | ⟨d1,e,p1,n1⟩
 ·rcases zh2_ ho hr hl' hl with ⟨e',s'⟩ | ⟨d2,e',p2,n2⟩
  ·refine ⟨none,none,e,e',rfl,zig_ _ _,zig_ _ _,fun _=>?_,fun _=>rfl⟩
   rw [ziM_ _ hd hr ho hdl,decide_eq_true (s.fold d)]; rfl
  ·exact absurd s.symm n2
 ·rcases zh2_ ho hr hl' hl with ⟨e',s'⟩ | ⟨d2,e',p2,n2⟩
  ·exact absurd s'.symm n1
  ·exact ⟨some d1,some d2,e,e',rfl,zmK_ hr ho p1,zmK_ ho hr p2,fun z=>(by cases z),fun z=>absurd z n1⟩
theorem zln_ (ns:List Int) (hl:ns.length≤63):znK_ ns=.ok true:=by
 obtain ⟨c0,e0⟩:=zfA_ ns 0 (by decide)
 obtain ⟨c1,e1⟩:=zfA_ ns 1 (by decide)
 obtain ⟨c2,e2⟩:=zfA_ ns 2 (by decide)
 obtain ⟨c3,e3⟩:=zfA_ ns 3 (by decide)
 obtain ⟨c4,e4⟩:=zfA_ ns 4 (by decide)
 unfold znK_ znI_
 walk_at "mo"
 rw [e0,e1,e2,e3,e4]
 walk_at "mo"
 have pick:∀ (xs:List Int) (k:Int),(∀ x∈xs,0<x)→0≤k→k<xs.length→∃ x,atI xs k=some x∧0<x:=fun xs k h h0 h1=>by
  obtain ⟨x,e,hx⟩:=zco_ h0 h1
  exact ⟨x,e,h x hx⟩
 obtain ⟨spread,esp,hsp⟩:=pick [2,3,1,37] (c2 % 4) (by decide) (by lia) (by simp; lia)
 rw [esp]
 walk_at "mo"
 obtain ⟨d,ed,hdl,hd⟩:=znp_ c1 (many:=c0 % 7) (spread:=spread) (by lia) (by lia) hsp
 rw [ed]
 walk_at "mo"
 rw [Mo.grd_ok (show CRep [32].length 40 by unfold CRep; decide)]
 walk_at "mo"
 rw [Mo.lim_ok (by simp; lia)]
 walk_at "mo"
 have hbl:isC (repL [32] 40):=⟨by decide,by decide⟩
 obtain ⟨hero,eh,hh⟩:∃ x,atI (d++[repL [32] 40]) 0=some x∧isC x:=by
  obtain ⟨x,e,hx⟩:=zco_ (xs:=d++[repL [32] 40]) (k:=0) (by lia) (by rw [List.length_append]; simp)
  refine ⟨x,e,?_⟩
  rcases List.mem_append.mp hx with h | h
  ·exact hd x h
  ·rw [List.mem_singleton.mp h]; exact hbl
 rw [eh]
 walk_at "mo"
 obtain ⟨reach,ere,hre⟩:=pick [2,1,4,36] (c3 % 4) (by decide) (by lia) (by simp; lia)
 rw [ere]
 walk_at "mo"
 obtain ⟨share,esh,_⟩:=zco_ (xs:=[(2:Int),0,4]) (k:=c3 / 4 % 3) (by lia) (by simp; lia)
 rw [esh]
 walk_at "mo"
 have hcl:=zlk_ ns (some 5) (some 55)
 refine zal_ (G:=fun m=>fnO (thenO m _)=.ok true) (fun dn (s:List Pas)=>s.length=dn.length∧∀ p∈s,psOk p) ⟨rfl,by simp⟩ ?_ ?_
 ·rintro dn x row ⟨r,hr⟩ ⟨w2,w3⟩
  have hdn:dn.length≤64:=by
   have:=congrArg List.length hr
   rw [List.length_append] at this; lia
  obtain ⟨p,ep,hp⟩:=zny_ x hh (c2 / 4 % 36) hre share
  rw [ep]
  walk_at "mo"
  rw [Mo.lim_ok (by lia)]
  refine ⟨_,rfl,by simp; exact w2,fun q hq=>?_⟩
  rcases List.mem_append.mp hq with h | h
  ·exact w3 q h
  ·rw [List.mem_singleton.mp h]; exact hp
 ·rintro row ⟨w2,w3⟩
  have hrl:row.length≤63:=by lia
  walk_at "mo"
  have hat:0≤c4 / 4 % ((row.length:Int)+1):=Int.emod_nonneg _ (by lia)
  rw [zgL_ (by lia)]
  walk_at "mo"
  generalize c4 / 4 % ((row.length:Int)+1)=at' at hat
  rw [zeO_ hat,ziZ_ hat]
  generalize at'.toNat=k
  have l1:(row.drop k).length≤63:=by rw [List.length_drop]; lia
  have l2:(row.take k).length≤63:=by rw [List.length_take]; lia
  have m1:∀ p∈row.drop k,psOk p:=fun p h=>w3 p (List.mem_of_mem_drop h)
  have m2:∀ p∈row.take k,psOk p:=fun p h=>w3 p (List.mem_of_mem_take h)
  rw [Mo.lim_ok (by lia)]
  walk_at "mo"
  have h3:∃ o2,(if decide (c4 % 4=3)=true then (Mo.lim ((row.take k).reverse.length+(row.drop k).length) (Mo.ok ((row.take k).reverse++row.drop k))).bind (fun o=>Mo.ok (Out.nx o)) else Mo.ok (Out.nx (row.drop k++row.take k)):Mo (Out Bool Unit (List Pas)))=.ok (.nx o2)∧o2.length≤1000∧∀ p∈o2,psOk p:=by
   by_cases h:c4 % 4=3
   ·rw [decide_eq_true h,if_pos rfl,Mo.lim_ok (by rw [List.length_reverse]; lia)]
    refine ⟨_,rfl,by rw [List.length_append,List.length_reverse]; lia,fun p hp=>?_⟩
    rcases List.mem_append.mp hp with z | z
    ·exact m2 p (List.mem_reverse.mp z)
    ·exact m1 p z
   ·rw [decide_eq_false h,if_neg (by decide)]
    refine ⟨_,rfl,by rw [List.length_append]; lia,fun p hp=>?_⟩
    rcases List.mem_append.mp hp with z | z
    ·exact m1 p z
    ·exact m2 p z
  obtain ⟨o2,eo2,lo2,mo2⟩:=h3
  rw [eo2]
  walk_at "mo"
  generalize decide (c4 % 2=0)=made
  have h4:∃ o3,(if made=true then (z1_ row (cutG ns (some 5) (some 55))).noex.bind (fun o=>Mo.ok (Out.nx o)) else Mo.ok (Out.nx o2):Mo (Out Bool Unit (List Pas)))=.ok (.nx o3)∧o3.length≤1000∧(∀ p∈o3,psOk p)∧(made=true→sameS row o3):=by
   cases made with
   | false=>exact ⟨o2,rfl,lo2,mo2,fun z=>by cases z⟩
   | true =>
    obtain ⟨ah,bh,es,w⟩:=zn8_ w3 (Nat.le_of_eq w2) (by lia)
    have:=w.la
    have:=w.lb
    rw [if_pos rfl,es]
    refine ⟨ah++bh,rfl,by rw [List.length_append]; lia,fun p hp=>?_,fun _=>w.same w3 (by lia)⟩
    rcases List.mem_append.mp hp with z | z
    ·exact (w.oa p z).1
    ·exact w.ob p z
  obtain ⟨o3,eo3,lo3,mo3,ms⟩:=h4
  rw [eo3]
  walk_at "mo"
  obtain ⟨f,g,ef,eg,hfg,t1,t2,al,sm⟩:=fin18 (d:=d) w3 mo3 (by lia) lo3 hd (by lia)
  rw [ef]
  walk_at "mo"
  rw [zea_ (by simp),zea_ (by simp),t1]
  have h5:(if made=true then Mo.ok f.isSome else Mo.ok false)=Mo.ok false:=by
   cases made with
   | false=>rfl
   | true=>rw [sm (ms rfl)]; rfl
  rw [h5]
  walk_at "mo"
  have h6:((if f.isNone=true then (za1_ none d row o3).noex.bind (fun a=>Mo.ok !a) else Mo.ok false).bind fun c=>if c=true then Mo.ok (Out.rt false) else Mo.ok (Out.nx ()):Mo (Out Bool Unit Unit))=.ok (.nx ()):=by
   cases hf:f.isNone with
   | false=>rfl
   | true=>rw [al hf]; rfl
  rw [h6]
  walk_at "mo"
  rw [eg]
  walk_at "mo"
  rw [decide_eq_true hfg.symm,t2]
  rfl
end K18
namespace K18
open PySem PySem.Spec PyProof.Rows L2
theorem zov_ {K:Fgg}:RD_law K:=zkh_ (fun ns hl hb=>zln_ ns hl)
theorem all_mk {l:PySem.W.OpenLaw}{w:World}{K:Fgg}{h:Heap}{mg:Str→Option Value}{fa:Addr}(X:K.In h) (G:h.Ns mainGlobals mg) (hfa:mg "law" = some (.ref fa))
  {f0:Addr}{od0 an0:Option Addr}{sl0:Array (Option Value)}{oc0 kV0 dc0 pm0 cd0 ct0:Value}
  {f1:Addr}{od1 an1:Option Addr}{sl1:Array (Option Value)}{oc1 kV1 dc1 pm1 cd1 ct1:Value}
  {f2:Addr}{od2 an2:Option Addr}{sl2:Array (Option Value)}{oc2 kV2 dc2 pm2 cd2 ct2:Value}
  {f3:Addr}{od3 an3:Option Addr}{sl3:Array (Option Value)}{oc3 kV3 dc3 pm3 cd3 ct3:Value}
  {f4:Addr}{od4 an4:Option Addr}{sl4:Array (Option Value)}{oc4 kV4 dc4 pm4 cd4 ct4:Value}
  {f5:Addr}{od5 an5:Option Addr}{sl5:Array (Option Value)}{oc5 kV5 dc5 pm5 cd5 ct5:Value}
  {f6:Addr}{od6 an6:Option Addr}{sl6:Array (Option Value)}{oc6 kV6 dc6 pm6 cd6 ct6:Value}
  {f7:Addr}{od7 an7:Option Addr}{sl7:Array (Option Value)}{oc7 kV7 dc7 pm7 cd7 ct7:Value}
  {f8:Addr}{od8 an8:Option Addr}{sl8:Array (Option Value)}{oc8 kV8 dc8 pm8 cd8 ct8:Value}
  {f9:Addr}{od9 an9:Option Addr}{sl9:Array (Option Value)}{oc9 kV9 dc9 pm9 cd9 ct9:Value}
  {f10:Addr}{od10 an10:Option Addr}{sl10:Array (Option Value)}{oc10 kV10 dc10 pm10 cd10 ct10:Value}
  {f11:Addr}{od11 an11:Option Addr}{sl11:Array (Option Value)}{oc11 kV11 dc11 pm11 cd11 ct11:Value}
  {f12:Addr}{od12 an12:Option Addr}{sl12:Array (Option Value)}{oc12 kV12 dc12 pm12 cd12 ct12:Value}
  {f13:Addr}{od13 an13:Option Addr}{sl13:Array (Option Value)}{oc13 kV13 dc13 pm13 cd13 ct13:Value}
  {f14:Addr}{od14 an14:Option Addr}{sl14:Array (Option Value)}{oc14 kV14 dc14 pm14 cd14 ct14:Value}
  {f15:Addr}{od15 an15:Option Addr}{sl15:Array (Option Value)}{oc15 kV15 dc15 pm15 cd15 ct15:Value}
  {f16:Addr}{od16 an16:Option Addr}{sl16:Array (Option Value)}{oc16 kV16 dc16 pm16 cd16 ct16:Value}
  {f17:Addr}{od17 an17:Option Addr}{sl17:Array (Option Value)}{oc17 kV17 dc17 pm17 cd17 ct17:Value}
  {f18:Addr}{od18 an18:Option Addr}{sl18:Array (Option Value)}{oc18 kV18 dc18 pm18 cd18 ct18:Value}
  {f19:Addr}{od19 an19:Option Addr}{sl19:Array (Option Value)}{oc19 kV19 dc19 pm19 cd19 ct19:Value}
  {f20:Addr}{od20 an20:Option Addr}{sl20:Array (Option Value)}{oc20 kV20 dc20 pm20 cd20 ct20:Value}
  {f21:Addr}{od21 an21:Option Addr}{sl21:Array (Option Value)}{oc21 kV21 dc21 pm21 cd21 ct21:Value}
  {f22:Addr}{od22 an22:Option Addr}{sl22:Array (Option Value)}{oc22 kV22 dc22 pm22 cd22 ct22:Value}
  {f23:Addr}{od23 an23:Option Addr}{sl23:Array (Option Value)}{oc23 kV23 dc23 pm23 cd23 ct23:Value}
  {f24:Addr}{od24 an24:Option Addr}{sl24:Array (Option Value)}{oc24 kV24 dc24 pm24 cd24 ct24:Value}
  {f25:Addr}{od25 an25:Option Addr}{sl25:Array (Option Value)}{oc25 kV25 dc25 pm25 cd25 ct25:Value}
  {f26:Addr}{od26 an26:Option Addr}{sl26:Array (Option Value)}{oc26 kV26 dc26 pm26 cd26 ct26:Value}
  (a0:PySem.W.nsIn K mainGlobals "_law_stream" = some (some (.ref f0))) (l0:K.lookup f0=some ⟨oc0,od0,.func (PySem.W.fnOf "_law_stream" "_law_stream" (defArgs z9_) (defBody z9_) (defScope z9_) .none kV0 dc0 pm0 an0 cd0 ct0),sl0⟩) (c0:PySem.W.codeIn K cd0 "_law_stream" = true) (k0:PySem.W.keepIn K (.ref f0)=true)
  (a1:PySem.W.nsIn K mainGlobals "_law_deck" = some (some (.ref f1))) (l1:K.lookup f1=some ⟨oc1,od1,.func (PySem.W.fnOf "_law_deck" "_law_deck" (defArgs zaK_) (defBody zaK_) (defScope zaK_) .none kV1 dc1 pm1 an1 cd1 ct1),sl1⟩) (c1:PySem.W.codeIn K cd1 "_law_deck" = true) (k1:PySem.W.keepIn K (.ref f1)=true)
  (a2:PySem.W.nsIn K mainGlobals "_law_cell_at" = some (some (.ref f2))) (l2:K.lookup f2=some ⟨oc2,od2,.func (PySem.W.fnOf "_law_cell_at" "_law_cell_at" (defArgs z7_) (defBody z7_) (defScope z7_) .none kV2 dc2 pm2 an2 cd2 ct2),sl2⟩) (c2:PySem.W.codeIn K cd2 "_law_cell_at" = true) (k2:PySem.W.keepIn K (.ref f2)=true)
  (a3:PySem.W.nsIn K mainGlobals "picked_signs" = some (some (.ref f3))) (l3:K.lookup f3=some ⟨oc3,od3,.func (PySem.W.fnOf "picked_signs" "picked_signs" (defArgs zT_) (defBody zT_) (defScope zT_) .none kV3 dc3 pm3 an3 cd3 ct3),sl3⟩) (c3:PySem.W.codeIn K cd3 "picked_signs" = true) (k3:PySem.W.keepIn K (.ref f3)=true)
  (a4:PySem.W.nsIn K mainGlobals "sense_of" = some (some (.ref f4))) (l4:K.lookup f4=some ⟨oc4,od4,.func (PySem.W.fnOf "sense_of" "sense_of" (defArgs zaW_) (defBody zaW_) (defScope zaW_) .none kV4 dc4 pm4 an4 cd4 ct4),sl4⟩) (c4:PySem.W.codeIn K cd4 "sense_of" = true) (k4:PySem.W.keepIn K (.ref f4)=true)
  (a5:PySem.W.nsIn K mainGlobals "card_with" = some (some (.ref f5))) (l5:K.lookup f5=some ⟨oc5,od5,.func (PySem.W.fnOf "card_with" "card_with" (defArgs zaq_) (defBody zaq_) (defScope zaq_) .none kV5 dc5 pm5 an5 cd5 ct5),sl5⟩) (c5:PySem.W.codeIn K cd5 "card_with" = true) (k5:PySem.W.keepIn K (.ref f5)=true)
  (a6:PySem.W.nsIn K mainGlobals "stopped_card" = some (some (.ref f6))) (l6:K.lookup f6=some ⟨oc6,od6,.func (PySem.W.fnOf "stopped_card" "stopped_card" (defArgs zX_) (defBody zX_) (defScope zX_) .none kV6 dc6 pm6 an6 cd6 ct6),sl6⟩) (c6:PySem.W.codeIn K cd6 "stopped_card" = true) (k6:PySem.W.keepIn K (.ref f6)=true)
  (a7:PySem.W.nsIn K mainGlobals "parting_of_picks" = some (some (.ref f7))) (l7:K.lookup f7=some ⟨oc7,od7,.func (PySem.W.fnOf "parting_of_picks" "parting_of_picks" (defArgs zz_) (defBody zz_) (defScope zz_) .none kV7 dc7 pm7 an7 cd7 ct7),sl7⟩) (c7:PySem.W.codeIn K cd7 "parting_of_picks" = true) (k7:PySem.W.keepIn K (.ref f7)=true)
  (a8:PySem.W.nsIn K mainGlobals "begins_with" = some (some (.ref f8))) (l8:K.lookup f8=some ⟨oc8,od8,.func (PySem.W.fnOf "begins_with" "begins_with" (defArgs z2_) (defBody z2_) (defScope z2_) .none kV8 dc8 pm8 an8 cd8 ct8),sl8⟩) (c8:PySem.W.codeIn K cd8 "begins_with" = true) (k8:PySem.W.keepIn K (.ref f8)=true)
  (a9:PySem.W.nsIn K mainGlobals "shared_length" = some (some (.ref f9))) (l9:K.lookup f9=some ⟨oc9,od9,.func (PySem.W.fnOf "shared_length" "shared_length" (defArgs zL_) (defBody zL_) (defScope zL_) .none kV9 dc9 pm9 an9 cd9 ct9),sl9⟩) (c9:PySem.W.codeIn K cd9 "shared_length" = true) (k9:PySem.W.keepIn K (.ref f9)=true)
  (a10:PySem.W.nsIn K mainGlobals "crossed_deck" = some (some (.ref f10))) (l10:K.lookup f10=some ⟨oc10,od10,.func (PySem.W.fnOf "crossed_deck" "crossed_deck" (defArgs zU_) (defBody zU_) (defScope zU_) .none kV10 dc10 pm10 an10 cd10 ct10),sl10⟩) (c10:PySem.W.codeIn K cd10 "crossed_deck" = true) (k10:PySem.W.keepIn K (.ref f10)=true)
  (a11:PySem.W.nsIn K mainGlobals "parting_of_orders" = some (some (.ref f11))) (l11:K.lookup f11=some ⟨oc11,od11,.func (PySem.W.fnOf "parting_of_orders" "parting_of_orders" (defArgs zu_) (defBody zu_) (defScope zu_) .none kV11 dc11 pm11 an11 cd11 ct11),sl11⟩) (c11:PySem.W.codeIn K cd11 "parting_of_orders" = true) (k11:PySem.W.keepIn K (.ref f11)=true)
  (a12:PySem.W.nsIn K mainGlobals "parting_of" = some (some (.ref f12))) (l12:K.lookup f12=some ⟨oc12,od12,.func (PySem.W.fnOf "parting_of" "parting_of" (defArgs zac_) (defBody zac_) (defScope zac_) .none kV12 dc12 pm12 an12 cd12 ct12),sl12⟩) (c12:PySem.W.codeIn K cd12 "parting_of" = true) (k12:PySem.W.keepIn K (.ref f12)=true)
  (a13:PySem.W.nsIn K mainGlobals "_law_same_in_sense" = some (some (.ref f13))) (l13:K.lookup f13=some ⟨oc13,od13,.func (PySem.W.fnOf "_law_same_in_sense" "_law_same_in_sense" (defArgs zt_) (defBody zt_) (defScope zt_) .none kV13 dc13 pm13 an13 cd13 ct13),sl13⟩) (c13:PySem.W.codeIn K cd13 "_law_same_in_sense" = true) (k13:PySem.W.keepIn K (.ref f13)=true)
  (a14:PySem.W.nsIn K mainGlobals "gather" = some (some (.ref f14))) (l14:K.lookup f14=some ⟨oc14,od14,.func (PySem.W.fnOf "gather" "gather" (defArgs zbT_) (defBody zbT_) (defScope zbT_) .none kV14 dc14 pm14 an14 cd14 ct14),sl14⟩) (c14:PySem.W.codeIn K cd14 "gather" = true) (k14:PySem.W.keepIn K (.ref f14)=true)
  (a15:PySem.W.nsIn K mainGlobals "is_sign" = some (some (.ref f15))) (l15:K.lookup f15=some ⟨oc15,od15,.func (PySem.W.fnOf "is_sign" "is_sign" (defArgs zbq_) (defBody zbq_) (defScope zbq_) .none kV15 dc15 pm15 an15 cd15 ct15),sl15⟩) (c15:PySem.W.codeIn K cd15 "is_sign" = true) (k15:PySem.W.keepIn K (.ref f15)=true)
  (a16:PySem.W.nsIn K mainGlobals "rank_of" = some (some (.ref f16))) (l16:K.lookup f16=some ⟨oc16,od16,.func (PySem.W.fnOf "rank_of" "rank_of" (defArgs zbh_) (defBody zbh_) (defScope zbh_) .none kV16 dc16 pm16 an16 cd16 ct16),sl16⟩) (c16:PySem.W.codeIn K cd16 "rank_of" = true) (k16:PySem.W.keepIn K (.ref f16)=true)
  (a17:PySem.W.nsIn K mainGlobals "sign_at" = some (some (.ref f17))) (l17:K.lookup f17=some ⟨oc17,od17,.func (PySem.W.fnOf "sign_at" "sign_at" (defArgs zbo_) (defBody zbo_) (defScope zbo_) .none kV17 dc17 pm17 an17 cd17 ct17),sl17⟩) (c17:PySem.W.codeIn K cd17 "sign_at" = true) (k17:PySem.W.keepIn K (.ref f17)=true)
  (a18:PySem.W.nsIn K mainGlobals "pockets_of" = some (some (.ref f18))) (l18:K.lookup f18=some ⟨oc18,od18,.func (PySem.W.fnOf "pockets_of" "pockets_of" (defArgs zab_) (defBody zab_) (defScope zab_) .none kV18 dc18 pm18 an18 cd18 ct18),sl18⟩) (c18:PySem.W.codeIn K cd18 "pockets_of" = true) (k18:PySem.W.keepIn K (.ref f18)=true)
  (a19:PySem.W.nsIn K mainGlobals "deal_all" = some (some (.ref f19))) (l19:K.lookup f19=some ⟨oc19,od19,.func (PySem.W.fnOf "deal_all" "deal_all" (defArgs zaN_) (defBody zaN_) (defScope zaN_) .none kV19 dc19 pm19 an19 cd19 ct19),sl19⟩) (c19:PySem.W.codeIn K cd19 "deal_all" = true) (k19:PySem.W.keepIn K (.ref f19)=true)
  (a20:PySem.W.nsIn K mainGlobals "pass_all" = some (some (.ref f20))) (l20:K.lookup f20=some ⟨oc20,od20,.func (PySem.W.fnOf "pass_all" "pass_all" (defArgs zaJ_) (defBody zaJ_) (defScope zaJ_) .none kV20 dc20 pm20 an20 cd20 ct20),sl20⟩) (c20:PySem.W.codeIn K cd20 "pass_all" = true) (k20:PySem.W.keepIn K (.ref f20)=true)
  (a21:PySem.W.nsIn K mainGlobals "_law_done" = some (some (.ref f21))) (l21:K.lookup f21=some ⟨oc21,od21,.func (PySem.W.fnOf "_law_done" "_law_done" (defArgs zaP_) (defBody zaP_) (defScope zaP_) .none kV21 dc21 pm21 an21 cd21 ct21),sl21⟩) (c21:PySem.W.codeIn K cd21 "_law_done" = true) (k21:PySem.W.keepIn K (.ref f21)=true)
  (a22:PySem.W.nsIn K mainGlobals "_law_all_done" = some (some (.ref f22))) (l22:K.lookup f22=some ⟨oc22,od22,.func (PySem.W.fnOf "_law_all_done" "_law_all_done" (defArgs zW_) (defBody zW_) (defScope zW_) .none kV22 dc22 pm22 an22 cd22 ct22),sl22⟩) (c22:PySem.W.codeIn K cd22 "_law_all_done" = true) (k22:PySem.W.keepIn K (.ref f22)=true)
  (a23:PySem.W.nsIn K mainGlobals "_law_alike" = some (some (.ref f23))) (l23:K.lookup f23=some ⟨oc23,od23,.func (PySem.W.fnOf "_law_alike" "_law_alike" (defArgs zat_) (defBody zat_) (defScope zat_) .none kV23 dc23 pm23 an23 cd23 ct23),sl23⟩) (c23:PySem.W.codeIn K cd23 "_law_alike" = true) (k23:PySem.W.keepIn K (.ref f23)=true)
  (a24:PySem.W.nsIn K mainGlobals "_law_two" = some (some (.ref f24))) (l24:K.lookup f24=some ⟨oc24,od24,.func (PySem.W.fnOf "_law_two" "_law_two" (defArgs zbf_) (defBody zbf_) (defScope zbf_) .none kV24 dc24 pm24 an24 cd24 ct24),sl24⟩) (c24:PySem.W.codeIn K cd24 "_law_two" = true) (k24:PySem.W.keepIn K (.ref f24)=true)
  (a25:PySem.W.nsIn K mainGlobals "_law_pass" = some (some (.ref f25))) (l25:K.lookup f25=some ⟨oc25,od25,.func (PySem.W.fnOf "_law_pass" "_law_pass" (defArgs zaX_) (defBody zaX_) (defScope zaX_) .none kV25 dc25 pm25 an25 cd25 ct25),sl25⟩) (c25:PySem.W.codeIn K cd25 "_law_pass" = true) (k25:PySem.W.keepIn K (.ref f25)=true)
  (a26:PySem.W.nsIn K mainGlobals "law" = some (some (.ref f26))) (l26:K.lookup f26=some ⟨oc26,od26,.func (PySem.W.fnOf "law" "law" (defArgs zhH_) (defBody zhH_) (defScope zhH_) .none kV26 dc26 pm26 an26 cd26 ct26),sl26⟩) (c26:PySem.W.codeIn K cd26 "law" = true) (k26:PySem.W.keepIn K (.ref f26)=true)
  {uc0:Value}(x0:PySem.W.nsIn K mainGlobals "BODY_WIDTH" = some (some uc0)) (y0:RelV (.int 36) uc0)
  {uc1:Value}(x1:PySem.W.nsIn K mainGlobals "LOW" = some (some uc1)) (y1:RelV (tx [48]) uc1)
  {uc2:Value}(x2:PySem.W.nsIn K mainGlobals "HIGH" = some (some uc2)) (y2:RelV (tx [49]) uc2)
  {uc3:Value}(x3:PySem.W.nsIn K mainGlobals "ONE_MARK" = some (some uc3)) (y3:RelV (tx [48,48,48,49]) uc3)
  {uc4:Value}(x4:PySem.W.nsIn K mainGlobals "OTHER_MARK" = some (some uc4)) (y4:RelV (tx [48,48,48,50]) uc4)
  {uc5:Value}(x5:PySem.W.nsIn K mainGlobals "SIGNS" = some (some uc5)) (y5:RelV (tx SG) uc5)
  (z0:PySem.W.nsIn K mainGlobals "range" = some none)
  (z1:PySem.W.nsIn K mainGlobals "len" = some none)
  (z2:PySem.W.nsIn K mainGlobals "reversed" = some none)
  (z3:PySem.W.nsIn K mainGlobals "sorted" = some none)
  (z4:PySem.W.nsIn K mainGlobals "dict" = some none)
  (z5:PySem.W.nsIn K mainGlobals "min" = some none)
  (z6:PySem.W.nsIn K mainGlobals "list" = some none)
  (z7:PySem.W.nsIn K mainGlobals "isinstance" = some none)
  (z8:PySem.W.nsIn K mainGlobals "str" = some none)
  {cc0:Addr}(v0:PySem.W.nsIn K mainGlobals "NoCard" = some (some (.ref cc0)))
  (u0:excK K cc0=true) :
  ∃ fd:FuncData,(∀ (s:Shared) (v:Value),BindsTo s fd ⟨[v],[]⟩ [("_law_script",v)])∧∀ base:Heap,K.In base→base.Ns mainGlobals mg→FnOk l.prog w K mg base CX0 8 fa fd ["_law_script"] (zfI_ K):=by
 have e:=hfa.symm.trans (PySem.W.mg_of X G a26)
 cases e
 have F0:=za2_ (st:=z9_) l0 c0 k0
 have b0:=F0.binds (ps:=["_law_cell", "_law_many"]) fun _ _ _ _ _ _ us hl=>match us,hl with | [_,_],_=>rfl
 have F1:=za2_ (st:=zaK_) l1 c1 k1
 have b1:=F1.binds (ps:=Qn15) fun _ _ _ _ _ _ us hl=>match us,hl with | [_,_,_],_=>rfl
 have F2:=za2_ (st:=z7_) l2 c2 k2
 have b2:=F2.binds (ps:=Qn12) fun _ _ _ _ _ _ us hl=>match us,hl with | [_,_],_=>rfl
 have F3:=za2_ (st:=zT_) l3 c3 k3
 have b3:=F3.binds (ps:=["row"]) fun _ _ _ _ _ _ us hl=>match us,hl with | [_],_=>rfl
 have F4:=za2_ (st:=zaW_) l4 c4 k4
 have b4:=F4.binds (ps:=["row"]) fun _ _ _ _ _ _ us hl=>match us,hl with | [_],_=>rfl
 have F5:=za2_ (st:=zaq_) l5 c5 k5
 have b5:=F5.binds (ps:=Qn25) fun _ _ _ _ _ _ us hl=>match us,hl with | [_,_],_=>rfl
 have F6:=za2_ (st:=zX_) l6 c6 k6
 have b6:=F6.binds (ps:=Qn19) fun _ _ _ _ _ _ us hl=>match us,hl with | [_,_],_=>rfl
 have F7:=za2_ (st:=zz_) l7 c7 k7
 have b7:=F7.binds (ps:=Qn19) fun _ _ _ _ _ _ us hl=>match us,hl with | [_,_],_=>rfl
 have F8:=za2_ (st:=z2_) l8 c8 k8
 have b8:=F8.binds (ps:=Qn14) fun _ _ _ _ _ _ us hl=>match us,hl with | [_,_],_=>rfl
 have F9:=za2_ (st:=zL_) l9 c9 k9
 have b9:=F9.binds (ps:=["one", "other"]) fun _ _ _ _ _ _ us hl=>match us,hl with | [_,_],_=>rfl
 have F10:=za2_ (st:=zU_) l10 c10 k10
 have b10:=F10.binds (ps:=Qn5) fun _ _ _ _ _ _ us hl=>match us,hl with | [_,_,_],_=>rfl
 have F11:=za2_ (st:=zu_) l11 c11 k11
 have b11:=F11.binds (ps:=Qn5) fun _ _ _ _ _ _ us hl=>match us,hl with | [_,_,_],_=>rfl
 have F12:=za2_ (st:=zac_) l12 c12 k12
 have b12:=F12.binds (ps:=["row", "other"]) fun _ _ _ _ _ _ us hl=>match us,hl with | [_,_],_=>rfl
 have F13:=za2_ (st:=zt_) l13 c13 k13
 have b13:=F13.binds (ps:=["_law_row", "_law_cells"]) fun _ _ _ _ _ _ us hl=>match us,hl with | [_,_],_=>rfl
 have F14:=za2_ (st:=zbT_) l14 c14 k14
 have b14:=F14.binds (ps:=["some"]) fun _ _ _ _ _ _ us hl=>match us,hl with | [_],_=>rfl
 have F15:=za2_ (st:=zbq_) l15 c15 k15
 have b15:=F15.binds (ps:=["text"]) fun _ _ _ _ _ _ us hl=>match us,hl with | [_],_=>rfl
 have F16:=za2_ (st:=zbh_) l16 c16 k16
 have b16:=F16.binds (ps:=["sign"]) fun _ _ _ _ _ _ us hl=>match us,hl with | [_],_=>rfl
 have F17:=za2_ (st:=zbo_) l17 c17 k17
 have b17:=F17.binds (ps:=Qn18) fun _ _ _ _ _ _ us hl=>match us,hl with | [_,_],_=>rfl
 have F18:=za2_ (st:=zab_) l18 c18 k18
 have b18:=F18.binds (ps:=["deck", "column"]) fun _ _ _ _ _ _ us hl=>match us,hl with | [_,_],_=>rfl
 have F19:=za2_ (st:=zaN_) l19 c19 k19
 have b19:=F19.binds (ps:=Qn22) fun _ _ _ _ _ _ us hl=>match us,hl with | [_,_],_=>rfl
 have F20:=za2_ (st:=zaJ_) l20 c20 k20
 have b20:=F20.binds (ps:=Qn22) fun _ _ _ _ _ _ us hl=>match us,hl with | [_,_],_=>rfl
 have F21:=za2_ (st:=zaP_) l21 c21 k21
 have b21:=F21.binds (ps:=Qn23) fun _ _ _ _ _ _ us hl=>match us,hl with | [_,_],_=>rfl
 have F22:=za2_ (st:=zW_) l22 c22 k22
 have b22:=F22.binds (ps:=Qn24) fun _ _ _ _ _ _ us hl=>match us,hl with | [_,_],_=>rfl
 have F23:=za2_ (st:=zat_) l23 c23 k23
 have b23:=F23.binds (ps:=Qn3) fun _ _ _ _ _ _ us hl=>match us,hl with | [_,_,_,_],_=>rfl
 have F24:=za2_ (st:=zbf_) l24 c24 k24
 have b24:=F24.binds (ps:=Qn17) fun _ _ _ _ _ _ us hl=>match us,hl with | [_,_,_],_=>rfl
 have F25:=za2_ (st:=zaX_) l25 c25 k25
 have b25:=F25.binds (ps:=Qn7) fun _ _ _ _ _ _ us hl=>match us,hl with | [_,_,_,_,_],_=>rfl
 have F26:=za2_ (st:=zhH_) l26 c26 k26
 refine ⟨PySem.W.fnOf "law" "law" (defArgs zhH_) (defBody zhH_) (defScope zhH_) .none kV26 dc26 pm26 an26 cd26 ct26,fun s v=>.of_eq rfl,fun base _ _=>?_⟩
 have C_BODY_WIDTH:Gc mg "BODY_WIDTH" (.int 36):=⟨_,PySem.W.mg_of X G x0,y0⟩
 have C_LOW:Gc mg "LOW" (tx [48]):=⟨_,PySem.W.mg_of X G x1,y1⟩
 have C_HIGH:Gc mg "HIGH" (tx [49]):=⟨_,PySem.W.mg_of X G x2,y2⟩
 have C_ONE_MARK:Gc mg "ONE_MARK" (tx [48,48,48,49]):=⟨_,PySem.W.mg_of X G x3,y3⟩
 have C_OTHER_MARK:Gc mg "OTHER_MARK" (tx [48,48,48,50]):=⟨_,PySem.W.mg_of X G x4,y4⟩
 have C_SIGNS:Gc mg "SIGNS" (tx SG):=⟨_,PySem.W.mg_of X G x5,y5⟩
 have M_NoCard:mg "NoCard" = some (.ref (gA K "NoCard")):=by rw [gA_of v0]; exact PySem.W.mg_of X G v0
 have C_NoCard:Gc mg "NoCard" (.ref (gA K "NoCard")):=⟨_,M_NoCard,rfl⟩
 have FX:Fx K:=⟨(by rw [gA_of v0]; exact u0)⟩
 have Q_NoCard:=FX.exc_NoCard
 have B_range:Gb mg "range" := PySem.W.mg_none_of X G z0
 have B_len:Gb mg "len" := PySem.W.mg_none_of X G z1
 have B_reversed:Gb mg "reversed" := PySem.W.mg_none_of X G z2
 have B_sorted:Gb mg "sorted" := PySem.W.mg_none_of X G z3
 have B_dict:Gb mg "dict" := PySem.W.mg_none_of X G z4
 have B_min:Gb mg "min" := PySem.W.mg_none_of X G z5
 have B_list:Gb mg "list" := PySem.W.mg_none_of X G z6
 have B_isinstance:Gb mg "isinstance" := PySem.W.mg_none_of X G z7
 have B_str:Gb mg "str" := PySem.W.mg_none_of X G z8
 have G_law_stream:Gd l.prog w K mg base CX0 1 "_law_stream" ["_law_cell", "_law_many"] (z6_ K):=⟨_,_,zfu_ B_range F0 zfe_ zfE_,PySem.W.mg_of X G a0,k0,b0⟩
 have G_law_deck:Gd l.prog w K mg base CX0 2 "_law_deck" Qn15 (zax_ K):=⟨_,_,zhc_ G_law_stream B_range F1 zgd_ zg6_,PySem.W.mg_of X G a1,k1,b1⟩
 have G_law_cell_at:Gd l.prog w K mg base CX0 1 "_law_cell_at" Qn12 (zn_ K):=⟨_,_,zfg_ B_len F2 zel_ ze2_,PySem.W.mg_of X G a2,k2,b2⟩
 have G_picked_signs:Gd l.prog w K mg base CX0 1 "picked_signs" ["row"] (zM_ K):=⟨_,_,zeq_  F3 zdV_ zey_,PySem.W.mg_of X G a3,k3,b3⟩
 have G_sense_of:Gd l.prog w K mg base CX0 2 "sense_of" ["row"] (zag_ K):=⟨_,_,zhk_ G_picked_signs B_reversed F4 zfW_ zhb_,PySem.W.mg_of X G a4,k4,b4⟩
 have G_card_with:Gd l.prog w K mg base CX0 1 "card_with" Qn25 (zw_ K):=⟨_,_,zgs_ C_BODY_WIDTH B_range F5 zfK_ zgc_,PySem.W.mg_of X G a5,k5,b5⟩
 have G_stopped_card:Gd l.prog w K mg base CX0 2 "stopped_card" Qn19 (zE_ K):=⟨_,_,zer_ G_card_with C_LOW C_HIGH C_ONE_MARK B_sorted B_dict F6 zdP_ zeo_,PySem.W.mg_of X G a6,k6,b6⟩
 have G_parting_of_picks:Gd l.prog w K mg base CX0 3 "parting_of_picks" Qn19 (zv_ K):=⟨_,_,zdd_ G_stopped_card F7 zcL_ zcY_,PySem.W.mg_of X G a7,k7,b7⟩
 have G_begins_with:Gd l.prog w K mg base CX0 1 "begins_with" Qn14 (zS_ K):=⟨_,_,ze0_ B_len F8 zen_ zeV_,PySem.W.mg_of X G a8,k8,b8⟩
 have G_shared_length:Gd l.prog w K mg base CX0 1 "shared_length" ["one", "other"] (zH_ K):=⟨_,_,zd6_ B_min B_len F9 zdB_ zd4_,PySem.W.mg_of X G a9,k9,b9⟩
 have G_crossed_deck:Gd l.prog w K mg base CX0 2 "crossed_deck" Qn5 (zF_ K):=⟨_,_,zeC_ G_shared_length G_card_with C_BODY_WIDTH C_LOW C_HIGH C_OTHER_MARK C_ONE_MARK B_dict B_range B_len F10 zec_ zeD_,PySem.W.mg_of X G a10,k10,b10⟩
 have G_parting_of_orders:Gd l.prog w K mg base CX0 3 "parting_of_orders" Qn5 (zr_ K):=⟨_,_,zcN_ G_begins_with G_crossed_deck F11 zcy_ zcO_,PySem.W.mg_of X G a11,k11,b11⟩
 have G_parting_of:Gd l.prog w K mg base CX0 4 "parting_of" ["row", "other"] (zY_ K):=⟨_,_,zfv_ G_sense_of G_card_with G_parting_of_picks G_parting_of_orders C_ONE_MARK F12 ze9_ zfL_,PySem.W.mg_of X G a12,k12,b12⟩
 have G_law_same_in_sense:Gd l.prog w K mg base CX0 1 "_law_same_in_sense" ["_law_row", "_law_cells"] (zq_ K):=⟨_,_,zcH_ B_range B_len F13 zcx_ zcK_,PySem.W.mg_of X G a13,k13,b13⟩
 have G_gather:Gd l.prog w K mg base CX0 1 "gather" ["some"] (zbp_ K):=⟨_,_,zkd_  F14 zhY_ zjS_,PySem.W.mg_of X G a14,k14,b14⟩
 have G_is_sign:Gd l.prog w K mg base CX0 1 "is_sign" ["text"] (zaL_ K):=⟨_,_,ziO_ C_SIGNS B_len F15 zhh_ zhK_,PySem.W.mg_of X G a15,k15,b15⟩
 have G_rank_of:Gd l.prog w K mg base (CXx l.prog w) 2 "rank_of" ["sign"] (zaZ_ K):=⟨_,_,zhQ_ G_is_sign C_SIGNS C_NoCard M_NoCard Q_NoCard F16 zhF_ (ziy_ FX),PySem.W.mg_of X G a16,k16,b16⟩
 have G_sign_at:Gd l.prog w K mg base CX0 1 "sign_at" Qn18 (zad_ K):=⟨_,_,zij_  F17 zhp_ ziC_,PySem.W.mg_of X G a17,k17,b17⟩
 have G_pockets_of:Gd l.prog w K mg base (CXx l.prog w) 3 "pockets_of" ["deck", "column"] (z4_ K):=⟨_,_,zfH_ G_rank_of G_sign_at C_SIGNS F18 ze6_ (zfs_ FX),PySem.W.mg_of X G a18,k18,b18⟩
 have G_deal_all:Gd l.prog w K mg base (CXx l.prog w) 4 "deal_all" Qn22 (zau_ K):=⟨_,_,zhi_ G_gather G_pockets_of B_list F19 zgh_ (zg1_ FX),PySem.W.mg_of X G a19,k19,b19⟩
 have G_pass_all:Gd l.prog w K mg base (CXx l.prog w) 5 "pass_all" Qn22 (zaf_ K):=⟨_,_,zhG_ G_deal_all G_sign_at B_list F20 zgf_ (zgZ_ FX),PySem.W.mg_of X G a20,k20,b20⟩
 have G_law_done:Gd l.prog w K mg base CX0 1 "_law_done" Qn23 (zas_ K):=⟨_,_,zg5_ B_len F21 zgq_ zg8_,PySem.W.mg_of X G a21,k21,b21⟩
 have G_law_all_done:Gd l.prog w K mg base CX0 2 "_law_all_done" Qn24 (zG_ K):=⟨_,_,zev_ G_law_done B_list F22 zd0_ zew_,PySem.W.mg_of X G a22,k22,b22⟩
 have G_law_alike:Gd l.prog w K mg base CX0 6 "_law_alike" Qn3 (zQ_ K):=⟨_,_,zfZ_ G_pass_all G_law_all_done B_isinstance B_list F23 zfk_ zf3_,PySem.W.mg_of X G a23,k23,b23⟩
 have G_law_two:Gd l.prog w K mg base CX0 7 "_law_two" Qn17 (zaB_ K):=⟨_,_,zjk_ G_law_alike B_isinstance B_list B_len B_str F24 zg3_ zh0_,PySem.W.mg_of X G a24,k24,b24⟩
 have G_law_pass:Gd l.prog w K mg base CX0 1 "_law_pass" Qn7 (zar_ K):=⟨_,_,zhl_  F25 zf4_ zhx_,PySem.W.mg_of X G a25,k25,b25⟩
 exact zop_ (P:=l.prog) (w:=w) (base:=base) G_law_cell_at G_law_deck G_law_pass G_law_same_in_sense G_parting_of G_law_two G_law_alike B_len B_list F26 znD_ zov_
theorem walk {l:PySem.W.OpenLaw}{q:Program}{loose:List Str}{XP:(Str→Option Value)→Heap→Prop}{YP:World→Heap→Prop}{d:DefRec}{K:Params→Fgg}(hn:l.most=some 63) (hdf:d.params.defaults=[])
  (hY:∀ (w:World) (h:Heap),YP w h→(K w.params).In h)
  (F:∀ (w:World) (mg:Str→Option Value) (fa:Addr) (h:Heap),(K w.params).In h→h.Ns mainGlobals mg→mg d.name=some (.ref fa) →
   ∃ fd:FuncData,(∀ (s:Shared) (u:Value),BindsTo s fd ⟨[u],[]⟩ [("_law_script",u)])∧∀ base:Heap,(K w.params).In base→base.Ns mainGlobals mg→FnOk l.prog w (K w.params) mg base CX0 8 fa fd ["_law_script"] (zfI_ (K w.params))) :
  PySem.W.WalkO q loose XP YP l.row.toRowW d [] (fun f vs=>PySem.call f vs) :=
 L2.zlR_ (n:=63) (k:=8) (x := "_law_script") (CX:=fun _=>CX0) (sp:=fun w=>zfI_ (K w.params)) hn (by decide) hdf ⟨rfl,by decide,by decide⟩ hY F (fun _ _ a ns hl hb _ hS=>⟨a,ns,rfl,hS,hl,hb,fun _=>rfl⟩) fun _ _ _ _ _ z=>z
end K18
open PySem PySem.W PyProof.Rows
set_option maxRecDepth 100000 in
set_option maxHeartbeats 0 in
theorem PySem.Challenge.cw_cardshop_k18_whole_partings_holds : PySem.Challenge.rw_cardshop_k18_whole_partings.Holds := by
 w_on; o_law; k_head; (case hw=>w_witness2)
 k_fill
 refine K18.walk (l:=PySem.Challenge.rw_cardshop_k18_whole_partings) rfl rfl (fun w h Y=>PySem.W.kIn_of Y) ?F
 case F =>
  intro w mg fa h KX G hmg
  refine' K18.all_mk KX G hmg ?a0 ?l0 ?c0 ?k0 ?a1 ?l1 ?c1 ?k1 ?a2 ?l2 ?c2 ?k2 ?a3 ?l3 ?c3 ?k3 ?a4 ?l4 ?c4 ?k4 ?a5 ?l5 ?c5 ?k5 ?a6 ?l6 ?c6 ?k6 ?a7 ?l7 ?c7 ?k7 ?a8 ?l8 ?c8 ?k8 ?a9 ?l9 ?c9 ?k9 ?a10 ?l10 ?c10 ?k10 ?a11 ?l11 ?c11 ?k11 ?a12 ?l12 ?c12 ?k12 ?a13 ?l13 ?c13 ?k13 ?a14 ?l14 ?c14 ?k14 ?a15 ?l15 ?c15 ?k15 ?a16 ?l16 ?c16 ?k16 ?a17 ?l17 ?c17 ?k17 ?a18 ?l18 ?c18 ?k18 ?a19 ?l19 ?c19 ?k19 ?a20 ?l20 ?c20 ?k20 ?a21 ?l21 ?c21 ?k21 ?a22 ?l22 ?c22 ?k22 ?a23 ?l23 ?c23 ?k23 ?a24 ?l24 ?c24 ?k24 ?a25 ?l25 ?c25 ?k25 ?a26 ?l26 ?c26 ?k26 ?x0 ?y0 ?x1 ?y1 ?x2 ?y2 ?x3 ?y3 ?x4 ?y4 ?x5 ?y5 ?z0 ?z1 ?z2 ?z3 ?z4 ?z5 ?z6 ?z7 ?z8 ?v0 ?u0
  (case a0=>k_is)
  (case l0=>k_is)
  (case c0=>k_is)
  (case k0=>k_is)
  (case a1=>k_is)
  (case l1=>k_is)
  (case c1=>k_is)
  (case k1=>k_is)
  (case a2=>k_is)
  (case l2=>k_is)
  (case c2=>k_is)
  (case k2=>k_is)
  (case a3=>k_is)
  (case l3=>k_is)
  (case c3=>k_is)
  (case k3=>k_is)
  (case a4=>k_is)
  (case l4=>k_is)
  (case c4=>k_is)
  (case k4=>k_is)
  (case a5=>k_is)
  (case l5=>k_is)
  (case c5=>k_is)
  (case k5=>k_is)
  (case a6=>k_is)
  (case l6=>k_is)
  (case c6=>k_is)
  (case k6=>k_is)
  (case a7=>k_is)
  (case l7=>k_is)
  (case c7=>k_is)
  (case k7=>k_is)
  (case a8=>k_is)
  (case l8=>k_is)
  (case c8=>k_is)
  (case k8=>k_is)
  (case a9=>k_is)
  (case l9=>k_is)
  (case c9=>k_is)
  (case k9=>k_is)
  (case a10=>k_is)
  (case l10=>k_is)
  (case c10=>k_is)
  (case k10=>k_is)
  (case a11=>k_is)
  (case l11=>k_is)
  (case c11=>k_is)
  (case k11=>k_is)
  (case a12=>k_is)
  (case l12=>k_is)
  (case c12=>k_is)
  (case k12=>k_is)
  (case a13=>k_is)
  (case l13=>k_is)
  (case c13=>k_is)
  (case k13=>k_is)
  (case a14=>k_is)
  (case l14=>k_is)
  (case c14=>k_is)
  (case k14=>k_is)
  (case a15=>k_is)
  (case l15=>k_is)
  (case c15=>k_is)
  (case k15=>k_is)
  (case a16=>k_is)
  (case l16=>k_is)
  (case c16=>k_is)
  (case k16=>k_is)
  (case a17=>k_is)
  (case l17=>k_is)
  (case c17=>k_is)
  (case k17=>k_is)
  (case a18=>k_is)
  (case l18=>k_is)
  (case c18=>k_is)
  (case k18=>k_is)
  (case a19=>k_is)
  (case l19=>k_is)
  (case c19=>k_is)
  (case k19=>k_is)
  (case a20=>k_is)
  (case l20=>k_is)
  (case c20=>k_is)
  (case k20=>k_is)
  (case a21=>k_is)
  (case l21=>k_is)
  (case c21=>k_is)
  (case k21=>k_is)
  (case a22=>k_is)
  (case l22=>k_is)
  (case c22=>k_is)
  (case k22=>k_is)
  (case a23=>k_is)
  (case l23=>k_is)
  (case c23=>k_is)
  (case k23=>k_is)
  (case a24=>k_is)
  (case l24=>k_is)
  (case c24=>k_is)
  (case k24=>k_is)
  (case a25=>k_is)
  (case l25=>k_is)
  (case c25=>k_is)
  (case k25=>k_is)
  (case a26=>k_is)
  (case l26=>k_is)
  (case c26=>k_is)
  (case k26=>k_is)
  (case x0=>k_is)
  (case y0=>exact ⟨_,rfl⟩)
  (case x1=>k_is)
  (case y1=>exact ⟨_,rfl⟩)
  (case x2=>k_is)
  (case y2=>exact ⟨_,rfl⟩)
  (case x3=>k_is)
  (case y3=>exact ⟨_,rfl⟩)
  (case x4=>k_is)
  (case y4=>exact ⟨_,rfl⟩)
  (case x5=>k_is)
  (case y5=>exact ⟨_,rfl⟩)
  (case z0=>k_is)
  (case z1=>k_is)
  (case z2=>k_is)
  (case z3=>k_is)
  (case z4=>k_is)
  (case z5=>k_is)
  (case z6=>k_is)
  (case z7=>k_is)
  (case z8=>k_is)
  (case v0=>k_is)
  (case u0=>kernel_rfl!)
#print axioms PySem.Challenge.cw_cardshop_k18_whole_partings_holds
