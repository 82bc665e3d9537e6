import PyProof.Rows.All
import Wide.All
import OpenK.AllK
import Wide.FinOn
import Lean
import PyProof.EqAt
import PyProof.EqKinds
import PyProof.TupleCall
import PyProof.StrLawsRepr
import PyProof.NeKinds
import PySem.Challenge.RW_cardshop_k36_whole_none_over_untold
set_option Elab.async false
set_option compiler.extract_closed false
set_option linter.all false
set_option maxRecDepth 100000
set_option maxHeartbeats 4000000
namespace L2
open PySem PySem.Spec PyProof.Rows
noncomputable abbrev Fgg:=PySem.W.Frag
noncomputable abbrev Pnn:=List (Addr×Obj)
noncomputable abbrev Key:=Sum Int Str
noncomputable def keyIs:Key→Value→Bool
 | .inl k,v=>Value.isInt k v
 | .inr x,v=>Value.isStrOf x v
noncomputable def keyH (w:World):Key→Int
 | .inl k=>hashInt k
 | .inr x=>hashStr w x
theorem zaW_:∀ {k:Key}{v:Value},keyIs k v=true→(∃ i t,k=Sum.inl i∧v=Value.int i t)∨(∃ x t,k=Sum.inr x∧v=Value.str x t)
 | .inl i,v,h=>by
  obtain ⟨t,e⟩:=Value.isInt_shape (k:=i) (v:=v) h
  exact .inl ⟨i,t,rfl,e⟩
 | .inr x,v,h=>by
  obtain ⟨t,e⟩:=Value.isStrOf_shape (x:=x) (v:=v) h
  exact .inr ⟨x,t,rfl,e⟩
theorem zlh_ (i:Int) (t:Tok):keyIs (.inl i) (.int i t)=true:=by simp [keyIs,Value.isInt]
theorem zlm_ (x:Str) (t:Tok):keyIs (.inr x) (.str x t)=true:=by simp [keyIs,Value.isStrOf]
theorem zql_ (a b:Int):decide ((Sum.inl a:Key)=Sum.inl b)=(a == b):=by
 by_cases e:a=b
 ·subst e; simp
 ·have h:¬ (Sum.inl a:Key)=Sum.inl b:=fun q=>e (Sum.inl.inj q)
  rw [decide_eq_false h]
  exact (beq_eq_false_iff_ne.mpr e).symm
theorem zqK_ (a b:Str):decide ((Sum.inr a:Key)=Sum.inr b)=decide (a=b):=by
 by_cases e:a=b
 ·subst e; simp
 ·have h:¬ (Sum.inr a:Key)=Sum.inr b:=fun q=>e (Sum.inr.inj q)
  rw [decide_eq_false h,decide_eq_false e]
theorem zpJ_ (a:Int) (b:Str):decide ((Sum.inl a:Key)=Sum.inr b)=false:=decide_eq_false (fun q=>nomatch q)
theorem zqL_ (a:Str) (b:Int):decide ((Sum.inr a:Key)=Sum.inl b)=false:=decide_eq_false (fun q=>nomatch q)
noncomputable def mixKind (prog:Program) (w:World):PySem.KeyKind prog w Key where
 is:=keyIs
 hash:=keyH w
 inj:=fun v a b ha hb=>by
  rcases zaW_ ha with ⟨i,t,rfl,rfl⟩ | ⟨x,t,rfl,rfl⟩
  ·rcases zaW_ hb with ⟨j,u,rfl,e⟩ | ⟨y,u,rfl,e⟩
   ·injection e with e1 _; rw [e1]
   ·exact nomatch e
  ·rcases zaW_ hb with ⟨j,u,rfl,e⟩ | ⟨y,u,rfl,e⟩
   ·exact nomatch e
   ·injection e with e1 _; rw [e1]
 byValue:=fun k v h=>by
  rcases zaW_ h with ⟨i,t,rfl,rfl⟩ | ⟨x,t,rfl,rfl⟩<;>rfl
 pyHash:=fun hv h=>by
  rcases zaW_ hv with ⟨i,t,rfl,rfl⟩ | ⟨x,t,rfl,rfl⟩
  ·exact wpAny_pyHash_int h
  ·exact wpAny_pyHash_str h
 eqBool:=fun hu hv h=>by
  rcases zaW_ hu with ⟨i,t,rfl,rfl⟩ | ⟨x,t,rfl,rfl⟩
  ·rcases zaW_ hv with ⟨j,u,rfl,rfl⟩ | ⟨y,u,rfl,rfl⟩
   ·rw [zql_] at h; exact wpAny_eqBool_int h
   ·rw [zpJ_] at h; exact SeqAt.EqAt.int_str i t y u _ _ _ _ h
  ·rcases zaW_ hv with ⟨j,u,rfl,rfl⟩ | ⟨y,u,rfl,rfl⟩
   ·rw [zqL_] at h; exact SeqAt.EqAt.str_int x t j u _ _ _ _ h
   ·rw [zqK_] at h; exact wpAny_eqBool_str h
 «strs»:=fun k x t v h=>by
  rcases zaW_ h with ⟨i,u,rfl,e⟩ | ⟨y,u,rfl,e⟩
  ·exact nomatch e
  ·injection e with e1 _
   subst e1
   cases v<;>rfl
theorem zkw_ (prog:Program) (w:World) (k:Key) (v:Value):(mixKind prog w).is k v=keyIs k v:=rfl
theorem zjh_ (prog:Program) (w:World) (i:Int) (t:Tok):(mixKind prog w).is (.inl i) (.int i t)=true:=zlh_ i t
theorem zjj_ (prog:Program) (w:World) (x:Str) (t:Tok):(mixKind prog w).is (.inr x) (.str x t)=true:=zlm_ x t
end L2
namespace L2
open PySem PySem.Spec PyProof.Rows
inductive V where
 | non | bl (b:Bool) | int (i:Int) | str (x:Str) | byt (b:Array UInt8) | flt (b:UInt64) | ref (a:Addr) | ty (n:String)
 deriving DecidableEq
noncomputable def RelV:V→Value→Prop
 | .non,u=>u=Value.none
 | .bl b,u=>u=Value.bool b
 | .int i,u=>∃ t,u=Value.int i t
 | .str x,u=>∃ t,u=Value.str x t
 | .byt b,u=>∃ t,u=Value.bytes b t
 | .flt b,u=>∃ t,u=Value.float b t
 | .ref a,u=>u=Value.ref a
 | .ty n,u=>u=Value.type n
noncomputable abbrev Vals:List V→List Value→Prop:=Paired RelV
theorem Vals.length {xs:List V}{us:List Value}(r:Vals xs us):xs.length=us.length:=Paired.length r
theorem Vals.get:∀ {xs:List V}{us:List Value}{i:Nat}{x:V},Vals xs us→xs[i]?=some x→∃ u,us[i]?=some u∧RelV x u
 | _,_,_,_,.nil,e=>by simp at e
 | _,_,0,_,.cons r _,e=>by simp at e; subst e; exact ⟨_,rfl,r⟩
 | _,_,i+1,x,.cons _ t,e=>by
  obtain ⟨u,h1,h2⟩:=Vals.get (i:=i) (x:=x) t (by simpa using e)
  exact ⟨u,by simpa using h1,h2⟩
theorem Vals.set {x:V}{u:Value}(r:RelV x u):∀ {xs:List V}{us:List Value}(i:Nat),Vals xs us→Vals (xs.set i x) (us.set i u)
 | _,_,_,.nil=>.nil
 | _,_,0,.cons _ t=>.cons r t
 | _,_,i+1,.cons q t=>.cons q (Vals.set r i t)
theorem Vals.append:∀ {xs ys:List V}{us ws:List Value},Vals xs us→Vals ys ws→Vals (xs++ys) (us++ws)
 | _,_,_,_,.nil,s=>s
 | _,_,_,_,.cons r t,s=>.cons r (Vals.append t s)
theorem Vals.take:∀ {xs:List V}{us:List Value}(n:Nat),Vals xs us→Vals (xs.take n) (us.take n)
 | _,_,0,_=>.nil
 | _,_,_+1,.nil=>.nil
 | _,_,n+1,.cons r t=>.cons r (Vals.take n t)
theorem Vals.drop:∀ {xs:List V}{us:List Value}(n:Nat),Vals xs us→Vals (xs.drop n) (us.drop n)
 | _,_,0,r=>r
 | _,_,_+1,.nil=>.nil
 | _,_,n+1,.cons _ t=>Vals.drop n t
noncomputable def RelO:Option V→Option Value→Prop
 | some v,some u=>RelV v u
 | none,none=>True
 | _,_=>False
noncomputable def KV {κ:Type}:List (κ×V)→List (κ×Value)→Prop:=Paired fun (p:κ×V) (q:κ×Value)=>p.1=q.1∧RelV p.2 q.2
noncomputable def kV:Key→V
 | .inl i=>.int i
 | .inr x=>.str x
inductive HO where
 | lst (xs:List V)
 | tup (xs:List V)
 | dK (kvs:List (Key×V)) | dT (kvs:List (List Key×V))
 | set (S:Int→Bool) (n:Nat)
 | ins (C dx:Addr) (fs:List (Str×V))
 | own (x:Addr)
 | xd (fs:List (Str×V))
 | met (f x:Addr)
 | rng (lo hi:Int)
 | frz (o:Obj) (u:HO)
 | tbl (ps:Array Value)
 | ext (φ:Heap→Prop)
noncomputable abbrev Hp:=Addr→Option HO
noncomputable def upd (H:Hp) (a:Addr) (o:HO):Hp:=fun b=>if b=a then some o else H b
theorem zbu_ {H:Hp}{a:Addr}{o:HO}:upd H a o a=some o:=by unfold upd; rw [if_pos rfl]
theorem zbk_ {H:Hp}{a b:Addr}{o:HO}(h:b≠a):upd H a o b=H b:=by unfold upd; rw [if_neg h]
theorem ne_of {H:Hp}{a b:Addr}{o u:HO}(h:H a=some o) (h':H b=some u) (d:o≠u):a≠b:=by
 intro e; subst e; rw [h] at h'; exact d (Option.some.inj h')
theorem zcE_ {H:Hp}{a b:Addr}{o:HO}(h:H a=some o) (h':H b=none):a≠b:=by
 intro e; subst e; rw [h] at h'; cases h'
section
variable (P:Program) (w:World)
noncomputable def ObjOk (H:Hp) (h:Heap) (a:Addr):HO→Prop
 | .lst xs=>xs.length≤sizeLine∧∃ (its:List Value) (n:Nat),Vals xs its∧h.get? a=some { cls:=.type "list",data:=.seq its.toArray n }
 | .tup xs=>xs.length≤sizeLine∧∃ its:List Value,Vals xs its∧IsTup h a its.toArray
 | .dK kvs=>kvs.length≤sizeLine∧(a == sysModules)=false∧∃ vs,KV kvs vs∧h.DictOf (mixKind P w) a vs
 | .dT kvs=>kvs.length≤sizeLine∧(a == sysModules)=false∧∃ xs:List (List Key×Addr×Value),
   Paired (fun (p:List Key×V) (q:List Key×Addr×Value)=>p.1=q.1∧H q.2.1=some (.tup (p.1.map kV))∧RelV p.2 q.2.2) kvs xs ∧
   ∃ o es ep,h.get? a=some o∧o.ExactDict∧o.data=.dict es ep∧es.toList=xs.map (entryOfKey (tupleKind (mixKind P w)))∧(xs.map (·.1)).Nodup
 | .set S n=>h.SetOf (intKind P w) a S n
 | .ins C dx fs=>H dx=some (.own a)∧fs.length≤1000∧dx≠a∧h.get? a=some (PySem.W.instObj C dx) ∧
   ∃ mA,h.Ns1 dx mA∧(∀ f,RelO (fs.lookup f) (mA f))∧PySem.Within mA (fs.map (·.1))
 | .own _=>∃ o,h.get? a=some o
 | .xd fs=>∃ mA,h.Ns1 a mA∧∀ f,RelO (fs.lookup f) (mA f)
 | .rng lo hi=>∃ t u v,h.get? a=some { cls:=.type "range",data:=.fields #[.int lo t,.int hi u,.int 1 v] }
 | .frz o u=>h.get? a=some o∧ObjOk H h a u
 | .tbl ps=>h.get? a=some { cls:=.none,data:=.fields ps }
 | .met f x=>h.get? a=some (PySem.W.methodObj (.ref f) (.ref x))
 | .ext φ=>φ h∧(∃ o,h.get? a=some o)∧∀ h1 h2:Heap,φ h1→(∀ o,h1.get? a=some o→h2.get? a=some o)→φ h2
noncomputable def HOk (H:Hp) (h:Heap):Prop:=∀ a o,H a=some o→ObjOk P w H h a o
end
section
variable {P:Program}{w:World}{H H':Hp}{h h':Heap}{a:Addr}{o:HO}
theorem ObjOk.lt (x:ObjOk P w H h a o):a<h.objs.size:=by
 cases o with
 | lst xs=>obtain ⟨_,_,_,_,e⟩:=x; exact Heap.lt_size e
 | tup xs=>obtain ⟨_,_,_,p⟩:=x; exact p.lt
 | dK kvs=>obtain ⟨_,_,_,_,o,_,_,e,_⟩:=x; exact Heap.lt_size e
 | dT kvs=>obtain ⟨_,_,_,_,o,_,_,e,_⟩:=x; exact Heap.lt_size e
 | set S n=>obtain ⟨o,_,_,_,e,_⟩:=x; exact Heap.lt_size e
 | ins C dx fs=>obtain ⟨_,_,_,e,_⟩:=x; exact Heap.lt_size e
 | own y=>obtain ⟨_,e⟩:=x; exact Heap.lt_size e
 | xd fs=>obtain ⟨_,⟨_,_,_,e,_⟩,_⟩:=x; exact Heap.lt_size e
 | rng lo hi=>obtain ⟨_,_,_,e⟩:=x; exact Heap.lt_size e
 | frz ob u=>obtain ⟨e,_⟩:=x; exact Heap.lt_size e
 | tbl ps=>exact Heap.lt_size (show h.get? a=some _ from x)
 | met f y=>exact Heap.lt_size (show h.get? a=some _ from x)
 | ext φ=>obtain ⟨_,⟨_,e⟩,_⟩:=x; exact Heap.lt_size e
theorem Paired.mapP {α β:Type}{F G:α→β→Prop}:∀ {l₁:List α}{l₂:List β},Paired F l₁ l₂→(∀ a b,F a b→G a b)→Paired G l₁ l₂
 | _,_,.nil,_=>.nil
 | _,_,.cons r t,f=>.cons (f _ _ r) (Paired.mapP t f)
theorem ObjOk.stay (x:ObjOk P w H h a o) (k:∀ b u,(b=a∨H b=some (.own a))→h.get? b=some u→h'.get? b=some u)
  (ho:∀ b,H b=some (.own a)→H' b=some (.own a)) (ht:∀ b xs,H b=some (.tup xs)→H' b=some (.tup xs)):ObjOk P w H' h' a o:=by
 induction o with
 | lst xs=>obtain ⟨z,its,n,r,e⟩:=x; exact ⟨z,its,n,r,k _ _ (.inl rfl) e⟩
 | tup xs=>obtain ⟨z,its,r,ob,e,c⟩:=x; exact ⟨z,its,r,ob,k _ _ (.inl rfl) e,c⟩
 | dK kvs=>obtain ⟨z,y,vs,r,ob,es,ep,e,c⟩:=x; exact ⟨z,y,vs,r,ob,es,ep,k _ _ (.inl rfl) e,c⟩
 | dT kvs =>
  obtain ⟨z,y,xs,r,ob,es,ep,e,c⟩:=x
  exact ⟨z,y,xs,Paired.mapP r fun p q z=>⟨z.1,ht _ _ z.2.1,z.2.2⟩,ob,es,ep,k _ _ (.inl rfl) e,c⟩
 | set S n=>obtain ⟨ob,es,ep,t,e,c⟩:=x; exact ⟨ob,es,ep,t,k _ _ (.inl rfl) e,c⟩
 | ins C dx fs =>
  obtain ⟨d,z,ne,e,mA,⟨od,es,ep,e2,c⟩,r⟩:=x
  exact ⟨ho _ d,z,ne,k _ _ (.inl rfl) e,mA,⟨od,es,ep,k _ _ (.inr d) e2,c⟩,r⟩
 | own y=>obtain ⟨ob,e⟩:=x; exact ⟨ob,k _ _ (.inl rfl) e⟩
 | xd fs=>obtain ⟨mA,⟨od,es,ep,e,c⟩,r⟩:=x; exact ⟨mA,⟨od,es,ep,k _ _ (.inl rfl) e,c⟩,r⟩
 | rng lo hi=>obtain ⟨t,u,v,e⟩:=x; exact ⟨t,u,v,k _ _ (.inl rfl) e⟩
 | frz ob u ih=>obtain ⟨e,q⟩:=x; exact ⟨k _ _ (.inl rfl) e,ih q⟩
 | tbl ps =>
  have e:h.get? a=some { cls:=.none,data:=.fields ps }:=x
  show h'.get? a=some { cls:=.none,data:=.fields ps }
  exact k a _ (.inl rfl) e
 | met f y =>
  have e:h.get? a=some (PySem.W.methodObj (.ref f) (.ref y)):=x
  show h'.get? a=some (PySem.W.methodObj (.ref f) (.ref y))
  exact k a _ (.inl rfl) e
 | ext φ=>obtain ⟨p,⟨o,e⟩,st⟩:=x; exact ⟨st _ _ p fun o q=>k _ _ (.inl rfl) q,⟨o,k _ _ (.inl rfl) e⟩,st⟩
theorem HOk.lt (x:HOk P w H h) (e:H a=some o):a<h.objs.size:=(x a o e).lt
theorem HOk.fresh (x:HOk P w H h) (e:h.objs.size≤a):H a=none:=by
 cases q:H a with
 | none=>rfl
 | some u=>exact absurd (Nat.lt_of_lt_of_le (x.lt q) e) (Nat.lt_irrefl _)
theorem HOk.kept (x:HOk P w H h) (k:∀ b u,h.get? b=some u→h'.get? b=some u):HOk P w H h':=fun a o e =>
 (x a o e).stay (fun b u _ q=>k b u q) (fun _ q=>q) fun _ _ q=>q
theorem HOk.laid (x:HOk P w H h) (k:∀ b u,h.get? b=some u→h'.get? b=some u) (hp:h.objs.size≤a) (new:ObjOk P w (upd H a o) h' a o):HOk P w (upd H a o) h':=fun b u e=>by
 have hn:=x.fresh hp
 by_cases hb:b=a
 ·subst hb; rw [zbu_] at e; cases e; exact new
 ·rw [zbk_ hb] at e
  exact (x b u e).stay (fun c v _ q=>k c v q) (fun c q=>by rw [zbk_ (zcE_ q hn)]; exact q) fun c xs q=>by rw [zbk_ (zcE_ q hn)]; exact q
end
noncomputable def Rd (H:Hp) (a:Addr) (u:HO):Prop:=H a=some u∨∃ o,H a=some (.frz o u)
theorem Rd.ok {P:Program}{w:World}{H:Hp}{h:Heap}{a:Addr}{u:HO}(r:Rd H a u) (x:HOk P w H h):ObjOk P w H h a u:=by
 rcases r with r | ⟨o,r⟩
 ·exact x a u r
 ·obtain ⟨_,q⟩:=x a _ r
  exact q
noncomputable def Mut:Option HO→Prop
 | some (.lst _)=>True
 | some (.dK _)=>True
 | some (.dT _)=>True
 | some (.set _ _)=>True
 | some (.ins _ _ _)=>True
 | some (.ext _)=>True
 | _=>False
section
variable {P:Program}{w:World}{H:Hp}{h h':Heap}{x e:Addr}{o':HO}
theorem HOk.write (ok:HOk P w H h) (mu:Mut (H x)) (he:e=x∨H e=some (.own x)) (k:∀ b u,b≠e→h.get? b=some u→h'.get? b=some u) (heo:∃ u,h'.get? e=some u)
  (new:ObjOk P w (upd H x o') h' x o'):HOk P w (upd H x o') h':=fun b u q=>by
 have nown:∀ c y,H c=some (.own y)→c≠x:=fun c y r z=>by subst z; rw [r] at mu; exact mu
 have ntup:∀ c xs,H c=some (.tup xs)→c≠x:=fun c xs r z=>by subst z; rw [r] at mu; exact mu
 by_cases hb:b=x
 ·subst hb; rw [zbu_] at q; cases q; exact new
 ·rw [zbk_ hb] at q
  by_cases hbe:b=e
  ·have q':H b=some (.own x):=by
    rcases he with z | z
    ·exact absurd (hbe.trans z) hb
    ·rw [hbe]; exact z
   rw [q] at q'; cases q'
   obtain ⟨v,hv⟩:=heo
   exact ⟨v,by rw [hbe]; exact hv⟩
  ·refine (ok b u q).stay (fun c v hc r=>k c v ?_ r) (fun c r=>by rw [zbk_ (nown c b r)]; exact r) fun c xs r=>by rw [zbk_ (ntup c xs r)]; exact r
   rcases hc with rfl | hc
   ·exact hbe
   ·rintro rfl
    rcases he with z | z
    ·exact nown c b hc z
    ·rw [hc] at z; cases z; exact hb rfl
end
structure Un (fs ex:List Addr) (H H':Hp) (h h':Heap):Prop where
 keep:∀ b o,h.get? b=some o→H b=none→b∉fs→b∉ex→h'.get? b=some o
 slot:∀ b o,h.get? b=some o→H b=none→b∈fs→b∉ex→∃ sl,h'.get? b=some { o with slots:=sl }
 free:∀ b o,h.get? b=some o→H b=none→b∉ex→H' b=none
 there:∀ b o,h.get? b=some o→b∉ex→∃ o',h'.get? b=some o'
 tups:∀ b xs,H b=some (.tup xs)→H' b=some (.tup xs)
 frzs:∀ b o u,H b=some (.frz o u)→H' b=some (.frz o u)
 tbls:∀ b ps,H b=some (.tbl ps)→∃ more,H' b=some (.tbl (ps++more))
section
variable {fs fs' ex ex':List Addr}{H H1 H2:Hp}{h h1 h2 h':Heap}{a x e:Addr}{o:HO}
theorem Un.any (u:Un fs ex H H1 h h1) {b:Addr}{ob:Obj}(q:h.get? b=some ob) (n:H b=none) (hx:b∉ex):∃ sl,h1.get? b=some { ob with slots:=sl }:=by
 by_cases hb:b∈fs
 ·exact u.slot b ob q n hb hx
 ·exact ⟨ob.slots,u.keep b ob q n hb hx⟩
theorem Un.kept (k:∀ b u,h.get? b=some u→h'.get? b=some u):Un fs ex H H h h' :=
 ⟨fun b ob q _ _ _=>k b ob q,fun b ob q _ _ _=>⟨ob.slots,k b ob q⟩,fun _ _ _ n _=>n,fun b ob q _=>⟨ob,k b ob q⟩,fun _ _ q=>q,fun _ _ _ q=>q,fun _ ps q=>⟨#[],by rw [q]; simp⟩⟩
theorem Un.refl:Un fs ex H H h h:=Un.kept fun _ _ q=>q
theorem Un.laid (k:∀ b u,h.get? b=some u→h'.get? b=some u) (hp:h.objs.size≤a) (hn:H a=none):Un fs ex H (upd H a o) h h' where
 keep:=fun b u q _ _ _=>k b u q
 slot:=fun b u q _ _ _=>⟨u.slots,k b u q⟩
 free:=fun b u q n _=>by rw [zbk_ (Nat.ne_of_lt (Nat.lt_of_lt_of_le (Heap.lt_size q) hp))]; exact n
 there:=fun b u q _=>⟨u,k b u q⟩
 tups:=fun b xs q=>by rw [zbk_ (zcE_ q hn)]; exact q
 frzs:=fun b u xs q=>by rw [zbk_ (zcE_ q hn)]; exact q
 tbls:=fun b ps q=>⟨#[],by rw [zbk_ (zcE_ q hn),q]; simp⟩
theorem Un.write (mu:Mut (H x)) (he:e=x∨H e=some (.own x)) (k:∀ b u,b≠e→h.get? b=some u→h'.get? b=some u) (heo:∃ u,h'.get? e=some u):Un fs ex H (upd H x o) h h':=by
 have hx:∀ b,H b=none→b≠x:=fun b n z=>by subst z; rw [n] at mu; exact mu
 have hb:∀ b,H b=none→b≠e:=fun b n z=>by
  subst z
  rcases he with r | r
  ·exact hx b n r
  ·rw [n] at r; cases r
 have hm:∀ b u,H b=some u→¬ Mut (some u)→b≠x:=fun b u q nm z=>by subst z; rw [q] at mu; exact nm mu
 refine ⟨fun b u q n _ _=>k b u (hb b n) q,fun b u q n _ _=>⟨u.slots,k b u (hb b n) q⟩,fun b u q n _=>by rw [zbk_ (hx b n)]; exact n,fun b u q _=>?_,
  fun b xs q=>by rw [zbk_ (hm b _ q fun z=>z)]; exact q,fun b u xs q=>by rw [zbk_ (hm b _ q fun z=>z)]; exact q,fun b ps q=>⟨#[],by rw [zbk_ (hm b _ q fun z=>z),q]; simp⟩⟩
 by_cases hbe:b=e
 ·subst hbe; exact heo
 ·exact ⟨u,k b u hbe q⟩
end
noncomputable def trk (h:Heap) (H:Hp):List Addr:=(List.range h.objs.size).filter fun a=>(H a).isSome
noncomputable def hidT (h:Heap) (H:Hp):Heap:=PySem.W.hideAll h (trk h H)
theorem zlP_ (h:Heap) (H:Hp):(hidT h H).objs.size=h.objs.size:=PySem.W.hideAll_size _ _
theorem zm5_ {h:Heap}{H:Hp}{b:Addr}{o:Obj}(e:h.get? b=some o) (n:H b=none):(hidT h H).get? b=some o :=
 PySem.W.hideAll_get _ e fun hm=>by
  have q:(H b).isSome=true:=(List.mem_filter.mp hm).2
  rw [n] at q; simp at q
theorem zo1_ {h:Heap}{H:Hp}{b:Addr}{o:Obj}(e:(hidT h H).get? b=some o):h.get? b=some o∧H b=none:=by
 have e':h.get? b=some o:=PySem.W.of_hideAll (trk h H) e
 refine ⟨e',?_⟩
 cases q:H b with
 | none=>rfl
 | some x =>
  have hm:b∈trk h H:=List.mem_filter.mpr ⟨List.mem_range.mpr (Heap.lt_size e'),by simp [q]⟩
  have z:(hidT h H).get? b=none:=PySem.W.hideAll_none (trk h H) hm
  rw [z] at e; cases e
noncomputable def allNews (g h:Heap) (L:Addr):Pnn:=(List.range h.objs.size).filterMap fun a=>if a=L∨(g.get? a).isSome=true then none else (h.get? a).map fun o=>(a,o)
noncomputable def rest (g h:Heap) (L d:Addr):Pnn:=(allNews g h L).filter fun p=>decide (p.1≠d)
end L2
namespace L2
open PySem PySem.Spec PyProof.Rows
structure Mod (K:Fgg) (mg:Str→Option Value) (base:Heap):Prop where
 kin:K.In base
 glob:base.Ns mainGlobals mg
 blt:∃ mb,base.Ns builtinsNs mb∧∀ x:Str,x ≠ "__name__" → mb x=bootBuiltins x
 nolimit:base.NoLimit
structure Cx where
 prog:Program
 w:World
 K:Fgg
 mg:Str→Option Value
 base:Heap
 A:Around
 N:List Str
 s₀:Shared
 H₀:Hp
 env:Env
 outer:List Env
 stack:List Env
 ex:List Addr
 fn:Str→Bool
 calm:Bool
 pn:Pnn
 xe:Value→Shared→Prop
noncomputable def frs (l:List Env):List Addr:=l.filterMap (·.frame)
noncomputable abbrev Cx.fs (X:Cx):List Addr:=frs X.outer
noncomputable def Vis (sc:Scope) (x:Str):Prop:=sc.names.lookup x=some .local∨sc.names.lookup x=some .cell∨sc.names.lookup x=some .free
noncomputable def Loc (sc:Scope) (x:Str):Prop:=sc.names.lookup x=some .local∨sc.names.lookup x=some .cell
noncomputable def Look (env:Env) (h:Heap) (m:Str→Option Value) (x:Str) (u:Value):Prop :=
 (env.kindOf x=some .local∧m x=some u)∨((env.kindOf x=some .cell∨env.kindOf x=some .free)∧∃ c,env.cells.lookup x=some c∧h.IsCell c (some u))
structure Cx.Ok (X:Cx):Prop where
 mod:Mod X.K X.mg X.base
 kind:X.env.scope.kind=.function
 glob:X.env.globals=mainGlobals
 blt:X.env.builtins=builtinsNs
 above:X.s₀.heap.objs.size≤X.env.locals
 inj:∀ x y c,X.env.cells.lookup x=some c→X.env.cells.lookup y=some c→x=y
 has:∀ x,(X.env.kindOf x=some .cell∨X.env.kindOf x=some .free)→∃ c,X.env.cells.lookup x=some c
 cab:∀ x c,X.fn x=true→X.env.cells.lookup x=some c→X.s₀.heap.objs.size≤c
 hd:X.calm=true→X.A.handled=none
 frames:X.A.frames=some X.stack
 stk:X.stack=X.outer∨(X.stack=X.env::X.outer∧X.env.frame=some X.env.locals)
 exf:∀ b∈X.ex,b≠X.env.locals∧∀ x c,X.env.cells.lookup x=some c→c≠b
 bs:∀ b o,X.base.get? b=some o→X.s₀.heap.get? b=some o∧X.H₀ b=none
 bsz:X.base.objs.size≤X.s₀.heap.objs.size
 noex:∀ b o,X.base.get? b=some o→b∉X.ex
 exfs:∀ b∈X.ex,b∉X.fs
 funs:X.s₀.heap.FunFrames X.base X.outer
 frf:∀ b∈X.fs,X.H₀ b=none
structure Inv (X:Cx) (pins:Pnn) (σ:List (Option V)) (H:Hp) (s:Shared):Prop where
 ok:X.Ok
 os:s.os=X.s₀.os
 bare:AllBare s.gens
 base:Un X.fs X.ex X.H₀ H X.s₀.heap s.heap
 loc:∃ m,s.heap.Ns X.env.locals m∧∀ (i:Nat) (x:Str) (v:V),X.N[i]?=some x→σ[i]?=some (some v)→Vis X.env.scope x→∃ u,RelV v u∧Look X.env s.heap m x u
 cell:∀ x c,X.env.cells.lookup x=some c→∃ v,s.heap.IsCell c v
 free:H X.env.locals=none
 freeC:∀ x c,X.env.cells.lookup x=some c→H c=none
 pin:∀ p∈X.pn++pins,s.heap.get? p.1=some p.2∧H p.1=none∧p.1≠X.env.locals∧p.1∉X.fs∧∀ v,p.2.data≠.cell v
 hok:HOk X.prog X.w H s.heap
 len:σ.length=X.N.length
section
variable {X:Cx}{pins:Pnn}{σ:List (Option V)}{H H':Hp}{s:Shared}{h':Heap}
theorem Cx.Ok.nofr (ok:X.Ok) {b:Addr}{o:Obj}(e:X.base.get? b=some o):b∉X.fs:=fun hb=>by
 have:=(ok.funs.mem hb).1
 rw [e] at this; cases this
theorem Inv.bs (I:Inv X pins σ H s):∀ b o,X.base.get? b=some o→s.heap.get? b=some o∧H b=none:=fun b o e =>
 ⟨I.base.keep b o (I.ok.bs b o e).1 (I.ok.bs b o e).2 (I.ok.nofr e) (I.ok.noex b o e),I.base.free b o (I.ok.bs b o e).1 (I.ok.bs b o e).2 (I.ok.noex b o e)⟩
theorem Inv.bk (I:Inv X pins σ H s):∀ b o,X.base.get? b=some o→s.heap.get? b=some o:=fun b o e=>(I.bs b o e).1
theorem Inv.mod (I:Inv X pins σ H s):Mod X.K X.mg X.base:=I.ok.mod
theorem Inv.kIn (I:Inv X pins σ H s):X.K.In s.heap:=I.ok.mod.kin.keeps I.bk
theorem Inv.lt (I:Inv X pins σ H s):X.env.locals<s.heap.objs.size:=let ⟨_,hn,_⟩:=I.loc; hn.lt
theorem Inv.sz (I:Inv X pins σ H s):X.s₀.heap.objs.size≤s.heap.objs.size:=Nat.le_trans I.ok.above (Nat.le_of_lt I.lt)
theorem Inv.nofs (I:Inv X pins σ H s) {a:Addr}(h:s.heap.objs.size≤a):a∉X.fs:=fun hb=>by
 obtain ⟨_,o,ho,_⟩:=I.ok.funs.mem hb
 exact absurd (Nat.lt_of_lt_of_le (Heap.lt_size ho) (Nat.le_trans I.sz h)) (Nat.lt_irrefl _)
theorem Inv.cne (I:Inv X pins σ H s):∀ x c,X.env.cells.lookup x=some c→c≠X.env.locals:=fun x c e z=>by
 obtain ⟨v,o,ho,hd⟩:=I.cell x c e
 obtain ⟨m,⟨o',es,ep,ho',hd',_⟩,_⟩:=I.loc
 rw [z,ho'] at ho; cases ho; rw [hd'] at hd; cases hd
theorem Inv.funs (I:Inv X pins σ H s):s.heap.FunFrames X.base X.outer:=by
 have all:∀ (l:List Env),(∀ b∈frs l,b∈X.fs)→X.s₀.heap.FunFrames X.base l→s.heap.FunFrames X.base l:=by
  intro l
  induction l with
  | nil=>intro _ _; trivial
  | cons env r ih =>
   intro hs hl
   obtain ⟨hk,⟨L,o,hf,hn,ho,hd⟩,hr⟩:=hl
   have hL:L∈X.fs:=hs L (by unfold frs; rw [List.filterMap_cons,hf]; exact List.mem_cons_self)
   obtain ⟨sl,e⟩:=I.base.slot L o ho (I.ok.frf L hL) hL fun z=>I.ok.exfs L z hL
   exact ⟨hk,⟨L,_,hf,hn,e,hd⟩,ih (fun b hb=>hs b (by unfold frs; rw [List.filterMap_cons,hf]; exact List.mem_cons_of_mem _ hb)) hr⟩
 exact all X.outer (fun _ hb=>hb) I.ok.funs
theorem Inv.stack (I:Inv X pins σ H s):s.heap.FunFrames X.base X.stack:=by
 rcases I.ok.stk with e | ⟨e,hf⟩
 ·rw [e]; exact I.funs
 ·rw [e]
  obtain ⟨m,hn,_⟩:=I.loc
  refine .cons (by rw [I.ok.kind]; decide) hf hn ?_ I.funs
  exact Heap.get?_none_of_le (Nat.le_trans I.ok.bsz I.ok.above)
theorem Inv.stkSub (I:Inv X pins σ H s):∀ b∈frs X.stack,b∈X.env.locals::X.fs:=fun b hb=>by
 rcases I.ok.stk with e | ⟨e,hf⟩
 ·rw [e] at hb; exact List.mem_cons_of_mem _ hb
 ·rw [e] at hb
  unfold frs at hb
  rw [List.filterMap_cons,hf] at hb
  exact hb
theorem Inv.stkFree (I:Inv X pins σ H s):∀ b∈frs X.stack,H b=none:=fun b hb=>by
 rcases List.mem_cons.mp (I.stkSub b hb) with e | hb
 ·rw [e]; exact I.free
 ·obtain ⟨_,o,ho,_⟩:=I.ok.funs.mem hb
  exact I.base.free b o ho (I.ok.frf b hb) fun z=>I.ok.exfs b z hb
theorem Inv.step {g':Array GenState}{t':Nat}{d':Drawn}{ch:List Addr}(I:Inv X pins σ H s)
  (hch:∀ b∈ch,(b∈X.ex∨X.s₀.heap.objs.size≤b)∧b≠X.env.locals∧(∀ x c,X.env.cells.lookup x=some c→c≠b)∧∀ p∈X.pn++pins,p.1≠b)
  (keep:∀ b o,b≠X.env.locals→b∉X.fs→b∉ch→s.heap.get? b=some o→H b=none→h'.get? b=some o)
  (slot:∀ b o,b≠X.env.locals→b∈X.fs→b∉ch→s.heap.get? b=some o→H b=none→∃ sl,h'.get? b=some { o with slots:=sl }) (free:∀ b o,b∉ch→s.heap.get? b=some o→H b=none→H' b=none)
  (there:∀ b o,b∉ch→s.heap.get? b=some o→∃ o',h'.get? b=some o')
  (tups:∀ b xs,H b=some (.tup xs)→H' b=some (.tup xs)) (frzs:∀ b o u,H b=some (.frz o u)→H' b=some (.frz o u)) (tbls:∀ b ps,H b=some (.tbl ps)→∃ more,H' b=some (.tbl (ps++more)))
  (ns:∀ m,s.heap.Ns X.env.locals m→h'.Ns X.env.locals m) (hok:HOk X.prog X.w H' h') (hg:AllBare g') :
  Inv X pins σ H' { s with heap:=h',gens:=g',drawn:=d',toks:=t' }:=by
 have neL:∀ b o,X.s₀.heap.get? b=some o→b≠X.env.locals:=fun b o e=>Nat.ne_of_lt (Nat.lt_of_lt_of_le (Heap.lt_size e) I.ok.above)
 have neC:∀ b o,X.s₀.heap.get? b=some o→b∉X.ex→b∉ch:=fun b o e hx hb=>by
  rcases (hch b hb).1 with z | z
  ·exact hx z
  ·exact absurd (Nat.lt_of_lt_of_le (Heap.lt_size e) z) (Nat.lt_irrefl _)
 have cellK:∀ x c,X.env.cells.lookup x=some c→∀ v,s.heap.IsCell c v→h'.IsCell c v:=fun x c e v ⟨o,ho,hd⟩=>by
  have nch:c∉ch:=fun z=>(hch c z).2.2.1 x c e rfl
  by_cases hc:c∈X.fs
  ·obtain ⟨sl,q⟩:=slot c o (I.cne x c e) hc nch ho (I.freeC x c e)
   exact ⟨_,q,hd⟩
  ·exact ⟨o,keep c o (I.cne x c e) hc nch ho (I.freeC x c e),hd⟩
 refine ⟨I.ok,I.os,hg,⟨fun b o e n hb hx=>?_,fun b o e n hb hx=>?_,fun b o e n hx=>?_,fun b o e hx=>?_,fun b xs e=>tups b xs (I.base.tups b xs e),fun b o xs e=>frzs b o xs (I.base.frzs b o xs e),fun b ps e=>?_⟩,?_,fun x c e=>?_,?_,fun x c e=>?_,fun p hp=>?_,hok,I.len⟩
 ·exact keep b o (neL b o e) hb (neC b o e hx) (I.base.keep b o e n hb hx) (I.base.free b o e n hx)
 ·obtain ⟨sl,e1⟩:=I.base.slot b o e n hb hx
  obtain ⟨sl',e2⟩:=slot b _ (neL b o e) hb (neC b o e hx) e1 (I.base.free b o e n hx)
  exact ⟨sl',e2⟩
 ·obtain ⟨o',e1⟩:=I.base.there b o e hx
  exact free b o' (neC b o e hx) e1 (I.base.free b o e n hx)
 ·obtain ⟨o',e1⟩:=I.base.there b o e hx
  exact there b o' (neC b o e hx) e1
 ·obtain ⟨m1,e1⟩:=I.base.tbls b ps e
  obtain ⟨m2,e2⟩:=tbls b _ e1
  exact ⟨m1++m2,by rw [e2,Array.append_assoc]⟩
 ·obtain ⟨m,hn,hl⟩:=I.loc
  refine ⟨m,ns m hn,fun i x v e1 e2 e3=>?_⟩
  obtain ⟨u,r,l⟩:=hl i x v e1 e2 e3
  refine ⟨u,r,?_⟩
  rcases l with l | ⟨k,c,e,z⟩
  ·exact .inl l
  ·exact .inr ⟨k,c,e,cellK x c e _ z⟩
 ·obtain ⟨v,z⟩:=I.cell x c e
  exact ⟨v,cellK x c e v z⟩
 ·obtain ⟨m,⟨o,_,_,ho,_⟩,_⟩:=I.loc
  exact free _ o (fun z=>(hch _ z).2.1 rfl) ho I.free
 ·obtain ⟨v,o,ho,hd⟩:=I.cell x c e
  exact free c o (fun z=>(hch c z).2.2.1 x c e rfl) ho (I.freeC x c e)
 ·obtain ⟨e,n,ne,nf,d⟩:=I.pin p hp
  have nch:p.1∉ch:=fun z=>(hch p.1 z).2.2.2 p hp rfl
  exact ⟨keep p.1 p.2 ne nf nch e n,free p.1 p.2 nch e n,ne,nf,d⟩
theorem Inv.un {t':Nat}(I:Inv X pins σ H s) (u:Un X.fs [] H H' s.heap h') (hok:HOk X.prog X.w H' h'):Inv X pins σ H' { s with heap:=h',toks:=t' }:=by
 obtain ⟨m,⟨o,es,ep,ho,r⟩,_⟩:=id I.loc
 obtain ⟨sl,hL⟩:=u.any ho I.free (by simp)
 exact I.step (g':=s.gens) (d':=s.drawn) (ch:=[]) (fun _ z=>nomatch z) (fun b o _ hb _ e n=>u.keep b o e n hb (by simp)) (fun b o _ hb _ e n=>u.slot b o e n hb (by simp)) (fun b o _ e n=>u.free b o e n (by simp)) (fun b o _ e=>u.there b o e (by simp)) u.tups u.frzs u.tbls (fun m' hm=>by
  obtain ⟨o',es',ep',ho',r'⟩:=hm
  rw [ho] at ho'; cases ho'
  exact ⟨_,es',ep',hL,r'⟩) hok I.bare
theorem Inv.call {g':Array GenState}{t':Nat}{d':Drawn}{ch:List Addr}(I:Inv X pins σ H s) (u:Un (frs X.stack) ch H H' s.heap h') (hok:HOk X.prog X.w H' h') (hg:AllBare g')
  (hch:∀ b∈ch,(b∈X.ex∨X.s₀.heap.objs.size≤b)∧b≠X.env.locals∧(∀ x c,X.env.cells.lookup x=some c→c≠b)∧∀ p∈X.pn++pins,p.1≠b) :
  Inv X pins σ H' { s with heap:=h',gens:=g',drawn:=d',toks:=t' }:=by
 obtain ⟨m,⟨o,es,ep,ho,r⟩,_⟩:=id I.loc
 obtain ⟨sl,hL⟩:=u.any ho I.free fun z=>(hch _ z).2.1 rfl
 exact I.step (ch:=ch) hch (fun b o hL hb hc e n=>u.keep b o e n (fun z=>(List.mem_cons.mp (I.stkSub b z)).elim hL hb) hc) (fun b o _ _ hc e n=>u.any e n hc) (fun b o hc e n=>u.free b o e n hc) (fun b o hc e=>u.there b o e hc) u.tups u.frzs u.tbls (fun m' hm=>by
  obtain ⟨o',es',ep',ho',r'⟩:=hm
  rw [ho] at ho'; cases ho'
  exact ⟨_,es',ep',hL,r'⟩) hok hg
theorem Inv.turned {t':Nat}{it:Addr}(I:Inv X pins σ H s) (k:∀ b o,b≠it→s.heap.get? b=some o→h'.get? b=some o) (hn:H it=none) (hL:it≠X.env.locals)
  (h1:it∈X.ex∨X.s₀.heap.objs.size≤it) (h2:∀ x c,X.env.cells.lookup x=some c→c≠it) (h3:∀ p∈X.pn++pins,p.1≠it):Inv X pins σ H { s with heap:=h',toks:=t' }:=by
 have nit:∀ b u,H b=some u→b≠it:=fun b u e z=>by rw [z,hn] at e; cases e
 refine I.step (g':=s.gens) (d':=s.drawn) (ch:=[it]) (fun b hb=>?_) (fun b o _ _ hc e _=>k b o (fun z=>hc (by simp [z])) e) (fun b o _ _ hc e _=>⟨o.slots,k b o (fun z=>hc (by simp [z])) e⟩) (fun _ _ _ _ n=>n)
  (fun b o hc e=>⟨o,k b o (fun z=>hc (by simp [z])) e⟩) (fun _ _ e=>e) (fun _ _ _ e=>e) (fun b ps e=>⟨#[],by rw [e]; simp⟩) (fun m hm=>?_) (fun b u e=>?_) I.bare
 ·have e:b=it:=by simpa using hb
  subst e
  exact ⟨h1,hL,h2,h3⟩
 ·obtain ⟨o,es,ep,ho,r⟩:=hm
  exact ⟨o,es,ep,k _ o (Ne.symm hL) ho,r⟩
 ·refine (I.hok b u e).stay (fun c v hc q=>k c v ?_ q) (fun _ q=>q) fun _ _ q=>q
  rcases hc with z | z
  ·rw [z]; exact nit b u e
  ·exact nit c _ z
theorem Inv.tok (I:Inv X pins σ H s) (t:Nat):Inv X pins σ H { s with toks:=t }:=I.un (h':=s.heap) (t':=t) Un.refl I.hok
theorem Inv.kept {t':Nat}(I:Inv X pins σ H s) (k:∀ b u,s.heap.get? b=some u→h'.get? b=some u):Inv X pins σ H { s with heap:=h',toks:=t' }:=I.un (Un.kept k) (I.hok.kept k)
theorem Inv.laid {a:Addr}{o:HO}{t':Nat}(I:Inv X pins σ H s) (k:∀ b u,s.heap.get? b=some u→h'.get? b=some u) (hp:s.heap.objs.size≤a) (new:ObjOk X.prog X.w (upd H a o) h' a o) :
  Inv X pins σ (upd H a o) { s with heap:=h',toks:=t' }:=I.un (Un.laid k hp (I.hok.fresh hp)) (I.hok.laid k hp new)
theorem Inv.write {x e:Addr}{o:HO}{t':Nat}(I:Inv X pins σ H s) (mu:Mut (H x)) (he:e=x∨H e=some (.own x)) (k:∀ b u,b≠e→s.heap.get? b=some u→h'.get? b=some u) (heo:∃ u,h'.get? e=some u)
  (new:ObjOk X.prog X.w (upd H x o) h' x o):Inv X pins σ (upd H x o) { s with heap:=h',toks:=t' }:=I.un (Un.write mu he k heo) (I.hok.write mu he k heo new)
theorem Inv.pins_of {pins':Pnn}(I:Inv X pins σ H s) (h:∀ p∈pins',s.heap.get? p.1=some p.2∧H p.1=none∧p.1≠X.env.locals∧p.1∉X.fs∧∀ v,p.2.data≠.cell v):Inv X pins' σ H s :=
 ⟨I.ok,I.os,I.bare,I.base,I.loc,I.cell,I.free,I.freeC,fun p hp=>(List.mem_append.mp hp).elim (fun z=>I.pin p (List.mem_append_left _ z)) (h p),I.hok,I.len⟩
theorem zjX_ {N:List Str}(hN:N.Nodup) {i j:Nat}{x:Str}(a:N[i]?=some x) (b:N[j]?=some x):i=j:=by
 obtain ⟨h1,e1⟩:=List.getElem?_eq_some_iff.mp a
 obtain ⟨h2,e2⟩:=List.getElem?_eq_some_iff.mp b
 exact (List.getElem_inj hN).mp (e1.trans e2.symm)
theorem zlS_ {M:Model}{A:Around}{E:Value→Shared→Prop}{i:Nat}{x:Str}{v:V}{u:Value}{Q:Unit→Shared→Prop}(I:Inv X pins σ H s) (hN:X.N.Nodup) (hi:X.N[i]?=some x) (hx:Loc X.env.scope x) (r:RelV v u)
  (h:∀ s',Inv X pins (σ.set i (some v)) H s'→(∃ a,Heap.SameBut a s.heap s'.heap∧(a=X.env.locals∨X.env.cells.lookup x=some a))→Q () s') (hf:X.fn x=true∨X.env.scope.names.lookup x=some .local:=by first | exact .inl rfl | exact .inr rfl | assumption):wpAny M A (storeName X.env x u) Q E s:=by
 obtain ⟨m,hn,hl⟩:=id I.loc
 have hcls:(X.env.scope.kind == .class || (X.env.scope.kind == .module && X.env.locals != X.env.globals))=false:=by rw [I.ok.kind]; rfl
 have hiσ:i<σ.length:=by rw [I.len]; exact (List.getElem?_eq_some_iff.mp hi).1
 have cne:=I.cne
 have tracked:∀ {a:Addr}{h':Heap},(∃ o,s.heap.get? a=some o∧H a=none)→Heap.SameBut a s.heap h'→HOk X.prog X.w H h':=fun {a h'} ha hs b ob e=>by
  obtain ⟨_,_,hfree⟩:=ha
  refine (I.hok b ob e).stay (fun c w' hc q=>(hs.2 c ?_).trans q) (fun _ q=>q) fun _ _ q=>q
  rintro rfl
  rcases hc with rfl | hc
  ·rw [hfree] at e; cases e
  ·rw [hfree] at hc; cases hc
 rcases hx with hk | hk
 ·refine wpAny_storeName_local hk hn (fun h' hn' hs=>?_) hcls
  obtain ⟨oL,_,_,hoL,_⟩:=id hn
  refine h _ ⟨I.ok,I.os,I.bare,⟨fun b o e n hb hx=>?_,fun b o e n hb hx=>?_,I.base.free,fun b o e hx=>?_,I.base.tups,I.base.frzs,I.base.tbls⟩,⟨_,hn',fun j y v' e1 e2 e3=>?_⟩,fun y c e=>?_,I.free,I.freeC,fun p hp=>?_,tracked ⟨oL,hoL,I.free⟩ hs,by simpa using I.len⟩ ⟨_,hs,.inl rfl⟩
  ·exact (hs.2 b (Nat.ne_of_lt (Nat.lt_of_lt_of_le (Heap.lt_size e) I.ok.above))).trans (I.base.keep b o e n hb hx)
  ·obtain ⟨sl,e1⟩:=I.base.slot b o e n hb hx
   exact ⟨sl,(hs.2 b (Nat.ne_of_lt (Nat.lt_of_lt_of_le (Heap.lt_size e) I.ok.above))).trans e1⟩
  ·obtain ⟨o',e1⟩:=I.base.there b o e hx
   exact ⟨o',(hs.2 b (Nat.ne_of_lt (Nat.lt_of_lt_of_le (Heap.lt_size e) I.ok.above))).trans e1⟩
  ·by_cases hj:j=i
   ·subst hj
    rw [hi] at e1; cases e1
    rw [List.getElem?_set_self hiσ] at e2
    cases e2
    exact ⟨u,r,.inl ⟨hk,by simp⟩⟩
   ·rw [List.getElem?_set_ne (Ne.symm hj)] at e2
    obtain ⟨u',r',q⟩:=hl j y v' e1 e2 e3
    refine ⟨u',r',?_⟩
    rcases q with ⟨k,e⟩ | ⟨k,c,e,z⟩
    ·refine .inl ⟨k,?_⟩
     have:y≠x:=fun e=>hj (zjX_ hN e1 (e ▸ hi))
     simp [this,e]
    ·exact .inr ⟨k,c,e,z.sameBut hs (cne y c e)⟩
  ·obtain ⟨w',z⟩:=I.cell y c e
   exact ⟨w',z.sameBut hs (cne y c e)⟩
  ·obtain ⟨e,n,ne,nf,d⟩:=I.pin p hp
   exact ⟨(hs.2 p.1 ne).trans e,n,ne,nf,d⟩
 ·have hfn:X.fn x=true:=by
   rcases hf with z | z
   ·exact z
   ·rw [z] at hk; cases hk
  obtain ⟨c,hc⟩:=I.ok.has x (.inl hk)
  obtain ⟨w',z⟩:=I.cell x c hc
  refine wpAny_storeName_cell I.ok.kind hk hc z (fun h' hc' hs=>?_)
  obtain ⟨oc,hoc,hocd⟩:=id z
  refine h { s with heap:=h' } ⟨I.ok,I.os,I.bare,⟨fun b o e n hb hx=>?_,fun b o e n hb hx=>?_,I.base.free,fun b o e hx=>?_,I.base.tups,I.base.frzs,I.base.tbls⟩,⟨m,hn.sameBut hs (Ne.symm (cne x c hc)),fun j y v' e1 e2 e3=>?_⟩,fun y c' e=>?_,I.free,I.freeC,fun p hp=>?_,tracked ⟨oc,hoc,I.freeC x c hc⟩ hs,by simpa using I.len⟩ ⟨c,hs,.inr hc⟩
  ·exact (hs.2 b (Nat.ne_of_lt (Nat.lt_of_lt_of_le (Heap.lt_size e) (I.ok.cab x c hfn hc)))).trans (I.base.keep b o e n hb hx)
  ·obtain ⟨sl,e1⟩:=I.base.slot b o e n hb hx
   exact ⟨sl,(hs.2 b (Nat.ne_of_lt (Nat.lt_of_lt_of_le (Heap.lt_size e) (I.ok.cab x c hfn hc)))).trans e1⟩
  ·obtain ⟨o',e1⟩:=I.base.there b o e hx
   exact ⟨o',(hs.2 b (Nat.ne_of_lt (Nat.lt_of_lt_of_le (Heap.lt_size e) (I.ok.cab x c hfn hc)))).trans e1⟩
  ·by_cases hj:j=i
   ·subst hj
    rw [hi] at e1; cases e1
    rw [List.getElem?_set_self hiσ] at e2
    cases e2
    exact ⟨u,r,.inr ⟨.inl hk,c,hc,hc'⟩⟩
   ·rw [List.getElem?_set_ne (Ne.symm hj)] at e2
    obtain ⟨u',r',q⟩:=hl j y v' e1 e2 e3
    refine ⟨u',r',?_⟩
    rcases q with q | ⟨k,c',e,z'⟩
    ·exact .inl q
    ·refine .inr ⟨k,c',e,z'.sameBut hs ?_⟩
     rintro rfl
     exact hj (zjX_ hN e1 (I.ok.inj _ _ _ e hc ▸ hi))
  ·by_cases hcc:c'=c
   ·subst hcc; exact ⟨_,hc'⟩
   ·obtain ⟨w2,z2⟩:=I.cell y c' e
    exact ⟨w2,z2.sameBut hs hcc⟩
  ·obtain ⟨e,n,ne,nf,d⟩:=I.pin p hp
   refine ⟨(hs.2 p.1 ?_).trans e,n,ne,nf,d⟩
   intro q
   rw [q,hoc] at e
   have q':oc=p.2:=Option.some.inj e
   exact d w' (by rw [← q']; exact hocd)
theorem zjZ_ {M:Model}{A:Around}{E:Value→Shared→Prop}{i:Nat}{x:Str}{v:V}{u:Value}{Q:Unit→Shared→Prop}(I:Inv X pins σ H s) (hN:X.N.Nodup) (hi:X.N[i]?=some x) (hx:Loc X.env.scope x) (r:RelV v u)
  (h:∀ s',Inv X pins (σ.set i (some v)) H s'→Q () s') (hf:X.fn x=true∨X.env.scope.names.lookup x=some .local:=by first | exact .inl rfl | exact .inr rfl | assumption):wpAny M A (storeName X.env x u) Q E s :=
 zlS_ I hN hi hx r (fun s' I' _=>h s' I') hf
theorem Inv.call' {s':Shared}{ch:List Addr}(I:Inv X pins σ H s) (ho:s'.os=s.os) (u:Un (frs X.stack) ch H H' s.heap s'.heap) (hok:HOk X.prog X.w H' s'.heap) (hg:AllBare s'.gens)
  (hch:∀ b∈ch,(b∈X.ex∨X.s₀.heap.objs.size≤b)∧b≠X.env.locals∧(∀ x c,X.env.cells.lookup x=some c→c≠b)∧∀ p∈X.pn++pins,p.1≠b):Inv X pins σ H' s':=by
 obtain ⟨h',g',d',t',o'⟩:=s'
 have e:o'=s.os:=ho
 subst e
 exact I.call (g':=g') (t':=t') (d':=d') u hok hg hch
end
noncomputable abbrev XK:=Value→Option Addr→Hp→Prop
noncomputable abbrev St:=List (Option V)
noncomputable abbrev VK:=V→Hp→Prop
noncomputable abbrev TE:=St→Hp→VK→Prop
noncomputable abbrev TT:=St→Hp→(Bool→Hp→Prop)→Prop
noncomputable abbrev TA:=St→Hp→(List V→Hp→Prop)→Prop
structure Ends where
 nx:St→Hp→Prop
 rt:VK
 bk:St→Hp→Prop:=fun _ _=>False
 ct:St→Hp→Prop:=fun _ _=>False
noncomputable abbrev TS:=Ends→St→Hp→Prop
noncomputable def EP (X:Cx) (pins:Pnn) (σ:St) (Q:VK) (u:Value) (s':Shared):Prop:=∃ v H',Inv X pins σ H' s'∧RelV v u∧Q v H'
noncomputable def TP (X:Cx) (pins:Pnn) (σ:St) (Q:Bool→Hp→Prop) (b:Bool) (s':Shared):Prop:=∃ H',Inv X pins σ H' s'∧Q b H'
noncomputable def AP (X:Cx) (pins:Pnn) (σ:St) (Q:List V→Hp→Prop) (us:List Value) (s':Shared):Prop:=∃ vs H',Inv X pins σ H' s'∧Vals vs us∧Q vs H'
noncomputable def SP (X:Cx) (pins:Pnn) (D:Ends) (f:Flow) (s':Shared):Prop :=
 match f with
 | .next=>∃ σ' H',Inv X pins σ' H' s'∧D.nx σ' H'
 | .brk=>∃ σ' H',Inv X pins σ' H' s'∧D.bk σ' H'
 | .cont=>∃ σ' H',Inv X pins σ' H' s'∧D.ct σ' H'
 | .ret u=>∃ v σ' H',Inv X pins σ' H' s'∧RelV v u∧D.rt v H'
noncomputable def PE (X:Cx) (e:Expr) (t:TE):Prop :=
 ∀ (pins:Pnn) (s:Shared) (σ:St) (H:Hp) (Q:VK),Inv X pins σ H s→t σ H Q→wpAny (model X.prog X.w) X.A (eval e X.env) (EP X pins σ Q) X.xe s
noncomputable def PT (X:Cx) (e:Expr) (t:TT):Prop :=
 ∀ (pins:Pnn) (s:Shared) (σ:St) (H:Hp) (Q:Bool→Hp→Prop),Inv X pins σ H s→t σ H Q→wpAny (model X.prog X.w) X.A (isTrue e X.env (eval e X.env)) (TP X pins σ Q) X.xe s
noncomputable def PW (X:Cx) (e:Expr) (t:TT):Prop :=
 ∀ (whole:Sem Value) (pins:Pnn) (s:Shared) (σ:St) (H:Hp) (Q:Bool→Hp→Prop),Inv X pins σ H s→t σ H Q→wpAny (model X.prog X.w) X.A (isTrue e X.env whole) (TP X pins σ Q) X.xe s
theorem PW.pt {X:Cx}{e:Expr}{t:TT}(h:PW X e t):PT X e t:=h _
noncomputable def PA (X:Cx) (es:List Expr) (t:TA):Prop :=
 ∀ (pos:Pos) (pins:Pnn) (s:Shared) (σ:St) (H:Hp) (Q:List V→Hp→Prop),Inv X pins σ H s→t σ H Q→wpAny (model X.prog X.w) X.A (spliced (backTo pos (starEach es X.env))) (AP X pins σ Q) X.xe s
noncomputable def PS (X:Cx) (st:Stmt) (t:TS):Prop :=
 ∀ (pins:Pnn) (s:Shared) (σ:St) (H:Hp) (D:Ends),Inv X pins σ H s→t D σ H→wpAny (model X.prog X.w) X.A (exec st X.env) (SP X pins D) X.xe s
noncomputable def PSs (X:Cx) (st:List Stmt) (t:TS):Prop :=
 ∀ (pins:Pnn) (s:Shared) (σ:St) (H:Hp) (D:Ends),Inv X pins σ H s→t D σ H→wpAny (model X.prog X.w) X.A (execs st X.env) (SP X pins D) X.xe s
theorem thn {α:Type}{t:Sem α}{Q Q':α→Shared→Prop}{M:Model}{A:Around}{E:Value→Shared→Prop}{s:Shared}(h:wpAny M A t Q E s) (hQ:∀ a s,Q a s→Q' a s):wpAny M A t Q' E s:=wpAny_mono h hQ fun _ _ x=>x
end L2
namespace L2
open PySem PySem.Spec PyProof.Rows
section
variable {X:Cx}
theorem bin {a b:Expr}{ta tb:TE}(ha:PE X a ta) (hb:PE X b tb) {pins:Pnn}{s:Shared}{σ:St}{H:Hp}{R:V→V→Hp→Prop}(I:Inv X pins σ H s) (h:ta σ H fun x H1=>tb σ H1 fun y H2=>R x y H2)
  {α:Type}{Q:α→Shared→Prop}{f:Value→Value→Sem α}
  (hf:∀ v u s2 x y H2,Inv X pins σ H2 s2→RelV x v→RelV y u→R x y H2→wpAny (model X.prog X.w) X.A (f v u) Q X.xe s2) :
  wpAny (model X.prog X.w) X.A (eval a X.env) (fun v s₁=>wpAny (model X.prog X.w) X.A (eval b X.env) (fun u s₂=>wpAny (model X.prog X.w) X.A (f v u) Q X.xe s₂) X.xe s₁) X.xe s:=by
 refine thn (ha pins s σ H _ I h) fun v s1 hq_=>?_
 obtain ⟨x,H1,I1,r1,q1⟩:=hq_
 refine thn (hb pins s1 σ H1 _ I1 q1) fun u s2 hq_=>?_
 obtain ⟨y,H2,I2,r2,q2⟩:=hq_
 exact hf v u s2 x y H2 I2 r1 r2 q2
noncomputable def tVar (i:Nat):TE:=fun σ H Q=>∃ v,σ[i]?=some (some v)∧Q v H
noncomputable def tC (v:V):TE:=fun _ H Q=>Q v H
theorem zp4_ {i:Nat}{x:Str}{pos:Pos}(hN:X.N[i]?=some x) (hv:Vis X.env.scope x) (hd:(x == ("__debug__" : Str))=false:=by decide) (hcd:(x == ("__classdict__" : Str))=false:=by decide):PE X (.Name x pos) (tVar i):=by
 intro pins s σ H Q I h
 obtain ⟨v,e,h⟩:=h
 obtain ⟨m,hn,hl⟩:=I.loc
 obtain ⟨u,r,l⟩:=hl i x v hN e hv
 have fin:EP X pins σ Q u s:=⟨v,H,I,r,h⟩
 rcases l with ⟨hk,hm⟩ | ⟨hk,c,hc,hcell⟩
 ·exact wpAny_Name (wpAny_loadName_local I.ok.kind hk hn hm fin) hd
 ·rcases hk with hk | hk
  ·exact wpAny_Name (wpAny_loadName_cell I.ok.kind hk hc hcell fin) hd
  ·exact wpAny_Name (wpAny_loadName_free I.ok.kind hk hc hcell fin hcd) hd
theorem zl_ {i j pos}:PE X (.Constant (.int i) j pos) (tC (.int i)):=fun _ _ _ H _ I h=>wpAny_Constant_int ⟨.int i,H,I.tok _,⟨_,rfl⟩,h⟩
theorem zlb_ {b j pos}:PE X (.Constant (.bool b) j pos) (tC (.bl b)):=fun _ _ _ H _ I h=>Constant_bool ⟨.bl b,H,I,rfl,h⟩
theorem zna_ {j pos}:PE X (.Constant .none j pos) (tC .non):=fun _ _ _ H _ I h=>Constant_none ⟨.non,H,I,rfl,h⟩
theorem zqu_ {x j pos}:PE X (.Constant (.str x) j pos) (tC (.str x)):=fun _ _ _ H _ I h=>Calls.Constant_str ⟨.str x,H,I.tok _,⟨_,rfl⟩,h⟩
noncomputable def Gl (X:Cx) (x:Str):Prop:=X.env.kindOf x=some .globalImplicit
theorem zkA_ {E:Value→Shared→Prop}{pins:Pnn}{s:Shared}{σ:St}{H:Hp}{x:Str}{u:Value}{pos:Pos}{Q:Value→Shared→Prop}(I:Inv X pins σ H s) (hg:Gl X x) (hm:X.mg x=some u) (h:Q u s)
  (hd:(x == ("__debug__" : Str))=false:=by decide):wpAny (model X.prog X.w) X.A (eval (.Name x pos) X.env) Q E s :=
 Calls.Name_function_global I.ok.kind hg (Calls.loadGlobal_global (by rw [I.ok.glob]; exact I.mod.glob.keeps I.bk) hm h) hd
theorem zhw_ {E:Value→Shared→Prop}{pins:Pnn}{s:Shared}{σ:St}{H:Hp}{x:Str}{u:Value}{pos:Pos}{Q:Value→Shared→Prop}(I:Inv X pins σ H s) (hg:Gl X x) (hm:X.mg x=none) (hv:bootBuiltins x=some u) (h:Q u s)
  (hn:x ≠ "__name__" := by decide) (hd:(x == ("__debug__" : Str))=false:=by decide):wpAny (model X.prog X.w) X.A (eval (.Name x pos) X.env) Q E s:=by
 obtain ⟨mb,h1,h2⟩:=I.mod.blt
 exact Calls.Name_function_global I.ok.kind hg (Calls.loadGlobal_builtin (by rw [I.ok.glob]; exact I.mod.glob.keeps I.bk) hm (by rw [I.ok.blt]; exact h1.keeps I.bk) ((h2 x hn).trans hv) h) hd
theorem znV_ {x:Str}{v:V}{u:Value}{pos:Pos}(hg:Gl X x) (hm:X.mg x=some u) (r:RelV v u) (hd:(x == ("__debug__" : Str))=false:=by decide):PE X (.Name x pos) (tC v) :=
 fun _ _ _ H _ I h=>zkA_ I hg hm ⟨v,H,I,r,h⟩ hd
variable {a b:Expr}{ta tb:TE}{pos:Pos}
noncomputable def PC (X:Cx) (op:CmpOp) (a b:Expr) (t:TE):Prop :=
 ∀ (pins:Pnn) (s:Shared) (σ:St) (H:Hp) (Q:VK),Inv X pins σ H s→t σ H Q →
  wpAny (model X.prog X.w) X.A (eval a X.env) (fun v s₁=>wpAny (model X.prog X.w) X.A (eval b X.env) (fun u s₂=>wpAny (model X.prog X.w) X.A (compareOp op v u) (EP X pins σ Q) X.xe s₂) X.xe s₁) X.xe s
theorem nobehind (b:Expr) {op:CmpOp}(h:op≠.In) (h2:op≠.NotIn):behindInMarks op b=false:=by
 have e1:(op == CmpOp.In)=false:=by cases op<;>first | rfl | exact absurd rfl h
 have e2:(op == CmpOp.NotIn)=false:=by cases op<;>first | rfl | exact absurd rfl h2
 cases b<;>simp [behindInMarks,e1,e2]
variable {tA tB':TT}{rest:List Expr}
noncomputable def tNot (t:TT):TT:=fun σ H Q=>t σ H fun c H1=>Q (!c) H1
theorem zn1_ (ha:PT X a tA):PW X (.BoolOp .And [a] pos) tA:=by
 intro wh pins s σ H Q I h
 refine isTrue_and (thn (ha pins s σ H Q I h) fun c s1 e=>?_)
 cases c with
 | true=>exact isTrue_and_nil e
 | false=>exact e
theorem zpW_ (ha:PT X a tA):PW X (.BoolOp .Or [a] pos) tA:=by
 intro wh pins s σ H Q I h
 refine isTrue_or (thn (ha pins s σ H Q I h) fun c s1 e=>?_)
 cases c with
 | false=>exact isTrue_or_nil e
 | true=>exact e
theorem zkP_ (ha:PT X a tA):PT X (.UnaryOp .Not a pos) (tNot tA):=by
 intro pins s σ H Q I h
 exact isTrue_not (ha pins s σ H (fun c H1=>Q (!c) H1) I h)
theorem zp5_ {op} {t:TE}(h:PE X a t):PE X (.BoolOp op [a] pos) t:=fun pins s σ H Q I hw=>BoolOp_one (h pins s σ H Q I hw)
end
end L2
namespace L2
open PySem PySem.Spec PyProof.Rows
noncomputable def SqL (K:Fgg) (H:Hp) (a:Addr) (xs:List V):Prop :=
 Rd H a (.lst xs) ∨
  ∃ (o:Obj) (its:Array Value) (n:Nat),K.lookup a=some o∧o.cls=.type "list" ∧ o.dict=none∧o.data=.seq its n∧its.size≤sizeLine∧Vals xs its.toList
noncomputable def SqT (K:Fgg) (H:Hp) (a:Addr) (xs:List V):Prop :=
 Rd H a (.tup xs) ∨
  ∃ (o:Obj) (its:Array Value) (n:Nat),K.lookup a=some o∧o.cls=.type "tuple" ∧ o.data=.seq its n∧its.size≤sizeLine∧Vals xs its.toList
noncomputable def absV:Value→Option V
 | .none=>some .non
 | .bool b=>some (.bl b)
 | .int i _=>some (.int i)
 | .str x _=>some (.str x)
 | .bytes b _=>some (.byt b)
 | .float b _=>some (.flt b)
 | .ref a=>some (.ref a)
 | .type n=>some (.ty n)
 | _=>none
theorem RelV.abs {x:V}{u:Value}(r:RelV x u):absV u=some x:=by
 cases x with
 | non=>cases r; rfl
 | bl _=>cases r; rfl
 | int _=>obtain ⟨t,rfl⟩:=r; rfl
 | str _=>obtain ⟨t,rfl⟩:=r; rfl
 | byt _=>obtain ⟨t,rfl⟩:=r; rfl
 | flt _=>obtain ⟨t,rfl⟩:=r; rfl
 | ref _=>cases r; rfl
 | ty _=>cases r; rfl
theorem RelV.inj {x y:V}{u:Value}(r:RelV x u) (q:RelV y u):x=y:=Option.some.inj (r.abs.symm.trans q.abs)
theorem Vals.inj {xs ys:List V}{us:List Value}(h:Vals xs us) (h':Vals ys us):xs=ys:=by
 unfold Vals at h h'
 induction h generalizing ys with
 | nil=>cases h'; rfl
 | cons r t ih =>
  cases h' with
  | cons r' t'=>rw [r.inj r',ih t']
section
variable {X:Cx}{pins:Pnn}{σ:St}{H:Hp}{s:Shared}{a:Addr}{xs ys:List V}
theorem SqL.of {K:Fgg}(h:H a=some (.lst xs)):SqL K H a xs:=.inl (.inl h)
theorem SqT.of {K:Fgg}(h:H a=some (.tup xs)):SqT K H a xs:=.inl (.inl h)
theorem Inv.list (I:Inv X pins σ H s) (h:SqL X.K H a xs):∃ its:List Value,Vals xs its∧PlainL s.heap a its.toArray∧xs.length≤sizeLine:=by
 rcases h with h | ⟨o,its,n,hk,hc,hd,hs,hz,r⟩
 ·obtain ⟨z,its,n,r,e⟩:=h.ok I.hok
  exact ⟨its,r,⟨_,n,e,rfl,rfl,rfl⟩,z⟩
 ·refine ⟨its.toList,r,⟨o,n,I.kIn a o hk,hc,hd,by simpa using hs⟩,?_⟩
  have e:=r.length
  simp only [Array.length_toList] at e
  lia
theorem Inv.tuple (I:Inv X pins σ H s) (h:SqT X.K H a xs):∃ its:List Value,Vals xs its∧IsTup s.heap a its.toArray∧xs.length≤sizeLine:=by
 rcases h with h | ⟨o,its,n,hk,hc,hs,hz,r⟩
 ·obtain ⟨z,its,r,p⟩:=h.ok I.hok
  exact ⟨its,r,p,z⟩
 ·refine ⟨its.toList,r,⟨o,I.kIn a o hk,hc,n,by simpa using hs⟩,?_⟩
  have e:=r.length
  simp only [Array.length_toList] at e
  lia
theorem Inv.list_inj (I:Inv X pins σ H s) (h:SqL X.K H a xs) (h':SqL X.K H a ys):xs=ys:=by
 obtain ⟨its,r,⟨o,n,e,_,_,d⟩,_⟩:=I.list h
 obtain ⟨its',r',⟨o',n',e',_,_,d'⟩,_⟩:=I.list h'
 rw [e] at e'; cases e'
 rw [d] at d'
 injection d' with d1 _
 have:its=its':=by simpa using congrArg Array.toList d1
 subst this
 exact r.inj r'
theorem Inv.tuple_inj (I:Inv X pins σ H s) (h:SqT X.K H a xs) (h':SqT X.K H a ys):xs=ys:=by
 obtain ⟨its,r,⟨o,e,_,n,d⟩,_⟩:=I.tuple h
 obtain ⟨its',r',⟨o',e',_,n',d'⟩,_⟩:=I.tuple h'
 rw [e] at e'; cases e'
 rw [d] at d'
 injection d' with d1 _
 have:its=its':=by simpa using congrArg Array.toList d1
 subst this
 exact r.inj r'
end
noncomputable abbrev Cx.wish (X:Cx) (E:Value→Shared→Prop):Cx:={ X with xe:=E }
noncomputable abbrev Cx.nox (X:Cx):Cx:=X.wish fun _ _=>False
theorem Cx.Ok.wish {X:Cx}(ok:X.Ok) (E:Value→Shared→Prop):(X.wish E).Ok :=
 ⟨ok.mod,ok.kind,ok.glob,ok.blt,ok.above,ok.inj,ok.has,ok.cab,ok.hd,ok.frames,ok.stk,ok.exf,ok.bs,ok.bsz,ok.noex,ok.exfs,ok.funs,ok.frf⟩
theorem Cx.Ok.unwish {X:Cx}{E:Value→Shared→Prop}(ok:(X.wish E).Ok):X.Ok :=
 ⟨ok.mod,ok.kind,ok.glob,ok.blt,ok.above,ok.inj,ok.has,ok.cab,ok.hd,ok.frames,ok.stk,ok.exf,ok.bs,ok.bsz,ok.noex,ok.exfs,ok.funs,ok.frf⟩
section
variable {X:Cx}{pins:Pnn}{σ:St}{H:Hp}{s:Shared}{E:Value→Shared→Prop}
theorem Inv.wish (I:Inv X pins σ H s) (E:Value→Shared→Prop):Inv (X.wish E) pins σ H s:=⟨I.ok.wish E,I.os,I.bare,I.base,I.loc,I.cell,I.free,I.freeC,I.pin,I.hok,I.len⟩
theorem Inv.unwish (I:Inv (X.wish E) pins σ H s):Inv X pins σ H s:=⟨I.ok.unwish,I.os,I.bare,I.base,I.loc,I.cell,I.free,I.freeC,I.pin,I.hok,I.len⟩
theorem SP.unwish {D:Ends}{f:Flow}{s':Shared}(h:SP (X.wish E) pins D f s'):SP X pins D f s':=by
 cases f with
 | next=>obtain ⟨σ',H',I,q⟩:=h; exact ⟨σ',H',I.unwish,q⟩
 | brk=>obtain ⟨σ',H',I,q⟩:=h; exact ⟨σ',H',I.unwish,q⟩
 | cont=>obtain ⟨σ',H',I,q⟩:=h; exact ⟨σ',H',I.unwish,q⟩
 | ret u=>obtain ⟨v,σ',H',I,r,q⟩:=h; exact ⟨v,σ',H',I.unwish,r,q⟩
theorem PSs.nox {st:List Stmt}{t:TS}(h:PSs X.nox st t):PSs X st t:=fun pins s σ H D I hw =>
 wpAny_mono (h pins s σ H D (I.wish _) hw) (fun _ _ q=>q.unwish) fun _ _ z=>False.elim z
end
section
variable {X:Cx}{st:Stmt}{rest:List Stmt}{t u:TS}{e:Expr}{te:TE}{pos:Pos}
noncomputable def tNext:TS:=fun D σ H=>D.nx σ H
noncomputable def tSeq (t u:TS):TS:=fun D σ H=>t { D with nx:=u D } σ H
theorem zcA_:PSs X [] tNext:=fun _ _ σ H _ I h=>wpAny_execs_nil ⟨σ,H,I,h⟩
theorem ze_ (h1:PS X st t) (h2:PSs X rest u):PSs X (st::rest) (tSeq t u):=by
 intro pins s σ H D I h
 refine wpAny_execs_cons (thn (h1 pins s σ H { D with nx:=u D } I h) fun f s1 q=>?_)
 cases f with
 | next =>
  obtain ⟨σ',H',I',q⟩:=q
  exact h2 pins s1 σ' H' D I' q
 | ret v=>exact q
 | brk=>exact q
 | cont=>exact q
theorem zq_ (h1:PS X st t):PSs X [st] t:=by
 intro pins s σ H D I h
 refine wpAny_execs_cons (thn (h1 pins s σ H D I h) fun f s1 q=>?_)
 cases f with
 | next=>exact wpAny_execs_nil q
 | ret v=>exact q
 | brk=>exact q
 | cont=>exact q
theorem Inv.quiet {pins:Pnn}{σ:St}{H:Hp}{s:Shared}(I:Inv X pins σ H s):interactive X.env=false:=by simp [interactive,I.ok.kind]
noncomputable def tDrop (te:TE):TS:=fun D σ H=>te σ H fun _ H1=>D.nx σ H1
theorem zdo_ (he:PE X e te) (hs:swapsWith e none pos.line X.env=pure false:=by rfl):PS X (.Expr e pos) (tDrop te):=by
 intro pins s σ H D I h
 exact wpAny_Expr_any (thn (he pins s σ H _ I h) fun v s1 ⟨x,H1,I1,r1,q1⟩=>⟨σ,H1,I1,q1⟩) I.quiet hs
noncomputable def tRet (te:TE):TS:=fun D σ H=>te σ H D.rt
theorem zaV_ (he:PE X e te):PS X (.Return (some e) pos) (tRet te):=by
 intro pins s σ H D I h
 exact wpAny_Return_some (thn (he pins s σ H _ I h) fun v s1 ⟨x,H1,I1,r1,q1⟩=>⟨x,σ,H1,I1,r1,q1⟩)
end
noncomputable abbrev TG:=V→St→Hp→(St→Hp→Prop)→Prop
noncomputable abbrev TGs:=List V→St→Hp→(St→Hp→Prop)→Prop
noncomputable def PG (X:Cx) (target:Expr) (t:TG):Prop :=
 ∀ (pins:Pnn) (s:Shared) (σ:St) (H:Hp) (v:V) (u:Value) (Q:St→Hp→Prop),Inv X pins σ H s→RelV v u→t v σ H Q →
  wpAny (model X.prog X.w) X.A (assign target X.env u) (fun _ s'=>∃ σ' H',Inv X pins σ' H' s'∧Q σ' H') X.xe s
noncomputable def PGs (X:Cx) (ts:List Expr) (t:TGs):Prop :=
 ∀ (pins:Pnn) (s:Shared) (σ:St) (H:Hp) (vs:List V) (us:List Value) (Q:St→Hp→Prop),Inv X pins σ H s→Vals vs us→t vs σ H Q →
  wpAny (model X.prog X.w) X.A (assignInOrder ((assignEach ts X.env).map (·.2)) us) (fun _ s'=>∃ σ' H',Inv X pins σ' H' s'∧Q σ' H') X.xe s
noncomputable abbrev TSet:=V→V→V→Hp→(Hp→Prop)→Prop
noncomputable def PSet (X:Cx) (t:TSet):Prop :=
 ∀ (pins:Pnn) (s:Shared) (σ:St) (H:Hp) (o i v:V) (ov iv u:Value) (Q:Hp→Prop),Inv X pins σ H s→RelV o ov→RelV i iv→RelV v u→t o i v H Q →
  wpAny (model X.prog X.w) X.A (setItem ov iv u) (fun _ s'=>∃ H',Inv X pins σ H' s'∧Q H') X.xe s
section
variable {X:Cx}{pos:Pos}
noncomputable def gName (i:Nat):TG:=fun v σ H Q=>Q (σ.set i (some v)) H
theorem zU_ {i:Nat}{x:Str}(hN:X.N.Nodup) (hi:X.N[i]?=some x) (hx:Loc X.env.scope x) (hf:X.fn x=true∨X.env.scope.names.lookup x=some .local:=by first | exact .inl rfl | exact .inr rfl | assumption):PG X (.Name x pos) (gName i):=by
 intro pins s σ H v u Q I r h
 exact wpAny_assign_Name (zjZ_ I hN hi hx r (fun s' I'=>⟨_,H,I',h⟩) hf)
noncomputable def gNil:TGs:=fun vs σ H Q=>vs=[]∧Q σ H
noncomputable def gCons (t:TG) (u:TGs):TGs:=fun vs σ H Q=>∃ v r,vs=v::r∧t v σ H fun σ' H'=>u r σ' H' Q
theorem zo8_:PGs X [] gNil:=by
 intro pins s σ H vs us Q I r h
 obtain ⟨e,h⟩:=h
 subst e
 cases r
 exact assignInOrder_nil ⟨σ,H,I,h⟩
theorem znf_ {e:Expr}{es:List Expr}{t:TG}{u:TGs}(h1:PG X e t) (h2:PGs X es u)
  (hs:(assignEach (e::es) X.env).map (·.2)=assign e X.env::(assignEach es X.env).map (·.2):=by rfl):PGs X (e::es) (gCons t u):=by
 intro pins s σ H vs us Q I r h
 obtain ⟨v,vr,e1,h⟩:=h
 subst e1
 cases r with
 | cons r rr =>
  rw [hs]
  refine assignInOrder_cons (thn (h1 pins s σ H _ _ _ I r h) fun _ s1 hq_=>?_)
  obtain ⟨σ1,H1,I1,q1⟩:=hq_
  exact h2 pins s1 σ1 H1 _ _ Q I1 rr q1
noncomputable def gTup (K:Fgg) (n:Nat) (t:TGs):TG:=fun v σ H Q=>∃ a xs,v=.ref a∧SqT K H a xs∧xs.length=n∧t xs σ H Q
theorem zqm_ {es:List Expr}{k:Nat}{t:TGs}{n:Nat}(hc:X.calm=true) (h:PGs X es t)
  (hn:(assignEach es X.env).length=n:=by rfl) (hst:(assignEach es X.env).findIdx? (·.1)=none:=by rfl):PG X (.Tuple es k pos) (gTup X.K n t):=by
 intro pins s σ H v u Q I r hw
 obtain ⟨a,xs,e1,hq,hl,hw⟩:=hw
 subst e1
 cases r
 obtain ⟨its,rv,ht,hz⟩:=I.tuple hq
 refine assign_Tuple_tuple (I.ok.hd hc) ht (by simp [hn,← hl,rv.length]) hst fun h' hx=>?_
 have I1:Inv X pins σ H { s with heap:=h' }:=I.kept (t':=s.toks) fun b o e=>hx b o (Nat.ne_of_lt (Heap.lt_size e)) e
 exact h pins _ σ H xs _ Q I1 (by simpa using rv) hw
noncomputable def gSub (to ti:TE) (t:TSet):TG:=fun v σ H Q=>to σ H fun o H1=>ti σ H1 fun i H2=>t o i v H2 fun H3=>Q σ H3
theorem zpH_ {o i:Expr}{to ti:TE}{t:TSet}(ho:PE X o to) (hi:PE X i ti) (hs:PSet X t)
  (ha:∀ v,assign (.Subscript o i pos) X.env v=(do
   let ov ← holding [v] (eval o X.env)
   let iv ← holding [v,ov] (eval i X.env)
   standAt pos
   holding [v,ov,iv] (setItem ov iv v)
   release [v,ov,iv] []):=by intro _; rfl):PG X (.Subscript o i pos) (gSub to ti t):=by
 intro pins s σ H v u Q I r h
 rw [ha]
 refine wpAny_bind (wpAny_holding (thn (ho pins s σ H _ I h) fun ov s1 hq_=>?_))
 obtain ⟨x,H1,I1,r1,q1⟩:=hq_
 refine wpAny_bind (wpAny_holding (thn (hi pins s1 σ H1 _ I1 q1) fun iv s2 hq_=>?_))
 obtain ⟨y,H2,I2,r2,q2⟩:=hq_
 refine wpAny_bind (wpAny_standAt (wpAny_bind (wpAny_holding (thn (hs pins s2 σ H2 x y v ov iv u _ I2 r1 r2 r q2) fun _ s3 hq_=>?_))))
 obtain ⟨H3,I3,q3⟩:=hq_
 exact wpAny_release ⟨σ,H3,I3,q3⟩
noncomputable def tAsg (te:TE) (g:TG):TS:=fun D σ H=>te σ H fun x H1=>g x σ H1 D.nx
theorem zqp_ {tg e:Expr}{te:TE}{g:TG}(he:PE X e te) (hg:PG X tg g) (hs:swapsWithSole [tg] e pos.line X.env=pure false:=by rfl) (hw:swappedStores [tg] e X.env=pure none:=by rfl)
  (h1:(assignEach [tg] X.env).map (·.2)=[assign tg X.env]:=by rfl):PS X (.Assign [tg] e pos) (tAsg te g):=by
 intro pins s σ H D I h
 refine wpAny_Assign_stores (thn (he pins s σ H _ I h) fun v s1 hq_=>?_) hs hw
 obtain ⟨x,H1,I1,r1,q1⟩:=hq_
 rw [h1]
 exact thn (hg pins s1 σ H1 x v _ I1 r1 q1) fun _ s2 q=>q
theorem zY_ {i:Nat}{x:Str}{e:Expr}{te:TE}{pos':Pos}(hN:X.N.Nodup) (hi:X.N[i]?=some x) (hx:Loc X.env.scope x) (he:PE X e te) (hs:swapsWith e (some (.Name x pos')) pos.line X.env=pure false:=by rfl) (hf:X.fn x=true∨X.env.scope.names.lookup x=some .local:=by first | exact .inl rfl | exact .inr rfl | assumption) :
  PS X (.Assign [.Name x pos'] e pos) (tAsg te (gName i)):=by
 intro pins s σ H D I h
 refine wpAny_Assign_Name (thn (he pins s σ H _ I h) fun v s1 hq_=>?_) hs
 obtain ⟨y,H1,I1,r1,q1⟩:=hq_
 exact zjZ_ I1 hN hi hx r1 (fun s2 I2=>⟨_,H1,I2,q1⟩) hf
end
section
variable {X:Cx}{pos:Pos}
noncomputable def tWhile (c:TT) (tb:TS):TS:=fun D σ H=>∃ W:Nat→St→Hp→Prop,(∃ m,W m σ H)∧∀ m σ H,W m σ H →
 c σ H fun b H1=>if b=true then ∃ N:St→Hp→Prop,(∀ σ' H',N σ' H'→∃ m',m'<m∧W m' σ' H')∧tb { D with nx:=N,ct:=N,bk:=D.nx } σ H1 else D.nx σ H1
theorem zmY_ {c:Expr}{body:List Stmt}{tc:TT}{tb:TS}(hp:PassesOwn (model X.prog X.w) X.A X.env X.xe) (hc:PT X c tc) (hb:PSs X body tb):PS X (.While c body [] pos) (tWhile tc tb):=by
 intro pins s σ H D I h
 obtain ⟨W,⟨m0,w0⟩,turn⟩:=h
 refine wpAny_While (codeAny_whileLoop (fun n s'=>∃ σ' H',Inv X pins σ' H' s'∧W n σ' H') ?_ m0 ⟨σ,H,I,w0⟩)
 rintro n s1 ⟨σ1,H1,I1,w1⟩
 refine wpAny_passesOwn hp (thn (hc pins s1 σ1 H1 _ I1 (turn n σ1 H1 w1)) fun b s2 hq_=>?_)
 obtain ⟨H2,I2,q2⟩:=hq_
 cases b with
 | true =>
  obtain ⟨N,hN,q2⟩:=q2
  rw [if_pos rfl]
  refine wpAny_passesOwn hp (thn (hb pins s2 σ1 H2 _ I2 q2) fun f s3 q3=>?_)
  cases f with
  | next =>
   obtain ⟨σ3,H3,I3,n3⟩:=q3
   obtain ⟨m',hm,w3⟩:=hN σ3 H3 n3
   exact ⟨m',hm,σ3,H3,I3,w3⟩
  | cont =>
   obtain ⟨σ3,H3,I3,n3⟩:=q3
   obtain ⟨m',hm,w3⟩:=hN σ3 H3 n3
   exact ⟨m',hm,σ3,H3,I3,w3⟩
  | brk=>exact q3
  | ret v=>exact q3
 | false =>
  rw [if_neg Bool.false_ne_true]
  exact wpAny_execs_nil ⟨σ1,H2,I2,q2⟩
end
structure It where
 go:Nat→Hp→Prop
 yld:Nat→Hp→V→Hp→Prop
 stop:Nat→Hp→Prop
noncomputable def FpOk (X:Cx) (pins:Pnn) (H:Hp) (b:Addr):Prop :=
 H b=none∧b≠X.env.locals∧b∉X.fs∧(b∈X.ex∨X.s₀.heap.objs.size≤b)∧(∀ x c,X.env.cells.lookup x=some c→c≠b)∧∀ p∈X.pn++pins,p.1≠b
theorem Inv.fpOk {X:Cx}{pins:Pnn}{σ:St}{H H':Hp}{s:Shared}{b:Addr}(I:Inv X pins σ H s) (hb:s.heap.objs.size≤b) (hn:H' b=none):FpOk X pins H' b:=by
 refine ⟨hn,Nat.ne_of_gt (Nat.lt_of_lt_of_le I.lt hb),I.nofs hb,.inr (Nat.le_trans I.sz hb),fun x c e z=>?_,fun p hp z=>?_⟩
 ·obtain ⟨v,q⟩:=I.cell x c e
  exact absurd (Nat.lt_of_lt_of_le q.lt (by rw [z]; exact hb)) (Nat.lt_irrefl _)
 ·exact absurd (Nat.lt_of_lt_of_le (Heap.lt_size (I.pin p hp).1) (by rw [z]; exact hb)) (Nat.lt_irrefl _)
structure Turn (P:Program) (w:World) (K:Fgg) (tg:Expr) (J:It) (fp:List Addr) (it:Addr) (tn:Nat→Heap→Prop):Prop where
 mem:it∈fp
 obj:∀ i h,tn i h→∀ b∈fp,∃ o,h.get? b=some o∧∀ v,o.data≠.cell v
 keep:∀ i h h',tn i h→(∀ b∈fp,∀ o,h.get? b=some o→h'.get? b=some o)→tn i h'
 item:∀ (X:Cx),X.prog=P→X.w=w→X.K=K→X.calm=true→∀ (i:Nat) (pins:Pnn) (s:Shared) (σ:St) (H:Hp) (E:Value→Shared→Prop),Inv X pins σ H s→(∀ b∈fp,FpOk X pins H b)→tn i s.heap→J.go i H →
  wpAny (model P w) X.A (pyNext (.ref it)) (fun r s1=>∃ u,r=some u ∧
   wpAny (model P w) X.A (letOwnedTupleGo tg (.ref it) u) (fun _ s2=>∃ x H',Inv X pins σ H' s2∧RelV x u∧J.yld i H x H'∧tn (i+1) s2.heap∧∀ b∈fp,H' b=none) E s1) E s
 done:∀ (X:Cx),X.prog=P→X.w=w→X.K=K→X.calm=true→∀ (i:Nat) (pins:Pnn) (s:Shared) (σ:St) (H:Hp) (E:Value→Shared→Prop),Inv X pins σ H s→(∀ b∈fp,FpOk X pins H b)→tn i s.heap→J.stop i H →
  wpAny (model P w) X.A (pyNext (.ref it)) (fun r s1=>r=none∧Inv X pins σ H s1) E s
 self:∀ (A:Around) (i:Nat) (s:Shared) (Q:Value→Shared→Prop) (E:Value→Shared→Prop),tn i s.heap→Q (.ref it) s→wpAny (model P w) A (pyIter (.ref it)) Q E s
noncomputable abbrev TI:=St→Hp→(It→Hp→Prop)→Prop
noncomputable def PIE (X:Cx) (pins:Pnn) (σ:St) (tg:Expr) (R:It→Hp→Prop) (itv:Value) (s2:Shared):Prop :=
 ∃ (it:Addr) (fp:List Addr) (tn:Nat→Heap→Prop) (J:It) (H':Hp),itv=.ref it∧Inv X pins σ H' s2∧Turn X.prog X.w X.K tg J fp it tn∧tn 0 s2.heap∧(∀ b∈fp,FpOk X pins H' b)∧R J H'
noncomputable def PI (X:Cx) (tg iter:Expr) (wi:TI):Prop :=
 ∀ (pins:Pnn) (s:Shared) (σ:St) (H:Hp) (R:It→Hp→Prop),Inv X pins σ H s→wi σ H R →
  wpAny (model X.prog X.w) X.A (eval iter X.env) (fun v s1=>wpAny (model X.prog X.w) X.A (pyIter v) (PIE X pins σ tg R) X.xe s1) X.xe s
theorem zpA_ {M:Model}{A:Around}{E:Value→Shared→Prop}{s:Shared}{tg:Expr}{it:Addr}{u:Value}{o:Obj}{n:String}{vs:Array Value}{Q:Unit→Shared→Prop}(ho:s.heap.get? it=some o) (hc:o.cls=.type n) (hd:o.data=.fields vs)
  (hn:["enumerate", "zip", "dict_itemiterator", "dict_reverseitemiterator", "odict_iterator", "itertools.zip_longest", "itertools.pairwise"].contains n=false) (hQ:Q () s):wpAny M A (letOwnedTupleGo tg (.ref it) u) Q E s:=by
 unfold letOwnedTupleGo
 cases tg<;>first
  | exact wpAny_pure hQ
  | (cases u<;>first
    | exact wpAny_pure hQ
    | (refine wpAny_bind (wpAny_load ho ?_)
       rw [hc,hd]
       show wpAny M A (if (["enumerate", "zip", "dict_itemiterator", "dict_reverseitemiterator", "odict_iterator", "itertools.zip_longest", "itertools.pairwise"].contains n && vs[0]? == some (rawInt _))=true then _ else _) Q E s
       rw [if_neg (by intro h; rw [hn,Bool.false_and] at h; cases h)]
       exact wpAny_pure hQ))
noncomputable def Itl (K:Fgg) (a:Addr):It :=
 ⟨fun i H=>∃ xs x,SqL K H a xs∧xs[i]?=some x,fun i H x H'=>H'=H∧∀ xs,SqL K H a xs→xs[i]?=some x,fun i H=>∃ xs,SqL K H a xs∧xs.length≤i⟩
noncomputable def Itt (K:Fgg) (a:Addr):It :=
 ⟨fun i H=>∃ xs x,SqT K H a xs∧xs[i]?=some x,fun i H x H'=>H'=H∧∀ xs,SqT K H a xs→xs[i]?=some x,fun i H=>∃ xs,SqT K H a xs∧xs.length≤i⟩
noncomputable def Itr (lo:Int) (n:Nat):It:=⟨fun i _=>i<n,fun i H x H'=>H'=H∧x=.int (lo+i),fun i _=>n≤i⟩
theorem zlQ_ {P:Program}{w:World}{K:Fgg}{tg:Expr}(a it:Addr):Turn P w K tg (Itl K a) [it] it (fun i h=>h.IsListIter it a i) where
 mem:=by simp
 obj:=fun i h st b hb=>by
  have e:b=it:=by simpa using hb
  subst e
  obtain ⟨o,e,c,d⟩:=st
  exact ⟨o,e,fun v z=>by rw [d] at z; cases z⟩
 keep:=fun i h h' st k=>st.at fun o e=>k it (by simp) o e
 item:=by
  intro X hP hw hK hc i pins s σ H E I hf st hg
  subst hP hw hK
  obtain ⟨xs,x,hq,hx⟩:=hg
  obtain ⟨its,rv,p,hz⟩:=I.list hq
  obtain ⟨u,hu,ru⟩:=rv.get hx
  obtain ⟨f0,f1,f2,f3,f4,f5⟩:=hf it (by simp)
  refine wpAny_pyNext_list_item st p.isList (x:=u) (by simpa using hu) fun h' st' sb=>?_
  have I1:Inv X pins σ H { s with heap:=h' }:=I.turned (t':=s.toks) (fun b o hb e=>(sb.2 b hb).trans e) f0 f1 f3 f4 f5
  obtain ⟨o,e,c,d⟩:=id st'
  exact ⟨u,rfl,zpA_ (s:={ s with heap:=h' }) e c d (by decide) ⟨x,H,I1,ru,⟨rfl,fun ys hy=>by rw [I.list_inj hy hq]; exact hx⟩,st',fun b hb=>(hf b hb).1⟩⟩
 done:=by
  intro X hP hw hK hc i pins s σ H E I hf st hg
  subst hP hw hK
  obtain ⟨xs,hq,hx⟩:=hg
  obtain ⟨its,rv,p,hz⟩:=I.list hq
  obtain ⟨f0,f1,f2,f3,f4,f5⟩:=hf it (by simp)
  have hl:=rv.length
  exact wpAny_pyNext_list_end (I.ok.hd hc) st p.isList (by simp; lia) fun h' eb=>⟨rfl,I.turned (t':=s.toks) (fun b o hb e=>eb b o hb e) f0 f1 f3 f4 f5⟩
 self:=fun _ _ _ _ _ st h=>wpAny_pyIter_listiter st h
theorem zkg_ {P:Program}{w:World}{K:Fgg}{tg:Expr}(a it:Addr):Turn P w K tg (Itt K a) [it] it (fun i h=>h.IsTupleIter it a i) where
 mem:=by simp
 obj:=fun i h st b hb=>by
  have e:b=it:=by simpa using hb
  subst e
  obtain ⟨o,e,c,d⟩:=st
  exact ⟨o,e,fun v z=>by rw [d] at z; cases z⟩
 keep:=fun i h h' st k=>st.at fun o e=>k it (by simp) o e
 item:=by
  intro X hP hw hK hc i pins s σ H E I hf st hg
  subst hP hw hK
  obtain ⟨xs,x,hq,hx⟩:=hg
  obtain ⟨its,rv,p,hz⟩:=I.tuple hq
  obtain ⟨u,hu,ru⟩:=rv.get hx
  obtain ⟨f0,f1,f2,f3,f4,f5⟩:=hf it (by simp)
  refine wpAny_pyNext_tuple_item st (show s.heap.IsTuple a its.toArray from p) (x:=u) (by simpa using hu) fun h' st' sb=>?_
  have I1:Inv X pins σ H { s with heap:=h' }:=I.turned (t':=s.toks) (fun b o hb e=>(sb.2 b hb).trans e) f0 f1 f3 f4 f5
  obtain ⟨o,e,c,d⟩:=id st'
  exact ⟨u,rfl,zpA_ (s:={ s with heap:=h' }) e c d (by decide) ⟨x,H,I1,ru,⟨rfl,fun ys hy=>by rw [I.tuple_inj hy hq]; exact hx⟩,st',fun b hb=>(hf b hb).1⟩⟩
 done:=by
  intro X hP hw hK hc i pins s σ H E I hf st hg
  subst hP hw hK
  obtain ⟨xs,hq,hx⟩:=hg
  obtain ⟨its,rv,p,hz⟩:=I.tuple hq
  obtain ⟨f0,f1,f2,f3,f4,f5⟩:=hf it (by simp)
  have hl:=rv.length
  exact wpAny_pyNext_tuple_end (I.ok.hd hc) st (show s.heap.IsTuple a its.toArray from p) (by simp; lia) fun h' eb=>⟨rfl,I.turned (t':=s.toks) (fun b o hb e=>eb b o hb e) f0 f1 f3 f4 f5⟩
 self:=fun _ _ _ _ _ st h=>wpAny_pyIter_tupleiter st h
theorem zkN_ {P:Program}{w:World}{K:Fgg}{tg:Expr}(it:Addr) (lo:Int) (n:Nat):Turn P w K tg (Itr lo n) [it] it (fun i h=>IsRangeIter h it (lo+(i:Nat)*1) ((n:Int)-(i:Nat)) 1) where
 mem:=by simp
 obj:=fun i h st b hb=>by
  have e:b=it:=by simpa using hb
  subst e
  exact ⟨_,st,fun v z=>by
   have z':Data.fields _=Data.cell v:=z
   cases z'⟩
 keep:=fun i h h' st k=>k it (by simp) _ st
 item:=by
  intro X hP hw hK hc i pins s σ H E I hf st hg
  subst hP hw hK
  obtain ⟨f0,f1,f2,f3,f4,f5⟩:=hf it (by simp)
  have W:=Walks.range (prog:=X.prog) (w:=X.w) (I.ok.hd hc) it lo 1 n
  refine W.item i s _ _ hg st fun v h' tk hv st' kk=>?_
  obtain ⟨t,rfl⟩:=hv
  have I1:Inv X pins σ H { s with heap:=h',toks:=tk }:=I.turned (fun b o hb e=>kk b o (by simpa using hb) e) f0 f1 f3 f4 f5
  refine ⟨_,rfl,zpA_ (s:={ s with heap:=h',toks:=tk }) (n := "range_iterator") st' rfl rfl (by decide) ⟨.int (lo+i),H,I1,⟨t,?_⟩,⟨rfl,rfl⟩,st',fun b hb=>(hf b hb).1⟩⟩
  rw [Int.mul_one]
 done:=by
  intro X hP hw hK hc i pins s σ H E I hf st hg
  subst hP hw hK
  obtain ⟨f0,f1,f2,f3,f4,f5⟩:=hf it (by simp)
  exact wpAny_pyNext_range_end (I.ok.hd hc) st (by have:n≤i:=hg; lia) fun h' eb=>⟨rfl,I.turned (t':=s.toks) (fun b o hb e=>eb b o hb e) f0 f1 f3 f4 f5⟩
 self:=fun _ _ _ _ _ st h=>wpAny_pyIter_rangeiter st h
end L2
namespace L2
open PySem PySem.Spec PyProof.Rows
section
variable {X:Cx}{tg:Expr}
theorem zkk_ {pins:Pnn}{σ:St}{H:Hp}{s:Shared}{R:It→Hp→Prop}{E:Value→Shared→Prop}{lo hi:Int}{t u v:Tok}{tk:Nat}(I:Inv X pins σ H s) (h1 : -(2 ^ 62)≤lo) (h2:lo<2 ^ 62) (h3 : -(2 ^ 62)≤hi) (h4:hi<2 ^ 62)
  (q:R (Itr lo (hi-lo).toNat) H):wpAny (model X.prog X.w) X.A (pyIter (.ref s.heap.objs.size)) (PIE X pins σ tg R) E { s with heap:=s.heap.push { cls:=.type "range",data:=.fields #[.int lo t,.int hi u,.int 1 v] },toks:=tk }:=by
 refine wpAny_pyIter_range (IsRange.new ..) (small_one h1 h2 h3 h4) ?_
 have I1:Inv X pins σ H { s with heap:=s.heap.push { cls:=.type "range",data:=.fields #[.int lo t,.int hi u,.int 1 v] },toks:=tk }:=I.kept fun b o e=>Heap.get?_push_of_some _ e
 refine ⟨(s.heap.push { cls:=.type "range",data:=.fields #[.int lo t,.int hi u,.int 1 v] }).objs.size,[(s.heap.push { cls:=.type "range",data:=.fields #[.int lo t,.int hi u,.int 1 v] }).objs.size],_,_,H,rfl,
  I1.kept (t':=tk) fun b o e=>Heap.get?_push_of_some _ e,zkN_ _ lo (hi-lo).toNat,?_,fun b hb=>?_,q⟩
 ·have e1:lo+((0:Nat):Int)*1=lo:=by simp
  have e2:(((hi-lo).toNat:Nat):Int)-((0:Nat):Int)=Builtin.Range.rangeSize lo hi 1:=by rw [rangeSize_one]; split<;>omega
  show IsRangeIter _ _ (lo+((0:Nat):Int)*1) ((((hi-lo).toNat:Nat):Int)-((0:Nat):Int)) 1
  rw [e1,e2]
  exact Heap.get?_push_size _ rfl
 ·have e:b=(s.heap.push { cls:=.type "range",data:=.fields #[.int lo t,.int hi u,.int 1 v] }).objs.size:=by simpa using hb
  subst e
  exact I1.fpOk (Nat.le_refl _) (I1.hok.fresh (Nat.le_refl _))
noncomputable def tFor (wi:TI) (g:TG) (tb:TS):TS:=fun D σ H=>wi σ H fun J H1=>∃ W:Nat→Nat→St→Hp→Prop,(∃ m,W 0 m σ H1)∧∀ i m σ H,W i m σ H →
 (J.stop i H∧D.nx σ H)∨(J.go i H∧∃ N:St→Hp→Prop,(∀ σ' H',N σ' H'→∃ m',m'<m∧W (i+1) m' σ' H')∧∀ x H',J.yld i H x H'→g x σ H' fun σ2 H2=>tb { D with nx:=N,ct:=N,bk:=D.nx } σ2 H2)
noncomputable def pinsAt (fp:List Addr) (h:Heap):Pnn:=fp.filterMap fun b=>(h.get? b).map fun o=>(b,o)
theorem zd9_ {fp:List Addr}{h:Heap}{b:Addr}{o:Obj}(hb:b∈fp) (e:h.get? b=some o):(b,o)∈pinsAt fp h:=List.mem_filterMap.mpr ⟨b,hb,by rw [e]; rfl⟩
theorem zle_ {fp:List Addr}{h:Heap}{p:Addr×Obj}(hp:p∈pinsAt fp h):p.1∈fp∧h.get? p.1=some p.2:=by
 obtain ⟨b,hb,e⟩:=List.mem_filterMap.mp hp
 cases q:h.get? b with
 | none=>rw [q] at e; cases e
 | some o =>
  rw [q] at e
  have e':(b,o)=p:=Option.some.inj e
  subst e'
  exact ⟨hb,q⟩
theorem Inv.pinned {pins:Pnn}{σ:St}{H:Hp}{s:Shared}{fp:List Addr}(I:Inv X pins σ H s) (hf:∀ b∈fp,FpOk X pins H b) (ho:∀ b∈fp,∃ o,s.heap.get? b=some o∧∀ v,o.data≠.cell v):Inv X (pins++pinsAt fp s.heap) σ H s :=
 I.pins_of fun p hp=>(List.mem_append.mp hp).elim (fun z=>I.pin p (List.mem_append_right _ z)) fun z=>by
  obtain ⟨hb,e⟩:=zle_ z
  obtain ⟨f0,f1,f2,_⟩:=hf p.1 hb
  obtain ⟨o,e',d⟩:=ho p.1 hb
  rw [e] at e'; cases e'
  exact ⟨e,f0,f1,f2,d⟩
theorem Inv.unpinned {pins pl:Pnn}{σ:St}{H:Hp}{s:Shared}(I:Inv X (pins++pl) σ H s):Inv X pins σ H s:=I.pins_of fun p hp=>I.pin p (List.mem_append_right _ (List.mem_append_left _ hp))
theorem zdR_ {iter:Expr}{body:List Stmt}{wi:TI}{g:TG}{tb:TS}{pos:Pos}(hp:PassesOwn (model X.prog X.w) X.A X.env X.xe) (hc:X.calm=true) (hi:PI X tg iter wi) (hg:PG X tg g) (hb:PSs X body tb)
  (hs:∀ x,foldedSetIterable iter X.env x=pure x:=by intro _; rfl):PS X (.For tg iter body [] pos) (tFor wi g tb):=by
 intro pins s σ H D I h
 refine wpAny_For (thn (hi pins s σ H _ I h) fun v s1 h1=>thn h1 fun itv s2 h2=>?_) hs
 obtain ⟨it,fp,tn,J,H2,e,I2,T,st2,f2,W,⟨m0,w0⟩,turn⟩:=h2
 subst e
 have stat:∀ {H':Hp},(∀ b∈fp,H' b=none)→∀ b∈fp,FpOk X pins H' b:=fun hn b hb=>⟨hn b hb,(f2 b hb).2⟩
 refine codeAny_forLoop_any (fun n s'=>∃ i σ' H',Inv X pins σ' H' s'∧tn i s'.heap∧(∀ b∈fp,H' b=none)∧W i n σ' H') ?_ m0 ⟨0,σ,H2,I2,st2,fun b hb=>(f2 b hb).1,w0⟩
 rintro n s3 ⟨i,σ3,H3,I3,st3,fr3,w3⟩
 rcases turn i n σ3 H3 w3 with ⟨stop,qn⟩ | ⟨go,N,hN,step⟩
 ·refine wpAny_passesOwn hp (thn (T.done X rfl rfl rfl hc i pins s3 σ3 H3 X.xe I3 (stat fr3) st3 stop) fun r s4 hq_=>?_)
  obtain ⟨hr,I4⟩:=hq_
  subst hr
  exact wpAny_execs_nil ⟨σ3,H3,I4,qn⟩
 ·refine wpAny_passesOwn hp (thn (T.item X rfl rfl rfl hc i pins s3 σ3 H3 X.xe I3 (stat fr3) st3 go) fun r s4 hq_=>?_)
  obtain ⟨u,hr,h4⟩:=hq_
  subst hr
  refine wpAny_passesOwn hp (thn h4 fun _ s5 hq_=>?_)
  obtain ⟨x,H5,I5,r5,y5,st5,fr5⟩:=hq_
  have I5':=I5.pinned (stat fr5) (T.obj _ _ st5)
  refine wpAny_passesOwn hp (thn (hg _ s5 σ3 H5 x u _ I5' r5 (step x H5 y5)) fun _ s6 hq_=>?_)
  obtain ⟨σ6,H6,I6,q6⟩:=hq_
  refine wpAny_passesOwn hp (thn (hb _ s6 σ6 H6 _ I6 q6) fun f s7 q7=>?_)
  have again:∀ {σ7:St}{H7:Hp},Inv X (pins++pinsAt fp s5.heap) σ7 H7 s7→N σ7 H7→∃ m,m<n∧∃ i σ' H',Inv X pins σ' H' s7∧tn i s7.heap∧(∀ b∈fp,H' b=none)∧W i m σ' H':=fun {σ7 H7} I7 n7=>by
   obtain ⟨m',hm,w7⟩:=hN σ7 H7 n7
   refine ⟨m',hm,i+1,σ7,H7,I7.unpinned,T.keep _ _ _ st5 fun b hb o e=>(I7.pin (b,o) (List.mem_append_right _ (List.mem_append_right _ (zd9_ hb e)))).1,fun b hb=>?_,w7⟩
   obtain ⟨o,e,d⟩:=T.obj _ _ st5 b hb
   exact (I7.pin (b,o) (List.mem_append_right _ (List.mem_append_right _ (zd9_ hb e)))).2.1
  cases f with
  | next=>obtain ⟨σ7,H7,I7,n7⟩:=q7; exact again I7 n7
  | cont=>obtain ⟨σ7,H7,I7,n7⟩:=q7; exact again I7 n7
  | brk=>obtain ⟨σ7,H7,I7,q7⟩:=q7; exact ⟨σ7,H7,I7.unpinned,q7⟩
  | ret v=>obtain ⟨x7,σ7,H7,I7,r7,q7⟩:=q7; exact ⟨x7,σ7,H7,I7.unpinned,r7,q7⟩
end
end L2
namespace L2
open PySem PySem.Spec PyProof.Rows
noncomputable abbrev R2:=V→V→Hp→VK→Prop
noncomputable def OpR (X:Cx) (f:Value→Value→Sem Value) (r:R2):Prop :=
 ∀ (pins:Pnn) (s:Shared) (σ:St) (H:Hp) (x y:V) (v u:Value) (Q:VK),Inv X pins σ H s→RelV x v→RelV y u→r x y H Q →
  wpAny (model X.prog X.w) X.A (f v u) (EP X pins σ Q) X.xe s
noncomputable def UnR (X:Cx) (f:Value→Sem Value) (r:V→Hp→VK→Prop):Prop :=
 ∀ (pins:Pnn) (s:Shared) (σ:St) (H:Hp) (x:V) (v:Value) (Q:VK),Inv X pins σ H s→RelV x v→r x H Q →
  wpAny (model X.prog X.w) X.A (f v) (EP X pins σ Q) X.xe s
noncomputable def CallR (X:Cx) (f:Value) (r:List V→Hp→VK→Prop):Prop :=
 ∀ (pins:Pnn) (s:Shared) (σ:St) (H:Hp) (xs:List V) (us:List Value) (Q:VK),Inv X pins σ H s→Vals xs us→r xs H Q →
  wpAny (model X.prog X.w) X.A (call f us) (EP X pins σ Q) X.xe s
noncomputable def tOp (r:R2) (ta tb:TE):TE:=fun σ H Q=>ta σ H fun x H1=>tb σ H1 fun y H2=>r x y H2 Q
noncomputable def tUn (r:V→Hp→VK→Prop) (ta:TE):TE:=fun σ H Q=>ta σ H fun x H1=>r x H1 Q
noncomputable def rI (C:Int→Int→Prop) (g:Int→Int→V):R2:=fun x y H Q=>∃ i j,x=.int i∧y=.int j∧C i j∧Q (g i j) H
noncomputable def rI0 (g:Int→Int→V):R2:=fun x y H Q=>∃ i j,x=.int i∧y=.int j∧Q (g i j) H
noncomputable def rU (g:Int→V):V→Hp→VK→Prop:=fun x H Q=>∃ i,x=.int i∧Q (g i) H
section
variable {X:Cx}{a b c:Expr}{ta tb tc:TE}{pos:Pos}
theorem binT (ha:PE X a ta) (hb:PE X b tb) {pins:Pnn}{s:Shared}{σ:St}{H:Hp}{R:V→V→Hp→Prop}(I:Inv X pins σ H s)
  (h:ta σ H fun x H1=>tb σ H1 fun y H2=>R x y H2) {Q:Value→Shared→Prop}{f:Value→Value→Sem Value}
  (hf:∀ v u s2 x y H2,Inv X pins σ H2 s2→RelV x v→RelV y u→R x y H2→wpAny (model X.prog X.w) X.A (f v u) Q X.xe s2) :
  wpAny (model X.prog X.w) X.A (eval a X.env) (fun v s₁=>wpAny (model X.prog X.w) X.A (eval b X.env) (fun u s₂=>wpAny (model X.prog X.w) X.A (f v u) Q X.xe s₂) X.xe s₁) X.xe s:=by
 refine thn (ha pins s σ H _ I h) fun v s1 hq_=>?_
 obtain ⟨x,H1,I1,r1,q1⟩:=hq_
 refine thn (hb pins s1 σ H1 _ I1 q1) fun u s2 hq_=>?_
 obtain ⟨y,H2,I2,r2,q2⟩:=hq_
 exact hf v u s2 x y H2 I2 r1 r2 q2
theorem zap_ {op:Operator}{r:R2}(ho:OpR X (binaryOp op) r) (ha:PE X a ta) (hb:PE X b tb):PE X (.BinOp a op b pos) (tOp r ta tb):=by
 intro pins s σ H Q I h
 exact wpAny_BinOp (binT ha hb I h fun v u s2 x y H2 I2 rx ry q=>ho pins s2 σ H2 x y v u Q I2 rx ry q)
theorem opI {f:Value→Value→Sem Value}{C:Int→Int→Prop}{g:Int→Int→Int}
  (rule:∀ (i j:Int) (t u:Tok) (s:Shared) (Q:Value→Shared→Prop) (E:Value→Shared→Prop),C i j→Q (.int (g i j) s.toks) { s with toks:=s.toks+1 }→wpAny (model X.prog X.w) X.A (f (.int i t) (.int j u)) Q E s) :
  OpR X f (rI C fun i j=>.int (g i j)):=by
 intro pins s σ H x y v u Q I rx ry h
 obtain ⟨i,j,rfl,rfl,hc,q⟩:=h
 obtain ⟨t,rfl⟩:=rx
 obtain ⟨t',rfl⟩:=ry
 exact rule i j t t' s _ _ hc ⟨.int (g i j),H,I.tok _,⟨_,rfl⟩,q⟩
theorem opI0 {f:Value→Value→Sem Value}{g:Int→Int→Int}
  (rule:∀ (i j:Int) (t u:Tok) (s:Shared) (Q:Value→Shared→Prop) (E:Value→Shared→Prop),Q (.int (g i j) s.toks) { s with toks:=s.toks+1 }→wpAny (model X.prog X.w) X.A (f (.int i t) (.int j u)) Q E s) :
  OpR X f (rI0 fun i j=>.int (g i j)):=by
 intro pins s σ H x y v u Q I rx ry h
 obtain ⟨i,j,rfl,rfl,q⟩:=h
 obtain ⟨t,rfl⟩:=rx
 obtain ⟨t',rfl⟩:=ry
 exact rule i j t t' s _ _ ⟨.int (g i j),H,I.tok _,⟨_,rfl⟩,q⟩
theorem opB0 {f:Value→Value→Sem Value}{g:Int→Int→Bool}
  (rule:∀ (i j:Int) (t u:Tok) (s:Shared) (Q:Value→Shared→Prop) (E:Value→Shared→Prop),Q (.bool (g i j)) s→wpAny (model X.prog X.w) X.A (f (.int i t) (.int j u)) Q E s) :
  OpR X f (rI0 fun i j=>.bl (g i j)):=by
 intro pins s σ H x y v u Q I rx ry h
 obtain ⟨i,j,rfl,rfl,q⟩:=h
 obtain ⟨t,rfl⟩:=rx
 obtain ⟨t',rfl⟩:=ry
 exact rule i j t t' s _ _ ⟨.bl (g i j),H,I,rfl,q⟩
noncomputable def CDiv (i j:Int):Prop:=0<j∧j<1073741824
noncomputable def CPow (i j:Int):Prop:=0≤j∧j≤1000000∧i.natAbs<2 ^ 64
noncomputable def CMul (i j:Int):Prop:=(-(2 ^ 64)<i∧i<2 ^ 64)∨(-(2 ^ 64)<j∧j<2 ^ 64)
theorem CMul.ok {i j:Int}(h:CMul i j):IntMulOk i j:=by
 rcases h with ⟨h1,h2⟩ | ⟨h1,h2⟩
 ·exact .of_left (intBits_le_64 h1 h2)
 ·exact .of_right (intBits_le_64 h1 h2)
theorem zpI_:OpR X (binaryOp .Add) (rI0 fun i j=>.int (i+j)):=opI0 fun _ _ _ _ _ _ _ q=>add_int q
theorem zqd_:OpR X (binaryOp .Sub) (rI0 fun i j=>.int (i-j)):=opI0 fun _ _ _ _ _ _ _ q=>sub_int q
theorem zqP_:OpR X (binaryOp .Mod) (rI (fun _ j=>0<j) fun i j=>.int (i % j)):=opI fun i j _ _ _ _ _ hc q=>by
 have h1:(0:Int)<j:=hc
 exact mod_int' (by lia) (by rw [Int.fmod_eq_emod_of_nonneg i (by lia)]; exact q)
theorem unI {f:Value→Sem Value}{g:Int→Int}
  (rule:∀ (i:Int) (t:Tok) (s:Shared) (Q:Value→Shared→Prop) (E:Value→Shared→Prop),Q (.int (g i) s.toks) { s with toks:=s.toks+1 }→wpAny (model X.prog X.w) X.A (f (.int i t)) Q E s) :
  UnR X f (rU fun i=>.int (g i)):=by
 intro pins s σ H x v Q I rx h
 obtain ⟨i,rfl,q⟩:=h
 obtain ⟨t,rfl⟩:=rx
 exact rule i t s _ _ ⟨.int (g i),H,I.tok _,⟨_,rfl⟩,q⟩
theorem zpN_:UnR X (unaryOp .USub) (rU fun i=>.int (-i)):=unI fun _ _ _ _ _ q=>neg_int q
end
noncomputable def scal:V→V→Bool
 | .non,.non=>true | .non,.int _=>true | .int _,.non=>true | .non,.bl _=>true | .bl _,.non=>true | .non,.str _=>true | .str _,.non=>true
 | .int _,.int _=>true | .bl _,.bl _=>true | .str _,.str _=>true | .byt _,.byt _=>true
 | .int _,.str _=>true | .str _,.int _=>true | .bl _,.str _=>true | .str _,.bl _=>true
 | _,_=>false
noncomputable def rEq:R2:=fun x y H Q=>scal x y=true∧Q (.bl (decide (x=y))) H
noncomputable def rNe:R2:=fun x y H Q=>scal x y=true∧Q (.bl (!decide (x=y))) H
theorem zmv_ {i j:Int}:decide (V.int i=V.int j)=(i == j):=by
 rw [Bool.eq_iff_iff]
 simp
theorem zol_ {i j:Bool}:decide (V.bl i=V.bl j)=(i == j):=by
 rw [Bool.eq_iff_iff]
 simp
theorem zmf_ {i j:Str}:decide (V.str i=V.str j)=(i == j):=by
 rw [Bool.eq_iff_iff]
 simp
theorem zmu_ {i j:Array UInt8}:decide (V.byt i=V.byt j)=(i.toList == j.toList):=by
 rw [Bool.eq_iff_iff]
 cases i
 cases j
 simp
section
variable {X:Cx}{a b c:Expr}{ta tb tc:TE}{pos:Pos}
theorem zbj_ {pins:Pnn}{σ:St}{H:Hp}{s:Shared}{Q:VK}{k k':Bool}(I:Inv X pins σ H s) (q:Q (.bl k) H) (e:k=k'):EP X pins σ Q (.bool k') s:=by
 subst e
 exact ⟨.bl k,H,I,rfl,q⟩
theorem op_eq:OpR X (compareOp .Eq) rEq:=by
 intro pins s σ H x y v u Q I rx ry h
 obtain ⟨hs,q⟩:=h
 cases x with
 | non =>
  cases rx
  cases y with
  | non=>cases ry; exact PySem.EqNone.eq_none_none (zbj_ I q (by simp))
  | bl j=>cases ry; exact PySem.EqNone.eq_none_bool (zbj_ I q (by simp))
  | int j=>obtain ⟨t',rfl⟩:=ry; exact PySem.EqNone.eq_none_int (zbj_ I q (by simp))
  | str j=>obtain ⟨t',rfl⟩:=ry; exact PySem.EqNone.eq_none_str (zbj_ I q (by simp))
  | _=>exact absurd (show false=true from hs) Bool.false_ne_true
 | bl i =>
  cases rx
  cases y with
  | non=>cases ry; exact PySem.EqNone.eq_bool_none (zbj_ I q (by simp))
  | bl j=>cases ry; exact eq_bool (zbj_ I q zol_)
  | str j=>obtain ⟨t',rfl⟩:=ry; exact PySem.EqMixed.eq_bool_str (zbj_ I q (by simp))
  | _=>exact absurd (show false=true from hs) Bool.false_ne_true
 | int i =>
  obtain ⟨t,rfl⟩:=rx
  cases y with
  | non=>cases ry; exact PySem.EqNone.eq_int_none (zbj_ I q (by simp))
  | int j=>obtain ⟨t',rfl⟩:=ry; exact eq_int (zbj_ I q zmv_)
  | str j=>obtain ⟨t',rfl⟩:=ry; exact PySem.EqMixed.eq_int_str (zbj_ I q (by simp))
  | _=>exact absurd (show false=true from hs) Bool.false_ne_true
 | str i =>
  obtain ⟨t,rfl⟩:=rx
  cases y with
  | non=>cases ry; exact PySem.EqNone.eq_str_none (zbj_ I q (by simp))
  | bl j=>cases ry; exact PySem.EqMixed.eq_str_bool (zbj_ I q (by simp))
  | int j=>obtain ⟨t',rfl⟩:=ry; exact PySem.EqMixed.eq_str_int (zbj_ I q (by simp))
  | str j=>obtain ⟨t',rfl⟩:=ry; exact eq_str (zbj_ I q zmf_)
  | _=>exact absurd (show false=true from hs) Bool.false_ne_true
 | byt i =>
  obtain ⟨t,rfl⟩:=rx
  cases y with
  | byt j=>obtain ⟨t',rfl⟩:=ry; exact PySem.W.eq_bytes (zbj_ I q zmu_)
  | _=>exact absurd (show false=true from hs) Bool.false_ne_true
 | _=>cases y<;>exact absurd (show false=true from hs) Bool.false_ne_true
theorem op_ne:OpR X (compareOp .NotEq) rNe:=by
 intro pins s σ H x y v u Q I rx ry h
 obtain ⟨hs,q⟩:=h
 cases x with
 | non =>
  cases rx
  cases y with
  | non=>cases ry; exact PySem.EqNone.ne_none_none (zbj_ I q (by simp))
  | bl j=>cases ry; exact PySem.EqNone.ne_none_bool (zbj_ I q (by simp))
  | int j=>obtain ⟨t',rfl⟩:=ry; exact PySem.EqNone.ne_none_int (zbj_ I q (by simp))
  | str j=>obtain ⟨t',rfl⟩:=ry; exact PySem.EqNone.ne_none_str (zbj_ I q (by simp))
  | _=>exact absurd (show false=true from hs) Bool.false_ne_true
 | bl i =>
  cases rx
  cases y with
  | non=>cases ry; exact PySem.EqNone.ne_bool_none (zbj_ I q (by simp))
  | bl j=>cases ry; exact ne_bool (zbj_ I q (congrArg not zol_))
  | str j=>obtain ⟨t',rfl⟩:=ry; exact PySem.EqMixed.ne_bool_str (zbj_ I q (by simp))
  | _=>exact absurd (show false=true from hs) Bool.false_ne_true
 | int i =>
  obtain ⟨t,rfl⟩:=rx
  cases y with
  | non=>cases ry; exact PySem.EqNone.ne_int_none (zbj_ I q (by simp))
  | int j=>obtain ⟨t',rfl⟩:=ry; exact ne_int (zbj_ I q (congrArg not zmv_))
  | str j=>obtain ⟨t',rfl⟩:=ry; exact PySem.EqMixed.ne_int_str (zbj_ I q (by simp))
  | _=>exact absurd (show false=true from hs) Bool.false_ne_true
 | str i =>
  obtain ⟨t,rfl⟩:=rx
  cases y with
  | non=>cases ry; exact PySem.EqNone.ne_str_none (zbj_ I q (by simp))
  | bl j=>cases ry; exact PySem.EqMixed.ne_str_bool (zbj_ I q (by simp))
  | int j=>obtain ⟨t',rfl⟩:=ry; exact PySem.EqMixed.ne_str_int (zbj_ I q (by simp))
  | str j=>obtain ⟨t',rfl⟩:=ry; exact ne_str (zbj_ I q (congrArg not zmf_))
  | _=>exact absurd (show false=true from hs) Bool.false_ne_true
 | byt i =>
  obtain ⟨t,rfl⟩:=rx
  cases y with
  | byt j=>obtain ⟨t',rfl⟩:=ry; exact PySem.W.ne_bytes (zbj_ I q (congrArg not zmu_))
  | _=>exact absurd (show false=true from hs) Bool.false_ne_true
 | _=>cases y<;>exact absurd (show false=true from hs) Bool.false_ne_true
theorem op_lt:OpR X (compareOp .Lt) (rI0 fun i j=>.bl (decide (i<j))):=opB0 fun _ _ _ _ _ _ _ q=>lt_int q
theorem op_gt:OpR X (compareOp .Gt) (rI0 fun i j=>.bl (decide (j<i))):=opB0 fun _ _ _ _ _ _ _ q=>gt_int q
theorem op_ge:OpR X (compareOp .GtE) (rI0 fun i j=>.bl (decide (j≤i))):=opB0 fun _ _ _ _ _ _ _ q=>ge_int q
theorem zlD_:OpR X (compareOp .In) (fun x y H Q=>∃ i j,x=.str i∧y=.str j∧Q (.bl (!(Builtin.Str.occurrences j i 0 j.length 1).isEmpty)) H):=by
 intro pins s σ H x y v u Q I rx ry h
 obtain ⟨i,j,rfl,rfl,q⟩:=h
 obtain ⟨t,rfl⟩:=rx
 obtain ⟨t',rfl⟩:=ry
 exact in_str (zbj_ I q rfl)
theorem zqQ_:OpR X (compareOp .Is) (fun x y H Q=>y=.non∧Q (.bl (decide (x=.non))) H):=by
 intro pins s σ H x y v u Q I rx ry h
 obtain ⟨rfl,q⟩:=h
 cases ry
 refine is_none_gen (zbj_ I q ?_)
 cases x<;>first
  | (cases rx; rfl)
  | (obtain ⟨t,rfl⟩:=rx; rfl)
theorem zn8_:OpR X (compareOp .IsNot) (fun x y H Q=>y=.non∧Q (.bl (!decide (x=.non))) H):=by
 intro pins s σ H x y v u Q I rx ry h
 obtain ⟨rfl,q⟩:=h
 cases ry
 refine isnot_none_gen (zbj_ I q ?_)
 cases x<;>first
  | (cases rx; rfl)
  | (obtain ⟨t,rfl⟩:=rx; rfl)
theorem zpu_ {op:CmpOp}{r:R2}(ho:OpR X (compareOp op) r) (ha:PE X a ta) (hb:PE X b tb) (hm:behindInMarks op b=false):PE X (.Compare a [op] [b] pos) (tOp r ta tb):=by
 intro pins s σ H Q I h
 exact wpAny_Compare1 (binT ha hb I h fun v u s2 x y H2 I2 rx ry q=>ho pins s2 σ H2 x y v u Q I2 rx ry q) hm
theorem line63:(sizeLine:Nat)<2 ^ 63:=by rw [sizeLine_eq]; decide
theorem zjw_:OpR X (binaryOp .Add) (fun x y H Q=>∃ i j,x=.str i∧y=.str j∧i.length+j.length≤sizeLine∧Q (.str (i++j)) H):=by
 intro pins s σ H x y v u Q I rx ry h
 obtain ⟨i,j,rfl,rfl,hz,q⟩:=h
 obtain ⟨t,rfl⟩:=rx
 obtain ⟨t',rfl⟩:=ry
 exact add_str (fun t' tk=>⟨.str (i++j),H,I.tok _,⟨_,rfl⟩,q⟩) hz
theorem vals1 {x:V}{us:List Value}(r:Vals [x] us):∃ u,us=[u]∧RelV x u:=by
 cases r with
 | cons r1 r2=>cases r2; exact ⟨_,rfl,r1⟩
theorem vals2 {x y:V}{us:List Value}(r:Vals [x,y] us):∃ u w',us=[u,w']∧RelV x u∧RelV y w':=by
 cases r with
 | cons r1 r2 =>
  cases r2 with
  | cons r3 r4=>cases r4; exact ⟨_,_,rfl,r1,r3⟩
theorem zlN_ (hc:X.calm=true):CallR X (.builtin "max") (fun xs H Q=>∃ i j,xs=[.int i,.int j]∧Q (.int (if j > i then j else i)) H):=by
 intro pins s σ H xs us Q I r h
 obtain ⟨i,j,rfl,q⟩:=h
 obtain ⟨u,w',rfl,⟨t,rfl⟩,⟨t',rfl⟩⟩:=vals2 r
 refine max_two_ints (I.ok.hd hc) fun h' tk k=>⟨_,H,I.kept k,?_,q⟩
 by_cases hj:j > i
 ·rw [if_pos hj,if_pos hj]; exact ⟨_,rfl⟩
 ·rw [if_neg hj,if_neg hj]; exact ⟨_,rfl⟩
theorem zlY_ (hc:X.calm=true):CallR X (.builtin "min") (fun xs H Q=>∃ i j,xs=[.int i,.int j]∧Q (.int (if j<i then j else i)) H):=by
 intro pins s σ H xs us Q I r h
 obtain ⟨i,j,rfl,q⟩:=h
 obtain ⟨u,w',rfl,⟨t,rfl⟩,⟨t',rfl⟩⟩:=vals2 r
 refine min_two_ints (I.ok.hd hc) fun h' tk k=>⟨_,H,I.kept k,?_,q⟩
 by_cases hj:j<i
 ·rw [if_pos hj,if_pos hj]; exact ⟨_,rfl⟩
 ·rw [if_neg hj,if_neg hj]; exact ⟨_,rfl⟩
theorem zhK_:CallR X (.type "str") (fun xs H Q=>∃ i,xs=[.int i]∧i.natAbs.log2<1920∧Q (.str (toString i)) H):=by
 intro pins s σ H xs us Q I r h
 obtain ⟨i,rfl,hz,q⟩:=h
 obtain ⟨u,rfl,t,rfl⟩:=vals1 r
 exact PySem.P.str_of_int hz ⟨.str _,H,I.tok _,⟨_,rfl⟩,q⟩
end
end L2
namespace L2
open PySem PySem.Spec PyProof.Rows
structure ObjM (h:Heap) (x dx C:Addr) (mA:Str→Option Value):Prop where
 obj:h.get? x=some (PySem.W.instObj C dx)
 ns:h.Ns1 dx mA
 ne:dx≠x
theorem zlZ_ {h:Heap}{dx:Addr}{mA:Str→Option Value}(n:h.Ns1 dx mA):∃ od,h.get? dx=some od∧∀ name,PySem.W.lookIn name od=some (mA name):=by
 obtain ⟨o,es,ep,ho,hd,hk,_,hm⟩:=n
 refine ⟨o,ho,fun name=>?_⟩
 have e:=hm name
 unfold nsFind findBy at e
 rw [← Array.find?_toList] at e
 unfold PySem.W.lookIn
 rw [hd]
 dsimp only
 split
 ·rename_i y q
  rw [q] at e
  exact congrArg some e
 ·rename_i q
  rw [q] at e
  have a:es.toList.any (·.refKey)=false:=by
   rw [List.any_eq_false]
   intro y hy
   obtain ⟨z,t,hkey⟩:=hk y (Array.mem_toList_iff.mp hy)
   simp [DictEntry.refKey,hkey]
  have a':¬ es.toList.any (·.refKey)=true:=by rw [a]; exact Bool.false_ne_true
  rw [if_neg a']
  exact congrArg some e
theorem ObjM.look {h:Heap}{x dx C:Addr}{mA:Str→Option Value}(I:ObjM h x dx C mA):∃ od,PySem.W.InstAt h x (PySem.W.instObj C dx) C (some od)∧∀ name,PySem.W.lookIn name od=some (mA name) :=
 let ⟨od,ho,hl⟩:=zlZ_ I.ns
 ⟨od,⟨I.obj,rfl,rfl,ho⟩,hl⟩
section
variable {prog:Program}{w:World}{A:Around}{E:Value→Shared→Prop}{s:Shared}{K:Fgg}{x dx C f:Addr}{mA:Str→Option Value}{name:Str}{v:Value}
theorem zoB_ {expr:Bool}{Q:Value→Shared→Prop}(X:K.In s.heap) (I:ObjM s.heap x dx C mA) (hg:PySem.W.plainGet K C name=true) (hh:PySem.W.hasDictIn K C=true)
  (ha:PySem.W.findIn K (.ref C) name=some none) (hv:mA name=some v) (hv':PySem.W.handedIn v=true) (h:Q v { s with toks:=s.toks+1 }) :
  wpAny (model prog w) A (getAttr (.ref x) name expr) Q E s:=by
 obtain ⟨od,J,hl⟩:=I.look
 exact PySem.W.get_value X J (PySem.W.plainGet_of hg).1 (PySem.W.findObj_own hh ha rfl (by rw [hl,hv])) hv' h
theorem zmM_ {pl:Sem Bool}{Q:Value×List Value→Shared→Prop}(X:K.In s.heap) (I:ObjM s.heap x dx C mA) (hg:PySem.W.plainGet K C name=true)
  (hf:PySem.W.findIn K (.ref C) name=some (some (.ref f))) (ht:PySem.W.isFn K (.ref f)=true) (hv:mA name=none) (h:Q (.ref f,[.ref x]) s) :
  wpAny (model prog w) A (getMethod (.ref x) name pl) Q E s:=by
 obtain ⟨od,J,hl⟩:=I.look
 exact PySem.W.method_fn X J (PySem.W.plainGet_of hg).1 (PySem.W.plainGet_of hg).2 hf (beq_iff_eq.mp ht) (by show (PySem.W.lookIn name od).map (·.isSome)=some false; rw [hl,hv]; rfl) h
theorem zpr_ {ns:List Str}{Q:Unit→Shared→Prop}(X:K.In s.heap) (I:ObjM s.heap x dx C mA)
  (hs:PySem.W.findIn K (.ref C) "__setattr__" = some (some (.builtin "object.__setattr__"))) (hp:PySem.W.plainOver K C=true) (ht:PySem.W.takerIn K C name=some none) (hh:PySem.W.hasDictIn K C=true)
  (hw:PySem.Within mA ns) (hsz:ns.length≤sizeLine)
  (h:∀ h',ObjM h' x dx C (fun y=>if y=name then some v else mA y)→Heap.SameBut dx s.heap h'→Q () { s with heap:=h',toks:=s.toks+2 }) :
  wpAny (model prog w) A (setAttr (.ref x) name v) Q E s:=by
 obtain ⟨od,J,hl⟩:=I.look
 refine PySem.W.set_plain X J hs (PySem.W.osa_open (s:={ s with toks:=s.toks+1 }) (r:=none) X J hp ht fun b=>?_)
 obtain ⟨cd,hc,hd'⟩:=PySem.W.any_some hh
 have hx:s.heap.get? x=some ⟨.ref C,some dx,.plain,#[]⟩:=I.obj
 refine wpAny_bind (wpAny_pure (wpAny_bind (wpAny_bind (wpAny_loadPart hx (wpAny_bind (PySem.W.Looks.here (s:={ s with toks:=s.toks+1 }) (PySem.W.looks_clsIn X hc) ?_))))))
 rw [hd']
 refine wpAny_pure (a:=some dx) (wpAny_bind (wpAny_pure (wpAny_bind ?_)))
 refine wpAny_nsSet1 (s:={ s with toks:=s.toks+1 }) I.ns fun h' hn2 hs2=>?_
 obtain ⟨oD,esD,epD,hoD,hdD,hcD⟩:=hn2.count (PySem.Within.cons name v hw)
 refine wpAny_bind (wpAny_lookBehind hoD (by rw [hdD]; exact pastItsLine_dict (Nat.le_trans hcD (by rw [List.length_cons]; lia))) ?_)
 exact wpAny_pure (h _ ⟨(hs2.2 _ (Ne.symm I.ne)).trans I.obj,hn2,I.ne⟩ hs2)
theorem znt_ {R:Result→Shared→Prop}{vs:List Value}{kw:List (Str×Value)}(X:K.In s.heap) (hm:PySem.W.makesIn K C=true)
  (hi:PySem.W.findIn K (.ref C) "__init__" = some (some (.ref f))) (hf:PySem.W.typeIn K (.ref f)=some (.type "function"))
  (h:codeAny (model prog w) (A.under (.builtin "type.__call__" ⟨.ref C::vs,kw⟩)) (.call (.ref f) ⟨.ref (s.heap.objs.size+1)::vs,kw⟩) (PySem.W.InitBack (s.heap.objs.size+1) R)
   { s with heap:=(s.heap.push PySem.W.emptyDict).push (PySem.W.instObj C s.heap.objs.size) }) :
  codeAny (model prog w) A (.call (.ref C) ⟨vs,kw⟩) R s:=by
 obtain ⟨hh,g,d,t,os⟩:=s
 exact PySem.W.make_core (PySem.W.makes_of X hm) (PySem.W.looks_findIn X hi) (fun self=>PySem.W.bind_fn X self hf) (.inl rfl) h
end
noncomputable def putF (f:Str) (v:V):List (Str×V)→List (Str×V)
 | []=>[(f,v)]
 | (g,x)::r=>if g=f then (g,v)::r else (g,x)::putF f v r
theorem zf5_ (f g:Str) (v:V):∀ fs:List (Str×V),(putF f v fs).lookup g=if g=f then some v else fs.lookup g
 | []=>by
  show List.lookup g [(f,v)]=_
  by_cases h:g=f
  ·have hb:(g == f)=true:=beq_iff_eq.mpr h
   simp only [List.lookup,hb,if_pos h]
  ·have hb:(g == f)=false:=beq_eq_false_iff_ne.mpr h
   simp only [List.lookup,hb,if_neg h]
 | (k,x)::r=>by
  have ih:=zf5_ f g v r
  rw [show putF f v ((k,x)::r)=(if k=f then (k,v)::r else (k,x)::putF f v r) from rfl]
  by_cases hk:k=f
  ·rw [if_pos hk]
   by_cases h:g=k
   ·have hb:(g == k)=true:=beq_iff_eq.mpr h
    simp only [List.lookup,hb,if_pos (h.trans hk)]
   ·have hb:(g == k)=false:=beq_eq_false_iff_ne.mpr h
    simp only [List.lookup,hb,if_neg (fun e:g=f=>h (e.trans hk.symm))]
  ·rw [if_neg hk]
   by_cases h:g=k
   ·have hb:(g == k)=true:=beq_iff_eq.mpr h
    simp only [List.lookup,hb,if_neg (fun e:g=f=>hk (h.symm.trans e))]
   ·have hb:(g == k)=false:=beq_eq_false_iff_ne.mpr h
    simp only [List.lookup,hb]
    exact ih
theorem zgI_ (f:Str) (v:V):∀ fs:List (Str×V),f∈(putF f v fs).map (·.1)∧∀ g,g∈fs.map (·.1)→g∈(putF f v fs).map (·.1)
 | []=>⟨by simp [putF],fun g h=>by simp at h⟩
 | (k,x)::r=>by
  obtain ⟨i1,i2⟩:=zgI_ f v r
  rw [show putF f v ((k,x)::r)=(if k=f then (k,v)::r else (k,x)::putF f v r) from rfl]
  by_cases hk:k=f
  ·rw [if_pos hk]
   subst hk
   exact ⟨by simp,fun g h=>by simpa using h⟩
  ·rw [if_neg hk]
   refine ⟨?_,fun g h=>?_⟩
   ·rw [List.map_cons]
    exact List.mem_cons_of_mem _ i1
   ·rw [List.map_cons] at h ⊢
    rcases List.mem_cons.mp h with e | e
    ·exact List.mem_cons.mpr (.inl e)
    ·exact List.mem_cons_of_mem _ (i2 g e)
theorem zgb_ (f:Str) (v:V):∀ fs:List (Str×V),(putF f v fs).length≤fs.length+1
 | []=>by simp [putF]
 | (k,x)::r=>by
  have ih:=zgb_ f v r
  rw [show putF f v ((k,x)::r)=(if k=f then (k,v)::r else (k,x)::putF f v r) from rfl]
  by_cases hk:k=f
  ·rw [if_pos hk,List.length_cons,List.length_cons]; lia
  ·rw [if_neg hk,List.length_cons,List.length_cons]; lia
theorem RelO.some_of {v:V}{o:Option Value}(r:RelO (some v) o):∃ u,o=some u∧RelV v u:=by
 cases o with
 | none=>exact (show False from r).elim
 | some u=>exact ⟨u,rfl,r⟩
theorem RelO.none_of {o:Option Value}(r:RelO none o):o=none:=by
 cases o with
 | none=>rfl
 | some u=>exact (show False from r).elim
theorem zlr_ {v:V}{u:Value}(r:RelV v u):PySem.W.handedIn u=true:=by
 cases v with
 | non=>cases (show u=Value.none from r); rfl
 | bl b=>cases (show u=Value.bool b from r); rfl
 | int i=>obtain ⟨t,e⟩:=(show ∃ t,u=Value.int i t from r); cases e; rfl
 | str x=>obtain ⟨t,e⟩:=(show ∃ t,u=Value.str x t from r); cases e; rfl
 | byt b=>obtain ⟨t,e⟩:=(show ∃ t,u=Value.bytes b t from r); cases e; rfl
 | flt b=>obtain ⟨t,e⟩:=(show ∃ t,u=Value.float b t from r); cases e; rfl
 | ref a=>cases (show u=Value.ref a from r); rfl
 | ty n=>cases (show u=Value.type n from r); rfl
section
variable {P:Program}{w:World}{H H':Hp}{h h':Heap}{a C dx:Addr}{fs fs':List (Str×V)}
theorem zk4_ (hok:HOk P w H h) (e:H a=some (.ins C dx fs)):∃ mA,ObjM h a dx C mA∧(∀ f,RelO (fs.lookup f) (mA f))∧PySem.Within mA (fs.map (·.1))∧fs.length≤1000∧H dx=some (.own a):=by
 obtain ⟨d,z,ne,ob,mA,n,r,q⟩:=(show ObjOk P w H h a (.ins C dx fs) from hok a _ e)
 exact ⟨mA,⟨ob,n,ne⟩,r,q,z,d⟩
end
structure Cls (K:Fgg) (C:Addr):Prop where
 pg:PySem.W.plainGet K C Str.empty=true
 hd:PySem.W.hasDictIn K C=true
 po:PySem.W.plainOver K C=true
 sa:PySem.W.findIn K (.ref C) "__setattr__" = some (some (.builtin "object.__setattr__"))
theorem Cls.get {K:Fgg}{C:Addr}(c:Cls K C) (f:Str):PySem.W.plainGet K C f=true:=c.pg
noncomputable def NoAttr (K:Fgg) (C:Addr) (f:Str):Prop:=PySem.W.findIn K (.ref C) f=some none
theorem NoAttr.taker {K:Fgg}{C:Addr}{f:Str}(n:NoAttr K C f):PySem.W.takerIn K C f=some none:=by
 unfold PySem.W.takerIn
 rw [show PySem.W.findIn K (.ref C) f=some none from n]
 rfl
structure Meth (K:Fgg) (C:Addr) (m:Str) (f:Addr):Prop where
 at_:PySem.W.findIn K (.ref C) m=some (some (.ref f))
 fn:PySem.W.isFn K (.ref f)=true
 kp:PySem.W.keepIn K (.ref f)=true
section
variable {X:Cx}{pins:Pnn}{σ:St}{H:Hp}{s:Shared}{a C dx:Addr}{fs:List (Str×V)}{f:Str}{v:V}{A:Around}{E:Value→Shared→Prop}
theorem zk5_ {b:Bool}{Q:Value→Shared→Prop}(I:Inv X pins σ H s) (e:H a=some (.ins C dx fs)) (c:Cls X.K C) (n:NoAttr X.K C f) (l:fs.lookup f=some v)
  (h:∀ u s',Inv X pins σ H s'→RelV v u→Q u s'):wpAny (model X.prog X.w) A (getAttr (.ref a) f b) Q E s:=by
 obtain ⟨mA,O,r,_,_,_⟩:=zk4_ I.hok e
 obtain ⟨u,hu,ru⟩:=RelO.some_of (v:=v) (o:=mA f) (by rw [← l]; exact r f)
 exact zoB_ I.kIn O (c.get f) c.hd n hu (zlr_ ru) (h u _ (I.tok _) ru)
theorem zfa_ {m:Str}{g:Addr}{pl:Sem Bool}{Q:Value×List Value→Shared→Prop}(I:Inv X pins σ H s) (e:H a=some (.ins C dx fs)) (c:Cls X.K C) (k:Meth X.K C m g) (l:fs.lookup m=none)
  (h:Q (.ref g,[.ref a]) s):wpAny (model X.prog X.w) A (getMethod (.ref a) m pl) Q E s:=by
 obtain ⟨mA,O,r,_,_,_⟩:=zk4_ I.hok e
 have hn:mA m=none:=RelO.none_of (by rw [← l]; exact r m)
 exact zmM_ I.kIn O (c.get m) k.at_ k.fn hn h
theorem zjV_ {y:V}{u:Value}{Q:Unit→Shared→Prop}(I:Inv X pins σ H s) (e:H a=some (.ins C dx fs)) (c:Cls X.K C) (n:NoAttr X.K C f) (hl:fs.length<1000) (ry:RelV y u)
  (h:∀ s',Inv X pins σ (upd H a (.ins C dx (putF f y fs))) s'→Q () s'):wpAny (model X.prog X.w) A (setAttr (.ref a) f u) Q E s:=by
 obtain ⟨mA,O,r,wi,_,ho⟩:=zk4_ I.hok e
 have hz:(fs.map (·.1)).length≤sizeLine:=by rw [List.length_map,sizeLine_eq]; lia
 refine zpr_ I.kIn O c.sa c.po n.taker c.hd wi hz fun h' O' sb=>h _ ?_
 have hd:∃ o,h'.get? dx=some o:=let ⟨o,_,_,e',_⟩:=O'.ns; ⟨o,e'⟩
 refine I.write (x:=a) (e:=dx) (by rw [e]; exact True.intro) (.inr ho) (fun b q hb z=>(sb.2 b hb).trans z) hd ?_
 refine ⟨by rw [zbk_ O.ne]; exact ho,?_,O.ne,O'.obj,_,O'.ns,fun g=>?_,fun g hg=>?_⟩
 ·have:=zgb_ f y fs; lia
 ·show RelO ((putF f y fs).lookup g) (if g=f then some u else mA g)
  rw [zf5_]
  by_cases q:g=f
  ·rw [if_pos q,if_pos q]; exact ry
  ·rw [if_neg q,if_neg q]; exact r g
 ·by_cases q:g=f
  ·rw [q]; exact (zgI_ f y fs).1
  ·refine (zgI_ f y fs).2 g (wi g fun z=>hg ?_)
   show (if g=f then some u else mA g)=none
   rw [if_neg q]; exact z
theorem Inv.made (I:Inv X pins σ H s):Inv X pins σ (upd (upd H s.heap.objs.size (.own (s.heap.objs.size+1))) (s.heap.objs.size+1) (.ins C s.heap.objs.size []))
  { s with heap:=(s.heap.push PySem.W.emptyDict).push (PySem.W.instObj C s.heap.objs.size) }:=by
 have e1:(s.heap.push PySem.W.emptyDict).get? s.heap.objs.size=some PySem.W.emptyDict:=Heap.get?_push_size s.heap rfl
 have e2:((s.heap.push PySem.W.emptyDict).push (PySem.W.instObj C s.heap.objs.size)).get? (s.heap.objs.size+1)=some (PySem.W.instObj C s.heap.objs.size):=by
  have:=Heap.get?_push_size (s.heap.push PySem.W.emptyDict) (o:=PySem.W.instObj C s.heap.objs.size) rfl
  rwa [Heap.size_push] at this
 have e3:(s.heap.push PySem.W.emptyDict).Ns s.heap.objs.size (fun _=>none):=⟨PySem.W.emptyDict,#[],_,e1,rfl,(fun e he=>absurd he (by simp)),fun _=>rfl⟩
 have I1:=I.laid (a:=s.heap.objs.size) (o:=.own (s.heap.objs.size+1)) (h':=s.heap.push PySem.W.emptyDict) (t':=s.toks) (fun b u q=>Heap.get?_push_of_some _ q) (Nat.le_refl _) ⟨_,e1⟩
 refine I1.laid (a:=s.heap.objs.size+1) (o:=.ins C s.heap.objs.size []) (t':=s.toks) (fun b u q=>Heap.get?_push_of_some _ q) (Nat.le_of_eq (Heap.size_push _ _)) ?_
 have ne:s.heap.objs.size≠s.heap.objs.size+1:=Nat.ne_of_lt (Nat.lt_succ_self _)
 refine ⟨by rw [zbk_ ne,zbu_],Nat.zero_le _,ne,e2,fun _=>none,(Heap.Ns1.of_empty e3).at fun o q=>Heap.get?_push_of_some _ q,fun _=>True.intro,fun y hy=>absurd rfl hy⟩
theorem zpi_ {prog:Program}{w:World}{env:Env}{e:Expr}{f:Str}{pos:Pos}{s:Shared}{Q:Value→Shared→Prop}(hb:attributeBase e f env (eval e env)=eval e env)
  (h:wpAny (model prog w) A (eval e env) (fun o s₁=>wpAny (model prog w) A (getAttr o f true) Q E s₁) E s):wpAny (model prog w) A (eval (.Attribute e f pos) env) Q E s :=
 Attribute_any_ h (by rw [arm_eval_Attribute,hb])
end
section
variable {X:Cx}{o e value:Expr}{f:Str}{pos pos' tpos:Pos}{ta tv:TE}
theorem znP_ {pl:Sem Bool}{m:Str}{apos:Pos}{args:List Expr}{pins:Pnn}{s:Shared}{σ:St}{H:Hp}{Q:Value→Shared→Prop}{te:TE}(he:PE X e te) (I:Inv X pins σ H s)
  (h:te σ H fun x H1=>∃ a C dx fs g,x=.ref a∧H1 a=some (.ins C dx fs)∧Cls X.K C∧Meth X.K C m g∧fs.lookup m=none ∧
   ∀ s1,Inv X pins σ H1 s1→wpAny (model X.prog X.w) X.A (callWith pos (.ref g) [.ref a] (backTo pos (starEach args X.env)) (backToKw pos (keywordEach [] X.env))) Q X.xe s1)
  (ht:eval (.Call (.Attribute e m apos) args [] pos) X.env=(do
   let ov ← eval e X.env
   standAt apos.atName
   let (f,first) ← holding [ov] (getMethod ov m pl)
   callWith pos f first (backTo pos (starEach args X.env)) (backToKw pos (keywordEach [] X.env)))) :
  wpAny (model X.prog X.w) X.A (eval (.Call (.Attribute e m apos) args [] pos) X.env) Q X.xe s:=by
 refine PySem.W.methodCall_KW (pl:=pl) (thn (he pins s σ H _ I h) fun u s1 hq_=>?_) ht
 obtain ⟨x,H1,I1,rx,a,C,dx,fs,g,ex,ea,c,k,l,q⟩:=hq_
 subst ex
 obtain rfl:u=Value.ref a:=rx
 exact zfa_ I1 ea c k l (q s1 I1)
end
section
variable {X:Cx}{pins:Pnn}{σ:St}{H:Hp}{s:Shared}{A:Around}{E:Value→Shared→Prop}{Q:Value→Shared→Prop}{c:Value}{b:Bool}
end
end L2
namespace L2
open PySem PySem.Spec PyProof.Rows
structure Room (k:Nat) (A:Around):Prop where
 hd:A.handled=none
 dp:A.depth+3*k+5<recursionLimit
 un:A.units+16*k+200<cLine
theorem Room.mono {j k:Nat}{A:Around}(r:Room k A) (h:j≤k):Room j A:=⟨r.hd,by have:=r.dp; lia,by have:=r.un; lia⟩
theorem Room.deeper {k:Nat}{A:Around}(r:Room (k+1) A) (env:Env):Room k (A.deeper env) :=
 ⟨r.hd,by have:=r.dp; show A.depth+1+3*k+5<_; lia,by have:=r.un; show A.units+3+16*k+200<_; lia⟩
theorem zkD_ {A:Around}{C:Addr}{us:List Value}{kw:List (Str×Value)}:(A.under (.builtin "type.__call__" ⟨.ref C::us,kw⟩)).depth=A.depth+1:=by
 first | rfl | simp [Around.under,Code.weight,Code.isCreation,Code.isGuard,Code.isCaller,Code.frames,Code.isFrame,guardIds]
theorem zkc_ {A:Around}{C:Addr}{us:List Value}{kw:List (Str×Value)}:(A.under (.builtin "type.__call__" ⟨.ref C::us,kw⟩)).units=A.units+1:=by
 first | rfl | simp [Around.under,Code.cUnits,Code.frames,Code.isFrame]
theorem Room.make {k:Nat}{A:Around}(r:Room (k+1) A) (C:Addr) (us:List Value) (kw:List (Str×Value)):Room k (A.under (.builtin "type.__call__" ⟨.ref C::us,kw⟩)) :=
 ⟨r.hd,by have:=r.dp; rw [zkD_]; lia,by have:=r.un; rw [zkc_]; lia⟩
theorem Room.depth {k:Nat}{A:Around}(r:Room k A):A.depth<recursionLimit:=by have:=r.dp; lia
theorem Room.units {k:Nat}{A:Around}(r:Room k A):A.units+64<cLine:=by have:=r.un; lia
noncomputable def tNil:TA:=fun _ H Q=>Q [] H
noncomputable def tCons (ta:TE) (tr:TA):TA:=fun σ H Q=>ta σ H fun x H1=>tr σ H1 fun xs H2=>Q (x::xs) H2
section
variable {X:Cx}{e:Expr}{es:List Expr}{te:TE}{t:TA}{pos:Pos}
theorem zn_:PA X [] tNil:=fun _ _ _ _ H Q I h=>Calls.spliced_nil ⟨[],H,I,.nil,h⟩
theorem zc_ (ha:PE X e te) (hr:PA X es t) (hs:starEach (e::es) X.env=(false,eval e X.env)::starEach es X.env:=by rfl):PA X (e::es) (tCons te t):=by
 intro pos pins s σ H Q I h
 rw [hs]
 show wpAny _ _ (spliced ((false,eval e X.env)::backTo pos (starEach es X.env))) _ _ s
 refine Calls.spliced_cons (thn (ha pins s σ H _ I h) fun u s1 hq_=>?_)
 obtain ⟨x,H1,I1,r1,q1⟩:=hq_
 exact thn (hr pos pins s1 σ H1 _ I1 q1) fun us s2 ⟨xs,H2,I2,r2,q2⟩=>⟨x::xs,H2,I2,.cons r1 r2,q2⟩
noncomputable def tTup (t:TA):TE:=fun σ H Q=>t σ H fun xs H1=>xs.length≤sizeLine∧∀ p,H1 p=none→Q (.ref p) (upd H1 p (.tup xs))
noncomputable def tLst (t:TA):TE:=fun σ H Q=>t σ H fun xs H1=>xs.length≤sizeLine∧∀ p,H1 p=none→Q (.ref p) (upd H1 p (.lst xs))
theorem zqn_ {x1} (h:PA X es t):PE X (.Tuple es x1 pos) (tTup t):=by
 intro pins s σ H Q I hq
 refine wpAny_Tuple_spliced (thn (h pos pins s σ H _ I hq) fun us s1 ⟨xs,H1,I1,r,z,q⟩=>⟨by rw [← r.length]; exact z,?_⟩)
 have hf:H1 s1.heap.objs.size=none:=I1.hok.fresh (Nat.le_refl _)
 refine ⟨.ref s1.heap.objs.size,upd H1 s1.heap.objs.size (.tup xs),I1.laid (t':=s1.toks) (fun b u e=>Heap.get?_push_of_some _ e) (Nat.le_refl _) ?_,rfl,q _ hf⟩
 exact ⟨z,us,r,⟨_,Heap.get?_push_size _ rfl,rfl,_,rfl⟩⟩
theorem zfO_ (h:PA X es t):PE X (.List es pos) (tLst t):=by
 intro pins s σ H Q I hq
 refine wpAny_List_spliced (thn (h pos pins s σ H _ I hq) fun us s1 ⟨xs,H1,I1,r,z,q⟩=>⟨by rw [← r.length]; exact z,?_⟩)
 have hf:H1 s1.heap.objs.size=none:=I1.hok.fresh (Nat.le_refl _)
 refine ⟨.ref s1.heap.objs.size,upd H1 s1.heap.objs.size (.lst xs),I1.laid (t':=s1.toks) (fun b u e=>Heap.get?_push_of_some _ e) (Nat.le_refl _) ?_,rfl,q _ hf⟩
 exact ⟨z,us,0,r,Heap.get?_push_size _ rfl⟩
end
noncomputable abbrev Sp:=List V→Hp→VK→XK→Prop
noncomputable abbrev CXT:=List Env→Hp→Shared→XK→Value→Shared→Prop
structure Env0 (P:Program) (w:World) (K:Fgg) (mg:Str→Option Value) (base:Heap) (A:Around) (outer:List Env) (s:Shared) (H:Hp):Prop where
 frames:A.frames=some outer
 mod:Mod K mg base
 bs:∀ b o,base.get? b=some o→s.heap.get? b=some o∧H b=none
 bsz:base.objs.size≤s.heap.objs.size
 funs:s.heap.FunFrames base outer
 frf:∀ b∈frs outer,H b=none
 hok:HOk P w H s.heap
 bare:AllBare s.gens
noncomputable def CE (outer:List Env) (P:Program) (w:World) (H:Hp) (s:Shared) (Q:VK) (u:Value) (s':Shared):Prop :=
 ∃ v H',s'.os=s.os∧AllBare s'.gens∧Un (frs outer) [] H H' s.heap s'.heap∧HOk P w H' s'.heap∧RelV v u∧Q v H'
noncomputable def CR (CX:CXT) (outer:List Env) (P:Program) (w:World) (H:Hp) (s:Shared) (Q:VK) (E:XK) (r:Result) (s':Shared):Prop :=
 match r with
 | .ok (.ret u)=>CE outer P w H s Q u s'
 | .ok _=>False
 | .error e=>CX outer H s E e s'
structure FnOk (P:Program) (w:World) (K:Fgg) (mg:Str→Option Value) (base:Heap) (CX:CXT) (k:Nat) (f:Addr) (fd:FuncData) (ps:List Str) (sp:Sp):Prop where
 len:∀ vs H Q E,sp vs H Q E→vs.length=ps.length
 run:∀ (A:Around) (outer:List Env) (s:Shared) (H:Hp) (args:Args) (us:List Value) (vs:List V) (Q:VK) (E:XK),Room k A→Env0 P w K mg base A outer s H→BindsTo s fd args (ps.zip us)→Vals vs us→sp vs H Q E →
  codeAny (model P w) A (.call (.ref f) args) (CR CX outer P w H s Q E) s
theorem Env0.make {P:Program}{w:World}{K:Fgg}{mg:Str→Option Value}{base:Heap}{A:Around}{outer:List Env}{s:Shared}{H:Hp}(e:Env0 P w K mg base A outer s H) (C:Addr) (us:List Value) (kw:List (Str×Value)) :
  Env0 P w K mg base (A.under (.builtin "type.__call__" ⟨.ref C::us,kw⟩)) outer s H:=⟨by first | exact e.frames | (simpa [Around.under,Code.envs,Code.isFrame,pushEnvs] using e.frames),e.mod,e.bs,e.bsz,e.funs,e.frf,e.hok,e.bare⟩
section
variable {X:Cx}{pins:Pnn}{σ:St}{H:Hp}{s s':Shared}
theorem Inv.env0 (I:Inv X pins σ H s):Env0 X.prog X.w X.K X.mg X.base X.A X.stack s H :=
 ⟨I.ok.frames,I.ok.mod,I.bs,Nat.le_trans I.ok.bsz I.sz,I.stack,I.stkFree,I.hok,I.bare⟩
theorem Inv.after {Q:VK}{u:Value}(I:Inv X pins σ H s) (h:CE X.stack X.prog X.w H s Q u s'):EP X pins σ Q u s':=by
 obtain ⟨v,H',os,bare,un,hok,r,q⟩:=h
 obtain ⟨hh,g,d,t,os'⟩:=s'
 obtain rfl:os'=s.os:=os
 exact ⟨v,H',I.call (h':=hh) (g':=g) (d':=d) (t':=t) (ch:=[]) un hok bare (fun b z=>absurd z (by simp)),r,q⟩
end
noncomputable def tCall (sp:Sp) (dvs:List V) (E:XK) (t:TA):TE:=fun σ H Q=>t σ H fun vs H1=>sp (vs++dvs) H1 Q E
noncomputable def tMeth (C:Addr) (m:Str) (sp:Sp) (dvs:List V) (E:XK) (ta:TE) (t:TA):TE:=fun σ H Q=>ta σ H fun x H1=>∃ a dx fs,x=.ref a∧H1 a=some (.ins C dx fs)∧fs.lookup m=none ∧
 t σ H1 fun vs H2=>sp (x::(vs++dvs)) H2 Q E
noncomputable def tMake (C:Addr) (sp:Sp) (dvs:List V) (E:XK) (t:TA):TE:=fun σ H Q=>t σ H fun vs H1=>∀ x dx,H1 x=none→H1 dx=none→dx≠x →
 sp (.ref x::(vs++dvs)) (upd (upd H1 dx (.own x)) x (.ins C dx [])) (fun v H2=>v=.non∧Q (.ref x) H2) E
noncomputable def Binds (K:Fgg) (fd:FuncData) (ps:List Str) (ds:List Value):Prop :=
 ∀ (s:Shared) (us:List Value),K.In s.heap→(us++ds).length=ps.length→BindsTo s fd ⟨us,[]⟩ (ps.zip (us++ds))
theorem Binds.all {K:Fgg}{fd:FuncData}{ps:List Str}(h:∀ us:List Value,us.length=ps.length→bindArgs fd ⟨us,[]⟩=pure (ps.zip us)):Binds K fd ps []:=fun s us _ hl=>by
 rw [List.append_nil] at hl ⊢
 exact .of_eq (h us hl)
noncomputable def Passes (CX:CXT) (X:Cx) (E:XK):Prop:=∀ (pins:Pnn) (σ:St) (H:Hp) (s:Shared) (e:Value) (s':Shared),Inv X pins σ H s→CX X.stack H s E e s'→X.xe e s'
section
variable {X:Cx}{CX:CXT}{k:Nat}{f C:Addr}{fd:FuncData}{ps:List Str}{sp:Sp}{dvs:List V}{ds:List Value}{E:XK}{x m:Str}{p pos apos:Pos}{e o:Expr}{es:List Expr}{ta:TE}{t:TA}
theorem zm0_ {pins:Pnn}{σ:St}{H:Hp}{s:Shared}{Q:VK}{us:List Value}{vs:List V}(F:FnOk X.prog X.w X.K X.mg X.base CX k f fd ps sp) (hr:Room k X.A) (hb:Binds X.K fd ps ds) (hd:Vals dvs ds) (hx:Passes CX X E)
  (I:Inv X pins σ H s) (r:Vals vs us) (h:sp (vs++dvs) H Q E):wpAny (model X.prog X.w) X.A (call (.ref f) us) (EP X pins σ Q) X.xe s:=by
 have r2:Vals (vs++dvs) (us++ds):=r.append hd
 have hl:(us++ds).length=ps.length:=by rw [← r2.length]; exact F.len _ _ _ _ h
 refine wpAny_call (codeAny_mono (F.run X.A X.stack s H ⟨us,[]⟩ (us++ds) (vs++dvs) Q E hr I.env0 (hb s us I.kIn hl) r2 h) fun r s' hq=>?_)
 cases r with
 | error e=>exact hx pins σ H s e s' I hq
 | ok fl =>
  cases fl with
  | ret u=>exact I.after hq
  | next=>exact False.elim hq
  | brk=>exact False.elim hq
  | cont=>exact False.elim hq
theorem zpm_ (F:FnOk X.prog X.w X.K X.mg X.base CX k f fd ps sp) (hr:Room k X.A) (hg:Gl X x) (hm:X.mg x=some (.ref f)) (hk:PySem.W.keepIn X.K (.ref f)=true) (hb:Binds X.K fd ps ds) (hd:Vals dvs ds) (hx:Passes CX X E)
  (ha:PA X (e::es) t) (hdb:(x == ("__debug__" : Str))=false:=by decide) (he:starEach (e::es) X.env=(false,eval e X.env)::starEach es X.env:=by rfl) (hpl:(backTo pos (starEach es X.env)).any (·.1)=false:=by rfl) :
  PE X (.Call (.Name x p) (e::es) [] pos) (tCall sp dvs E t):=by
 intro pins s σ H Q I h
 refine wpAny_Call_Name_kw (zkA_ I hg hm ?_ hdb)
 refine PySem.W.callWith_K (h₀:=X.base) I.ok.mod.kin hk (thn (ha pos pins s σ H _ I h) fun us s1 ⟨vs,H1,I1,r,q⟩=>⟨I1.kIn,?_⟩) he hpl
 exact zm0_ F hr hb hd hx I1 r q
theorem zpo_ {pl:Sem Bool}(he:PE X o ta) (c:Cls X.K C) (hm:Meth X.K C m f) (F:FnOk X.prog X.w X.K X.mg X.base CX k f fd ps sp) (hr:Room k X.A) (hb:Binds X.K fd ps ds) (hd:Vals dvs ds) (hx:Passes CX X E) (ha:PA X (e::es) t)
  (hst:starEach (e::es) X.env=(false,eval e X.env)::starEach es X.env:=by rfl) (hpl:(backTo pos (starEach es X.env)).any (·.1)=false:=by rfl)
  (ht:eval (.Call (.Attribute o m apos) (e::es) [] pos) X.env=(do
   let ov ← eval o X.env
   standAt apos.atName
   let (f,first) ← holding [ov] (getMethod ov m pl)
   callWith pos f first (backTo pos (starEach (e::es) X.env)) (backToKw pos (keywordEach [] X.env))):=by rfl) :
  PE X (.Call (.Attribute o m apos) (e::es) [] pos) (tMeth C m sp dvs E ta t):=by
 intro pins s σ H Q I h
 refine PySem.W.methodCall_KW (pl:=pl) (thn (he pins s σ H _ I h) fun u s1 hq_=>?_) ht
 obtain ⟨x,H1,I1,rx,a,dx,fs,ex,ea,l,q⟩:=hq_
 subst ex
 obtain rfl:u=Value.ref a:=rx
 refine zfa_ I1 ea c hm l ?_
 refine PySem.W.callWith_K (first:=[.ref a]) (h₀:=X.base) I.ok.mod.kin hm.kp (thn (ha pos pins s1 σ H1 _ I1 q) fun us s2 ⟨vs,H2,I2,r,q2⟩=>⟨I2.kIn,?_⟩) hst hpl
 exact zm0_ (us:=.ref a::us) (vs:=.ref a::vs) F hr hb hd hx I2 (.cons rfl r) q2
theorem znj_ {pl:Sem Bool}(he:PE X o ta) (c:Cls X.K C) (hm:Meth X.K C m f) (F:FnOk X.prog X.w X.K X.mg X.base CX k f fd ps sp) (hr:Room k X.A) (hb:Binds X.K fd ps ds) (hd:Vals dvs ds) (hx:Passes CX X E)
  (ht:eval (.Call (.Attribute o m apos) [] [] pos) X.env=(do
   let ov ← eval o X.env
   standAt apos.atName
   let (f,first) ← holding [ov] (getMethod ov m pl)
   callWith pos f first (backTo pos (starEach [] X.env)) (backToKw pos (keywordEach [] X.env))):=by rfl) :
  PE X (.Call (.Attribute o m apos) [] [] pos) (tMeth C m sp dvs E ta tNil):=by
 intro pins s σ H Q I h
 refine PySem.W.methodCall_KW (pl:=pl) (thn (he pins s σ H _ I h) fun u s1 hq_=>?_) ht
 obtain ⟨x,H1,I1,rx,a,dx,fs,ex,ea,l,q⟩:=hq_
 subst ex
 obtain rfl:u=Value.ref a:=rx
 refine zfa_ I1 ea c hm l ?_
 exact PySem.W.callWith_K0 (first:=[.ref a]) I1.kIn hm.kp (zm0_ (us:=[.ref a]) (vs:=[.ref a]) F hr hb hd hx I1 (.cons rfl .nil) q)
structure Mk (K:Fgg) (C f:Addr):Prop where
 makes:PySem.W.makesIn K C=true
 init:PySem.W.findIn K (.ref C) "__init__" = some (some (.ref f))
 fn:PySem.W.isFn K (.ref f)=true
 kp:PySem.W.keepIn K (.ref C)=true
theorem zm3_ {pins:Pnn}{σ:St}{H:Hp}{s:Shared}{Q:VK}{us:List Value}{vs:List V}(M:Mk X.K C f) (F:FnOk X.prog X.w X.K X.mg X.base CX k f fd ps sp) (hr:Room (k+1) X.A) (hb:Binds X.K fd ps ds) (hd:Vals dvs ds)
  (hx:Passes CX X E) (I:Inv X pins σ H s) (r:Vals vs us)
  (h:∀ x dx,H x=none→H dx=none→dx≠x→sp (.ref x::(vs++dvs)) (upd (upd H dx (.own x)) x (.ins C dx [])) (fun v H2=>v=.non∧Q (.ref x) H2) E) :
  wpAny (model X.prog X.w) X.A (call (.ref C) us) (EP X pins σ Q) X.xe s:=by
 have hq:=h (s.heap.objs.size+1) s.heap.objs.size (I.hok.fresh (Nat.le_succ _)) (I.hok.fresh (Nat.le_refl _)) (Nat.ne_of_lt (Nat.lt_succ_self _))
 have I2:=Inv.made (C:=C) I
 have r2:Vals (V.ref (s.heap.objs.size+1)::(vs++dvs)) (Value.ref (s.heap.objs.size+1)::(us++ds)):=.cons rfl (r.append hd)
 have hl:(Value.ref (s.heap.objs.size+1)::us++ds).length=ps.length:=by
  have e:=r2.length
  rw [F.len _ _ _ _ hq] at e
  exact e.symm
 refine wpAny_call (znt_ (f:=f) I.kIn M.makes M.init (beq_iff_eq.mp M.fn) (codeAny_mono (F.run _ X.stack _ _ ⟨Value.ref (s.heap.objs.size+1)::us,[]⟩ (Value.ref (s.heap.objs.size+1)::(us++ds)) _ _ E (hr.make C us [])
  (I2.env0.make C us []) (hb _ (Value.ref (s.heap.objs.size+1)::us) I2.kIn hl) r2 hq) fun r s' hq'=>?_))
 cases r with
 | error e=>exact hx pins σ _ _ e s' I2 hq'
 | ok fl =>
  cases fl with
  | ret u =>
   obtain ⟨v,H',I3,rv,ev,q3⟩:=I2.after hq'
   subst ev
   exact ⟨rv,⟨V.ref (s.heap.objs.size+1),H',I3,rfl,q3⟩⟩
  | next=>exact False.elim hq'
  | brk=>exact False.elim hq'
  | cont=>exact False.elim hq'
theorem zoO_ (M:Mk X.K C f) (F:FnOk X.prog X.w X.K X.mg X.base CX k f fd ps sp) (hr:Room (k+1) X.A) (hg:Gl X x) (hm:X.mg x=some (.ref C)) (hb:Binds X.K fd ps ds) (hd:Vals dvs ds) (hx:Passes CX X E)
  (ha:PA X (e::es) t) (hdb:(x == ("__debug__" : Str))=false:=by decide) (he:starEach (e::es) X.env=(false,eval e X.env)::starEach es X.env:=by rfl) (hpl:(backTo pos (starEach es X.env)).any (·.1)=false:=by rfl) :
  PE X (.Call (.Name x p) (e::es) [] pos) (tMake C sp dvs E t):=by
 intro pins s σ H Q I h
 refine wpAny_Call_Name_kw (zkA_ I hg hm ?_ hdb)
 refine PySem.W.callWith_K (h₀:=X.base) I.ok.mod.kin M.kp (thn (ha pos pins s σ H _ I h) fun us s1 ⟨vs,H1,I1,r,q⟩=>⟨I1.kIn,?_⟩) he hpl
 exact zm3_ M F hr hb hd hx I1 r q
end
section
variable {X:Cx}{CX:CXT}{k:Nat}{f C:Addr}{fd:FuncData}{ps ks:List Str}{sp:Sp}{E:XK}{x m:Str}{p pos apos kpos:Pos}{e o:Expr}{es:List Expr}{kws:List Keyword}{te ta:TE}{t tk:TA}{nm:Option Str}
variable {g:List Value→List Value→List Value}{gV:List V→List V→List V}
end
structure FnScope (N P:List Str) (sc:Scope):Prop where
 kind:sc.kind=.function
 co:sc.isCoroutine=false
 gen:sc.isGenerator=false
 nd:N.Nodup
 pre:N.take P.length=P
 par:∀ x∈P,sc.names.lookup x=some .local∨sc.names.lookup x=some .cell
 nofree:∀ y∈sc.names,y.2≠.free
theorem ziA_ {kindOf:Str→Option NameKind}{x:Str}:∀ {binds:List (Str×Value)}{m:Str→Option Value},(∀ v,(x,v)∉binds)→bindL kindOf binds m x=m x
 | [],_,_=>rfl
 | (n,v)::r,m,h=>by
  unfold bindL
  rw [ziA_ fun w hw=>h w (List.mem_cons_of_mem _ hw)]
  split
  ·have:x≠n:=by rintro rfl; exact h v List.mem_cons_self
   simp [this]
  ·rfl
theorem ziQ_ {kindOf:Str→Option NameKind}{x:Str}:∀ {binds:List (Str×Value)}{m:Str→Option Value},(∀ v,(x,v)∉binds)→bindC kindOf binds m x=m x
 | [],_,_=>rfl
 | (n,v)::r,m,h=>by
  unfold bindC
  rw [ziQ_ fun w hw=>h w (List.mem_cons_of_mem _ hw)]
  split
  ·rfl
  ·have:x≠n:=by rintro rfl; exact h v List.mem_cons_self
   simp [this]
theorem zip_ {kindOf:Str→Option NameKind}{x:Str}{v:Value}:∀ {P:List Str}{vs:List Value}{i:Nat}{m:Str→Option Value},P.Nodup→P[i]?=some x→vs[i]?=some v→kindOf x=some .local →
  bindL kindOf (P.zip vs) m x=some v
 | [],_,_,_,_,h,_,_=>by simp at h
 | _::_,[],_,_,_,_,h,_=>by simp at h
 | p::P,w::vs,0,m,nd,h1,h2,hk=>by
  simp at h1 h2; subst h1; subst h2
  show bindL kindOf ((p,w)::P.zip vs) m p=_
  unfold bindL
  rw [ziA_ fun v hv=>(List.nodup_cons.mp nd).1 (List.of_mem_zip hv).1,if_pos hk]
  simp
 | p::P,w::vs,i+1,m,nd,h1,h2,hk=>by
  show bindL kindOf ((p,w)::P.zip vs) m x=_
  unfold bindL
  exact zip_ (i:=i) (List.nodup_cons.mp nd).2 (by simpa using h1) (by simpa using h2) hk
theorem ziK_ {kindOf:Str→Option NameKind}{x:Str}{v:Value}:∀ {P:List Str}{vs:List Value}{i:Nat}{m:Str→Option Value},P.Nodup→P[i]?=some x→vs[i]?=some v→kindOf x≠some .local →
  bindC kindOf (P.zip vs) m x=some v
 | [],_,_,_,_,h,_,_=>by simp at h
 | _::_,[],_,_,_,_,h,_=>by simp at h
 | p::P,w::vs,0,m,nd,h1,h2,hk=>by
  simp at h1 h2; subst h1; subst h2
  show bindC kindOf ((p,w)::P.zip vs) m p=_
  unfold bindC
  rw [ziQ_ fun v hv=>(List.nodup_cons.mp nd).1 (List.of_mem_zip hv).1,if_neg hk]
  simp
 | p::P,w::vs,i+1,m,nd,h1,h2,hk=>by
  show bindC kindOf ((p,w)::P.zip vs) m x=_
  unfold bindC
  exact ziK_ (i:=i) (List.nodup_cons.mp nd).2 (by simpa using h1) (by simpa using h2) hk
noncomputable def start (N:List Str) (vs:List V):St:=vs.map some++List.replicate (N.length-vs.length) none
noncomputable def cxOf (CX:CXT) (P:Program) (w:World) (K:Fgg) (mg:Str→Option Value) (base:Heap) (N:List Str) (qual:Str) (scope:Scope) (f:Addr) (cd:Value) (A:Around) (outer:List Env) (s:Shared) (H:Hp) (E:XK):Cx where
 prog:=P
 w:=w
 K:=K
 mg:=mg
 base:=base
 A:=A.deeper (envOfC qual scope s.heap.objs.size f cd)
 N:=N
 s₀:=s
 H₀:=H
 env:=envOfC qual scope s.heap.objs.size f cd
 outer:=outer
 stack:=envOfC qual scope s.heap.objs.size f cd::outer
 ex:=[]
 calm:=true
 fn:=fun _=>true
 pn:=[]
 xe:=fun e s'=>wpAny (model P w) (A.deeper (envOfC qual scope s.heap.objs.size f cd)) (leaving (envOfC qual scope s.heap.objs.size f cd) e) (fun _ s''=>CX outer H s E e s'') (fun e' s''=>CX outer H s E e' s'') s'
theorem zj7_ {sc:Scope}{n:Nat}{x:Str}(h:sc.names.lookup x=some .cell):∃ c,(cellsFrom n sc.names []).lookup x=some c:=by
 have q:=PySem.W.cellsFrom_some sc.names n [] (.inl h)
 exact Option.isSome_iff_exists.mp q
theorem zlV_ {CX:CXT}{P:Program}{w:World}{K:Fgg}{mg:Str→Option Value}{base:Heap}{N ps:List Str}{qual:Str}{scope:Scope}{f:Addr}{cd:Value}{A:Around}{outer:List Env}{s s1:Shared}{H:Hp}{E:XK}{us:List Value}{vs:List V}
  (S:FnScope N ps scope) (hd:A.handled=none) (e0:Env0 P w K mg base A outer s H) (hl:vs.length=ps.length) (r:Vals vs us)
  (x:InCallC s s.heap.objs.size (bindL (envOfC qual scope s.heap.objs.size f cd).kindOf (ps.zip us) fun _=>none) (cellsFrom (s.heap.objs.size+1) scope.names []) (bindC (envOfC qual scope s.heap.objs.size f cd).kindOf (ps.zip us) fun _=>none) s1) :
  Inv (cxOf CX P w K mg base N qual scope f cd A outer s H E) [] (start N vs) H s1:=by
 have hpl:ps.length≤N.length:=by have:=congrArg List.length S.pre; rw [List.length_take] at this; lia
 obtain ⟨h1,tk,rfl,hk⟩:=x.done
 have noA:∀ b:Addr,b∉(cxOf CX P w K mg base N qual scope f cd A outer s H E).ex:=fun b z=>absurd (show b∈([]:List Addr) from z) (by simp)
 refine ⟨⟨e0.mod,S.kind,rfl,rfl,Nat.le_refl _,fun y z c h1 h2=>?_,fun y hy=>?_,fun y c _ h=>?_,fun _=>hd,Around.frames_deeper e0.frames,.inr ⟨rfl,rfl⟩,fun b z=>absurd z (noA b),e0.bs,e0.bsz,fun b _ _=>noA b,fun b z=>absurd z (noA b),e0.funs,e0.frf⟩,
  rfl,e0.bare,Un.kept hk,⟨_,x.toInCall.ns,fun i y v h1 h2 h3=>?_⟩,fun y c h=>⟨_,x.cell y c h⟩,e0.hok.fresh (Nat.le_refl _),fun y c h=>?_,fun p hp=>absurd (show p∈([]:Pnn) from hp) (by simp),e0.hok.kept hk,?_⟩
 ·exact name_of_addr x.apart (PySem.mem_of_lookup h1) (PySem.mem_of_lookup h2)
 ·have hy:scope.names.lookup y=some .cell∨scope.names.lookup y=some .free:=hy
  rcases hy with hy | hy
  ·exact zj7_ hy
  ·exact absurd rfl (S.nofree _ (PySem.mem_of_lookup hy))
 ·exact Nat.le_of_lt (x.above y c (PySem.mem_of_lookup h))
 ·have hi:i<vs.length:=by
   unfold start at h2
   by_cases hi:i<vs.length
   ·exact hi
   ·rw [List.getElem?_append_right (by simpa using hi)] at h2
    rw [List.getElem?_replicate] at h2
    split at h2<;>cases h2
  have ha:vs[i]?=some v:=by
   unfold start at h2
   rw [List.getElem?_append_left (by simpa using hi),List.getElem?_map] at h2
   cases e:vs[i]? with
   | none=>rw [e] at h2; cases h2
   | some a=>rw [e] at h2; cases h2; rfl
  obtain ⟨u,hu,rv⟩:=r.get ha
  have hp:ps[i]?=some y:=by
   rw [← S.pre,List.getElem?_take_of_lt (by lia)]; exact h1
  have ndP:ps.Nodup:=by rw [← S.pre]; exact S.nd.sublist (List.take_sublist _ _)
  refine ⟨u,rv,?_⟩
  rcases S.par y (List.mem_of_getElem? hp) with k | k
  ·exact .inl ⟨k,zip_ ndP hp hu k⟩
  ·obtain ⟨c,e⟩:=zj7_ (n:=s.heap.objs.size+1) k
   refine .inr ⟨.inl k,c,e,?_⟩
   have q:=x.cell y c e
   rw [ziK_ ndP hp hu (by show scope.names.lookup y≠_; rw [k]; decide)] at q
   exact q
 ·exact e0.hok.fresh (Nat.le_of_lt (x.above y c (PySem.mem_of_lookup h)))
 ·unfold start
  show _=N.length
  rw [List.length_append,List.length_map,List.length_replicate]
  lia
theorem fn_of {CX:CXT}{P:Program}{w:World}{K:Fgg}{mg:Str→Option Value}{base:Heap}{k:Nat}{f:Addr}{name qual:Str}{params:Arguments}{body:List Stmt}{scope:Scope}{dV kV doc pm cdv ct oc:Value}{an od:Option Addr}
  {osl:Array (Option Value)}{N ps:List Str}{sp:Sp}(lk:K.lookup f=some ⟨oc,od,.func (PySem.W.fnOf name qual params body scope dV kV doc pm an cdv ct),osl⟩) (hcd:PySem.W.codeIn K cdv qual=true) (S:FnScope N ps scope)
  (len:∀ vs H Q E,sp vs H Q E→vs.length=ps.length)
  (hbody:∀ (A:Around) (outer:List Env) (s:Shared) (H:Hp) (vs:List V) (Q:VK) (E:XK),Room k (A.deeper (envOfC qual scope s.heap.objs.size f cdv))→sp vs H Q E →
   ∃ t,PSs (cxOf CX P w K mg base N qual scope f cdv A outer s H E) body t∧t { nx:=fun _ H'=>Q .non H',rt:=Q } (start N vs) H) :
  FnOk P w K mg base CX (k+1) f (PySem.W.fnOf name qual params body scope dV kV doc pm an cdv ct) ps sp:=by
 refine ⟨len,fun A outer s H args us vs Q E hr e0 hb r hsp=>?_⟩
 have hl:=len _ _ _ _ hsp
 have KX:K.In s.heap:=e0.mod.kin.keeps fun b o e=>(e0.bs b o e).1
 have lim:s.heap.NoLimit:=e0.mod.nolimit.keeps fun b o e=>(e0.bs b o e).1
 have hkind:∀ y∈ps.zip us,scope.names.lookup y.1=some .local∨(scope.names.lookup y.1=some .cell∧((cellsFrom (s.heap.objs.size+1) scope.names []).lookup y.1).isSome=true):=fun ⟨n,v⟩ hy=>by
  rcases S.par n (List.of_mem_zip hy).1 with q | q
  ·exact .inl q
  ·exact .inr ⟨q,PySem.W.cellsFrom_some _ _ _ (.inl q)⟩
 refine codeAny_call_function hr.depth (KX _ _ lk) rfl S.co S.gen rfl (PySem.W.codeRec_of KX hcd) (hb _ _ _ _ ?_)
 refine wpAny_newFunctionEnv_cells S.kind hkind fun env he s1 x=>?_
 subst he
 refine ⟨lim.keeps x.toInCall.keep,codeAny_func ?_⟩
 obtain ⟨t,ht,hq⟩:=hbody A outer s H vs Q E (hr.deeper _) hsp
 have I:Inv (cxOf CX P w K mg base N qual scope f cdv A outer s H E) [] (start N vs) H s1:=zlV_ S hr.hd e0 hl r x
 refine wpAny_mono (ht [] s1 (start N vs) H _ I hq) (fun fl s' hs=>?_) fun e s' hs=>hs
 have fin:∀ {σ':St}{H':Hp}{v:V}{u:Value},Inv (cxOf CX P w K mg base N qual scope f cdv A outer s H E) [] σ' H' s'→RelV v u→Q v H'→CE outer P w H s Q u s' :=
  fun {σ' H' v u} J rv q=>⟨v,H',J.os,J.bare,J.base,J.hok,rv,q⟩
 cases fl with
 | ret u =>
  obtain ⟨v,σ',H',J,rv,q⟩:=hs
  exact fin J rv q
 | next =>
  obtain ⟨σ',H',J,q⟩:=hs
  exact fin (v:=V.non) (u:=Value.none) J rfl q
 | brk =>
  obtain ⟨_,_,_,q⟩:=hs
  exact False.elim q
 | cont =>
  obtain ⟨_,_,_,q⟩:=hs
  exact False.elim q
end L2
namespace L2
open PySem PySem.Spec PyProof.Rows
section
variable {X:Cx}{x:Str}{p pos:Pos}{e:Expr}{es:List Expr}{t:TA}{id T:String}{r:List V→Hp→VK→Prop}
noncomputable def tCB (r:List V→Hp→VK→Prop) (t:TA):TE:=fun σ H Q=>t σ H fun vs H1=>r vs H1 Q
theorem zmN_ (hc:CallR X (.builtin id) r) (hg:Gl X x) (hm:X.mg x=none) (hv:bootBuiltins x=some (.builtin id)) (ha:PA X (e::es) t) (hn:x ≠ "__name__" := by decide) (hdb:(x == ("__debug__" : Str))=false:=by decide)
  (he:starEach (e::es) X.env=(false,eval e X.env)::starEach es X.env:=by rfl) (hpl:(backTo pos (starEach es X.env)).any (·.1)=false:=by rfl):PE X (.Call (.Name x p) (e::es) [] pos) (tCB r t):=by
 intro pins s σ H Q I h
 refine wpAny_Call_Name_kw (zhw_ I hg hm hv ?_ hn hdb)
 exact PyProof.Rows.callWith_builtin1 (thn (ha pos pins s σ H _ I h) fun us s1 ⟨vs,H1,I1,r1,q1⟩=>hc pins s1 σ H1 vs us Q I1 r1 q1) he hpl
theorem zlL_ (hc:CallR X (.type T) r) (hg:Gl X x) (hm:X.mg x=none) (hv:bootBuiltins x=some (.type T)) (ha:PA X (e::es) t) (hn:x ≠ "__name__" := by decide) (hdb:(x == ("__debug__" : Str))=false:=by decide)
  (he:starEach (e::es) X.env=(false,eval e X.env)::starEach es X.env:=by rfl) (hpl:(backTo pos (starEach es X.env)).any (·.1)=false:=by rfl):PE X (.Call (.Name x p) (e::es) [] pos) (tCB r t):=by
 intro pins s σ H Q I h
 refine wpAny_Call_Name_kw (zhw_ I hg hm hv ?_ hn hdb)
 exact PyProof.Rows.callWith_type1 (thn (ha pos pins s σ H _ I h) fun us s1 ⟨vs,H1,I1,r1,q1⟩=>hc pins s1 σ H1 vs us Q I1 r1 q1) he hpl
end
end L2
namespace HT
open PySem PyProof.Rows
section
open PySem.SeqAt
open PySem.AutoSeq1 (wpAny_loadPart')
open PySem.MeetsSeq PySem.MeetsSeq2 PySem.MeetsSeq3
end
section
variable {prog:Program}{w:World}{A:Around}{E:Value→Shared→Prop}{s:Shared}
noncomputable def sIx (n d:Nat):Option Int→Nat
 | none=>d
 | some v=>if v<0 then (v+(n:Int)).toNat else min v.toNat n
theorem sIx_le (n d:Nat) (hd:d≤n) (o:Option Int):sIx n d o≤n:=by
 cases o with
 | none=>exact hd
 | some v =>
  show (if v<0 then (v+(n:Int)).toNat else min v.toNat n)≤n
  by_cases hv:v<0
  ·rw [if_pos hv]; lia
  ·rw [if_neg hv]; exact Nat.min_le_right _ _
end
end HT
namespace L2
open PySem PySem.Spec PyProof.Rows
noncomputable abbrev TO:=St→Hp→(Option Int→Hp→Prop)→Prop
noncomputable def PO (X:Cx) (e:Option Expr) (t:TO):Prop :=
 ∀ (pins:Pnn) (s:Shared) (σ:St) (H:Hp) (Q:Option Int→Hp→Prop),Inv X pins σ H s→t σ H Q →
  wpAny (model X.prog X.w) X.A (evalPart e X.env) (fun u s'=>∃ o H',Inv X pins σ H' s'∧IsPart u o∧Q o H') X.xe s
noncomputable def tNoPart:TO:=fun _ H Q=>Q none H
section
variable {X:Cx}{e:Expr}{te:TE}{lo hi:Option Expr}{tl th:TO}{pos p2:Pos}
theorem zgK_:PO X none tNoPart:=by
 intro pins s σ H Q I h
 rw [evalPart_none]
 exact wpAny_pure ⟨none,H,I,.none,h⟩
noncomputable def SlR (X:Cx) (r:V→Option Int→Option Int→Hp→VK→Prop):Prop :=
 ∀ (pins:Pnn) (s:Shared) (σ:St) (H:Hp) (x:V) (v vl vu:Value) (lo hi:Option Int) (sl:Addr) (Q:VK),Inv X pins σ H s→RelV x v→s.heap.IsSliceOf sl vl vu .none→IsPart vl lo→IsPart vu hi→r x lo hi H Q →
  ∃ T id,typeLookup (.type T) "__getitem__" = pure (some (.builtin id))∧s.TypeIs v T∧wpAny (model X.prog X.w) X.A (getItem v (.ref sl)) (EP X pins σ Q) X.xe s
noncomputable def tSl (r:V→Option Int→Option Int→Hp→VK→Prop) (te:TE) (tl th:TO):TE:=fun σ H Q=>te σ H fun x H1=>tl σ H1 fun l H2=>th σ H2 fun u H3=>r x l u H3 Q
theorem zc1_ {r:V→Option Int→Option Int→Hp→VK→Prop}(hr:SlR X r) (he:PE X e te) (hl:PO X lo tl) (hu:PO X hi th):PE X (.Subscript e (.Slice lo hi none p2) pos) (tSl r te tl th):=by
 intro pins s σ H Q I h
 refine Subscript_ (thn (he pins s σ H _ I h) fun v s1 hq_=>?_)
 obtain ⟨x,H1,I1,r1,q1⟩:=hq_
 refine wpAny_Slice (thn (hl pins s1 σ H1 _ I1 q1) fun vl s2 ⟨l,H2,I2,pl,q2⟩=>thn (hu pins s2 σ H2 _ I2 q2) fun vu s3 hq_=>?_)
 obtain ⟨u,H3,I3,pu,q3⟩:=hq_
 rw [evalPart_none]
 refine wpAny_pure ?_
 have I4:Inv X pins σ H3 { s3 with heap:=s3.heap.push { cls:=.type "slice",data:=.fields #[vl,vu,.none] } }:=I3.kept (t':=s3.toks) fun b ob q=>Heap.get?_push_of_some _ q
 obtain ⟨T,id,hT,ht,hg⟩:=hr pins { s3 with heap:=s3.heap.push { cls:=.type "slice",data:=.fields #[vl,vu,.none] } } σ H3 x v vl vu l u s3.heap.objs.size Q I4 r1 (Heap.IsSliceOf.new ..) pl pu q3
 show wpAny (model X.prog X.w) X.A (subscriptTail e (.Slice lo hi none p2) v (.ref s3.heap.objs.size)) (EP X pins σ Q) X.xe { s3 with heap:=s3.heap.push { cls:=.type "slice",data:=.fields #[vl,vu,.none] } }
 exact tail_any (ops:=[.ref s3.heap.objs.size,v]) ht hT hg (by with_unfolding_all rfl)
noncomputable def cutV (xs:List V) (lo hi:Option Int):List V:=(xs.drop (HT.sIx xs.length 0 lo)).take (HT.sIx xs.length xs.length hi-HT.sIx xs.length 0 lo)
theorem ziZ_ (xs:List V) (lo hi:Option Int):(cutV xs lo hi).length≤xs.length:=by
 unfold cutV
 rw [List.length_take,List.length_drop]
 lia
end
end L2
namespace L2
open PySem PySem.Spec PyProof.Rows
noncomputable def ixN (n:Nat) (i:Int):Option Nat:=if 0≤i then (if i<n then some i.toNat else none) else if -(n:Int)≤i then some (i+n).toNat else none
noncomputable def atI {α:Type}(xs:List α) (i:Int):Option α:=(ixN xs.length i).bind fun j=>xs[j]?
theorem zl7_ {n:Nat}{i:Int}{j:Nat}(h:ixN n i=some j):seqIndex? i n=some j∧j<n ∧ -(n:Int)≤i∧i<n:=by
 unfold ixN at h
 by_cases h0:0≤i
 ·rw [if_pos h0] at h
  by_cases h1:i<n
  ·rw [if_pos h1] at h
   have e:i.toNat=j:=Option.some.inj h
   exact ⟨by rw [seqIndex_of h0 h1,e],by lia,by lia,h1⟩
  ·rw [if_neg h1] at h; cases h
 ·rw [if_neg h0] at h
  by_cases h1 : -(n:Int)≤i
  ·rw [if_pos h1] at h
   have e:(i+n).toNat=j:=Option.some.inj h
   exact ⟨by rw [seqIndex_neg (by lia) h1,e],by lia,h1,by lia⟩
  ·rw [if_neg h1] at h; cases h
theorem zjS_ {α:Type}{xs:List α}{i:Int}{v:α}(h:atI xs i=some v):∃ j,seqIndex? i xs.length=some j∧xs[j]?=some v∧j<xs.length ∧ -(xs.length:Int)≤i∧i<xs.length:=by
 unfold atI at h
 cases e:ixN xs.length i with
 | none=>rw [e] at h; cases h
 | some j =>
  rw [e] at h
  obtain ⟨h1,h2,h3,h4⟩:=zl7_ e
  exact ⟨j,h1,h,h2,h3,h4⟩
noncomputable def PlainIx (b:Expr):Prop:=∀ o i,subscripted b false o i=operate [o,i] (getItem o i)
noncomputable def IxR (X:Cx) (r:R2):Prop :=
 ∀ (value slice:Expr) (pins:Pnn) (s:Shared) (σ:St) (H:Hp) (x y:V) (v u:Value) (Q:VK),Inv X pins σ H s→RelV x v→RelV y u→r x y H Q →
  subscripted slice false v u=operate [v,u] (getItem v u)→wpAny (model X.prog X.w) X.A (subscriptTail value slice v u) (EP X pins σ Q) X.xe s
noncomputable def MtR (X:Cx) (id:String) (r:V→List V→Hp→VK→Prop):Prop :=
 ∀ (pins:Pnn) (s:Shared) (σ:St) (H:Hp) (x:V) (xs:List V) (v:Value) (us:List Value) (Q:VK),Inv X pins σ H s→RelV x v→Vals xs us→r x xs H Q →
  wpAny (model X.prog X.w) X.A (call (.builtin id) (v::us)) (EP X pins σ Q) X.xe s
section
variable {X:Cx}{a b:Expr}{ta tb:TE}{pos:Pos}
theorem zc5_ {r:R2}(hr:IxR X r) (ha:PE X a ta) (hb:PE X b tb) (hs:PlainIx b):PE X (.Subscript a b pos) (tOp r ta tb):=by
 intro pins s σ H Q I h
 exact Subscript_ (binT ha hb I h fun v u s2 x y H2 I2 rx ry q=>hr a b pins s2 σ H2 x y v u Q I2 rx ry q (hs _ _))
noncomputable def rIxL (K:Fgg):R2:=fun x y H Q=>∃ p xs i v,x=.ref p∧y=.int i∧SqL K H p xs∧atI xs i=some v∧Q v H
noncomputable def rIxT (K:Fgg):R2:=fun x y H Q=>∃ p xs i v,x=.ref p∧y=.int i∧SqT K H p xs∧atI xs i=some v∧Q v H
noncomputable def rIxS:R2:=fun x y H Q=>∃ z i c,x=.str z∧y=.int i∧z.length≤sizeLine∧atI z.cps.toList i=some c∧Q (.str ⟨#[c]⟩) H
theorem znX_:IxR X (rIxL X.K):=by
 intro value slice pins s σ H x y v u Q I rx ry h hs
 obtain ⟨p,xs,i,z,rfl,rfl,hq,he,q⟩:=h
 cases rx
 obtain ⟨t,rfl⟩:=ry
 obtain ⟨its,r,pl,hz⟩:=I.list hq
 obtain ⟨j,h1,h2,h3,h4,h5⟩:=zjS_ he
 obtain ⟨w,ew,rw'⟩:=r.get h2
 have hl:=r.length
 have hn:=line63
 have fin:EP X pins σ Q w s:=⟨z,H,I,rw',q⟩
 by_cases h0:0≤i
 ·have hj:i.toNat=j:=by
   rw [seqIndex_of h0 h5] at h1
   exact Option.some.inj h1
  exact item_listR pl.isList h0 (by lia) (by rw [hj]; simpa using ew) fin hs
 ·have hj:(i+(its.toArray.size:Int)).toNat=j:=by
   rw [seqIndex_neg (by lia) h4] at h1
   rw [List.size_toArray,← hl]
   exact Option.some.inj h1
  exact subscriptTail_builtinR (x:=w) pl.isList.typeIs slot_list_getitem.lookup
   (wpAny_getItem_list_neg (Q:=fun r s'=>r=w∧EP X pins σ Q r s') pl.isList (by lia) (by rw [List.size_toArray]<;>lia) (by lia) (by rw [hj]; simpa using ew) ⟨rfl,fin⟩) hs
theorem zqO_:IxR X (rIxT X.K):=by
 intro value slice pins s σ H x y v u Q I rx ry h hs
 obtain ⟨p,xs,i,z,rfl,rfl,hq,he,q⟩:=h
 cases rx
 obtain ⟨t,rfl⟩:=ry
 obtain ⟨its,r,pl,hz⟩:=I.tuple hq
 obtain ⟨j,h1,h2,h3,h4,h5⟩:=zjS_ he
 obtain ⟨w,ew,rw'⟩:=r.get h2
 have hl:=r.length
 have hn:=line63
 have fin:EP X pins σ Q w s:=⟨z,H,I,rw',q⟩
 exact subscriptTail_builtinR (x:=w) pl.typeIs slot_tuple_getitem.lookup
  (getItem_tuple (j:=j) (Q:=fun r s'=>r=w∧EP X pins σ Q r s') pl (by lia) (by lia) (by rw [List.size_toArray,← hl]; exact h1) (by simpa using ew) ⟨rfl,fin⟩) hs
theorem zpP_:IxR X rIxS:=by
 intro value slice pins s σ H x y v u Q I rx ry h hs
 obtain ⟨z,i,c,rfl,rfl,hz,he,q⟩:=h
 obtain ⟨t,rfl⟩:=rx
 obtain ⟨t',rfl⟩:=ry
 obtain ⟨j,h1,h2,h3,h4,h5⟩:=zjS_ he
 have hl:z.cps.toList.length=z.length:=by simp [Str.length]
 rw [hl] at h1 h4 h5
 have hn:=line63
 exact tail_any (typeIs_str s z t) slot_str_getitem.lookup (getItem_str (c:=c) (by
  have e1:decide (i < -(2 ^ 63:Int))=false:=decide_eq_false (by lia)
  have e2:decide (i ≥ 2 ^ 63)=false:=decide_eq_false (by lia)
  rw [e1,e2,Bool.or_false]) (by rw [h1]; simpa using h2) ⟨.str ⟨#[c]⟩,H,I.tok _,⟨_,rfl⟩,q⟩) hs
theorem zkW_ (its:List Value) (n j:Nat) (u:Value):Obj.mapSeq (·.setIfInBounds j u) { cls:=.type "list",data:=.seq its.toArray n }={ cls:=.type "list",data:=.seq (its.set j u).toArray n }:=by
 simp [Obj.mapSeq]
theorem Inv.lst {pins:Pnn}{σ:St}{H:Hp}{s:Shared}{p:Addr}{xs:List V}(I:Inv X pins σ H s) (h:H p=some (.lst xs)) :
  ∃ (its:List Value) (n:Nat),Vals xs its∧s.heap.get? p=some { cls:=.type "list",data:=.seq its.toArray n }∧xs.length≤sizeLine:=by
 obtain ⟨z,its,n,r,e⟩:=I.hok p _ h
 exact ⟨its,n,r,e,z⟩
theorem Inv.lstUpd {pins:Pnn}{σ:St}{H:Hp}{s:Shared}{p:Addr}{xs ys:List V}{its its':List Value}{n n':Nat}{f:Obj→Obj}(I:Inv X pins σ H s) (h:H p=some (.lst xs))
  (ho:s.heap.get? p=some { cls:=.type "list",data:=.seq its.toArray n }) (hf:f { cls:=.type "list",data:=.seq its.toArray n }={ cls:=.type "list",data:=.seq its'.toArray n' }) (r:Vals ys its') (hz:ys.length≤sizeLine) (t:Nat) :
  Inv X pins σ (upd H p (.lst ys)) { s with heap:=s.heap.update p f,toks:=t }:=by
 have e:(s.heap.update p f).get? p=some { cls:=.type "list",data:=.seq its'.toArray n' }:=by
  rw [Heap.get?_update_self f ho (by rw [hf]<;>rfl),hf]
 refine I.write (x:=p) (e:=p) (by rw [h]; trivial) (.inl rfl) (fun b u hb q=>(Heap.get?_update_other _ _ (Ne.symm hb)).trans q) ⟨_,e⟩ ?_
 exact ⟨hz,its',n',r,e⟩
noncomputable def rSetL:V→V→V→Hp→(Hp→Prop)→Prop:=fun o i v H Q=>∃ p xs k j,o=.ref p∧i=.int k∧H p=some (.lst xs)∧ixN xs.length k=some j∧Q (upd H p (.lst (xs.set j v)))
theorem zmI_:PSet X rSetL:=by
 intro pins s σ H o i v ov iv u Q I ro ri rv h
 obtain ⟨p,xs,k,j,rfl,rfl,hp,hj,q⟩:=h
 cases ro
 obtain ⟨t,rfl⟩:=ri
 obtain ⟨its,n,r,ho,hz⟩:=I.lst hp
 obtain ⟨h1,h2,h3,h4⟩:=zl7_ hj
 have hl:=r.length
 have hn:=line63
 have I':Inv X pins σ (upd H p (.lst (xs.set j v))) { s with heap:=s.heap.update p (Obj.mapSeq (·.setIfInBounds j u)) } :=
  I.lstUpd hp ho (zkW_ its n j u) (r.set rv j) (by rw [List.length_set]; exact hz) s.toks
 by_cases h0:0≤k
 ·have hk:k.toNat=j:=by
   rw [seqIndex_of h0 h4] at h1
   exact Option.some.inj h1
  exact PySem.W.ki_setAt ho h0 (by lia) (by rw [List.size_toArray,← hl]; exact h4) (by rw [hk]; exact ⟨_,I',q⟩)
 ·have hk:(k+(its.toArray.size:Int)).toNat=j:=by
   rw [seqIndex_neg (by lia) h3] at h1
   rw [List.size_toArray,← hl]
   exact Option.some.inj h1
  exact PySem.W.ki_setBack ho (by lia) (by rw [List.size_toArray,← hl]; exact h3) (by lia) (by rw [hk]; exact ⟨_,I',q⟩)
theorem zh2_ (lo hi:Option Int) (n:Nat):(sliceBounds lo hi none n).1=((HT.sIx n 0 lo:Nat):Int)∧(sliceBounds lo hi none n).2.1=((HT.sIx n n hi:Nat):Int)∧(sliceBounds lo hi none n).2.2=1:=by
 refine ⟨?_,?_,rfl⟩
 ·cases lo with
  | none=>simp [sliceBounds,HT.sIx]
  | some i =>
   simp only [sliceBounds,HT.sIx,Option.getD_none,show (1:Int) > 0 by decide,if_true]
   by_cases h:i<0
   ·simp only [h,if_true]<;>lia
   ·simp only [h,if_false]<;>lia
 ·cases hi with
  | none=>simp [sliceBounds,HT.sIx]
  | some i =>
   simp only [sliceBounds,HT.sIx,Option.getD_none,show (1:Int) > 0 by decide,if_true]
   by_cases h:i<0
   ·simp only [h,if_true]<;>lia
   ·simp only [h,if_false]<;>lia
theorem zg2_ (its:List Value) (lo hi:Option Int):slicePick its.toArray lo hi none=((its.drop (HT.sIx its.length 0 lo)).take (HT.sIx its.length its.length hi-HT.sIx its.length 0 lo)).toArray:=by
 obtain ⟨h1,h2,h3⟩:=zh2_ lo hi its.toArray.size
 unfold slicePick
 rw [h1,h2,h3]
 simp only [sliceRange_one,pick_run,List.size_toArray]<;>rfl
noncomputable def rSlL (K:Fgg):V→Option Int→Option Int→Hp→VK→Prop:=fun x lo hi H Q=>∃ a xs,x=.ref a∧SqL K H a xs∧∀ p,H p=none→Q (.ref p) (upd H p (.lst (cutV xs lo hi)))
theorem zpd_:SlR X (rSlL X.K):=by
 intro pins s σ H x v vl vu lo hi sl Q I rx hs pl pu h
 obtain ⟨a,xs,rfl,hx,q⟩:=h
 cases rx
 obtain ⟨its,r,ht,hz⟩:=I.list hx
 have hlen:=r.length
 refine ⟨"list",_,slot_list_getitem.lookup,ht.isList.typeIs,?_⟩
 refine wpAny_getItem_list_slice ht.isList hs pl pu .none (by simp) ?_ (by rw [List.size_toArray]<;>lia)
 rw [zg2_,← hlen]
 refine ⟨.ref s.heap.objs.size,_,I.laid (t':=s.toks) (o:=.lst (cutV xs lo hi)) (fun b ob q=>Heap.get?_push_of_some _ q) (Nat.le_refl _) ?_,rfl,q _ (I.hok.fresh (Nat.le_refl _))⟩
 exact ⟨Nat.le_trans (ziZ_ xs lo hi) hz,_,0,(r.drop (HT.sIx xs.length 0 lo)).take (HT.sIx xs.length xs.length hi-HT.sIx xs.length 0 lo),Heap.get?_push_size _ rfl⟩
noncomputable def flatV:V→Bool
 | .non=>true
 | .bl _=>true
 | .int _=>true
 | .str _=>true
 | _=>false
noncomputable def eqV:V→V→Bool
 | .non,.non=>true
 | .bl a,.bl b=>a == b
 | .bl a,.int b=>(if a then 1 else 0) == b
 | .int a,.bl b=>a == (if b then 1 else 0)
 | .int a,.int b=>a == b
 | .str a,.str b=>a == b
 | _,_=>false
theorem zqk_ {A:Around}{s:Shared}{y x:V}{u v:Value}(ry:RelV y u) (rx:RelV x v) (fy:flatV y=true) (fx:flatV x=true):SeqAt.EqAt A s u v (eqV y x):=by
 cases y with
 | non =>
  cases ry
  cases x with
  | non=>cases rx; exact SeqAt.EqAt.same _
  | bl b=>cases rx; exact SeqAt.EqAt.none_bool b
  | int b=>obtain ⟨t,rfl⟩:=rx; exact SeqAt.EqAt.none_int b t
  | str b=>obtain ⟨t,rfl⟩:=rx; exact SeqAt.EqAt.none_str b t
  | _=>exact absurd (show false=true from fx) Bool.false_ne_true
 | bl a =>
  cases ry
  cases x with
  | non=>cases rx; exact SeqAt.EqAt.bool_none a
  | bl b=>cases rx; exact SeqAt.EqAt.bool_bool a b
  | int b=>obtain ⟨t,rfl⟩:=rx; exact SeqAt.EqAt.bool_int a b t
  | str b=>obtain ⟨t,rfl⟩:=rx; exact SeqAt.EqAt.bool_str a b t
  | _=>exact absurd (show false=true from fx) Bool.false_ne_true
 | int a =>
  obtain ⟨t',rfl⟩:=ry
  cases x with
  | non=>cases rx; exact SeqAt.EqAt.int_none a t'
  | bl b=>cases rx; exact SeqAt.EqAt.int_bool a t' b
  | int b=>obtain ⟨t,rfl⟩:=rx; exact SeqAt.EqAt.int_int a t' b t
  | str b=>obtain ⟨t,rfl⟩:=rx; exact SeqAt.EqAt.int_str a t' b t
  | _=>exact absurd (show false=true from fx) Bool.false_ne_true
 | str a =>
  obtain ⟨t',rfl⟩:=ry
  cases x with
  | non=>cases rx; exact SeqAt.EqAt.str_none a t'
  | bl b=>cases rx; exact SeqAt.EqAt.str_bool a t' b
  | int b=>obtain ⟨t,rfl⟩:=rx; exact SeqAt.EqAt.str_int a t' b t
  | str b=>obtain ⟨t,rfl⟩:=rx; exact SeqAt.EqAt.str_str a t' b t
  | _=>exact absurd (show false=true from fx) Bool.false_ne_true
 | _=>exact absurd (show false=true from fy) Bool.false_ne_true
noncomputable def eqU (x:V) (u:Value):Bool:=match u with
 | .none=>eqV .non x
 | .bool b=>eqV (.bl b) x
 | .int i _=>eqV (.int i) x
 | .str z _=>eqV (.str z) x
 | _=>false
theorem zpf_ {x y:V}{u:Value}(r:RelV y u) (f:flatV y=true):eqU x u=eqV y x:=by
 cases y with
 | non=>cases r; rfl
 | bl b=>cases r; rfl
 | int i=>obtain ⟨t,rfl⟩:=r; rfl
 | str z=>obtain ⟨t,rfl⟩:=r; rfl
 | _=>exact absurd (show false=true from f) Bool.false_ne_true
theorem zj8_ {x:V}:∀ {xs:List V}{us:List Value},Vals xs us→xs.all flatV=true→us.any (eqU x)=xs.any fun y=>eqV y x
 | _,_,.nil,_=>rfl
 | y::xs,u::us,.cons r t,f=>by
  rw [List.all_cons,Bool.and_eq_true] at f
  rw [List.any_cons,List.any_cons,zpf_ r f.1,zj8_ t f.2]
theorem zia_ {A:Around}{s:Shared}{x:V}{v:Value}(rx:RelV x v) (fx:flatV x=true):∀ {xs:List V}{us:List Value},Vals xs us→xs.all flatV=true→∀ u∈us,SeqAt.EqAt A s u v (eqU x u)
 | _,_,.nil,_=>fun u hu=>by cases hu
 | y::xs,u::us,.cons r t,f=>fun u' hu=>by
  rw [List.all_cons,Bool.and_eq_true] at f
  rcases List.mem_cons.mp hu with rfl | hu
  ·rw [zpf_ r f.1]; exact zqk_ r rx f.1 fx
  ·exact zia_ rx fx t f.2 u' hu
noncomputable def inV (x:V) (xs:List V):Bool:=xs.any fun y=>eqV y x
noncomputable def rIn (K:Fgg) (neg:Bool):R2:=fun x y H Q=>∃ p xs,y=.ref p∧(SqL K H p xs∨SqT K H p xs)∧flatV x=true∧xs.all flatV=true∧Q (.bl (if neg then !inV x xs else inV x xs)) H
theorem zlA_:OpR X (compareOp .In) (rIn X.K false):=by
 intro pins s σ H x y v u Q I rx ry h
 obtain ⟨p,xs,rfl,hq,fx,fs,q⟩:=h
 cases ry
 rcases hq with hq | hq
 ·obtain ⟨its,r,pl,hz⟩:=I.list hq
  refine SeqAt.in_listAt (eqU x) pl.isList (fun w hw=>zia_ rx fx r fs w (by simpa using hw)) ⟨.bl _,H,I,rfl,?_⟩
  rw [show its.toArray.any (eqU x)=its.any (eqU x) by simp,zj8_ r fs]
  exact q
 ·obtain ⟨its,r,pl,hz⟩:=I.tuple hq
  refine SeqAt.in_tupleAt (eqU x) pl (fun w hw=>zia_ rx fx r fs w (by simpa using hw)) ⟨.bl _,H,I,rfl,?_⟩
  rw [show its.toArray.any (eqU x)=its.any (eqU x) by simp,zj8_ r fs]
  exact q
theorem zhP_:CallR X (.builtin "len") (fun xs H Q=>∃ p ys,xs=[.ref p]∧(SqL X.K H p ys∨SqT X.K H p ys)∧Q (.int ys.length) H):=by
 intro pins s σ H xs us Q I r h
 obtain ⟨p,ys,rfl,hq,q⟩:=h
 obtain ⟨u,rfl,rx⟩:=vals1 r
 cases rx
 have hn:=line63
 rcases hq with hq | hq
 ·obtain ⟨its,r',pl,hz⟩:=I.list hq
  have hlen:=r'.length
  exact Calls.call_len_list pl.isList (by simp only [List.size_toArray]<;>lia) ⟨.int ys.length,H,I.tok _,⟨s.toks+1,by rw [List.size_toArray,hlen]⟩,q⟩
 ·obtain ⟨its,r',pl,hz⟩:=I.tuple hq
  have hlen:=r'.length
  exact len_tuple pl (by simp only [List.size_toArray]<;>lia) ⟨.int ys.length,H,I.tok _,⟨s.toks+1,by rw [List.size_toArray,hlen]⟩,q⟩
theorem zhS_:CallR X (.builtin "len") (fun xs H Q=>∃ z,xs=[.str z]∧z.length≤sizeLine∧Q (.int z.length) H):=by
 intro pins s σ H xs us Q I r h
 obtain ⟨z,rfl,hz,q⟩:=h
 obtain ⟨u,rfl,t,rfl⟩:=vals1 r
 have hn:=line63
 exact len_str (by lia) ⟨.int z.length,H,I.tok _,⟨_,rfl⟩,q⟩
theorem zhE_:CallR X (.type "list") (fun xs H Q=>∃ p ys,xs=[.ref p]∧(SqL X.K H p ys∨SqT X.K H p ys)∧∀ l,H l=none→Q (.ref l) (upd H l (.lst ys))):=by
 intro pins s σ H xs us Q I r h
 obtain ⟨p,ys,rfl,hq,q⟩:=h
 obtain ⟨u,rfl,rx⟩:=vals1 r
 cases rx
 have fin:∀ (its:List Value),Vals ys its→ys.length≤sizeLine→∀ (h':Heap) (c':Nat),(∀ b o',s.heap.get? b=some o'→h'.get? b=some o') →
   h'.get? s.heap.objs.size=some { cls:=.type "list",dict:=none,data:=.seq its.toArray c',slots:=#[] }→EP X pins σ Q (.ref s.heap.objs.size) { s with heap:=h' }:=fun its r' hz h' c' kp e =>
  ⟨.ref s.heap.objs.size,_,I.laid (t':=s.toks) kp (Nat.le_refl _) (show ObjOk X.prog X.w _ h' _ (.lst ys) from ⟨hz,its,c',r',e⟩),rfl,q _ (I.hok.fresh (Nat.le_refl _))⟩
 rcases hq with hq | hq
 ·obtain ⟨its,r',pl,hz⟩:=I.list hq
  have hlen:=r'.length
  obtain ⟨o,ho,hc,n,hd⟩:=pl.isList
  exact call_list_seq p (.inl rfl) ho hc hd (fun h' c' kp e=>fin its r' hz h' c' kp e) (by simp only [List.size_toArray]<;>lia)
 ·obtain ⟨its,r',pl,hz⟩:=I.tuple hq
  have hlen:=r'.length
  obtain ⟨o,ho,hc,n,hd⟩:=pl
  exact call_list_seq p (.inr rfl) ho hc hd (fun h' c' kp e=>fin its r' hz h' c' kp e) (by simp only [List.size_toArray]<;>lia)
noncomputable def tyV (K:Fgg) (T:String) (x:V) (H:Hp):Prop:=match x with
 | .str _=>T = "str"
 | .int _=>T = "int"
 | .ref p=>(T = "list" ∧ ∃ xs,SqL K H p xs)∨(T = "tuple" ∧ ∃ o,K.lookup p=some o∧o.cls=.type "tuple" ∧ o.dict=none) ∨
   (T = "dict" ∧ ((∃ kvs,H p=some (.dK kvs))∨∃ kvs,H p=some (.dT kvs)))∨(T = "set" ∧ ∃ S n,H p=some (.set S n))
 | _=>False
theorem zqf_ {pins:Pnn}{σ:St}{H:Hp}{s:Shared}{T:String}{x:V}{v:Value}(I:Inv X pins σ H s) (r:RelV x v) (ty:tyV X.K T x H) :
  s.TypeIs v T∧∀ a,v=.ref a→∃ ob,s.heap.get? a=some ob∧ob.dict=none:=by
 cases x with
 | str z =>
  obtain ⟨t,rfl⟩:=r
  cases (show T = "str" from ty)
  exact ⟨typeIs_str s z t,fun _ e=>nomatch e⟩
 | int i =>
  obtain ⟨t,rfl⟩:=r
  cases (show T = "int" from ty)
  exact ⟨typeIs_int s i t,fun _ e=>nomatch e⟩
 | ref p =>
  cases r
  rcases ty with ⟨rfl,xs,hq⟩ | ⟨rfl,o,hk,hc,hd⟩ | ⟨rfl,hk⟩ | ⟨rfl,S,n,hk⟩
  ·obtain ⟨its,_,pl,_⟩:=I.list hq
   refine ⟨pl.isList.typeIs,fun a e=>?_⟩
   cases e
   obtain ⟨o,n,e,c,hd,_⟩:=pl
   exact ⟨o,e,hd⟩
  ·refine ⟨⟨o,I.kIn p o hk,hc⟩,fun a e=>?_⟩
   cases e
   exact ⟨o,I.kIn _ o hk,hd⟩
  ·have z:∃ o,s.heap.get? p=some o∧o.ExactDict:=by
    rcases hk with ⟨kvs,hk⟩ | ⟨kvs,hk⟩
    ·obtain ⟨_,_,_,_,o,_,_,e,ex,_⟩:=I.hok p _ hk
     exact ⟨o,e,ex⟩
    ·obtain ⟨_,_,_,_,o,_,_,e,ex,_⟩:=I.hok p _ hk
     exact ⟨o,e,ex⟩
   obtain ⟨o,e,ex⟩:=z
   refine ⟨⟨o,e,ex.1⟩,fun a e2=>?_⟩
   cases e2
   exact ⟨o,e,ex.2.1⟩
  ·obtain ⟨o,_,_,_,e,ex,_⟩:=I.hok p _ hk
   refine ⟨⟨o,e,ex.1⟩,fun a e2=>?_⟩
   cases e2
   exact ⟨o,e,ex.2.1⟩
 | _=>exact False.elim ty
noncomputable def tBM (K:Fgg) (T:String) (r:V→List V→Hp→VK→Prop) (to:TE) (t:TA):TE:=fun σ H Q=>to σ H fun x H1=>tyV K T x H1∧t σ H1 fun xs H2=>r x xs H2 Q
variable {o e:Expr}{es:List Expr}{to:TE}{t:TA}{name:Str}{apos cpos:Pos}{T id:String}{r:V→List V→Hp→VK→Prop}
theorem zm9_ (pa:PlainAttrs T) (slot:Slot T name id) (hty:typeOf (.builtin id)=pure (.type "method_descriptor")) (hm:MtR X id r) (ho:PE X o to) (ha:PA X (e::es) t)
  (hbase:attributeBase o name X.env (eval o X.env)=eval o X.env:=by rfl)
  (hfew:((backTo cpos (starEach (e::es) X.env)).all (fun x=>!x.1) && (backToKw cpos (keywordEach [] X.env)).all (fun x=>x.1.isSome)
   && decide ((e::es).length+([]:List Keyword).length+(if ([]:List Keyword).isEmpty then 0 else 1)<30))=true:=by rfl)
  (hline:(apos.endLine == cpos.line)=true:=by rfl) (hs:starEach (e::es) X.env=(false,eval e X.env)::starEach es X.env:=by rfl) (hplain:(backTo cpos (starEach es X.env)).any (·.1)=false:=by rfl) :
  PE X (.Call (.Attribute o name apos) (e::es) [] cpos) (tBM X.K T r to t):=by
 intro pins s σ H Q I h
 refine wpAny_Call_method_late hbase hfew hline rfl (thn (ho pins s σ H _ I h) fun v s1 hq_=>?_)
 obtain ⟨x,H1,I1,r1,ty,q1⟩:=hq_
 obtain ⟨h1,h2⟩:=zqf_ I1 r1 ty
 refine ⟨T,id,pa,slot,hty,h1,h2,?_⟩
 have hA:=ha cpos pins s1 σ H1 _ I1 q1
 rw [hs] at hA ⊢
 refine Calls.callWith_builtin (by show (false || (backTo cpos (starEach es X.env)).any (·.1))=false; rw [hplain]<;>rfl) (Calls.evalArgs_plain ?_)
 exact thn hA fun us s2 ⟨vs,H2,I2,r2,q2⟩=>hm pins s2 σ H2 x vs v us Q I2 r1 r2 q2
end
end L2
namespace L2
open PySem PySem.Spec PyProof.Rows
noncomputable def MtM (X:Cx) (id:String) (r:V→List V→Hp→VK→Prop):Prop :=
 ∀ (pins:Pnn) (s:Shared) (σ:St) (H:Hp) (x:V) (xs:List V) (v:Value) (us:List Value) (Q:VK),Inv X pins σ H s→RelV x v→Vals xs us→r x xs H Q →
  wpAny (model X.prog X.w) X.A (call (.builtin id) (v::us)) (EP X pins σ Q) X.xe s
theorem Vals.one {x:V}{us:List Value}(h:Vals [x] us):∃ u,us=[u]∧RelV x u:=by
 cases h with
 | cons r t=>cases t; exact ⟨_,rfl,r⟩
theorem Vals.dropLast {xs:List V}{us:List Value}(h:Vals xs us):Vals xs.dropLast us.dropLast:=by
 induction h with
 | nil=>exact .nil
 | cons r t ih =>
  cases t with
  | nil=>exact .nil
  | cons q t'=>exact .cons r ih
theorem Vals.rep {xs:List V}{us:List Value}(h:Vals xs us):∀ k:Nat,Vals (List.replicate k xs).flatten (List.replicate k us).flatten
 | 0=>.nil
 | k+1=>by
  rw [List.replicate_succ,List.replicate_succ,List.flatten_cons,List.flatten_cons]
  exact Vals.append h (Vals.rep h k)
theorem zoJ_ {α:Type}(l:List α):l.eraseIdx (l.length-1)=l.dropLast:=by
 induction l with
 | nil=>rfl
 | cons a r ih =>
  cases r with
  | nil=>rfl
  | cons b r =>
   have e:(a::b::r).length-1=((b::r).length-1)+1:=by
    have h1:(a::b::r).length=r.length+2:=rfl
    have h2:(b::r).length=r.length+1:=rfl
    lia
   rw [e,List.eraseIdx_cons_succ,ih]
   all_goals rfl
theorem ziF_ (its:List Value):∀ (k:Nat) (acc:List Value),
  List.foldl (fun x1 x2=>x1++x2) acc.toArray (List.replicate k its.toArray)=(acc++(List.replicate k its).flatten).toArray
 | 0,acc=>by simp
 | k+1,acc=>by
  have e:acc.toArray++its.toArray=(acc++its).toArray:=by simp
  have e2:(acc++its)++(List.replicate k its).flatten=acc++(List.replicate (k+1) its).flatten:=by
   rw [List.replicate_succ,List.flatten_cons,List.append_assoc]
  rw [← e2,← ziF_ its k (acc++its),← e,List.replicate_succ,List.foldl_cons]
section
variable {X:Cx}{pins:Pnn}{σ:St}{H:Hp}{s:Shared}{l b:Addr}{xs ys zs:List V}
theorem Inv.lset {its its':List Value}{n:Nat}{f:Array Value→Array Value}{t':Nat}(I:Inv X pins σ H s) (hH:H l=some (.lst xs))
  (e:s.heap.get? l=some { cls:=.type "list",data:=.seq its.toArray n }) (hf:f its.toArray=its'.toArray) (hv:Vals ys its') (hz:ys.length≤sizeLine) :
  Inv X pins σ (upd H l (.lst ys)) { s with heap:=s.heap.update l (Obj.mapSeq f),toks:=t' }:=by
 have q:=PySem.IsL.update e f
 rw [hf] at q
 refine I.write (x:=l) (e:=l) (by rw [hH]; exact trivial) (.inl rfl) (fun b' u hb hu=>(Heap.get?_update_other s.heap (Obj.mapSeq f) (Ne.symm hb)).trans hu) ⟨_,q⟩ ?_
 exact ⟨hz,its',_,hv,q⟩
theorem Inv.lnew {its:List Value}{t':Nat}(I:Inv X pins σ H s) (hv:Vals ys its) (hz:ys.length≤sizeLine) :
  Inv X pins σ (upd H s.heap.objs.size (.lst ys)) { s with heap:=s.heap.push { cls:=.type "list",data:=.seq its.toArray },toks:=t' } :=
 I.laid (fun _ _ q=>Heap.get?_push_of_some _ q) (Nat.le_refl _) ⟨hz,its,0,hv,Heap.get?_push_size _ rfl⟩
theorem Inv.fresh (I:Inv X pins σ H s):H s.heap.objs.size=none:=I.hok.fresh (Nat.le_refl _)
theorem Inv.lstM (I:Inv X pins σ H s) (hH:H l=some (.lst xs)):xs.length≤sizeLine∧∃ (its:List Value) (n:Nat),Vals xs its∧xs.length=its.length∧s.heap.get? l=some { cls:=.type "list",data:=.seq its.toArray n }:=by
 obtain ⟨z,its,n,r,e⟩:=I.hok l _ hH
 exact ⟨z,its,n,r,r.length,e⟩
theorem notLongL {n:Nat}(h:n≤sizeLine):Builtin.List.listTooLong n=false:=by
 unfold Builtin.List.listTooLong
 exact decide_eq_false (by lia)
end
section
variable {X:Cx}
noncomputable def rAppend:V→List V→Hp→VK→Prop:=fun x vs H Q=>∃ l xs y,x=.ref l∧vs=[y]∧H l=some (.lst xs)∧xs.length<sizeLine∧Q .non (upd H l (.lst (xs++[y])))
theorem zef_:MtM X "list.append" rAppend:=by
 intro pins s σ H x vs v us Q I rx rv h
 obtain ⟨l,xs,y,rfl,rfl,hH,hz,q⟩:=h
 cases rx
 obtain ⟨u,rfl,ru⟩:=rv.one
 obtain ⟨z,its,n,r,hl,e⟩:=I.lstM hH
 refine call_meets F.slot_list_append ⟨_,e,rfl⟩ F.entry_list_append (F.args_list_append_2 _ _) (PySem.list_append l its.toArray n u (by rw [List.size_toArray]; lia)) ⟨e,?_⟩
 refine ⟨.non,_,I.lset (its':=its++[u]) hH e (by simp) (r.append (.cons ru .nil)) ?_,rfl,q⟩
 rw [List.length_append,List.length_singleton]
 lia
noncomputable def rExtend:V→List V→Hp→VK→Prop:=fun x vs H Q=>∃ l b xs zs,x=.ref l∧vs=[.ref b]∧H l=some (.lst xs)∧H b=some (.lst zs)∧xs.length+zs.length≤sizeLine∧Q .non (upd H l (.lst (xs++zs)))
theorem zii_:MtM X "list.extend" rExtend:=by
 intro pins s σ H x vs v us Q I rx rv h
 obtain ⟨l,b,xs,zs,rfl,rfl,hH,hB,hz,q⟩:=h
 cases rx
 obtain ⟨u,rfl,ru⟩:=rv.one
 cases ru
 obtain ⟨z,its,n,r,hl,e⟩:=I.lstM hH
 obtain ⟨z2,its2,n2,r2,hl2,e2⟩:=I.lstM hB
 have hsz:its.toArray.size+its2.toArray.size≤sizeLine:=by rw [List.size_toArray,List.size_toArray]; lia
 have hlong:¬ (!its.toArray.isEmpty && Builtin.List.listTooLong (its.toArray.size+its2.toArray.size))=true:=by
  rw [notLongL hsz,Bool.and_false]
  exact Bool.false_ne_true
 refine call_meets F.slot_list_extend ⟨_,e,rfl⟩ F.entry_list_extend (F.args_list_extend_2 _ _)
  (AutoSeq1.list_extend_list_list_0 l its.toArray n b its2.toArray n2 hlong (by rw [List.size_toArray]; lia) (by lia)) ⟨e,e2,?_⟩
 refine ⟨.non,_,I.lset (its':=its++its2) hH e (by simp) (r.append r2) ?_,rfl,q⟩
 rw [List.length_append]
 lia
noncomputable def rCat:R2:=fun x y H Q=>∃ l b xs zs,x=.ref l∧y=.ref b∧H l=some (.lst xs)∧H b=some (.lst zs)∧xs.length+zs.length≤sizeLine∧∀ p,H p=none→Q (.ref p) (upd H p (.lst (xs++zs)))
theorem zqb_:OpR X (binaryOp .Add) rCat:=by
 intro pins s σ H x y v u Q I rx ry h
 obtain ⟨l,b,xs,zs,rfl,rfl,hH,hB,hz,q⟩:=h
 cases rx
 cases ry
 obtain ⟨z,its,n,r,hl,e⟩:=I.lstM hH
 obtain ⟨z2,its2,n2,r2,hl2,e2⟩:=I.lstM hB
 refine PySem.P.add_list e e2 ?_ (by rw [List.size_toArray,List.size_toArray]; lia)
 have ea:its.toArray++its2.toArray=(its++its2).toArray:=by simp
 rw [ea]
 exact ⟨.ref _,_,I.lnew (t':=s.toks) (r.append r2) (by rw [List.length_append]; lia),rfl,q _ I.fresh⟩
noncomputable def rRep:R2:=fun x y H Q=>∃ l k xs,x=.ref l∧y=.int k∧H l=some (.lst xs) ∧ -(2 ^ 63)≤k∧k<2 ^ 63∧xs.length*k.toNat≤sizeLine ∧
 ∀ p,H p=none→Q (.ref p) (upd H p (.lst (List.replicate k.toNat xs).flatten))
theorem zmo_ {α:Type}(xs:List α) (k:Nat):(List.replicate k xs).flatten.length=k*xs.length:=by
 induction k with
 | zero=>simp
 | succ k ih=>rw [List.replicate_succ,List.flatten_cons,List.length_append,ih,Nat.succ_mul,Nat.add_comm]
theorem zqB_:OpR X (binaryOp .Mult) rRep:=by
 intro pins s σ H x y v u Q I rx ry h
 obtain ⟨l,k,xs,rfl,rfl,hH,h1,h2,hz,q⟩:=h
 cases rx
 obtain ⟨t,rfl⟩:=ry
 obtain ⟨z,its,n,r,hl,e⟩:=I.lstM hH
 have hlen:its.toArray.size*k.toNat≤sizeLine:=by rw [List.size_toArray,← hl]; exact hz
 have hcap:¬ its.toArray.size*k.toNat > (2 ^ 63-1) / 8:=by
  have:(sizeLine:Nat)≤(2 ^ 63-1) / 8:=by decide
  lia
 have hfit:¬ (!Builtin.List.listFitsIndex k)=true:=by
  rw [fitsIndex_both h1 h2]
  exact Bool.false_ne_true
 have hlong:¬ Builtin.List.listTooLong (its.toArray.size*k.toNat)=true:=by
  rw [notLongL hlen]
  exact Bool.false_ne_true
 have hnew:List.foldl (fun x1 x2=>x1++x2) #[] (List.replicate (if its.toArray.isEmpty=true then 0 else k.toNat) its.toArray)=(List.replicate k.toNat its).flatten.toArray:=by
  have f0:∀ m:Nat,List.foldl (fun x1 x2=>x1++x2) #[] (List.replicate m its.toArray)=(List.replicate m its).flatten.toArray:=fun m=>by
   have:=ziF_ its m []
   rw [List.nil_append] at this
   exact this
  rw [f0]
  cases its with
  | nil=>simp
  | cons a r'=>rw [if_neg (by simp)]
 refine wpAny_binaryOp_repeat_ref (T := "list") (U := "int") (by decide) ⟨_,e,rfl⟩ (fun s'=>typeIs_int s' k t) noFill_list_mul F.fills_int_mul F.slot_int_rmul repeat_list F.slot_int_index.lookup
  (call_meets F.slot_int_rmul (typeIs_int s k t) F.entry_int_rmul (F.args_int_rmul_2 _ _) (int___rmul___int_list k t l its.toArray n)
   ⟨e,rfl,⟨_,e,rfl⟩,call_meets F.slot_list_mul ⟨_,e,rfl⟩ F.entry_list_mul (F.args_list_mul_2 _ _) (AutoListH.list___mul___list_int_3 l its.toArray n k t hfit hcap hlong) ⟨e,?_⟩⟩)
 rw [hnew]
 exact ⟨.ref _,_,I.lnew (t':=s.toks) (r.rep k.toNat) (by rw [zmo_,Nat.mul_comm]; exact hz),rfl,q _ I.fresh⟩
end
section
variable {prog:Program}{w:World}{A:Around}{E:Value→Shared→Prop}{s:Shared}
end
section
variable {X:Cx}
end
end L2
namespace Att
open PySem PySem.W PySem.Calls PyProof.Rows
theorem zfR_ {P:Params}{h:Heap}:∀ (ns:List Int) (vs:List Value),WellAll P h vs (ns.map WData.int)→IntsAre vs ns:=by
 intro ns
 induction ns with
 | nil =>
  intro vs w
  rw [List.map_nil] at w
  cases w
  exact .nil
 | cons n ns ih =>
  intro vs w
  rw [List.map_cons] at w
  cases w with
  | cons a b =>
   cases a
   exact .cons _ _ (ih _ b)
theorem zly_ {l:OpenLaw}{n:Nat}(hn:l.most=some n) {P:Params}{h:Heap}{args:List WData}{vals:List Value}
  (hpre:l.row.toRowW.claim.pre args=true) (hwl:WellAll P h vals args) :
  ∃ a vs ns,vals=[Value.ref a]∧args=[WData.list (ns.map WData.int)]∧h.get? a=some { cls:=.type "list",data:=.seq vs.toArray }∧IntsAre vs ns∧ns.length≤n:=by
 have hsh:WShape.hasAll [] args [.list .int]=true:=(pre_splitW hpre).1
 have hc:l.pre.holds [] { args:=args }=true:=(pre_splitW hpre).2
 obtain ⟨d,r,rfl,h1,h2⟩:=hasAllW_cons hsh
 obtain rfl:=hasAllW_nil h2
 obtain ⟨xs,rfl,h3⟩:=hasW_list h1
 obtain ⟨ns,rfl⟩:=items_int h3
 have hlen:ns.length≤n:=by
  unfold OpenLaw.pre at hc
  have h4:(WTm.not (.lt (.lit (.int (n:Int))) (.len (.arg 0)))).holds [] { args:=[.list (ns.map .int)] }=true:=by
   have h4:=(holds_andW hc).1
   rw [hn] at h4
   exact h4
  have h5:=condW_of h4 (w_not (w_lt w_lit (w_len_list (w_arg rfl))))
  rw [List.length_map] at h5
  refine Nat.le_of_not_lt fun q=>?_
  have q':(n:Int)<((ns.length:Nat):Int):=by lia
  first
   | (rw [decide_eq_true q'] at h5; exact absurd h5 (by decide))
   | (simp at h5; lia)
 cases hwl with
 | cons w1 w2 =>
  cases w2
  cases w1 with
  | list ho hall=>exact ⟨_,_,ns,rfl,rfl,ho,zfR_ ns _ hall,hlen⟩
theorem zlf_ (l:OpenLaw) (args:List WData):l.row.toRowW.claim.post args (.bool true) args=true :=
 postW_of (r:=l.row.toRowW) (X:=(true == true))
  (show WShape.has [] (.bool true) .bool=true by first | rfl | decide | simp [WShape.has,WShape.arms,WShape.armsAll])
  (show (WTm.eq .res (.lit (.bool true))).value [] { args:=args,res:=some (.bool true),after:=args }=some (.bool (true == true)) from w_eq_bool (w_res rfl) w_lit) rfl
section
variable {prog:Program}{w:World}{A:Around}{E:Value→Shared→Prop}{s:Shared}{K:Frag}
end
end Att
namespace L2
open PySem PySem.Spec PyProof.Rows
theorem ziz_:∀ {vs:List Value}{ns:List Int},IntsAre vs ns→Vals (ns.map V.int) vs
 | _,_,.nil=>.nil
 | _,_,.cons n t h=>.cons ⟨t,rfl⟩ (ziz_ h)
noncomputable def Only (H:Hp):Prop:=∀ b,H b=none∨∃ o xs,H b=some (.frz o (.lst xs))
theorem zmQ_ {P:Program}{w:World}{K:Fgg}{mg mb:Str→Option Value}{CX:CXT}{k:Nat}{fa a:Addr}{fd:FuncData}{x:Str}{sp:Sp}{s₁:Shared}{vs:List Value}{ns:List Int}
  (KX:K.In s₁.heap) (hns:s₁.heap.Ns mainGlobals mg) (hb:s₁.heap.Ns builtinsNs mb) (hbb:∀ x:Str,x ≠ "__name__" → mb x=bootBuiltins x) (hlim:s₁.heap.NoLimit) (hg:s₁.gens=#[])
  (ha:s₁.heap.get? a=some { cls:=.type "list",data:=.seq vs.toArray }) (hi:IntsAre vs ns) (hl:ns.length≤sizeLine) (hr:Room k callerA)
  (F:∀ base:Heap,K.In base→base.Ns mainGlobals mg→FnOk P w K mg base CX k fa fd [x] sp) (hbind:∀ (s:Shared) (u:Value),BindsTo s fd ⟨[u],[]⟩ [(x,u)])
  (hsp:∀ H:Hp,Only H→SqL K H a (ns.map V.int)→sp [.ref a] H (fun v _=>v=.bl true) fun _ _ _=>False)
  (hCX:∀ H e s',CX [] H s₁ (fun _ _ _=>False) e s'→False) :
  codeAny (model P w) callerA (.call (.ref fa) ⟨[.ref a],[]⟩) (fun r s'=>r=.ok (.ret (.bool true))∧OldK s₁.heap s'.heap∧s'.os=s₁.os∧AllBare s'.gens) s₁:=by
 have rv:=ziz_ hi
 have lenV:=hi.length
 have core:∀ H:Hp,Only H→SqL K H a (ns.map V.int)→HOk P w H s₁.heap→(∀ b,H b≠none→b=a)→(H a≠none→K.lookup a=none) →
   codeAny (model P w) callerA (.call (.ref fa) ⟨[.ref a],[]⟩) (fun r s'=>r=.ok (.ret (.bool true))∧OldK s₁.heap s'.heap∧s'.os=s₁.os∧AllBare s'.gens) s₁:=by
  intro H hO hS hok hA hK
  have base_of:∀ {b:Addr}{o:Obj},s₁.heap.get? b=some o→H b=none→(hidT s₁.heap H).get? b=some o:=fun e n=>zm5_ e n
  have noA:∀ {b:Addr}{o:Obj}{es:Array DictEntry}{ep:Nat},s₁.heap.get? b=some o→o.data=.dict es ep→H b=none:=fun {b o es ep} e d=>by
   cases q:H b with
   | none=>rfl
   | some u =>
    have e':b=a:=hA b (by rw [q]; simp)
    subst e'
    rw [ha] at e; cases e
    have d':Data.seq vs.toArray _=Data.dict es ep:=d
    cases d'
  have nsK:∀ {b:Addr}{m:Str→Option Value},s₁.heap.Ns b m→(hidT s₁.heap H).Ns b m:=fun {b m} ⟨o,es,ep,e,d,r⟩=>⟨o,es,ep,base_of e (noA e d),d,r⟩
  have hKb:K.In (hidT s₁.heap H):=fun b o e=>base_of (KX b o e) (by
   cases q:H b with
   | none=>rfl
   | some u =>
    have e':b=a:=hA b (by rw [q]; simp)
    subst e'
    rw [hK (by rw [q]; simp)] at e; cases e)
  have hM:Mod K mg (hidT s₁.heap H):=⟨hKb,nsK hns,⟨mb,nsK hb,hbb⟩,let ⟨mc,h1,h2⟩:=hlim; ⟨mc,nsK h1,h2⟩⟩
  have e0:Env0 P w K mg (hidT s₁.heap H) callerA [] s₁ H:=⟨rfl,hM,fun b o e=>zo1_ e,Nat.le_of_eq (zlP_ _ _),trivial,fun b hb=>absurd (show b∈([]:List Addr) from hb) (by simp),hok,.of_eq hg⟩
  refine codeAny_mono ((F _ hKb (nsK hns)).run callerA [] s₁ H ⟨[.ref a],[]⟩ [.ref a] [.ref a] _ _ hr e0 (hbind s₁ (.ref a)) (.cons rfl .nil) (hsp H hO hS)) fun r s' h=>?_
  cases r with
  | error e=>exact (hCX H e s' h).elim
  | ok fl =>
   cases fl with
   | next=>exact False.elim h
   | brk=>exact False.elim h
   | cont=>exact False.elim h
   | ret u =>
    obtain ⟨v,H',os,bare,un,hok',r',q⟩:=h
    have q':v=.bl true:=q
    subst q'
    obtain rfl:u=Value.bool true:=r'
    refine ⟨rfl,OldK.of_keep fun b o e=>?_,os,bare⟩
    cases q:H b with
    | none=>exact un.keep b o e q (by intro z; exact absurd (show b∈([]:List Addr) from z) (by simp)) (by simp)
    | some u =>
     rcases hO b with z | ⟨ob,xs,z⟩
     ·rw [q] at z; cases z
     ·have z2:=un.frzs b ob _ z
      obtain ⟨e1,_⟩:=hok b _ z
      obtain ⟨e2,_⟩:=hok' b _ z2
      rw [e] at e1; cases e1
      exact e2
 cases hk:K.lookup a with
 | some o =>
  have e:=KX a o hk
  rw [ha] at e
  cases e
  refine core (fun _=>none) (fun _=>.inl rfl) (.inr ⟨_,vs.toArray,_,hk,rfl,rfl,rfl,by rw [List.size_toArray,lenV]; exact hl,by simpa using rv⟩) (fun b u z=>by have z':(none:Option HO)=some u:=z; cases z') (fun b z=>absurd rfl z) fun z=>absurd rfl z
 | none =>
  refine core (fun b=>if b=a then some (.frz { cls:=.type "list",data:=.seq vs.toArray } (.lst (ns.map V.int))) else none) (fun b=>?_) (.inl (.inr ⟨{ cls:=.type "list",data:=.seq vs.toArray },if_pos rfl⟩)) (fun b u z=>?_) (fun b z=>?_) fun _=>hk
  ·by_cases hb:b=a
   ·exact .inr ⟨_,_,if_pos hb⟩
   ·exact .inl (if_neg hb)
  ·by_cases hb:b=a
   ·have z':=(if_pos hb).symm.trans z
    cases z'
    subst hb
    exact ⟨ha,by rw [List.length_map]; exact hl,vs,_,rv,ha⟩
   ·have z':=(if_neg hb).symm.trans z
    cases z'
  ·by_cases hb:b=a
   ·exact hb
   ·exact absurd (if_neg hb) z
end L2
namespace L2
open PySem PySem.Spec PyProof.Rows
end L2
namespace L2
open PySem PySem.Spec PyProof.Rows
noncomputable def inClass (s:Stmt) (j:Nat):Stmt:=match s with
 | .ClassDef _ _ _ body _ _ _ _ _ _ _=>body.getD j (.Pass ⟨0,0,0,0⟩)
 | _=>.Pass ⟨0,0,0,0⟩
noncomputable def defArgs (s:Stmt):Arguments:=match s with
 | .FunctionDef _ a _ _ _ _ _ _ _ _=>a
 | _=>{ posonlyargs:=[],args:=[],vararg:=none,kwonlyargs:=[],kw_defaults:=[],kwarg:=none,defaults:=[] }
noncomputable def defBody (s:Stmt):List Stmt:=match s with
 | .FunctionDef _ _ b _ _ _ _ _ _ _=>b
 | _=>[]
noncomputable def defScope (s:Stmt):Scope:=match s with
 | .FunctionDef _ _ _ _ _ _ sc _ _ _=>sc
 | _=>{ kind:=.function,names:=[],isGenerator:=false,isCoroutine:=false }
noncomputable abbrev CX0:CXT:=fun _ _ _ _ _ _=>False
noncomputable abbrev E0:XK:=fun _ _ _=>False
theorem pass0 {X:Cx}:Passes CX0 X E0:=fun _ _ _ _ _ _ _ h=>h.elim
structure Fun (K:Fgg) (x qual:Str) (st:Stmt) (f:Addr) (fd:FuncData):Prop where
 ex:∃ (oc:Value) (od:Option Addr) (kV doc pm:Value) (an:Option Addr) (cdv ct:Value) (osl:Array (Option Value)),
  fd=PySem.W.fnOf x qual (defArgs st) (defBody st) (defScope st) .none kV doc pm an cdv ct∧K.lookup f=some ⟨oc,od,.func fd,osl⟩∧PySem.W.codeIn K cdv qual=true
 kp:PySem.W.keepIn K (.ref f)=true
section
variable {P:Program}{w:World}{K:Fgg}{mg:Str→Option Value}{base:Heap}
theorem Fun.ok {x qual:Str}{st:Stmt}{f:Addr}{fd:FuncData}{N ps:List Str}{k:Nat}{sp:Sp}(F:Fun K x qual st f fd) (S:FnScope N ps (defScope st)) (len:∀ vs H Q E,sp vs H Q E→vs.length=ps.length)
  (hbody:∀ (cdv:Value) (A:Around) (outer:List Env) (s:Shared) (H:Hp) (vs:List V) (Q:VK) (E:XK),Room k (A.deeper (envOfC qual (defScope st) s.heap.objs.size f cdv))→sp vs H Q E →
   ∃ t,PSs (cxOf CX0 P w K mg base N qual (defScope st) f cdv A outer s H E).nox (defBody st) t∧t { nx:=fun _ H'=>Q .non H',rt:=Q } (start N vs) H):FnOk P w K mg base CX0 (k+1) f fd ps sp:=by
 obtain ⟨oc,od,kV,doc,pm,an,cdv,ct,osl,rfl,lk,hcd⟩:=F.ex
 refine fn_of lk hcd S len fun A outer s H vs Q E hr hsp=>?_
 obtain ⟨t,h,q⟩:=hbody cdv A outer s H vs Q E hr hsp
 exact ⟨t,h.nox,q⟩
theorem Fun.binds {x qual:Str}{st:Stmt}{f:Addr}{fd:FuncData}{ps:List Str}(F:Fun K x qual st f fd)
  (h:∀ (kV doc pm:Value) (an:Option Addr) (cdv ct:Value) (us:List Value),us.length=ps.length→bindArgs (PySem.W.fnOf x qual (defArgs st) (defBody st) (defScope st) .none kV doc pm an cdv ct) ⟨us,[]⟩=pure (ps.zip us)):Binds K fd ps []:=by
 obtain ⟨oc,od,kV,doc,pm,an,cdv,ct,osl,rfl,lk,hcd⟩:=F.ex
 exact .all (h kV doc pm an cdv ct)
theorem za1_ {x qual:Str}{st:Stmt}{f:Addr}{oc:Value}{od an:Option Addr}{osl:Array (Option Value)}{kV doc pm cdv ct:Value}(l:K.lookup f=some ⟨oc,od,.func (PySem.W.fnOf x qual (defArgs st) (defBody st) (defScope st) .none kV doc pm an cdv ct),osl⟩)
  (c:PySem.W.codeIn K cdv qual=true) (k:PySem.W.keepIn K (.ref f)=true):Fun K x qual st f (PySem.W.fnOf x qual (defArgs st) (defBody st) (defScope st) .none kV doc pm an cdv ct):=⟨⟨oc,od,kV,doc,pm,an,cdv,ct,osl,rfl,l,c⟩,k⟩
end
section
variable {X:Cx}
end
noncomputable def Same (H H':Hp):Prop:=∀ b o,H b=some o→H' b=some o
theorem Same.refl (H:Hp):Same H H:=fun _ _ h=>h
theorem Same.trans {H H1 H2:Hp}(a:Same H H1) (b:Same H1 H2):Same H H2:=fun c o h=>b c o (a c o h)
theorem Same.free {H H':Hp}(e:Same H H') {l:Addr}(h:H' l=Option.none):H l=Option.none:=by
 cases q:H l with
 | none=>rfl
 | some o =>
  rw [e l o q] at h
  cases h
theorem Same.seq {K:Fgg}{H H':Hp}{a:Addr}{xs:List V}(e:Same H H') (h:SqL K H a xs):SqL K H' a xs:=by
 rcases h with (h | ⟨o,h⟩) | h
 ·exact .inl (.inl (e _ _ h))
 ·exact .inl (.inr ⟨o,e _ _ h⟩)
 ·exact .inr h
end L2
namespace L2
open PySem PySem.Spec PyProof.Rows
noncomputable def Itp (n:Nat) (f:Nat→V):It:=⟨fun i _=>i<n,fun i H x H'=>H'=H∧x=f i,fun i _=>n≤i⟩
noncomputable def ownTups:List String:=["enumerate", "zip", "dict_itemiterator", "dict_reverseitemiterator", "odict_iterator", "itertools.zip_longest", "itertools.pairwise"]
theorem zin_ {P:Program}{w:World}{K:Fgg}{tg:Expr}{it:Addr}{n:Nat}{f:Nat→V}{Pw:Nat→Value→Prop}{St:Nat→Heap→Prop}
  (W:∀ A:Around,A.handled=none→Walks P w A it [it] [it] n Pw St) (hv:∀ i v,i<n→Pw i v→RelV (f i) v)
  (ho:∀ i h,St i h→∃ o nm vs,h.get? it=some o∧o.cls=.type nm∧o.data=.fields vs∧ownTups.contains nm=false)
  (hself:∀ (A:Around) (i:Nat) (s:Shared) (Q:Value→Shared→Prop) (E:Value→Shared→Prop),St i s.heap→Q (.ref it) s→wpAny (model P w) A (pyIter (.ref it)) Q E s)
  (hkeep:∀ i h h',St i h→(∀ b∈[it],∀ o,h.get? b=some o→h'.get? b=some o)→St i h') :
  Turn P w K tg (Itp n f) [it] it (fun i h=>i≤n∧St i h) where
 mem:=by simp
 obj:=fun i h st b hb=>by
  have e:b=it:=by simpa using hb
  subst e
  obtain ⟨o,nm,vs,e,c,d,_⟩:=ho i h st.2
  exact ⟨o,e,fun v z=>by rw [d] at z; cases z⟩
 keep:=fun i h h' st k=>⟨st.1,hkeep i h h' st.2 k⟩
 item:=by
  intro X hP hw hK hc i pins s σ H E I hf st hg
  subst hP hw hK
  obtain ⟨f0,f1,f2,f3,f4,f5⟩:=hf it (by simp)
  have hi:i<n:=hg
  refine (W X.A (I.ok.hd hc)).item i s _ _ hi st.2 fun v h' tk hv' st' kk=>?_
  have I1:Inv X pins σ H { s with heap:=h',toks:=tk }:=I.turned (fun b o hb e=>kk b o (by simpa using hb) e) f0 f1 f3 f4 f5
  obtain ⟨o,nm,vs,e,c,d,hn⟩:=ho _ _ st'
  exact ⟨_,rfl,zpA_ (s:={ s with heap:=h',toks:=tk }) (n:=nm) e c d hn ⟨f i,H,I1,hv i v hi hv',⟨rfl,rfl⟩,⟨hi,st'⟩,fun b hb=>(hf b hb).1⟩⟩
 done:=by
  intro X hP hw hK hc i pins s σ H E I hf st hg
  subst hP hw hK
  obtain ⟨f0,f1,f2,f3,f4,f5⟩:=hf it (by simp)
  have hi:n≤i:=hg
  have e:i=n:=Nat.le_antisymm st.1 hi
  subst e
  exact (W X.A (I.ok.hd hc)).done s _ _ st.2 fun h' tk kk=>⟨rfl,I.turned (fun b o hb e=>kk b o (by simpa using hb) e) f0 f1 f3 f4 f5⟩
 self:=fun A i s Q E st h=>hself A i s Q E st.2 h
noncomputable def sgn (x:Str) (i:Nat):V:=.str ⟨#[x.cps.getD i 0]⟩
theorem zln_ {P:Program}{w:World}{it:Addr}{x:Str}{t:Tok}(A:Around) (hA:A.handled=none):Walks P w A it [it] [it] x.cps.size (SignAt x) (fun i h=>h.IsStrIter it (strIterType x) x t i):=by
 cases ha:x.cps.all (·<128)
 ·have e:strIterType x = "str_iterator" := by simp [strIterType,ha]
  rw [e]; exact Walks.strWide hA it x t
 ·have e:strIterType x = "str_ascii_iterator" := by simp [strIterType,ha]
  rw [e]; exact Walks.strAscii hA it x t
theorem zk9_ {x:Str}{i:Nat}{v:Value}(h:SignAt x i v):RelV (sgn x i) v:=by
 obtain ⟨c,u,e,rfl⟩:=h
 refine ⟨u,?_⟩
 have:x.cps.getD i 0=c:=by simp [Array.getD_eq_getD_getElem?,e]
 rw [this]
theorem zgB_ (x:Str):ownTups.contains (strIterType x)=false:=by
 unfold strIterType; split<;>decide
theorem zm2_ {P:Program}{w:World}{K:Fgg}{tg:Expr}(it:Addr) (x:Str) (t:Tok):Turn P w K tg (Itp x.cps.size (sgn x)) [it] it (fun i h=>i≤x.cps.size∧h.IsStrIter it (strIterType x) x t i):=by
 refine zin_ (Pw:=SignAt x) (fun A hA=>zln_ A hA) (fun i v _ h=>zk9_ h) (fun i h st=>?_) (fun A i s Q E st h=>?_) (fun i h h' st k=>?_)
 ·obtain ⟨o,e,c,d⟩:=st
  exact ⟨o,_,_,e,c,d,zgB_ x⟩
 ·cases ha:x.cps.all (·<128)
  ·have e:strIterType x = "str_iterator" := by simp [strIterType,ha]
   rw [e] at st; exact wpAny_pyIter_striter_wide st h
  ·have e:strIterType x = "str_ascii_iterator" := by simp [strIterType,ha]
   rw [e] at st; exact wpAny_pyIter_striter_ascii st h
 ·obtain ⟨o,e,r⟩:=st
  exact ⟨o,k it (by simp) o e,r⟩
section
variable {X:Cx}{tg:Expr}
end
end L2
namespace L2
open PySem PySem.Spec PyProof.Rows
theorem Inv.turnedL {X:Cx}{pins:Pnn}{σ:St}{H:Hp}{s:Shared}{h':Heap}{t':Nat}{ch:List Addr}(I:Inv X pins σ H s) (k:∀ b o,b∉ch→s.heap.get? b=some o→h'.get? b=some o)
  (hf:∀ b∈ch,FpOk X pins H b):Inv X pins σ H { s with heap:=h',toks:=t' }:=by
 have nit:∀ b u,H b=some u→b∉ch:=fun b u e z=>by rw [(hf b z).1] at e; cases e
 refine I.step (g':=s.gens) (d':=s.drawn) (ch:=ch) (fun b hb=>?_) (fun b o _ _ hc e _=>k b o hc e) (fun b o _ _ hc e _=>⟨o.slots,k b o hc e⟩) (fun _ _ _ _ n=>n)
  (fun b o hc e=>⟨o,k b o hc e⟩) (fun _ _ e=>e) (fun _ _ _ e=>e) (fun b ps e=>⟨#[],by rw [e]; simp⟩) (fun m hm=>?_) (fun b u e=>?_) I.bare
 ·obtain ⟨f0,f1,f2,f3,f4,f5⟩:=hf b hb
  exact ⟨f3,f1,f4,f5⟩
 ·obtain ⟨o,es,ep,ho,r⟩:=hm
  exact ⟨o,es,ep,k _ o (fun z=>(hf _ z).2.1 rfl) ho,r⟩
 ·refine (I.hok b u e).stay (fun c v hc q=>k c v ?_ q) (fun _ q=>q) fun _ _ q=>q
  rcases hc with z | z
  ·rw [z]; exact nit b u e
  ·exact nit c _ z
theorem zlC_ {X:Cx}{pins:Pnn}{σ:St}{H:Hp}{s:Shared}{h1:Heap}{tk:Nat}{tk':Tok}{e it:Addr}{i:Nat}{x:Value}{y:V}{St:Heap→Prop}{elts:List Expr}{kk:Nat}{pos:Pos}{E:Value→Shared→Prop}
  (I:Inv X pins σ H s) (hf:∀ b∈[e,it],FpOk X pins H b) (he:e<s.heap.objs.size) (hit:it<s.heap.objs.size) (hei:e≠it) (heo:IsEnumOut h1 e it ((i:Int)+1) x s.heap.objs.size) (ry:RelV y x)
  (ht:h1.get? s.heap.objs.size=some { cls:=.type "tuple",data:=.seq #[.int i tk',x] }) (hz:h1.objs.size=s.heap.objs.size+1) (hk:∀ b o,b≠e→b≠it→s.heap.get? b=some o→h1.get? b=some o)
  (hSt:∀ h2,Heap.SameBut e h1 h2→St h2) :
  wpAny (model X.prog X.w) X.A (letOwnedTupleGo (.Tuple elts kk pos) (.ref e) (.ref s.heap.objs.size)) (fun _ s2=>∃ z H',Inv X pins σ H' s2∧RelV z (.ref s.heap.objs.size) ∧
   (∃ p,H p=none∧z=.ref p∧H'=upd H p (.tup [.int i,y]))∧(IsEnum s2.heap e it ((i+1:Nat):Int) x∧St s2.heap)∧∀ b∈[e,it],H' b=none) E { s with heap:=h1,toks:=tk }:=by
 refine wpAny_letOwnedTupleGo_enum heo fun h2 he2 hs2=>?_
 replace hs2:Heap.SameBut e h1 h2:=hs2
 have hp:H s.heap.objs.size=none:=I.hok.fresh (Nat.le_refl _)
 have hne:s.heap.objs.size≠e:=Nat.ne_of_gt he
 have hni:s.heap.objs.size≠it:=Nat.ne_of_gt hit
 have I1:Inv X pins σ (upd H s.heap.objs.size (.tup [.int i,y])) { s with heap:=s.heap.push { cls:=.type "tuple",data:=.seq #[.int i tk',x] },toks:=tk }:=by
  refine I.laid (fun b u q=>Heap.get?_push_of_some _ q) (Nat.le_refl _) ⟨?_,[.int i tk',x],.cons ⟨_,rfl⟩ (.cons ry .nil),⟨_,Heap.get?_push_size _ rfl,rfl,_,rfl⟩⟩
  show 2≤sizeLine
  decide
 have hf1:∀ b∈[e,it],FpOk X pins (upd H s.heap.objs.size (.tup [.int i,y])) b:=fun b hb=>by
  obtain ⟨f0,r⟩:=hf b hb
  refine ⟨?_,r⟩
  rw [zbk_ (by rcases List.mem_cons.mp hb with rfl | hb; exact hne.symm; rcases List.mem_cons.mp hb with rfl | hb; exact hni.symm; cases hb)]
  exact f0
 have I2:Inv X pins σ (upd H s.heap.objs.size (.tup [.int i,y])) { s with heap:=h2,toks:=tk }:=by
  refine Inv.turnedL (s:={ s with heap:=s.heap.push { cls:=.type "tuple",data:=.seq #[.int i tk',x] },toks:=tk }) (ch:=[e,it]) I1 (fun b o hb q=>?_) hf1
  have nbe:b≠e:=fun z=>hb (by simp [z])
  have nbi:b≠it:=fun z=>hb (by simp [z])
  refine (hs2.2 b nbe).trans ?_
  rcases Heap.get?_push_cases q with ⟨rfl,rfl⟩ | q'
  ·exact ht
  ·exact hk b o nbe nbi q'
 refine ⟨.ref s.heap.objs.size,_,I2,rfl,⟨s.heap.objs.size,hp,rfl,rfl⟩,⟨?_,hSt h2 hs2⟩,fun b hb=>(hf1 b hb).1⟩
 have:((i+1:Nat):Int)=(i:Int)+1:=by push_cast; rfl
 rw [this]; exact he2
noncomputable def Ite (K:Fgg) (l:Addr):It :=
 ⟨fun i H=>∃ xs x,SqL K H l xs∧xs[i]?=some x,fun i H y H'=>∃ p x,(∀ xs,SqL K H l xs→xs[i]?=some x)∧H p=none∧y=.ref p∧H'=upd H p (.tup [.int i,x]),fun i H=>∃ xs,SqL K H l xs∧xs.length≤i⟩
theorem zks_ {P:Program}{w:World}{K:Fgg}{elts:List Expr}{kk:Nat}{pos:Pos}(e it l:Addr) (hei:e≠it) :
  Turn P w K (.Tuple elts kk pos) (Ite K l) [e,it] e (fun i h=>(∃ old,IsEnum h e it (i:Nat) old)∧h.IsListIter it l i) where
 mem:=by simp
 obj:=fun i h st b hb=>by
  obtain ⟨⟨old,he⟩,o,ho,c,d⟩:=st
  rcases List.mem_cons.mp hb with rfl | hb
  ·exact ⟨_,he,fun v z=>by cases z⟩
  ·have e:b=it:=by simpa using hb
   subst e
   exact ⟨o,ho,fun v z=>by rw [d] at z; cases z⟩
 keep:=fun i h h' st k=>by
  obtain ⟨⟨old,he⟩,hit⟩:=st
  exact ⟨⟨old,k e (by simp) _ he⟩,hit.at fun o q=>k it (by simp) o q⟩
 item:=by
  intro X hP hw hK hc i pins s σ H E I hf st hg
  subst hP hw hK
  obtain ⟨xs,x,hq,hx⟩:=hg
  obtain ⟨its,rv,p,hz⟩:=I.list hq
  obtain ⟨u,hu,ru⟩:=rv.get hx
  obtain ⟨⟨old,he⟩,hit⟩:=st
  refine wpAny_pyNext_enum_item he hit p.isList (x:=u) (by simpa using hu) hei fun h1 heo hit1 ht1 hz1 hk1=>?_
  refine ⟨_,rfl,?_⟩
  have hel:e<s.heap.objs.size:=Heap.lt_size he
  have hil:it<s.heap.objs.size:=by obtain ⟨o,ho,_⟩:=id hit; exact Heap.lt_size ho
  refine thn (zlC_ (St:=fun h2=>h2.IsListIter it l (i+1)) I hf hel hil hei heo ru ht1 hz1 hk1 fun h2 hs=>hit1.extBut hs.extBut hei.symm) fun _ s2 q=>?_
  obtain ⟨z,H',I2,rz,⟨p,hp,rfl,rfl⟩,⟨he2,hit2⟩,fr⟩:=q
  exact ⟨.ref p,_,I2,rz,⟨p,x,fun ys hy=>by rw [I.list_inj hy hq]; exact hx,hp,rfl,rfl⟩,⟨⟨u,he2⟩,hit2⟩,fr⟩
 done:=by
  intro X hP hw hK hc i pins s σ H E I hf st hg
  subst hP hw hK
  obtain ⟨xs,hq,hx⟩:=hg
  obtain ⟨its,rv,p,hz⟩:=I.list hq
  obtain ⟨⟨old,he⟩,hit⟩:=st
  have hl:=rv.length
  obtain ⟨f0,f1,f2,f3,f4,f5⟩:=hf it (by simp)
  exact wpAny_pyNext_enum_end (I.ok.hd hc) he hit p.isList (by simp; lia) fun h' eb=>⟨rfl,I.turned (t':=s.toks) (fun b o hb e=>eb b o hb e) f0 f1 f3 f4 f5⟩
 self:=fun _ _ _ _ _ st h=>by
  obtain ⟨⟨old,he⟩,_⟩:=st
  exact wpAny_pyIter_enum he h
section
variable {X:Cx}{elts:List Expr}{kk:Nat}{tpos:Pos}
noncomputable def iEnumL (K:Fgg) (ta:TA):TI:=fun σ H R=>ta σ H fun vs H1=>∃ a,vs=[.ref a]∧(∃ xs,SqL K H1 a xs)∧R (Ite K a) H1
theorem zhM_ {a:Expr}{ta:TA}{p pos:Pos}(hg:Gl X "enumerate") (hm:X.mg "enumerate" = none) (ha:PA X [a] ta) (hs:starEach [a] X.env=[(false,eval a X.env)]:=by rfl) :
  PI X (.Tuple elts kk tpos) (.Call (.Name "enumerate" p) [a] [] pos) (iEnumL X.K ta):=by
 intro pins s σ H R I h
 refine Call_ (zhw_ I hg hm (u:=.type "enumerate") (by rfl) (PyProof.Rows.callWith_type1 (thn (ha pos pins s σ H _ I h) fun us s1 hq_=>?_) hs rfl))
 obtain ⟨vs,H1,I1,r1,q1⟩:=hq_
 obtain ⟨l,e,⟨xs,hq⟩,q⟩:=q1
 subst e
 cases r1 with
 | cons r rr =>
  cases rr
  cases r
  obtain ⟨its,rv,p,hz⟩:=I1.list hq
  refine call_enumerate_list p.isList fun h' he hit hsz hk=>?_
  refine wpAny_pyIter_enum (s:={ s1 with heap:=h' }) he ?_
  have I2:Inv X pins σ H1 { s1 with heap:=h' }:=I1.kept (t':=s1.toks) hk
  refine ⟨s1.heap.objs.size+1,[s1.heap.objs.size+1,s1.heap.objs.size],_,_,H1,rfl,I2,zks_ _ _ l (by simp),⟨⟨_,he⟩,hit⟩,fun b hb=>?_,q⟩
  have hb':s1.heap.objs.size≤b:=by
   rcases List.mem_cons.mp hb with rfl | hb
   ·exact Nat.le_succ _
   ·have e:b=s1.heap.objs.size:=by simpa using hb
    subst e; exact Nat.le_refl _
  exact I1.fpOk hb' (I1.hok.fresh hb')
end
end L2
namespace L2
open PySem PySem.Spec PyProof.Rows
section
variable {prog:Program}{w:World}{A:Around}{R:Result→Shared→Prop}{s:Shared}
theorem zja_ {elt target iter:Expr}{ifs:List Expr}{scope:Scope}{pos:Pos}{it acc:Value}{env:Env}(I:Nat→Shared→Prop)
  (turn:∀ n s,I n s→wpAny (model prog w) A (pyNext it) (fun r s₁=>match r with
   | none=>R (.ok .next) s₁
   | some v=>wpAny (model prog w) A (letOwnedTupleGo target it v) (fun _ s₂=>wpAny (model prog w) A (assign target env v) (fun _ s₃ =>
     wpAny (model prog w) A (forIn ifs true fun c r=>if r=true then do let ok ← isTrue c env (eval c env); pure (ForInStep.yield ok) else pure (ForInStep.yield r)) (fun ok s₄ =>
      if ok=true then wpAny (model prog w) A (eval elt env) (fun x s₅ =>
       wpAny (model prog w) A (call (.builtin "list.append") [acc,x]) (fun _ s₆=>∃ m,m<n∧I m s₆) (fun _ _=>False) s₅) (fun _ _=>False) s₄
      else ∃ m,m<n∧I m s₄) (fun _ _=>False) s₃) (fun _ _=>False) s₂) (fun _ _=>False) s₁) (fun _ _=>False) s)
  (n:Nat) (h:I n s) :
  codeAny (model prog w) A (.compLoop (.ListComp elt [⟨target,iter,ifs,0⟩] scope pos) 0 it acc env) R s:=by
 refine codeAny_loop rfl I (fun n s hI=>?_) n h
 show wpAny _ A ((compTurn (.ListComp elt [⟨target,iter,ifs,0⟩] scope pos) 0 it acc env).onRaise (fun x=>do noteFrame x env; theTreesLotGoes x)) _ _ s
 refine wpAny_noted ?_
 rw [compTurn_list]
 refine wpAny_bind (wpAny_standAt (wpAny_bind (wpAny_mono (turn n s hI) (fun r s₁ h₁=>?_) fun _ _ h'=>h'.elim)))
 cases r with
 | none=>exact wpAny_pure h₁
 | some v =>
  refine wpAny_bind (wpAny_mono h₁ (fun _ s₂ h₂=>?_) fun _ _ h'=>h'.elim)
  refine wpAny_bind (wpAny_mono h₂ (fun _ s₃ h₃=>wpAny_bind (wpAny_mono h₃ (fun ok s₄ h₄=>?_) fun _ _ h'=>h'.elim)) fun _ _ h'=>h'.elim)
  cases ok with
  | false=>exact wpAny_pure ⟨rfl,h₄⟩
  | true =>
   exact wpAny_bind (wpAny_bind (wpAny_mono h₄ (fun x s₅ h₅=>wpAny_bind (wpAny_mono h₅ (fun _ s₆ h₆=>wpAny_pure (wpAny_pure ⟨rfl,h₆⟩)) fun _ _ h'=>h'.elim)) fun _ _ h'=>h'.elim))
end
noncomputable def closeL (cells:List (Str×Addr)):List (Str×NameKind)→List (Str×Addr)→Option (List (Str×Addr))
 | [],acc=>some acc
 | (n,k)::r,acc=>if (k == .free)=true then (match cells.lookup n with | some c=>closeL cells r ((n,c)::acc) | none=>none) else closeL cells r acc
theorem zfq_ {env:Env}{f:Str×NameKind→List (Str×Addr)→Sem (ForInStep (List (Str×Addr)))}
  (hf:∀ n k cs,f (n,k) cs=if (k == NameKind.free)=true then (do let c ← cellOf env n; pure (ForInStep.yield ((n,c)::cs))) else pure (ForInStep.yield cs)) :
  ∀ (names:List (Str×NameKind)) (acc cl:List (Str×Addr)),closeL env.cells names acc=some cl→(forIn names acc f:Sem (List (Str×Addr)))=pure cl
 | [],acc,cl,h=>by cases h; rfl
 | (n,k)::r,acc,cl,h=>by
  rw [List.forIn_cons,hf]
  unfold closeL at h
  by_cases hk:(k == NameKind.free)=true
  ·rw [if_pos hk] at h
   rw [if_pos hk]
   cases hc:env.cells.lookup n with
   | none=>rw [hc] at h; cases h
   | some c =>
    rw [hc] at h
    have e:cellOf env n=pure c:=by unfold cellOf; rw [hc]
    rw [e]
    simp only [pure_bind]
    exact zfq_ hf r _ cl h
  ·rw [if_neg hk] at h
   rw [if_neg hk]
   simp only [pure_bind]
   exact zfq_ hf r _ cl h
theorem ziL_ {env:Env}{scope:Scope}{cl:List (Str×Addr)}(h:closeL env.cells scope.names []=some cl):closureFor scope env=pure cl:=by
 unfold closureFor
 dsimp only
 rw [zfq_ (env:=env) (fun n k cs=>rfl) scope.names [] cl h]
 rfl
theorem zeg_ {cells:List (Str×Addr)}:∀ (names:List (Str×NameKind)) (acc cl:List (Str×Addr)),closeL cells names acc=some cl→(∀ x c,acc.lookup x=some c→cells.lookup x=some c) →
  (∀ x c,cl.lookup x=some c→cells.lookup x=some c)
 | [],acc,cl,h,ha=>by cases h; exact ha
 | (n,k)::r,acc,cl,h,ha=>by
  unfold closeL at h
  by_cases hk:(k == NameKind.free)=true
  ·rw [if_pos hk] at h
   cases hc:cells.lookup n with
   | none=>rw [hc] at h; cases h
   | some c =>
    rw [hc] at h
    refine zeg_ r _ cl h fun x c' e=>?_
    rw [List.lookup_cons] at e
    cases hx:x == n with
    | true=>rw [hx] at e; cases e; rw [eq_of_beq hx]; exact hc
    | false=>rw [hx] at e; exact ha x c' e
  ·rw [if_neg hk] at h
   exact zeg_ r _ cl h ha
theorem zfc_ {cells:List (Str×Addr)}:∀ (names:List (Str×NameKind)) (acc cl:List (Str×Addr)),closeL cells names acc=some cl→∀ x,((x,NameKind.free)∈names∨∃ c,acc.lookup x=some c)→∃ c,cl.lookup x=some c
 | [],acc,cl,h,x,hx=>by
  cases h
  rcases hx with hx | hx
  ·cases hx
  ·exact hx
 | (n,k)::r,acc,cl,h,x,hx=>by
  unfold closeL at h
  by_cases hk:(k == NameKind.free)=true
  ·rw [if_pos hk] at h
   cases hc:cells.lookup n with
   | none=>rw [hc] at h; cases h
   | some c =>
    rw [hc] at h
    refine zfc_ r _ cl h x ?_
    rcases hx with hx | ⟨c',e⟩
    ·rcases List.mem_cons.mp hx with e | hx
     ·cases e; exact .inr ⟨c,by rw [List.lookup_cons,beq_self_eq_true]⟩
     ·exact .inl hx
    ·refine .inr ?_
     rw [List.lookup_cons]
     cases hxn:x == n with
     | true=>exact ⟨c,rfl⟩
     | false=>exact ⟨c',e⟩
  ·rw [if_neg hk] at h
   refine zfc_ r _ cl h x ?_
   rcases hx with hx | hx
   ·rcases List.mem_cons.mp hx with e | hx
    ·cases e; exact absurd rfl hk
    ·exact .inl hx
   ·exact .inr hx
theorem zf4_ {scope:Scope}{env:Env}{x:Str}{k:NameKind}(h:(relabel scope env).names.lookup x=some k) (hk:k=.cell∨k=.free) (hcell:∀ y∈scope.names,y.2≠.cell):(x,NameKind.free)∈scope.names:=by
 have m:=PySem.mem_of_lookup h
 obtain ⟨⟨n,k0⟩,hm,e⟩:=List.mem_map.mp m
 dsimp only at e
 split at e
 ·rename_i hc
  cases e
  have:k0=.free:=by
   simp only [Bool.and_eq_true,beq_iff_eq] at hc
   exact hc.1.1
  subst this; exact hm
 ·cases e
  rcases hk with rfl | rfl
  ·exact absurd rfl (hcell _ hm)
  ·exact hm
noncomputable def cxComp (X:Cx) (scope:Scope) (cl:List (Str×Addr)) (C:Addr) (N:List Str) (fp:List Addr) (s2:Shared) (H2:Hp):Cx where
 prog:=X.prog
 w:=X.w
 K:=X.K
 mg:=X.mg
 base:=X.base
 A:=X.A
 N:=N
 s₀:=s2
 H₀:=H2
 env:=compEnvC scope cl C X.env
 outer:=X.stack
 stack:=X.stack
 ex:=fp
 fn:=fun _=>false
 calm:=X.calm
 pn:=[]
 xe:=fun _ _=>False
structure CScope (X:Cx) (scope:Scope) (cl:List (Str×Addr)) (lv:List Str) (fr:List (Str×Nat)):Prop where
 clos:closeL X.env.cells scope.names []=some cl
 cell:∀ y∈scope.names,y.2≠.cell
 kind:scope.kind=.function
 names:∀ z∈scope.names,z.2=.local→scope.names.lookup z.1=some .local
 fr:∀ q∈fr,X.N[q.2]?=some q.1∧(q.1,NameKind.free)∈scope.names∧(X.env.kindOf q.1=some .cell∨X.env.kindOf q.1=some .free) ∧
  ((relabel scope X.env).names.lookup q.1=some .cell∨(relabel scope X.env).names.lookup q.1=some .free)
noncomputable def cN (lv:List Str) (fr:List (Str×Nat)):List Str:=lv++fr.map (·.1)
noncomputable def cS (lv:List Str) (fr:List (Str×Nat)) (σ:St):St:=lv.map (fun _=>none)++fr.map fun q=>(σ[q.2]?).join
theorem zni_ {X:Cx}{pins:Pnn}{σ:St}{H2:Hp}{s2:Shared}{scope:Scope}{cl:List (Str×Addr)}{lv:List Str}{fr:List (Str×Nat)}{fp:List Addr}{h4:Heap}{tk:Nat}{m:Str→Option Value}{n:Nat}
  (I:Inv X pins σ H2 s2) (S:CScope X scope cl lv fr) (hf:∀ b∈fp,FpOk X pins H2 b) (hlt:∀ b∈fp,b<s2.heap.objs.size) (hC:h4.Ns (s2.heap.objs.size+1) m) (hD:h4.get? s2.heap.objs.size=some { cls:=.type "list",data:=.seq #[] n })
  (hk:∀ b o,s2.heap.get? b=some o→h4.get? b=some o) :
  Inv (cxComp X scope cl (s2.heap.objs.size+1) (cN lv fr) fp s2 H2) [] (cS lv fr σ) (upd H2 s2.heap.objs.size (.lst [])) { s2 with heap:=h4,toks:=tk }:=by
 have hcl:=zeg_ scope.names [] cl S.clos (fun x c e=>by cases e)
 have hhas:=zfc_ scope.names [] cl S.clos
 have hDn:H2 s2.heap.objs.size=none:=I.hok.fresh (Nat.le_refl _)
 have hCn:H2 (s2.heap.objs.size+1)=none:=I.hok.fresh (Nat.le_succ _)
 have hCD:s2.heap.objs.size+1≠s2.heap.objs.size:=Nat.ne_of_gt (Nat.lt_succ_self _)
 have fpC:∀ b∈fp,(b∈X.ex∨X.s₀.heap.objs.size≤b):=fun b hb=>(hf b hb).2.2.2.1
 have cellLt:∀ x c,cl.lookup x=some c→c<s2.heap.objs.size:=fun x c e=>by
  obtain ⟨v,o,ho,_⟩:=I.cell x c (hcl x c e)
  exact Heap.lt_size ho
 refine ⟨⟨I.ok.mod,S.kind,I.ok.glob,I.ok.blt,Nat.le_succ _,fun x y c h1 h2=>I.ok.inj x y c (hcl x c h1) (hcl y c h2),fun x hx=>?_,fun x c hfn=>(by cases hfn),I.ok.hd,I.ok.frames,.inl rfl,fun b hb=>?_,I.bs,Nat.le_trans I.ok.bsz I.sz,fun b o e hb=>?_,fun b hb z=>?_,I.stack,I.stkFree⟩,
  rfl,I.bare,?_,⟨m,hC,fun i x v h1 h2 h3=>?_⟩,fun x c e=>?_,?_,fun x c e=>?_,fun p hp=>absurd (show p∈([]:Pnn) from hp) (by simp),?_,?_⟩
 ·-- has
  have hx':(relabel scope X.env).names.lookup x=some .cell∨(relabel scope X.env).names.lookup x=some .free:=hx
  have hm:(x,NameKind.free)∈scope.names:=hx'.elim (fun z=>zf4_ z (.inl rfl) S.cell) fun z=>zf4_ z (.inr rfl) S.cell
  exact hhas x (.inl hm)
 ·-- exf
  obtain ⟨f0,f1,f2,f3,f4,f5⟩:=hf b hb
  refine ⟨fun z=>?_,fun x c e=>f4 x c (hcl x c e)⟩
  have z':b=s2.heap.objs.size+1:=z
  have:=hlt b hb
  rw [z'] at this
  exact absurd this (Nat.not_lt.mpr (Nat.le_succ _))
 ·rcases fpC b hb with z | z
  ·exact I.ok.noex b o e z
  ·exact absurd (Nat.lt_of_lt_of_le (Nat.lt_of_lt_of_le (Heap.lt_size e) I.ok.bsz) z) (Nat.lt_irrefl _)
 ·obtain ⟨f0,f1,f2,_⟩:=hf b hb
  rcases List.mem_cons.mp (I.stkSub b z) with q | q
  ·exact f1 q
  ·exact f2 q
 ·exact Un.laid hk (Nat.le_refl _) hDn
 ·-- loc
  have h1':(lv++fr.map (·.1))[i]?=some x:=h1
  have h2':(lv.map (fun _=>none)++fr.map fun q=>(σ[q.2]?).join:St)[i]?=some (some v):=h2
  by_cases hi:i<lv.length
  ·rw [List.getElem?_append_left (by simpa using hi),List.getElem?_map] at h2'
   cases hq:lv[i]? with
   | none=>rw [hq] at h2'; cases h2'
   | some z=>rw [hq] at h2'; cases h2'
  ·rw [List.getElem?_append_right (by simpa using hi),List.getElem?_map] at h2'
   rw [List.getElem?_append_right (by lia),List.getElem?_map] at h1'
   simp only [List.length_map] at h2'
   cases hq:fr[i-lv.length]? with
   | none=>rw [hq] at h1'; cases h1'
   | some q =>
    rw [hq] at h1' h2'
    have e1:q.1=x:=Option.some.inj h1'
    have e2:(σ[q.2]?).join=some v:=Option.some.inj h2'
    have e3:σ[q.2]?=some (some v):=by
     cases hz:σ[q.2]? with
     | none=>rw [hz] at e2; cases e2
     | some z=>rw [hz] at e2; exact congrArg some e2
    obtain ⟨g1,g2,g3,g4⟩:=S.fr q (List.mem_of_getElem? hq)
    obtain ⟨m0,hn0,hl0⟩:=I.loc
    have vis:Vis X.env.scope q.1:=by
     rcases g3 with g3 | g3
     ·exact .inr (.inl g3)
     ·exact .inr (.inr g3)
    obtain ⟨u,r,l⟩:=hl0 q.2 q.1 v g1 e3 vis
    refine ⟨u,r,.inr ⟨?_,?_⟩⟩
    ·rw [← e1]; exact g4
    ·rcases l with ⟨lk,_⟩ | ⟨_,c,ec,ic⟩
     ·rcases g3 with g3 | g3<;>(rw [lk] at g3; cases g3)
     ·obtain ⟨c',ec'⟩:=hhas q.1 (.inl g2)
      have:c'=c:=by
       have:=hcl q.1 c' ec'
       rw [ec] at this; exact (Option.some.inj this).symm
      subst this
      obtain ⟨o,ho,hd⟩:=ic
      exact ⟨c',by rw [← e1]; exact ec',o,hk _ _ ho,hd⟩
 ·obtain ⟨v,o,ho,hd⟩:=I.cell x c (hcl x c e)
  exact ⟨v,o,hk _ _ ho,hd⟩
 ·show upd H2 _ _ (s2.heap.objs.size+1)=none
  rw [zbk_ hCD]; exact hCn
 ·have:=cellLt x c e
  rw [zbk_ (Nat.ne_of_lt this)]
  exact I.freeC x c (hcl x c e)
 ·exact I.hok.laid hk (Nat.le_refl _) ⟨Nat.zero_le _,[],n,.nil,hD⟩
 ·show (cS lv fr σ).length=(cN lv fr).length
  simp [cS,cN]
end L2
namespace L2
open PySem PySem.Spec PyProof.Rows
noncomputable def PIf (X:Cx) (ifs:List Expr) (t:TT):Prop :=
 ∀ (pins:Pnn) (s:Shared) (σ:St) (H:Hp) (Q:Bool→Hp→Prop),Inv X pins σ H s→t σ H Q →
  wpAny (model X.prog X.w) X.A (forIn ifs true fun c r=>if r=true then do let ok ← isTrue c X.env (eval c X.env); pure (ForInStep.yield ok) else pure (ForInStep.yield r)) (TP X pins σ Q) X.xe s
noncomputable def tTrue:TT:=fun _ H Q=>Q true H
theorem zcG_ {X:Cx}:PIf X [] tTrue:=fun pins s σ H Q I h=>wpAny_tests_nil ⟨H,I,h⟩
noncomputable def tCompR (J:It) (g:TG) (tt:TT) (te:TE) (σ0:St) (H1:Hp) (Q:VK):Prop :=
 ∀ D,H1 D=none→∃ W:Nat→Nat→List V→St→Hp→Prop,(∃ m,W 0 m [] σ0 (upd H1 D (.lst [])))∧∀ i m ys σ H,W i m ys σ H →
  (J.stop i H∧Q (.ref D) H)∨(J.go i H∧∃ N:List V→St→Hp→Prop,(∀ ys' σ' H',N ys' σ' H'→∃ m',m'<m∧W (i+1) m' ys' σ' H') ∧
   ∀ x H',J.yld i H x H'→g x σ H' fun σ2 H2=>tt σ2 H2 fun b H3=>if b=true then te σ2 H3 fun v H4=>H4 D=some (.lst ys)∧ys.length<sizeLine∧N (ys++[v]) σ2 (upd H4 D (.lst (ys++[v]))) else N ys σ2 H3)
section
variable {X:Cx}{scope:Scope}{cl:List (Str×Addr)}{lv:List Str}{fr:List (Str×Nat)}{elt tg iter:Expr}{ifs:List Expr}{pos:Pos}{g:TG}{tt:TT}{te:TE}
theorem zgO_ {pins:Pnn}{σ:St}{H2:Hp}{s2:Shared}{it:Addr}{fp:List Addr}{tn:Nat→Heap→Prop}{J:It}{Q:VK}{E:Value→Shared→Prop}{use:Option (Value→Sem Unit)}{Q':Value→Shared→Prop}
  (I:Inv X pins σ H2 s2) (S:CScope X scope cl lv fr) (T:Turn X.prog X.w X.K tg J fp it tn) (st:tn 0 s2.heap) (hf:∀ b∈fp,FpOk X pins H2 b) (hc:X.calm=true)
  (hg:∀ C fp s2 H2,PG (cxComp X scope cl C (cN lv fr) fp s2 H2) tg g) (ht:∀ C fp s2 H2,PIf (cxComp X scope cl C (cN lv fr) fp s2 H2) ifs tt) (he:∀ C fp s2 H2,PE (cxComp X scope cl C (cN lv fr) fp s2 H2) elt te)
  (hq:tCompR J g tt te (cS lv fr σ) H2 Q)
  (fin:∀ D C oC H' s',Inv X (pins++[(C,oC)]) σ H' s'→(∀ h:Heap,h.get? C=some oC→∃ m,h.Ns C m)→FpOk X pins H' C→Q (.ref D) H'→compPost (model X.prog X.w) X.A E use Q' (.ref D) C (.ok .next) s') :
  wpAny (model X.prog X.w) X.A (newList []) (fun acc s₃=>wpAny (model X.prog X.w) X.A (newFunctionEnv scope X.env.globals cl [] X.env.qual none .none (some X.env)) (fun cenv s₄ =>
   codeAny (model X.prog X.w) X.A (.compStart (.ListComp elt [⟨tg,iter,ifs,0⟩] scope pos) 0 (.ref it) acc { cenv with scope:=relabel scope X.env }) (compPost (model X.prog X.w) X.A E use Q' acc cenv.locals) s₄) E s₃) E s2:=by
 have hlt:∀ b∈fp,b<s2.heap.objs.size:=fun b hb=>by
  obtain ⟨o,ho,_⟩:=T.obj 0 _ st b hb
  exact Heap.lt_size ho
 refine wpAny_newList (wpAny_newFunctionEnv S.cell (by intro y hy; simp at hy) (fun h₁ hns₁ hsb₁=>?_) S.kind)
 dsimp only at hns₁ hsb₁ ⊢
 have hsz:(s2.heap.push { cls:=.type "list",data:=.seq ([]:List Value).toArray }).objs.size=s2.heap.objs.size+1:=Heap.size_push ..
 rw [hsz] at hns₁ hsb₁ ⊢
 have old:∀ b o,s2.heap.get? b=some o→h₁.get? b=some o:=fun b o e=>hsb₁.extBut b o (Nat.ne_of_lt (Nat.lt_succ_of_lt (Heap.lt_size e))) (Heap.get?_push_of_some _ (Heap.get?_push_of_some _ e))
 have hacc:h₁.get? s2.heap.objs.size=some { cls:=.type "list",data:=.seq #[] }:=hsb₁.extBut _ _ (Nat.ne_of_lt (Nat.lt_succ_self _)) (Heap.get?_push_of_some _ (Heap.get?_push_size _ rfl))
 have I4:Inv (cxComp X scope cl (s2.heap.objs.size+1) (cN lv fr) fp s2 H2) [] (cS lv fr σ) (upd H2 s2.heap.objs.size (.lst [])) { s2 with heap:=h₁,toks:=s2.toks+([]:List (Str×Value)).length } :=
  zni_ I S hf hlt hns₁ hacc old
 generalize hX':cxComp X scope cl (s2.heap.objs.size+1) (cN lv fr) fp s2 H2=X' at I4
 have eP:X'.prog=X.prog:=by rw [← hX']; rfl
 have ew:X'.w=X.w:=by rw [← hX']; rfl
 have eK:X'.K=X.K:=by rw [← hX']; rfl
 have eA:X'.A=X.A:=by rw [← hX']; rfl
 have ec:X'.calm=true:=by rw [← hX']; exact hc
 have ex:X'.xe=fun _ _=>False:=by rw [← hX']; rfl
 have een:X'.env=compEnvC scope cl (s2.heap.objs.size+1) X.env:=by rw [← hX']; rfl
 have hg':PG X' tg g:=hX' ▸ hg _ _ _ _
 have ht':PIf X' ifs tt:=hX' ▸ ht _ _ _ _
 have he':PE X' elt te:=hX' ▸ he _ _ _ _
 obtain ⟨W,⟨m0,w0⟩,turn⟩:=hq s2.heap.objs.size (I.hok.fresh (Nat.le_refl _))
 have st1:tn 0 h₁:=T.keep _ _ _ st fun b _ o e=>old b o e
 have f4:∀ b∈fp,FpOk X' [] (upd H2 s2.heap.objs.size (.lst [])) b:=fun b hb=>by
  obtain ⟨f0,f1,f2,f3,f4,f5⟩:=hf b hb
  have:=hlt b hb
  refine ⟨?_,?_,?_,.inl ?_,?_,?_⟩
  ·rw [zbk_ (Nat.ne_of_lt this)]; exact f0
  ·rw [een]; exact Nat.ne_of_lt (Nat.lt_succ_of_lt this)
  ·intro z
   have z':b∈frs X.stack:=by rw [← hX'] at z; exact z
   rcases List.mem_cons.mp (I.stkSub b z') with q | q
   ·exact f1 q
   ·exact f2 q
  ·rw [← hX']; exact hb
  ·intro x c e
   rw [een] at e
   exact f4 x c (zeg_ scope.names [] cl S.clos (fun x c e=>by cases e) x c e)
  ·intro p hp
   rw [← hX'] at hp
   exact absurd (show p∈([]:Pnn) from hp) (by simp)
 have stat:∀ {H':Hp},(∀ b∈fp,H' b=none)→∀ b∈fp,FpOk X' [] H' b:=fun hn b hb=>⟨hn b hb,(f4 b hb).2⟩
 have loop:∀ s₃:Shared,s₃={ s2 with heap:=h₁,toks:=s2.toks+([]:List (Str×Value)).length } →
   codeAny (model X.prog X.w) X.A (.compLoop (.ListComp elt [⟨tg,iter,ifs,0⟩] scope pos) 0 (.ref it) (.ref s2.heap.objs.size) (compEnvC scope cl (s2.heap.objs.size+1) X.env))
    (compPost (model X.prog X.w) X.A E use Q' (.ref s2.heap.objs.size) (s2.heap.objs.size+1)) s₃:=by
  rintro s₃ rfl
  refine zja_ (fun n s'=>∃ i ys σ' H',Inv X' [] σ' H' s'∧tn i s'.heap∧(∀ b∈fp,H' b=none)∧W i n ys σ' H') ?_ m0 ⟨0,[],_,_,I4,st1,fun b hb=>(f4 b hb).1,w0⟩
  rintro n s3 ⟨i,ys,σ3,H3,I3,st3,fr3,w3⟩
  rcases turn i n ys σ3 H3 w3 with ⟨stop,qn⟩ | ⟨go,N,hN,step⟩
  ·have a0:=T.done X' eP ew eK ec i [] s3 σ3 H3 (fun _ _=>False) I3 (stat fr3) st3 stop
   rw [eA] at a0
   refine thn a0 fun r s4 hq_=>?_
   obtain ⟨hr,I4'⟩:=hq_
   subst hr
   have un:Un (frs X.stack) fp H2 H3 s2.heap s4.heap:=by
    have:=I4'.base
    rw [← hX'] at this
    exact this
   have os:s4.os=s2.os:=by
    have:=I4'.os
    rw [← hX'] at this
    exact this
   have hok:HOk X.prog X.w H3 s4.heap:=by
    have:=I4'.hok
    rw [← hX'] at this
    exact this
   have J1:Inv X pins σ H3 s4:=I.call' os un hok I4'.bare fun b hb=>by
    obtain ⟨f0,f1,f2,f3,f4,f5⟩:=hf b hb
    exact ⟨f3,f1,f4,f5⟩
   obtain ⟨m,hn,_⟩:=I4'.loc
   have hn':s4.heap.Ns (s2.heap.objs.size+1) m:=by rw [een] at hn; exact hn
   have hCn:H3 (s2.heap.objs.size+1)=none:=by
    have:=I4'.free
    rw [een] at this; exact this
   have fC:FpOk X pins H3 (s2.heap.objs.size+1):=I.fpOk (Nat.le_succ _) hCn
   obtain ⟨oC,es,ep,hoC,hdC,rC⟩:=id hn'
   have J2:Inv X (pins++[(s2.heap.objs.size+1,oC)]) σ H3 s4:=J1.pins_of fun p hp=>by
    rcases List.mem_append.mp hp with hp | hp
    ·exact J1.pin p (List.mem_append_right _ hp)
    ·have e:p=(s2.heap.objs.size+1,oC):=by simpa using hp
     subst e
     exact ⟨hoC,hCn,fC.2.1,fC.2.2.1,fun v z=>by rw [hdC] at z; cases z⟩
   exact fin _ _ oC H3 s4 J2 (fun h e=>⟨m,oC,es,ep,e,hdC,rC⟩) fC qn
  ·have a0:=T.item X' eP ew eK ec i [] s3 σ3 H3 (fun _ _=>False) I3 (stat fr3) st3 go
   rw [eA] at a0
   refine thn a0 fun r s4 hq_=>?_
   obtain ⟨u,hr,h4⟩:=hq_
   subst hr
   refine thn h4 fun _ s5 hq_=>?_
   obtain ⟨x,H5,I5,r5,y5,st5,fr5⟩:=hq_
   have I5':=I5.pinned (stat fr5) (T.obj _ _ st5)
   have a1:=hg' _ s5 σ3 H5 x u _ I5' r5 (step x H5 y5)
   rw [eP,ew,eA,een,ex] at a1
   refine thn a1 fun _ s6 hq_=>?_
   obtain ⟨σ6,H6,I6,q6⟩:=hq_
   have a2:=ht' _ s6 σ6 H6 _ I6 q6
   rw [eP,ew,eA,een,ex] at a2
   refine thn a2 fun ok s7 hq_=>?_
   obtain ⟨H7,I7,q7⟩:=hq_
   have again:∀ {ys7:List V}{H7:Hp}{s7:Shared},Inv X' ([]++pinsAt fp s5.heap) σ6 H7 s7→N ys7 σ6 H7→∃ m,m<n∧∃ i ys σ' H',Inv X' [] σ' H' s7∧tn i s7.heap∧(∀ b∈fp,H' b=none)∧W i m ys σ' H':=fun {ys7 H7 s7} I7 n7=>by
    obtain ⟨m',hm,w7⟩:=hN ys7 σ6 H7 n7
    refine ⟨m',hm,i+1,ys7,σ6,H7,I7.unpinned,T.keep _ _ _ st5 fun b hb o e=>(I7.pin (b,o) (List.mem_append_right _ (List.mem_append_right _ (zd9_ hb e)))).1,fun b hb=>?_,w7⟩
    obtain ⟨o,e,d⟩:=T.obj _ _ st5 b hb
    exact (I7.pin (b,o) (List.mem_append_right _ (List.mem_append_right _ (zd9_ hb e)))).2.1
   cases ok with
   | false=>exact again I7 q7
   | true =>
    have a3:=he' _ s7 σ6 H7 _ I7 q7
    rw [eP,ew,eA,een,ex] at a3
    refine thn a3 fun y s8 hq_=>?_
    obtain ⟨v,H8,I8,r8,hD8,hl8,n8⟩:=hq_
    have a4:=zef_ (X:=X') _ s8 σ6 H8 (.ref s2.heap.objs.size) [v] (.ref s2.heap.objs.size) [y] (fun _ H9=>N (ys++[v]) σ6 H9) I8 rfl (.cons r8 .nil) ⟨_,_,_,rfl,rfl,hD8,hl8,n8⟩
    rw [eP,ew,eA,ex] at a4
    refine thn a4 fun _ s9 hq_=>?_
    obtain ⟨v9,H9,I9,_,n9⟩:=hq_
    exact again I9 n9
 exact codeAny_compStart_list (loop _ rfl) (T.self _ 0 _ _ _ st1 (loop _ rfl))
noncomputable def tComp (lv:List Str) (fr:List (Str×Nat)) (wi:TI) (g:TG) (tt:TT) (te:TE):TE:=fun σ H Q=>wi σ H fun J H1=>tCompR J g tt te (cS lv fr σ) H1 Q
theorem zeE_ {wi:TI}(hc:X.calm=true) (S:CScope X scope cl lv fr) (hi:PI X tg iter wi)
  (hg:∀ C fp s2 H2,PG (cxComp X scope cl C (cN lv fr) fp s2 H2) tg g) (ht:∀ C fp s2 H2,PIf (cxComp X scope cl C (cN lv fr) fp s2 H2) ifs tt) (he:∀ C fp s2 H2,PE (cxComp X scope cl C (cN lv fr) fp s2 H2) elt te)
  (hs:∀ x,foldedSetIterable iter X.env x=pure x:=by intro _; rfl):PE X (.ListComp elt [⟨tg,iter,ifs,0⟩] scope pos) (tComp lv fr wi g tt te):=by
 intro pins s σ H Q I h
 rw [eval_ListComp]
 refine wpAny_comprehension_free (use:=none) rfl hs (ziL_ S.clos) S.kind S.names ?_
 refine thn (hi pins s σ H _ I h) fun v s1 h1=>thn h1 fun itv s2 h2=>?_
 obtain ⟨it,fp,tn,J,H2,e,I2,T,st2,f2,q⟩:=h2
 subst e
 refine zgO_ I2 S T st2 f2 hc hg ht he q fun D C oC H' s' J1 hNs fC qD=>?_
 have hp:=J1.pin (C,oC) (List.mem_append_right _ (List.mem_append_right _ (List.mem_singleton.mpr rfl)))
 obtain ⟨m,hm⟩:=hNs s'.heap hp.1
 refine ⟨m,hm,fun h' hs'=>?_⟩
 exact ⟨.ref D,H',J1.unpinned.turned (t':=s'.toks) (fun b o hb e=>(hs'.2 b hb).trans e) fC.1 fC.2.1 fC.2.2.2.1 fC.2.2.2.2.1 fC.2.2.2.2.2,rfl,qD⟩
theorem zdu_ {wi:TI}{j:Nat}{y:Str}{py spos:Pos}(hc:X.calm=true) (S:CScope X scope cl lv fr) (hi:PI X tg iter wi)
  (hg:∀ C fp s2 H2,PG (cxComp X scope cl C (cN lv fr) fp s2 H2) tg g) (ht:∀ C fp s2 H2,PIf (cxComp X scope cl C (cN lv fr) fp s2 H2) ifs tt) (he:∀ C fp s2 H2,PE (cxComp X scope cl C (cN lv fr) fp s2 H2) elt te)
  (hy:PG X (.Name y py) (gName j))
  (hsw:swapsWith (.ListComp elt [⟨tg,iter,ifs,0⟩] scope pos) (some (.Name y py)) spos.line X.env=pure true:=by rfl)
  (hs:∀ x,foldedSetIterable iter X.env x=pure x:=by intro _; rfl):PS X (.Assign [.Name y py] (.ListComp elt [⟨tg,iter,ifs,0⟩] scope pos) spos) (tAsg (tComp lv fr wi g tt te) (gName j)):=by
 intro pins s σ H D I h
 rw [exec_Assign_Name_used _ _ _ _ hsw]
 refine wpAny_bind (wpAny_standAt (wpAny_bind ?_))
 show wpAny _ X.A (do let _ ← comprehension (.ListComp elt [⟨tg,iter,ifs,0⟩] scope pos) scope X.env _ (newList []) false (eval iter X.env) (some (assign (.Name y py) X.env))) _ _ s
 refine wpAny_bind (wpAny_mono (wpAny_comprehension_free (use:=some (assign (.Name y py) X.env)) (Q:=fun _ s'=>SP X pins D .next s') rfl hs (ziL_ S.clos) S.kind S.names ?_) (fun _ s' hq=>wpAny_pure (wpAny_pure hq)) fun _ _ e=>e)
 refine thn (hi pins s σ H _ I h) fun v s1 h1=>thn h1 fun itv s2 h2=>?_
 obtain ⟨it,fp,tn,J,H2,e,I2,T,st2,f2,q⟩:=h2
 subst e
 refine zgO_ I2 S T st2 f2 hc hg ht he q fun D' C oC H' s' J1 hNs fC qD=>?_
 show wpAny _ X.A (assign (.Name y py) X.env (.ref D')) _ _ _
 refine thn (hy _ s' σ H' (.ref D') (.ref D') _ J1 rfl qD) fun _ s3 hq_=>?_
 obtain ⟨σ3,H3,I3,q3⟩:=hq_
 have hp:=I3.pin (C,oC) (List.mem_append_right _ (List.mem_append_right _ (List.mem_singleton.mpr rfl)))
 obtain ⟨m,hm⟩:=hNs s3.heap hp.1
 refine ⟨m,hm,fun h' hs'=>?_⟩
 have fC':FpOk X pins H3 C:=⟨hp.2.1,fC.2⟩
 exact ⟨σ3,H3,I3.unpinned.turned (t':=s3.toks) (fun b o hb e=>(hs'.2 b hb).trans e) fC'.1 fC'.2.1 fC'.2.2.2.1 fC'.2.2.2.2.1 fC'.2.2.2.2.2,q3⟩
end
end L2
namespace L2
open PySem PySem.Spec PyProof.Rows
noncomputable abbrev tx (l:List Nat):V:=.str ⟨l.toArray⟩
noncomputable def br (b:Bool) (A B:Prop):Prop:=(b=true→A)∧(b=false→B)
theorem zjr_ (a b:Str):a++b=⟨(a.cps.toList++b.cps.toList).toArray⟩:=by
 cases a; cases b
 show Str.mk (_++_)=_
 simp
theorem zbY_ (a:Str):a=⟨a.cps.toList.toArray⟩:=by cases a; simp
noncomputable def cutL (l:List Nat) (lo hi:Option Int):List Nat:=(l.drop (HT.sIx l.length 0 lo)).take (HT.sIx l.length l.length hi-HT.sIx l.length 0 lo)
theorem zfB_ (lo hi:Option Int) (n:Nat):Builtin.Str.strSliceIndices lo hi 1 n=sliceRange ((HT.sIx n 0 lo:Nat):Int) ((HT.sIx n n hi:Nat):Int) 1:=by
 unfold Builtin.Str.strSliceIndices
 simp only [show (1:Int) > 0 by decide,if_true]
 congr 1
 ·cases lo with
  | none=>simp [HT.sIx]
  | some i =>
   simp only [HT.sIx]
   by_cases h:i<0
   ·simp only [h,if_true]<;>lia
   ·simp only [h,if_false]<;>lia
 ·cases hi with
  | none=>simp [HT.sIx]
  | some i =>
   simp only [HT.sIx]
   by_cases h:i<0
   ·simp only [h,if_true]<;>lia
   ·simp only [h,if_false]<;>lia
theorem zjT_ (x:Str) (lo hi:Option Int):(Builtin.Str.strSliceIndices lo hi 1 x.length).filterMap (x.cps[·]?)=cutL x.cps.toList lo hi:=by
 rw [zfB_,sliceRange_one,pick_run]
 unfold cutL Str.length
 simp only [Array.length_toList]
theorem zgo_ (l:List Nat) (lo hi:Option Int):(cutL l lo hi).length≤l.length:=by
 unfold cutL
 rw [List.length_take,List.length_drop]
 lia
theorem zlX_ {l:List Nat}{lo hi:Option Int}(h:(cutL l lo hi).length=l.length):cutL l lo hi=l:=by
 unfold cutL at h ⊢
 rw [List.length_take,List.length_drop] at h
 have h1:HT.sIx l.length l.length hi≤l.length:=HT.sIx_le _ _ (Nat.le_refl _) _
 by_cases hl:l.length=0
 ·have:l=[]:=List.length_eq_zero_iff.mp hl
  subst this
  simp
 ·have h2:HT.sIx l.length 0 lo=0:=by lia
  rw [h2,List.drop_zero,List.take_of_length_le]
  lia
section
variable {X:Cx}
noncomputable def rSlS:V→Option Int→Option Int→Hp→VK→Prop:=fun x lo hi H Q=>match x with | .str z=>z.length≤sizeLine∧Q (tx (cutL z.cps.toList lo hi)) H | _=>False
theorem zfd_ {v:Value}{o:Option Int}(p:IsPart v o):∃ l:Option (Int×Tok),v=partValue l∧l.map (·.1)=o:=by
 cases p with
 | none=>exact ⟨none,rfl,rfl⟩
 | int i t=>exact ⟨some (i,t),rfl,rfl⟩
theorem zqM_:SlR X rSlS:=by
 intro pins s σ H x v vl vu lo hi sl Q I rx hs pl pu h
 cases x with
 | str z =>
  obtain ⟨hz,q⟩:=h
  obtain ⟨t,rfl⟩:=rx
  obtain ⟨l,rfl,rfl⟩:=zfd_ pl
  obtain ⟨u,rfl,rfl⟩:=zfd_ pu
  refine ⟨"str",_,F.slot_str_getitem.lookup,typeIs_str _ _ _,?_⟩
  refine wpAny_getItem_str_slice (l:=l) (u:=u) (st:=none) hs rfl ?_
  unfold sliceMade
  have e:slicePicked z l u none=Builtin.Str.strSliceIndices (l.map (·.1)) (u.map (·.1)) 1 z.length:=rfl
  rw [e]
  have hlen:(Builtin.Str.strSliceIndices (l.map (·.1)) (u.map (·.1)) 1 z.length).length=(cutL z.cps.toList (l.map (·.1)) (u.map (·.1))).length:=by
   rw [zfB_,sliceRange_one,List.length_map,List.length_range]
   unfold cutL
   rw [List.length_take,List.length_drop]
   have h1:HT.sIx z.length z.length (u.map (·.1))≤z.length:=HT.sIx_le _ _ (Nat.le_refl _) _
   have h2:z.cps.toList.length=z.length:=by simp [Str.length]
   rw [h2]
   lia
  split
  ·rename_i hc
   have hc':(cutL z.cps.toList (l.map (·.1)) (u.map (·.1))).length=z.cps.toList.length:=by
    rw [← hlen]
    simpa [Str.length] using hc
   rw [zlX_ hc'] at q
   have q':Q (.str z) H:=by rw [zbY_ z]; exact q
   exact ⟨.str z,H,I,⟨_,rfl⟩,q'⟩
  ·rw [zjT_]
   have h3:=zgo_ z.cps.toList (l.map (·.1)) (u.map (·.1))
   have h2:z.cps.toList.length=z.length:=by simp [Str.length]
   refine ⟨?_,tx (cutL z.cps.toList (l.map (·.1)) (u.map (·.1))),H,I.tok _,⟨_,rfl⟩,q⟩
   show (cutL z.cps.toList (l.map (·.1)) (u.map (·.1))).toArray.size≤sizeLine
   rw [List.size_toArray]
   exact Nat.le_trans h3 (by rw [h2]; exact hz)
 | _=>exact h.elim
end
end L2
namespace L2
open PySem PySem.Spec PyProof.Rows
noncomputable def mVar (i:Nat):TE:=fun σ H Q=>match σ[i]? with | some (some v)=>Q v H | _=>False
section
variable {X:Cx}{a b c:Expr}{ta tb tc:TE}{pos:Pos}
theorem za_ (i:Nat) {x:Str}{pos:Pos}(hN:X.N[i]?=some x:=by rfl) (hv:Vis X.env.scope x:=by first | exact Or.inl rfl | exact Or.inr (Or.inl rfl) | exact Or.inr (Or.inr rfl)) (hd:(x == ("__debug__" : Str))=false:=by decide)
  (hcd:(x == ("__classdict__" : Str))=false:=by decide):PE X (.Name x pos) (mVar i):=by
 intro pins s σ H Q I h
 unfold mVar at h
 cases e:σ[i]? with
 | none=>rw [e] at h; exact h.elim
 | some o =>
  rw [e] at h
  cases o with
  | none=>exact h.elim
  | some v=>exact zp4_ hN hv hd hcd pins s σ H Q I ⟨v,e,h⟩
theorem zd8_ {x:Str}{l:List Nat}{j pos} (h:x=⟨l.toArray⟩:=by rfl):PE X (.Constant (.str x) j pos) (tC (tx l)):=h ▸ zqu_
noncomputable def mAdd:R2:=fun x y H Q=>match x,y with
 | .int i,.int j=>Q (.int (i+j)) H
 | .str a,.str b=>a.cps.toList.length+b.cps.toList.length≤sizeLine∧Q (tx (a.cps.toList++b.cps.toList)) H
 | .ref a,.ref b=>∃ xs zs,H a=some (.lst xs)∧H b=some (.lst zs)∧xs.length+zs.length≤sizeLine∧∀ p,H p=none→Q (.ref p) (upd H p (.lst (xs++zs)))
 | _,_=>False
theorem zal_:OpR X (binaryOp .Add) mAdd:=by
 intro pins s σ H x y v u Q I rx ry h
 cases x<;>cases y<;>first
  | exact h.elim
  | exact zpI_ pins s σ H _ _ v u Q I rx ry ⟨_,_,rfl,rfl,h⟩
  | exact zjw_ pins s σ H _ _ v u Q I rx ry ⟨_,_,rfl,rfl,by simpa [Str.length] using h.1,by rw [zjr_]; exact h.2⟩
  | (obtain ⟨xs,zs,h1,h2,h3,h4⟩:=h; exact zqb_ pins s σ H _ _ v u Q I rx ry ⟨_,_,xs,zs,rfl,rfl,h1,h2,h3,h4⟩)
noncomputable def mI (C:Int→Int→Prop) (g:Int→Int→V):R2:=fun x y H Q=>match x,y with | .int i,.int j=>C i j∧Q (g i j) H | _,_=>False
noncomputable def mI0 (g:Int→Int→V):R2:=fun x y H Q=>match x,y with | .int i,.int j=>Q (g i j) H | _,_=>False
theorem opM {f:Value→Value→Sem Value}{C:Int→Int→Prop}{g:Int→Int→V}(h:OpR X f (rI C g)):OpR X f (mI C g):=by
 intro pins s σ H x y v u Q I rx ry q
 cases x<;>cases y<;>first | exact q.elim | exact h pins s σ H _ _ v u Q I rx ry ⟨_,_,rfl,rfl,q.1,q.2⟩
theorem opM0 {f:Value→Value→Sem Value}{g:Int→Int→V}(h:OpR X f (rI0 g)):OpR X f (mI0 g):=by
 intro pins s σ H x y v u Q I rx ry q
 cases x<;>cases y<;>first | exact q.elim | exact h pins s σ H _ _ v u Q I rx ry ⟨_,_,rfl,rfl,q⟩
noncomputable abbrev mSub:R2:=mI0 fun i j=>.int (i-j)
noncomputable abbrev mMod:R2:=mI (fun _ j=>0<j) fun i j=>.int (i % j)
theorem zbO_:OpR X (binaryOp .Sub) mSub:=opM0 zqd_
theorem za0_:OpR X (binaryOp .Mod) mMod:=opM zqP_
noncomputable def mEqB (x y:V):Option Bool:=match x,y with
 | .int i,.int j=>some (decide (i=j))
 | .str a,.str b=>some (decide (a.cps.toList=b.cps.toList))
 | .bl a,.bl b=>some (decide (a=b))
 | .non,.non=>some true
 | .non,.int _=>some false | .int _,.non=>some false | .non,.bl _=>some false | .bl _,.non=>some false | .non,.str _=>some false | .str _,.non=>some false
 | .int _,.str _=>some false | .str _,.int _=>some false | .bl _,.str _=>some false | .str _,.bl _=>some false
 | _,_=>none
theorem zkq_ {x y:V}{b:Bool}(h:mEqB x y=some b):scal x y=true∧decide (x=y)=b:=by
 cases x<;>cases y<;>first
  | (cases (show (none:Option Bool)=some b from h); done)
  | (refine ⟨rfl,?_⟩; have h':=Option.some.inj h; rw [← h']; first | rfl | (simp; done))
  | (rename_i a b'
     refine ⟨rfl,?_⟩
     have h':=Option.some.inj h
     rw [← h',decide_eq_decide]
     constructor
     ·intro e; cases e; rfl
     ·intro e; rw [zbY_ a,zbY_ b',e])
noncomputable def mEq:R2:=fun x y H Q=>match mEqB x y with | some b=>Q (.bl b) H | none=>False
noncomputable def mNe:R2:=fun x y H Q=>match mEqB x y with | some b=>Q (.bl (!b)) H | none=>False
theorem znk_:OpR X (compareOp .Eq) mEq:=by
 intro pins s σ H x y v u Q I rx ry h
 unfold mEq at h
 cases e:mEqB x y with
 | none=>rw [e] at h; exact h.elim
 | some b =>
  rw [e] at h
  obtain ⟨h1,h2⟩:=zkq_ e
  exact op_eq pins s σ H x y v u Q I rx ry ⟨h1,by rw [h2]; exact h⟩
theorem zo2_:OpR X (compareOp .NotEq) mNe:=by
 intro pins s σ H x y v u Q I rx ry h
 unfold mNe at h
 cases e:mEqB x y with
 | none=>rw [e] at h; exact h.elim
 | some b =>
  rw [e] at h
  obtain ⟨h1,h2⟩:=zkq_ e
  exact op_ne pins s σ H x y v u Q I rx ry ⟨h1,by rw [h2]; exact h⟩
noncomputable abbrev mLt:R2:=mI0 fun i j=>.bl (decide (i<j))
noncomputable abbrev mGt:R2:=mI0 fun i j=>.bl (decide (j<i))
noncomputable abbrev mGe:R2:=mI0 fun i j=>.bl (decide (j≤i))
theorem zpU_:OpR X (compareOp .Lt) mLt:=opM0 op_lt
theorem znZ_:OpR X (compareOp .Gt) mGt:=opM0 op_gt
theorem zo3_:OpR X (compareOp .GtE) mGe:=opM0 op_ge
noncomputable def mIsB (x y:V):Option Bool:=match y with
 | .non=>some (decide (x=.non))
 | .bl b=>(match x with | .bl a=>some (decide (a=b)) | _=>none)
 | _=>none
noncomputable def mIs:R2:=fun x y H Q=>match mIsB x y with | some b=>Q (.bl b) H | none=>False
noncomputable def mIsNot:R2:=fun x y H Q=>match mIsB x y with | some b=>Q (.bl (!b)) H | none=>False
theorem znm_ {M:Model}{A:Around}{E:Value→Shared→Prop}{s:Shared}{a b:Bool}{Q:Value→Shared→Prop}(h:Q (.bool (decide (a=b))) s):wpAny M A (compareOp .Is (.bool a) (.bool b)) Q E s:=by
 cases a<;>cases b<;>exact wpAny_pure h
theorem zi9_ {M:Model}{A:Around}{E:Value→Shared→Prop}{s:Shared}{a b:Bool}{Q:Value→Shared→Prop}(h:Q (.bool (!decide (a=b))) s):wpAny M A (compareOp .IsNot (.bool a) (.bool b)) Q E s:=by
 cases a<;>cases b<;>exact wpAny_pure h
theorem zpV_:OpR X (compareOp .Is) mIs:=by
 intro pins s σ H x y v u Q I rx ry h
 unfold mIs mIsB at h
 cases y with
 | non=>exact zqQ_ pins s σ H x _ v u Q I rx ry ⟨rfl,h⟩
 | bl b =>
  cases x with
  | bl a=>cases rx; cases ry; exact znm_ ⟨.bl _,H,I,rfl,h⟩
  | _=>exact h.elim
 | _=>exact h.elim
theorem zl2_:OpR X (compareOp .IsNot) mIsNot:=by
 intro pins s σ H x y v u Q I rx ry h
 unfold mIsNot mIsB at h
 cases y with
 | non=>exact zn8_ pins s σ H x _ v u Q I rx ry ⟨rfl,h⟩
 | bl b =>
  cases x with
  | bl a=>cases rx; cases ry; exact zi9_ ⟨.bl _,H,I,rfl,h⟩
  | _=>exact h.elim
 | _=>exact h.elim
noncomputable def inS (l:List Nat) (t:List Nat):Bool:=match l with | [c]=>decide (c∈t) | _=>!(Builtin.Str.occurrences ⟨t.toArray⟩ ⟨l.toArray⟩ 0 t.length 1).isEmpty
theorem zou_ (a b:Str):(!(Builtin.Str.occurrences b a 0 b.length 1).isEmpty)=inS a.cps.toList b.cps.toList:=by
 have e:b.length=b.cps.toList.length:=by simp [Str.length]
 unfold inS
 split
 ·rename_i c hc
  have ea:a=⟨#[c]⟩:=by rw [zbY_ a,hc]
  rw [ea]
  exact StrLaws.found_one b c
 ·rw [← zbY_,← zbY_,e]
noncomputable def mIn (K:Fgg) (neg:Bool):R2:=fun x y H Q=>match y with
 | .str b=>(match x with | .str a=>Q (.bl (if neg then !inS a.cps.toList b.cps.toList else inS a.cps.toList b.cps.toList)) H | _=>False)
 | .ref p=>∃ xs,(SqL K H p xs∨SqT K H p xs)∧flatV x=true∧xs.all flatV=true∧Q (.bl (if neg then !inV x xs else inV x xs)) H
 | _=>False
theorem zoH_:OpR X (compareOp .In) (mIn X.K false):=by
 intro pins s σ H x y v u Q I rx ry h
 unfold mIn at h
 cases y with
 | str b =>
  cases x with
  | str a=>exact zlD_ pins s σ H _ _ v u Q I rx ry ⟨_,_,rfl,rfl,by rw [zou_]; exact h⟩
  | _=>exact h.elim
 | ref p =>
  obtain ⟨xs,h1,h2,h3,h4⟩:=h
  exact zlA_ pins s σ H _ _ v u Q I rx ry ⟨_,xs,rfl,h1,h2,h3,h4⟩
 | _=>exact h.elim
noncomputable def mTest (t:TE):TT:=fun σ H Q=>t σ H fun x H'=>match x with | .bl k=>Q k H' | _=>False
noncomputable def mOrV (ta tb:TE):TE:=fun σ H Q=>ta σ H fun x H1=>match x with | .bl c=>br c (Q (.bl true) H1) (tb σ H1 Q) | _=>False
noncomputable def mNotV (ta:TE):TE:=fun σ H Q=>ta σ H fun x H1=>match x with | .bl c=>Q (.bl (!c)) H1 | _=>False
noncomputable def mAnd (t u:TT):TT:=fun σ H Q=>t σ H fun c H1=>br c (u σ H1 Q) (Q false H1)
noncomputable def mOr (t u:TT):TT:=fun σ H Q=>t σ H fun c H1=>br c (Q true H1) (u σ H1 Q)
variable {rest:List Expr}{tA tB':TT}
theorem zqz_ (ha:PE X a ta) (hb:PE X (.BoolOp .Or (b::rest) pos) tb):PE X (.BoolOp .Or (a::b::rest) pos) (mOrV ta tb):=by
 intro pins s σ H Q I h
 refine BoolOp_or (thn (ha pins s σ H _ I h) fun v s1 hq_=>?_)
 obtain ⟨x,H1,I1,r1,q1⟩:=hq_
 cases x with
 | bl c =>
  cases r1
  refine wpAny_truthy_bool ?_
  cases c with
  | false=>exact hb pins s1 σ H1 Q I1 (q1.2 rfl)
  | true=>exact ⟨.bl true,H1,I1,rfl,q1.1 rfl⟩
 | _=>exact q1.elim
theorem zo6_ (ha:PE X a ta):PE X (.UnaryOp .Not a pos) (mNotV ta):=by
 intro pins s σ H Q I h
 refine UnaryOp_ (thn (ha pins s σ H _ I h) fun v s1 hq_=>?_)
 obtain ⟨x,H1,I1,r1,q1⟩:=hq_
 cases x with
 | bl c=>cases r1; exact not_of (wpAny_truthy_bool ⟨.bl (!c),H1,I1,rfl,q1⟩)
 | _=>exact q1.elim
theorem zo5_ (ha:PT X a tA) (hb:PW X (.BoolOp .And (b::rest) pos) tB'):PW X (.BoolOp .And (a::b::rest) pos) (mAnd tA tB'):=by
 intro wh pins s σ H Q I h
 refine isTrue_and (thn (ha pins s σ H _ I h) fun c s1 hq_=>?_)
 obtain ⟨H1,I1,q1⟩:=hq_
 cases c with
 | true=>exact hb wh pins s1 σ H1 Q I1 (q1.1 rfl)
 | false=>exact ⟨H1,I1,q1.2 rfl⟩
theorem zqX_ (ha:PT X a tA) (hb:PW X (.BoolOp .Or (b::rest) pos) tB'):PW X (.BoolOp .Or (a::b::rest) pos) (mOr tA tB'):=by
 intro wh pins s σ H Q I h
 refine isTrue_or (thn (ha pins s σ H _ I h) fun c s1 hq_=>?_)
 obtain ⟨H1,I1,q1⟩:=hq_
 cases c with
 | true=>exact ⟨H1,I1,q1.1 rfl⟩
 | false=>exact hb wh pins s1 σ H1 Q I1 (q1.2 rfl)
theorem zf7_ {e:Expr}{t:TE}(h:PE X e t) (he:∀ whole,isTrue e X.env whole=(do let v ← whole; standAt e.pos; holding [v] (truthy v)):=by intro _; rfl):PT X e (mTest t):=by
 intro pins s σ H Q I hw
 refine isTrue_plain (thn (h pins s σ H _ I hw) fun v s1 hq_=>?_) (he _)
 obtain ⟨x,H1,I1,r1,q1⟩:=hq_
 cases x with
 | bl c=>cases r1; exact wpAny_truthy_bool ⟨H1,I1,q1⟩
 | _=>exact q1.elim
theorem zdU_ {op:CmpOp}{r:R2}(ho:OpR X (compareOp op) r) (ha:PE X a ta) (hb:PE X b tb) (hm:behindInMarks op b=false:=by first | exact nobehind _ (by decide) (by decide) | rfl):PT X (.Compare a [op] [b] pos) (mTest (tOp r ta tb)):=by
 intro pins s σ H Q I hw
 refine wpAny_isTrue_Compare1 (binT ha hb I hw fun v u s2 x y H2 I2 rx ry q=>?_) hm
 refine thn (ho pins s2 σ H2 x y v u _ I2 rx ry q) fun c s3 hq_=>?_
 obtain ⟨z,H3,I3,r3,q3⟩:=hq_
 cases z with
 | bl k=>cases r3; exact wpAny_truthy_bool ⟨H3,I3,q3⟩
 | _=>exact q3.elim
theorem ziC_ {op:CmpOp}{r:R2}(ho:OpR X (compareOp op) r) (ha:PE X a ta) (hb:PE X b tb) (hm:behindInMarks op b=false:=by first | exact nobehind _ (by decide) (by decide) | rfl):PE X (.Compare a [op] [b] pos) (tOp r ta tb):=zpu_ ho ha hb hm
noncomputable def mIf (t:TT) (ta tb:TE):TE:=fun σ H Q=>t σ H fun c H1=>br c (ta σ H1 Q) (tb σ H1 Q)
theorem zpO_ {c:Expr}(hc:PT X c tA) (ha:PE X a ta) (hb:PE X b tb):PE X (.IfExp c a b pos) (mIf tA ta tb):=by
 intro pins s σ H Q I h
 refine wpAny_IfExp (thn (hc pins s σ H _ I h) fun d s1 hq_=>?_)
 obtain ⟨H1,I1,q1⟩:=hq_
 cases d with
 | true=>exact ha pins s1 σ H1 Q I1 (q1.1 rfl)
 | false=>exact hb pins s1 σ H1 Q I1 (q1.2 rfl)
noncomputable def mIfS (c:TT) (t u:TS):TS:=fun D σ H=>c σ H fun b H1=>br b (t D σ H1) (u D σ H1)
theorem zev_ {c:Expr}{a b:List Stmt}{tc:TT}{t u:TS}(hc:PT X c tc) (ha:PSs X a t) (hb:PSs X b u):PS X (.If c a b pos) (mIfS tc t u):=by
 intro pins s σ H D I h
 refine wpAny_If (thn (hc pins s σ H _ I h) fun d s1 hq_=>?_)
 obtain ⟨H1,I1,q1⟩:=hq_
 cases d with
 | true=>exact ha pins s1 σ H1 D I1 (q1.1 rfl)
 | false=>exact hb pins s1 σ H1 D I1 (q1.2 rfl)
end
end L2
namespace L2
open PySem PySem.Spec PyProof.Rows
section
variable {X:Cx}{a b c e o:Expr}{es:List Expr}{ta tb tc:TE}{t:TA}{pos:Pos}
noncomputable def mIx (K:Fgg):R2:=fun x y H Q=>match y with
 | .int i=>(match x with
  | .ref p=>∃ xs,(SqL K H p xs∨SqT K H p xs)∧(match atI xs i with | some v=>Q v H | none=>False)
  | .str z=>z.cps.toList.length≤sizeLine∧(match atI z.cps.toList i with | some c=>Q (tx [c]) H | none=>False)
  | _=>False)
 | _=>False
theorem ix_M:IxR X (mIx X.K):=by
 intro value slice pins s σ H x y v u Q I rx ry h hs0
 unfold mIx at h
 cases y with
 | int i =>
  cases x with
  | ref p =>
   obtain ⟨xs,hs,h⟩:=h
   cases ev:atI xs i with
   | none=>rw [ev] at h; exact h.elim
   | some w' =>
    rw [ev] at h
    rcases hs with hs | hs
    ·exact znX_ value slice pins s σ H _ _ v u Q I rx ry ⟨p,xs,i,w',rfl,rfl,hs,ev,h⟩ hs0
    ·exact zqO_ value slice pins s σ H _ _ v u Q I rx ry ⟨p,xs,i,w',rfl,rfl,hs,ev,h⟩ hs0
  | str z =>
   obtain ⟨hz,h⟩:=h
   cases ev:atI z.cps.toList i with
   | none=>rw [ev] at h; exact h.elim
   | some w' =>
    rw [ev] at h
    exact zpP_ value slice pins s σ H _ _ v u Q I rx ry ⟨z,i,w',rfl,rfl,by simpa [Str.length] using hz,ev,h⟩ hs0
  | _=>exact h.elim
 | _=>exact h.elim
noncomputable def mSl (K:Fgg):V→Option Int→Option Int→Hp→VK→Prop:=fun x lo hi H Q=>match x with
 | .str z=>z.cps.toList.length≤sizeLine∧Q (tx (cutL z.cps.toList lo hi)) H
 | .ref a=>∃ xs,SqL K H a xs∧∀ p,H p=none→Q (.ref p) (upd H p (.lst (cutV xs lo hi)))
 | _=>False
theorem sl_M:SlR X (mSl X.K):=by
 intro pins s σ H x v vl vu lo hi sl Q I rx hs pl pu h
 unfold mSl at h
 cases x with
 | str z=>exact zqM_ pins s σ H _ v vl vu lo hi sl Q I rx hs pl pu ⟨by simpa [Str.length] using h.1,h.2⟩
 | ref p =>
  obtain ⟨xs,h1,h2⟩:=h
  exact zpd_ pins s σ H _ v vl vu lo hi sl Q I rx hs pl pu ⟨p,xs,rfl,h1,h2⟩
 | _=>exact h.elim
noncomputable def mPart (t:TE):TO:=fun σ H Q=>t σ H fun x H1=>match x with | .int i=>Q (some i) H1 | _=>False
theorem po_M (h:PE X e ta):PO X (some e) (mPart ta):=by
 intro pins s σ H Q I hw
 rw [evalPart_some]
 refine thn (h pins s σ H _ I hw) fun u s1 hq_=>?_
 obtain ⟨x,H1,I1,r1,q1⟩:=hq_
 cases x with
 | int i=>obtain ⟨t,rfl⟩:=r1; exact ⟨some i,H1,I1,.int i t,q1⟩
 | _=>exact q1.elim
noncomputable def mLen (K:Fgg):List V→Hp→VK→Prop:=fun xs H Q=>match xs with
 | [.str z]=>z.cps.toList.length≤sizeLine∧Q (.int z.cps.toList.length) H
 | [.ref p]=>∃ ys,(SqL K H p ys∨SqT K H p ys)∧Q (.int ys.length) H
 | _=>False
theorem znM_ {K:Fgg}{xs:List V}{H:Hp}{Q:VK}(h:mLen K xs H Q):(∃ z,xs=[.str z]∧z.cps.toList.length≤sizeLine∧Q (.int z.cps.toList.length) H)∨∃ p ys,xs=[.ref p]∧(SqL K H p ys∨SqT K H p ys)∧Q (.int ys.length) H:=by
 rcases xs with _ | ⟨x,_ | ⟨y,t⟩⟩
 ·exact False.elim h
 ·cases x with
  | str z=>exact .inl ⟨z,rfl,h⟩
  | ref p=>obtain ⟨ys,h⟩:=h; exact .inr ⟨p,ys,rfl,h⟩
  | _=>exact False.elim h
 ·cases x<;>exact False.elim h
theorem zbp_:CallR X (.builtin "len") (mLen X.K):=by
 intro pins s σ H xs us Q I r h
 rcases znM_ h with ⟨z,rfl,h⟩ | ⟨p,ys,rfl,h1,h2⟩
 ·exact zhS_ pins s σ H _ us Q I r ⟨_,rfl,by simpa [Str.length] using h.1,by simpa [Str.length] using h.2⟩
 ·exact zhP_ pins s σ H _ us Q I r ⟨_,ys,rfl,h1,h2⟩
noncomputable def mTwo (g:Int→Int→Int):List V→Hp→VK→Prop:=fun xs H Q=>match xs with | [.int i,.int j]=>Q (.int (g i j)) H | _=>False
theorem zkL_ {g:Int→Int→Int}{xs:List V}{H:Hp}{Q:VK}(h:mTwo g xs H Q):∃ i j,xs=[.int i,.int j]∧Q (.int (g i j)) H:=by
 rcases xs with _ | ⟨x,_ | ⟨y,_ | ⟨w,t⟩⟩⟩
 ·exact False.elim h
 ·cases x<;>exact False.elim h
 ·cases x with
  | int i=>cases y with
   | int j=>exact ⟨i,j,rfl,h⟩
   | _=>exact False.elim h
  | _=>exact False.elim h
 ·cases x with
  | int i=>cases y<;>exact False.elim h
  | _=>exact False.elim h
theorem zif_ (hc:X.calm=true):CallR X (.builtin "max") (mTwo max):=by
 intro pins s σ H xs us Q I r h
 obtain ⟨i,j,rfl,h⟩:=zkL_ h
 refine zlN_ hc pins s σ H _ us Q I r ⟨i,j,rfl,?_⟩
 have e:(if j > i then j else i)=max i j:=by split<;>lia
 rw [e]; exact h
theorem ziB_ (hc:X.calm=true):CallR X (.builtin "min") (mTwo min):=by
 intro pins s σ H xs us Q I r h
 obtain ⟨i,j,rfl,h⟩:=zkL_ h
 refine zlY_ hc pins s σ H _ us Q I r ⟨i,j,rfl,?_⟩
 have e:(if j<i then j else i)=min i j:=by split<;>lia
 rw [e]; exact h
noncomputable def findS (l:List Nat) (t:List Nat):Int:=Txt.find ⟨l.toArray⟩ ⟨t.toArray⟩
theorem zkS_ (l:List Nat) (c:Nat):findS l [c]=(match l.findIdx? (· == c) with | some i=>(i:Int) | none => -1):=by
 unfold findS
 rcases find_whole ⟨l.toArray⟩ ⟨[c].toArray⟩ with ⟨h1,h2⟩ | ⟨i,h1,h2,h3⟩
 ·rw [h1]
  have:l.findIdx? (· == c)=none:=by
   rw [List.findIdx?_eq_none_iff]
   intro x hx
   obtain ⟨j,hj⟩:=List.mem_iff_getElem?.mp hx
   by_cases hxc:x=c
   ·subst hxc
    exact absurd ((StrLaws.subAt_one ⟨l.toArray⟩ x j).mpr (by simpa using hj)) (h2 j)
   ·simpa using hxc
  rw [this]
 ·rw [h1]
  have hi:l[i]?=some c:=by simpa using (StrLaws.subAt_one ⟨l.toArray⟩ c i).mp h2
  have:l.findIdx? (· == c)=some i:=by
   obtain ⟨hlt,hget⟩:=List.getElem?_eq_some_iff.mp hi
   rw [List.findIdx?_eq_some_iff_getElem]
   refine ⟨hlt,by simp [hget],fun j hj=>?_⟩
   have hjl:j<l.length:=Nat.lt_trans hj hlt
   have hn:=h3 j hj
   intro hc
   have hc':l[j]=c:=by simpa using hc
   exact hn ((StrLaws.subAt_one ⟨l.toArray⟩ c j).mpr (by simp [hjl,hc']))
  rw [this]
noncomputable def mFind:V→List V→Hp→VK→Prop:=fun x xs H Q=>match x,xs with | .str l,[.str t]=>Q (.int (findS l.cps.toList t.cps.toList)) H | _,_=>False
theorem zlt_ {x:V}{xs:List V}{H:Hp}{Q:VK}(h:mFind x xs H Q):∃ l t,x=.str l∧xs=[.str t]∧Q (.int (findS l.cps.toList t.cps.toList)) H:=by
 cases x with
 | str l =>
  rcases xs with _ | ⟨y,_ | ⟨z,t⟩⟩
  ·exact False.elim h
  ·cases y with
   | str t=>exact ⟨l,t,rfl,rfl,h⟩
   | _=>exact False.elim h
  ·cases y<;>exact False.elim h
 | _=>exact False.elim h
theorem znY_:MtR X "str.find" mFind:=by
 intro pins s σ H x xs v us Q I rx rv h
 obtain ⟨l,t,rfl,rfl,h⟩:=zlt_ h
 obtain ⟨k,rfl⟩:=rx
 obtain ⟨u,rfl,ru⟩:=rv.one
 obtain ⟨k',rfl⟩:=ru
 refine SC.find ?_
 have e:Txt.find l t=findS l.cps.toList t.cps.toList:=by unfold findS; rw [← zbY_,← zbY_]
 rw [e]
 exact ⟨.int _,H,I.tok _,⟨_,rfl⟩,h⟩
noncomputable def mIndex:V→List V→Hp→VK→Prop:=fun x xs H Q=>match x,xs with | .str l,[.str t]=>findS l.cps.toList t.cps.toList ≠ -1∧Q (.int (findS l.cps.toList t.cps.toList)) H | _,_=>False
theorem zne_:MtR X "str.index" mIndex:=by
 intro pins s σ H x xs v us Q I rx rv h
 unfold mIndex at h
 split at h
 ·rename_i l t
  obtain ⟨k,rfl⟩:=rx
  obtain ⟨u,rfl,ru⟩:=rv.one
  obtain ⟨k',rfl⟩:=ru
  have e:Txt.find l t=findS l.cps.toList t.cps.toList:=by unfold findS; rw [← zbY_,← zbY_]
  rw [← e] at h
  unfold Txt.find at h
  cases ho:Builtin.Str.occurrences l t 0 l.length 1 with
  | nil=>rw [ho] at h; exact absurd rfl h.1
  | cons i rest =>
   rw [ho] at h
   exact SC.index ho ⟨.int _,H,I.tok _,⟨_,rfl⟩,h.2⟩
 ·exact h.elim
noncomputable def strsOf:List V→Option (List Str)
 | []=>some []
 | .str z::r=>(strsOf r).map (z::·)
 | _::_=>none
theorem zjM_ {vs:List V}{zs:List Str}:strsOf vs=some zs→vs=zs.map V.str:=by
 induction vs generalizing zs with
 | nil=>intro h; cases h; rfl
 | cons v r ih =>
  intro h
  cases v with
  | str z =>
   unfold strsOf at h
   cases e:strsOf r with
   | none=>rw [e] at h; cases h
   | some y=>rw [e] at h; cases h; rw [ih e]; rfl
  | _=>cases h
noncomputable def joinS (sep:List Nat) (zs:List Str):List Nat:=(Txt.join ⟨sep.toArray⟩ zs).cps.toList
noncomputable def mJoin (K:Fgg):V→List V→Hp→VK→Prop:=fun x xs H Q=>match x,xs with
 | .str l,[.ref D]=>∃ vs,(SqL K H D vs)∧(match strsOf vs with | some zs=>JoinOk l zs=true∧Q (tx (joinS l.cps.toList zs)) H | none=>False)
 | _,_=>False
theorem zit_:∀ {zs:List Str}{us:List Value},Vals (zs.map V.str) us→∃ l:List (Str×Tok),us=strValues l∧l.map (·.1)=zs
 | [],us,r=>by cases r; exact ⟨[],rfl,rfl⟩
 | z::zs,us,r=>by
  cases r with
  | cons r rr =>
   obtain ⟨t,rfl⟩:=r
   obtain ⟨l,rfl,hl⟩:=zit_ rr
   exact ⟨(z,t)::l,rfl,by rw [List.map_cons,hl]⟩
theorem zlW_ {K:Fgg}{x:V}{xs:List V}{H:Hp}{Q:VK}(h:mJoin K x xs H Q):∃ l D,x=.str l∧xs=[.ref D]∧∃ vs,(SqL K H D vs)∧(match strsOf vs with | some zs=>JoinOk l zs=true∧Q (tx (joinS l.cps.toList zs)) H | none=>False):=by
 cases x with
 | str l =>
  rcases xs with _ | ⟨y,_ | ⟨z,t⟩⟩
  ·exact False.elim h
  ·cases y with
   | ref t=>exact ⟨l,t,rfl,rfl,h⟩
   | _=>exact False.elim h
  ·cases y<;>exact False.elim h
 | _=>exact False.elim h
theorem zjY_:MtR X "str.join" (mJoin X.K):=by
 intro pins s σ H x xs v us Q I rx rv h
 obtain ⟨l,D,rfl,rfl,h⟩:=zlW_ h
 ·obtain ⟨k,rfl⟩:=rx
  obtain ⟨u,rfl,ru⟩:=rv.one
  cases ru
  obtain ⟨vs,hs,h⟩:=h
  cases ez:strsOf vs with
  | none=>rw [ez] at h; exact h.elim
  | some zs =>
   rw [ez] at h
   have ev:=zjM_ ez
   subst ev
   obtain ⟨its,r,p,hz⟩:=I.list hs
   obtain ⟨lz,e1,e2⟩:=zit_ r
   subst e1
   refine SC.join p.isList e2 h.1 fun t' k'=>⟨tx (joinS l.cps.toList zs),H,I.tok _,⟨t',?_⟩,h.2⟩
   unfold joinS
   rw [← zbY_,← zbY_]
end
theorem zmW_ (zs:List Str):joinS [] zs=(zs.map fun z=>z.cps.toList).flatten:=by
 unfold joinS Txt.join Builtin.Str.glued
 cases zs with
 | nil=>rfl
 | cons z r =>
  show ((r.foldl (fun acc p=>acc++#[]++p.cps) z.cps)).toList=_
  have:∀ (acc:Array Nat),(r.foldl (fun acc p=>acc++#[]++p.cps) acc).toList=acc.toList++(r.map fun z=>z.cps.toList).flatten:=by
   induction r with
   | nil=>intro acc; simp
   | cons y r ih=>intro acc; rw [List.foldl_cons,ih]; simp
  rw [this]
  simp
end L2
namespace L2
open PySem PySem.Spec PyProof.Rows
noncomputable def Gd (P:Program) (w:World) (K:Fgg) (mg:Str→Option Value) (base:Heap) (CX:CXT) (k:Nat) (x:Str) (ps:List Str) (sp:Sp):Prop :=
 ∃ f fd,FnOk P w K mg base CX k f fd ps sp∧mg x=some (.ref f)∧PySem.W.keepIn K (.ref f)=true∧Binds K fd ps []
noncomputable def Gc (mg:Str→Option Value) (x:Str) (v:V):Prop:=∃ u,mg x=some u∧RelV v u
noncomputable abbrev Gb (mg:Str→Option Value) (x:Str):Prop:=mg x=none
section
variable {X:Cx}{CX:CXT}{k:Nat}{x:Str}{ps:List Str}{sp:Sp}{p pos:Pos}{e:Expr}{es:List Expr}{t:TA}{tg:Expr}
theorem zH_ (G:Gd X.prog X.w X.K X.mg X.base CX0 k x ps sp) (hr:Room k X.A) (ha:PA X (e::es) t) (hg:Gl X x:=by rfl) (hdb:(x == ("__debug__" : Str))=false:=by decide)
  (he:starEach (e::es) X.env=(false,eval e X.env)::starEach es X.env:=by rfl) (hpl:(backTo pos (starEach es X.env)).any (·.1)=false:=by rfl) :
  PE X (.Call (.Name x p) (e::es) [] pos) (tCall sp [] E0 t):=by
 obtain ⟨f,fd,F,hm,hk,hb⟩:=G
 exact zpm_ F hr hg hm hk hb .nil pass0 ha hdb he hpl
theorem zpB_ {v:V}(h:Gc X.mg x v) (hg:Gl X x:=by rfl) (hd:(x == ("__debug__" : Str))=false:=by decide):PE X (.Name x pos) (tC v):=by
 obtain ⟨u,hm,r⟩:=h
 exact znV_ hg hm r hd
theorem zhd_ {id:String}{r:List V→Hp→VK→Prop}(hc:CallR X (.builtin id) r) (hm:Gb X.mg x) (ha:PA X (e::es) t) (hg:Gl X x:=by rfl) (hv:bootBuiltins x=some (.builtin id):=by rfl) (hn:x ≠ "__name__" := by decide) (hdb:(x == ("__debug__" : Str))=false:=by decide)
  (hs:starEach (e::es) X.env=(false,eval e X.env)::starEach es X.env:=by rfl) (hpl:(backTo pos (starEach es X.env)).any (·.1)=false:=by rfl):PE X (.Call (.Name x p) (e::es) [] pos) (tCB r t) :=
 zmN_ hc hg hm hv ha hn hdb hs hpl
theorem znR_ {o:Expr}{to:TE}{name:Str}{id:String}{r:V→List V→Hp→VK→Prop}{apos cpos:Pos}(slot:Slot "str" name id) (hty:typeOf (.builtin id)=pure (.type "method_descriptor")) (hm:MtR X id r) (ho:PE X o to) (ha:PA X (e::es) t)
  (h1:attributeBase o name X.env (eval o X.env)=eval o X.env:=by rfl) (h2:((((backTo cpos (starEach (e::es) X.env)).all fun x=>!x.fst) && (backToKw cpos (keywordEach [] X.env)).all fun x=>x.fst.isSome) && decide (((e::es).length+([]:List Keyword).length+if ([]:List Keyword).isEmpty=true then 0 else 1)<30))=true:=by rfl)
  (h3:(apos.endLine == cpos.line)=true:=by rfl) (h4:starEach (e::es) X.env=(false,eval e X.env)::starEach es X.env:=by rfl) (h5:((backTo cpos (starEach es X.env)).any fun x=>x.fst)=false:=by rfl) :
  PE X (.Call (.Attribute o name apos) (e::es) [] cpos) (tBM X.K "str" r to t):=zm9_ PySem.F.plainAttrs_str slot hty hm ho ha h1 h2 h3 h4 h5
noncomputable def iAny (K:Fgg) (tl:TE):TI:=fun σ H R=>tl σ H fun x H1=>match x with
 | .str z=>R (Itp z.cps.toList.length (fun i=>tx [z.cps.toList.getD i 0])) H1
 | .ref a=>((∃ xs,SqL K H1 a xs)∧R (Itl K a) H1)∨((∃ xs,SqT K H1 a xs)∧R (Itt K a) H1)
 | _=>False
theorem zqv_ (z:Str):sgn z=fun i=>tx [z.cps.toList.getD i 0]:=by
 funext i
 unfold sgn
 simp [Array.getD_eq_getD_getElem?,List.getD_eq_getElem?_getD]
theorem zdL_ {l:Expr}{tl:TE}(hl:PE X l tl):PI X tg l (iAny X.K tl):=by
 intro pins s σ H R I h
 refine thn (hl pins s σ H _ I h) fun v s1 hq_=>?_
 obtain ⟨x,H1,I1,r1,q1⟩:=hq_
 have pt:∀ (v:V),PE X l (tC v)→PE X l (tC v):=fun _ h=>h
 cases x with
 | str z =>
  obtain ⟨t,rfl⟩:=r1
  refine wpAny_pyIter_strU ?_
  have q:R (Itp z.cps.size (sgn z)) H1:=by
   have e:z.cps.toList.length=z.cps.size:=by simp
   rw [zqv_,← e]
   exact q1
  refine ⟨s1.heap.objs.size,[s1.heap.objs.size],_,_,H1,rfl,I1.kept (t':=s1.toks) fun b o e=>Heap.get?_push_of_some _ e,zm2_ _ z t,⟨Nat.zero_le _,⟨_,Heap.get?_push_size _ rfl,rfl,rfl⟩⟩,fun b hb=>?_,q⟩
  have e:b=s1.heap.objs.size:=by simpa using hb
  subst e
  exact I1.fpOk (Nat.le_refl _) (I1.hok.fresh (Nat.le_refl _))
 | ref a =>
  cases r1
  rcases q1 with ⟨⟨xs,hq⟩,q⟩ | ⟨⟨xs,hq⟩,q⟩
  ·obtain ⟨its,rv,p,hz⟩:=I1.list hq
   refine wpAny_pyIter_list p.isList ?_
   refine ⟨s1.heap.objs.size,[s1.heap.objs.size],_,_,H1,rfl,I1.kept (t':=s1.toks) fun b o e=>Heap.get?_push_of_some _ e,zlQ_ a _,⟨_,Heap.get?_push_size _ rfl,rfl,rfl⟩,fun b hb=>?_,q⟩
   have e:b=s1.heap.objs.size:=by simpa using hb
   subst e
   exact I1.fpOk (Nat.le_refl _) (I1.hok.fresh (Nat.le_refl _))
  ·obtain ⟨its,rv,p,hz⟩:=I1.tuple hq
   refine wpAny_pyIter_tuple (show s1.heap.IsTuple a its.toArray from p) ?_
   refine ⟨s1.heap.objs.size,[s1.heap.objs.size],_,_,H1,rfl,I1.kept (t':=s1.toks) fun b o e=>Heap.get?_push_of_some _ e,zkg_ a _,⟨_,Heap.get?_push_size _ rfl,rfl,rfl⟩,fun b hb=>?_,q⟩
   have e:b=s1.heap.objs.size:=by simpa using hb
   subst e
   exact I1.fpOk (Nat.le_refl _) (I1.hok.fresh (Nat.le_refl _))
 | _=>exact q1.elim
noncomputable def mRng1 (ta:TA):TI:=fun σ H R=>ta σ H fun vs H1=>match vs with | [.int j] => -(2 ^ 62)≤j∧j<2 ^ 62∧R (Itr 0 j.toNat) H1 | _=>False
noncomputable def mRng2 (ta:TA):TI:=fun σ H R=>ta σ H fun vs H1=>match vs with | [.int i,.int j]=>(-(2 ^ 62)≤i∧i<2 ^ 62 ∧ -(2 ^ 62)≤j∧j<2 ^ 62)∧R (Itr i (j-i).toNat) H1 | _=>False
end
section
variable {X:Cx}{tg:Expr}
theorem zdY_ {a:Expr}{ta:TA}{p pos:Pos}(hm:Gb X.mg "range") (ha:PA X [a] ta) (hg:Gl X "range" := by rfl) (hs:starEach [a] X.env=[(false,eval a X.env)]:=by rfl):PI X tg (.Call (.Name "range" p) [a] [] pos) (mRng1 ta):=by
 intro pins s σ H R I h
 refine Call_ (zhw_ I hg hm boot_range (PyProof.Rows.callWith_type1 (thn (ha pos pins s σ H _ I h) fun us s1 hq_=>?_) hs rfl))
 obtain ⟨vs,H1,I1,r1,q1⟩:=hq_
 try dsimp only at q1
 split at q1
 ·obtain ⟨q2,q3,q⟩:=q1
  cases r1 with
  | cons r rr =>
   cases rr
   obtain ⟨t,rfl⟩:=r
   exact call_range_1 (zkk_ I1 (by lia) (by lia) q2 q3 (by simpa using q))
 ·exact q1.elim
theorem zmS_ {a b:Expr}{ta:TA}{p pos:Pos}(hm:Gb X.mg "range") (ha:PA X [a,b] ta) (hg:Gl X "range" := by rfl) (hs:starEach [a,b] X.env=[(false,eval a X.env),(false,eval b X.env)]:=by rfl) (hs2:starEach [b] X.env=[(false,eval b X.env)]:=by rfl) :
  PI X tg (.Call (.Name "range" p) [a,b] [] pos) (mRng2 ta):=by
 intro pins s σ H R I h
 refine Call_ (zhw_ I hg hm boot_range (PyProof.Rows.callWith_type1 (thn (ha pos pins s σ H _ I h) fun us s1 hq_=>?_) (by rw [hs,hs2]) (by rw [hs2]; rfl)))
 obtain ⟨vs,H1,I1,r1,q1⟩:=hq_
 try dsimp only at q1
 split at q1
 ·obtain ⟨⟨q1,q2,q3,q4⟩,q⟩:=q1
  cases r1 with
  | cons r rr =>
   cases rr with
   | cons r' rr =>
    cases rr
    obtain ⟨t,rfl⟩:=r
    obtain ⟨t',rfl⟩:=r'
    exact call_range_2 (zkk_ I1 q1 q2 q3 q4 q)
 ·exact q1.elim
variable {elts:List Expr}{kk:Nat}{tpos:Pos}
noncomputable def gNilM:TGs:=fun vs σ H Q=>match vs with | []=>Q σ H | _=>False
noncomputable def gConsM (t:TG) (u:TGs):TGs:=fun vs σ H Q=>match vs with | v::r=>t v σ H fun σ' H'=>u r σ' H' Q | []=>False
theorem zgA_:PGs X [] gNilM:=by
 intro pins s σ H vs us Q I r h
 cases vs with
 | nil=>exact zo8_ pins s σ H [] us Q I r ⟨rfl,h⟩
 | cons _ _=>exact h.elim
theorem zcv_ {e:Expr}{es:List Expr}{t:TG}{u:TGs}(h1:PG X e t) (h2:PGs X es u)
  (hs:(assignEach (e::es) X.env).map (·.2)=assign e X.env::(assignEach es X.env).map (·.2):=by rfl):PGs X (e::es) (gConsM t u):=by
 intro pins s σ H vs us Q I r h
 cases vs with
 | nil=>exact h.elim
 | cons v vr=>exact znf_ h1 h2 hs pins s σ H _ us Q I r ⟨v,vr,rfl,h⟩
noncomputable def gTupM (K:Fgg) (n:Nat) (t:TGs):TG:=fun v σ H Q=>match v with | .ref a=>∃ xs,SqT K H a xs∧xs.length=n∧t xs σ H Q | _=>False
theorem ziP_ {es:List Expr}{k:Nat}{t:TGs}{n:Nat}{pos:Pos}(hc:X.calm=true) (h:PGs X es t)
  (hn:(assignEach es X.env).length=n:=by rfl) (hst:(assignEach es X.env).findIdx? (·.1)=none:=by rfl):PG X (.Tuple es k pos) (gTupM X.K n t):=by
 intro pins s σ H v u Q I r hw
 cases v with
 | ref a =>
  obtain ⟨xs,h1,h2,h3⟩:=hw
  exact zqm_ hc h hn hst pins s σ H _ u Q I r ⟨a,xs,rfl,h1,h2,h3⟩
 | _=>exact hw.elim
noncomputable def mNeg (ta:TE):TE:=fun σ H Q=>ta σ H fun x H1=>match x with | .int i=>Q (.int (-i)) H1 | _=>False
theorem zpq_ {a:Expr}{ta:TE}{pos:Pos}(ha:PE X a ta):PE X (.UnaryOp .USub a pos) (mNeg ta):=by
 intro pins s σ H Q I h
 refine UnaryOp_ (thn (ha pins s σ H _ I h) fun v s1 hq_=>?_)
 obtain ⟨x,H1,I1,r1,q1⟩:=hq_
 cases x with
 | int i=>exact zpN_ pins s1 σ H1 _ v Q I1 r1 ⟨i,rfl,q1⟩
 | _=>exact q1.elim
end
theorem zfC_ {H:Hp}{p:Addr}(h:H p=none) (o:HO):Same H (upd H p o):=fun b u q=>by rw [zbk_ (zcE_ q h)]; exact q
end L2
namespace L2
open PySem PySem.Spec PyProof.Rows
theorem zfG_ {n:Nat}(h:n≤100000):n≤sizeLine:=by rw [sizeLine_eq]; lia
theorem zfi_ {zs:List Str}{sep:Str}(h:zs.length*(sep.length+1)≤100000) (h1:∀ z∈zs,z.length≤1):JoinOk sep zs=true:=by
 unfold JoinOk
 have key:∀ (l:List Str) (acc:Nat),(∀ z∈l,z.length≤1)→l.foldl (fun x1 x2=>x1+x2.length+sep.length) acc≤acc+l.length*(sep.length+1):=by
  intro l
  induction l with
  | nil=>intro acc _; simp
  | cons z r ih =>
   intro acc hz
   rw [List.foldl_cons]
   have h2:=ih (acc+z.length+sep.length) fun y hy=>hz y (List.mem_cons_of_mem _ hy)
   have h3:=hz z List.mem_cons_self
   rw [List.length_cons,Nat.add_mul]
   omega
 have q:=key zs 0 h1
 rw [List.foldl_toArray]
 unfold Builtin.Str.tooLong
 simp only [Bool.not_eq_true',decide_eq_false_iff_not]
 have:zs.foldl (fun x1 x2=>x1+x2.length+sep.length) 0≤100000:=by omega
 have hl:(100000:Nat)≤sizeLine:=by rw [sizeLine_eq]; omega
 omega
end L2
namespace L2
open PySem PySem.Spec PyProof.Rows
section
variable {X:Cx}{tg:Expr}
theorem zi1_ {P:Program}{w:World}{K:Fgg}{tg:Expr}(it:Addr) (lo c:Int) (n:Nat) :
  Turn P w K tg (Itp n fun i=>.int (lo+i*c)) [it] it (fun i h=>i≤n∧IsRangeIter h it (lo+(i:Nat)*c) ((n:Int)-(i:Nat)) c):=by
 refine zin_ (Pw:=fun i v=>∃ t,v=.int (lo+i*c) t) (fun A hA=>Walks.range hA it lo c n) (fun i v _ h=>h) (fun i h st=>⟨_,_,_,st,rfl,rfl,by decide⟩) (fun A i s Q E st h=>wpAny_pyIter_rangeiter st h) (fun i h h' st k=>k it (by simp) _ st)
theorem zek_ (a b:Int):Builtin.Range.rangeSize a b (-1)=(((a-b).toNat:Nat):Int):=by
 unfold Builtin.Range.rangeSize
 rw [if_neg (by decide)]
 split
 ·have e:(a-b-1) / (- -1)=a-b-1:=by
   have:(- -1:Int)=1:=by decide
   rw [this,Int.ediv_one]
  rw [e]; lia
 ·lia
theorem zkU_ {a b:Int}(ha : -(2 ^ 61)≤a) (ha':a<2 ^ 61) (hb : -(2 ^ 61)≤b) (hb':b<2 ^ 61):Builtin.Range.small a b (-1)=true:=by
 unfold Builtin.Range.small
 rw [zek_]
 simp only [Builtin.Range.rangeFitsLong,Bool.and_eq_true,Bool.or_eq_true,decide_eq_true_eq,beq_iff_eq,show ¬ ((-1:Int) > 0) by decide,if_false]
 omega
noncomputable def mRng3 (ta:TA):TI:=fun σ H R=>ta σ H fun vs H1=>match vs with
 | [.int i,.int j,.int c]=>c = -1∧(-(2 ^ 61)≤i∧i<2 ^ 61 ∧ -(2 ^ 61)≤j∧j<2 ^ 61)∧R (Itp (i-j).toNat fun k=>.int (i+k*(-1))) H1
 | _=>False
theorem znH_ {a b c:Expr}{ta:TA}{p pos:Pos}(hm:Gb X.mg "range") (ha:PA X [a,b,c] ta) (hg:Gl X "range" := by rfl)
  (hs:starEach [a,b,c] X.env=(false,eval a X.env)::starEach [b,c] X.env:=by rfl) (hpl:(backTo pos (starEach [b,c] X.env)).any (·.1)=false:=by rfl) :
  PI X tg (.Call (.Name "range" p) [a,b,c] [] pos) (mRng3 ta):=by
 intro pins s σ H R I h
 refine Call_ (zhw_ I hg hm boot_range (PyProof.Rows.callWith_type1 (thn (ha pos pins s σ H _ I h) fun us s1 hq_=>?_) hs hpl))
 obtain ⟨vs,H1,I1,r1,q1⟩:=hq_
 try dsimp only at q1
 split at q1
 ·rename_i i j c
  obtain ⟨rfl,⟨q1,q2,q3,q4⟩,q⟩:=q1
  cases r1 with
  | cons r rr =>
   cases rr with
   | cons r' rr =>
    cases rr with
    | cons r'' rr =>
     cases rr
     obtain ⟨t,rfl⟩:=r
     obtain ⟨t',rfl⟩:=r'
     obtain ⟨t'',rfl⟩:=r''
     refine call_range_3 (by decide) ?_ (.inl (PyProof.noPylong_small (by decide)))
     refine wpAny_pyIter_range (IsRange.new ..) (zkU_ q1 q2 q3 q4) ?_
     have I2:Inv X pins σ H1 { s1 with heap:=s1.heap.push { cls:=.type "range",data:=.fields #[.int i t,.int j t',.int (-1) t''] },toks:=s1.toks }:=I1.kept fun b o e=>Heap.get?_push_of_some _ e
     refine ⟨(s1.heap.push { cls:=.type "range",data:=.fields #[.int i t,.int j t',.int (-1) t''] }).objs.size,[(s1.heap.push { cls:=.type "range",data:=.fields #[.int i t,.int j t',.int (-1) t''] }).objs.size],_,_,H1,rfl,
      I2.kept (t':=s1.toks) fun b o e=>Heap.get?_push_of_some _ e,zi1_ _ i (-1) (i-j).toNat,⟨Nat.zero_le _,?_⟩,fun b hb=>?_,q⟩
     ·have e1:i+((0:Nat):Int)*(-1)=i:=by simp
      have e2:(((i-j).toNat:Nat):Int)-((0:Nat):Int)=Builtin.Range.rangeSize i j (-1):=by rw [zek_]; simp
      rw [e1,e2]
      exact Heap.get?_push_size _ rfl
     ·have e:b=(s1.heap.push { cls:=.type "range",data:=.fields #[.int i t,.int j t',.int (-1) t''] }).objs.size:=by simpa using hb
      subst e
      exact I2.fpOk (Nat.le_refl _) (I2.hok.fresh (Nat.le_refl _))
 ·exact q1.elim
noncomputable def mSet:TSet:=fun o i v H Q=>match i with
 | .int k=>(match o with
  | .ref p=>∃ xs,H p=some (.lst xs)∧(match ixN xs.length k with | some j=>Q (upd H p (.lst (xs.set j v))) | none=>False)
  | _=>False)
 | _=>False
theorem set_M:PSet X mSet:=by
 intro pins s σ H o i v ov iv u Q I ro ri rv h
 unfold mSet at h
 cases i with
 | int k =>
  cases o with
  | ref p =>
   obtain ⟨xs,h1,h⟩:=h
   cases e:ixN xs.length k with
   | none=>rw [e] at h; exact h.elim
   | some j =>
    rw [e] at h
    exact zmI_ pins s σ H _ _ v ov iv u Q I ro ri rv ⟨p,xs,k,j,rfl,rfl,h1,e,h⟩
  | _=>exact h.elim
 | _=>exact h.elim
theorem zk8_ {n:Nat}{k:Int}(h0:0≤k) (h1:k<n):ixN n k=some k.toNat:=by unfold ixN; rw [if_pos h0,if_pos h1]
noncomputable def strI (i:Int):List Nat:=(Str.ofString (toString i)).cps.toList
noncomputable def mStr:List V→Hp→VK→Prop:=fun xs H Q=>match xs with | [.int i]=>i.natAbs.log2<1920∧Q (tx (strI i)) H | _=>False
theorem zlR_:CallR X (.type "str") mStr:=by
 intro pins s σ H xs us Q I r h
 unfold mStr at h
 split at h
 ·rename_i i
  refine zhK_ pins s σ H _ us Q I r ⟨i,rfl,h.1,?_⟩
  have e:tx (strI i)=V.str (Str.ofString (toString i)):=by unfold strI tx; rw [← zbY_]
  rw [← e]
  exact h.2
 ·exact h.elim
noncomputable def mZfill:V→List V→Hp→VK→Prop:=fun x xs H Q=>match x,xs with | .str l,[.int i]=>PadOk i=true∧Q (tx (Txt.zfill l i).cps.toList) H | _,_=>False
theorem zmH_:MtR X "str.zfill" mZfill:=by
 intro pins s σ H x xs v us Q I rx rv h
 have hi:∃ l i,x=.str l∧xs=[.int i]∧PadOk i=true∧Q (tx (Txt.zfill l i).cps.toList) H:=by
  cases x with
  | str l =>
   rcases xs with _ | ⟨y,_ | ⟨z,t⟩⟩
   ·exact False.elim h
   ·cases y with
    | int t=>exact ⟨l,t,rfl,rfl,h⟩
    | _=>exact False.elim h
   ·cases y<;>exact False.elim h
  | _=>exact False.elim h
 obtain ⟨l,i,rfl,rfl,h⟩:=hi
 obtain ⟨k,rfl⟩:=rx
 obtain ⟨u,rfl,ru⟩:=rv.one
 obtain ⟨k',rfl⟩:=ru
 exact SC.zfill h.1 fun t' k=>⟨tx (Txt.zfill l i).cps.toList,H,I.tok _,⟨t',by rw [← zbY_]⟩,h.2⟩
end
section
variable {X:Cx}{x:Str}{p pos:Pos}{e:Expr}{es:List Expr}{t:TA}
theorem zpF_ (T:String) {r:List V→Hp→VK→Prop}(hc:CallR X (.type T) r) (hm:Gb X.mg x) (ha:PA X (e::es) t) (hg:Gl X x:=by rfl) (hv:bootBuiltins x=some (.type T):=by rfl) (hn:x ≠ "__name__" := by decide) (hdb:(x == ("__debug__" : Str))=false:=by decide)
  (hs:starEach (e::es) X.env=(false,eval e X.env)::starEach es X.env:=by rfl) (hpl:(backTo pos (starEach es X.env)).any (·.1)=false:=by rfl):PE X (.Call (.Name x p) (e::es) [] pos) (tCB r t) :=
 zlL_ hc hg hm hv ha hn hdb hs hpl
end
noncomputable def digs:Nat→Nat→List Nat
 | 0,_=>[]
 | w+1,n=>digs w (n / 10)++[48+n % 10]
theorem zb9_:∀ (w n:Nat),(digs w n).length=w
 | 0,_=>rfl
 | w+1,n=>by rw [digs,List.length_append,zb9_ w]; rfl
theorem ziN_:∀ (w:Nat),digs w 0=List.replicate w 48
 | 0=>rfl
 | w+1=>by rw [digs,ziN_ w,List.replicate_succ']
end L2
namespace L2
open PySem PySem.Spec PyProof.Rows
noncomputable def dg (m:Nat):List Nat:=(Nat.toDigits 10 m).map Char.toNat
theorem zjD_ (m:Nat):strI (m:Int)=dg m:=PySem.W.KIN.signs_num m
theorem zgX_:∀ d:Nat,d<10→(Nat.digitChar d).toNat=48+d:=by decide
theorem zqc_ {m:Nat}(h:m<10):dg m=[48+m]:=by
 unfold dg
 rw [Nat.toDigits_of_lt_base h]
 show [(Nat.digitChar m).toNat]=_
 rw [zgX_ m h]
theorem dg_ge {m:Nat}(h:¬ m<10):dg m=dg (m / 10)++[48+m % 10]:=by
 unfold dg
 have hm:m % 10<10:=Nat.mod_lt m (by decide)
 have t:Nat.toDigits 10 (m / 10)++Nat.toDigits 10 (m % 10)=Nat.toDigits 10 (10*(m / 10)+m % 10):=Nat.toDigits_append_toDigits (by decide) (by lia) hm
 rw [Nat.div_add_mod] at t
 rw [← t,List.map_append,Nat.toDigits_of_lt_base hm]
 show _++[(Nat.digitChar (m % 10)).toNat]=_
 rw [zgX_ _ hm]
theorem zoe_:∀ (w m:Nat),m<10 ^ (w+1)→(dg m).length≤w+1∧List.replicate (w+1-(dg m).length) 48++dg m=digs (w+1) m
 | w,m,h=>by
  by_cases hm:m<10
  ·rw [zqc_ hm]
   refine ⟨by show 1≤w+1; lia,?_⟩
   rw [digs,show m / 10=0 by lia,ziN_,show m % 10=m by lia]
   rfl
  ·cases w with
   | zero=>exact absurd h (by simpa using hm)
   | succ w =>
    have hd:m / 10<10 ^ (w+1):=by
     rw [Nat.div_lt_iff_lt_mul (by decide)]
     rw [Nat.pow_succ] at h
     exact h
    obtain ⟨h1,h2⟩:=zoe_ w (m / 10) hd
    rw [dg_ge hm]
    refine ⟨by rw [List.length_append]; show _+1≤_; lia,?_⟩
    have e:digs (w+1+1) m=digs (w+1) (m / 10)++[48+m % 10]:=rfl
    rw [e,← h2,List.append_assoc,List.length_append]
    have e2:w+1+1-((dg (m / 10)).length+[48+m % 10].length)=w+1-(dg (m / 10)).length:=by
     show w+1+1-((dg (m / 10)).length+1)=_
     lia
    rw [e2]
theorem zo9_ (m:Nat):∃ c r,dg m=c::r∧48≤c:=by
 induction m using Nat.strongRecOn with
 | _ m ih =>
  by_cases h:m<10
  ·exact ⟨48+m,[],zqc_ h,by lia⟩
  ·obtain ⟨c,r,e,hc⟩:=ih (m / 10) (by lia)
   exact ⟨c,r++[48+m % 10],by rw [dg_ge h,e]; rfl,hc⟩
theorem zjq_ {w m:Nat}(hw:1≤w) (h:m<10 ^ w):(Txt.zfill ⟨(dg m).toArray⟩ (w:Int)).cps.toList=digs w m:=by
 obtain ⟨w',rfl⟩:∃ w',w=w'+1:=⟨w-1,by lia⟩
 obtain ⟨h1,h2⟩:=zoe_ w' m h
 have hl:(⟨(dg m).toArray⟩:Str).length=(dg m).length:=by simp [Str.length]
 unfold Txt.zfill
 rw [hl]
 by_cases he:((w'+1:Nat):Int)≤((dg m).length:Int)
 ·rw [if_pos he]
  have e:(dg m).length=w'+1:=by lia
  rw [← h2,e,Nat.sub_self]
  simp
 ·rw [if_neg he]
  obtain ⟨c,r,ec,hc⟩:=zo9_ m
  have e:zfilled ⟨(dg m).toArray⟩ ((((w'+1:Nat):Int)).toNat-(dg m).length)=Builtin.Str.padded ⟨(dg m).toArray⟩ ((((w'+1:Nat):Int)).toNat-(dg m).length) 0 48:=by
   unfold zfilled
   have e0:((⟨(dg m).toArray⟩:Str).cps)[0]?=some c:=by rw [ec]; simp
   rw [e0]
   split
   ·rename_i h'; cases h'; lia
   ·rename_i h'; cases h'; lia
   ·rfl
  rw [e]
  unfold Builtin.Str.padded
  rw [← h2]
  simp
theorem zfp_:∀ (j n:Nat),digs (j+1) n=(48+n / 10 ^ j % 10)::digs j n
 | 0,n=>by simp [digs]
 | j+1,n=>by
  have e:digs (j+1+1) n=digs (j+1) (n / 10)++[48+n % 10]:=rfl
  rw [e,zfp_ j (n / 10),Nat.div_div_eq_div_mul]
  have e2:10*10 ^ j=10 ^ (j+1):=by rw [Nat.pow_succ,Nat.mul_comm]
  rw [e2]
  rfl
theorem zlo_ (l:List Nat):joinS [] (l.map fun c=>(⟨#[c]⟩:Str))=l:=by
 rw [L2.zmW_,List.map_map]
 induction l with
 | nil=>rfl
 | cons c r ih=>rw [List.map_cons,List.flatten_cons,ih]; rfl
end L2
namespace L2
open PySem PySem.Spec PyProof.Rows
noncomputable def fig (c:Nat):Nat:=if 48≤c∧c≤57 then c else 48
noncomputable def numL (l:List Nat):Int:=l.foldl (fun (v:Int) (c:Nat)=>v*10+((c:Int)-48)) 0
theorem zgZ_ {c:Nat}(h:48≤c∧c≤57):findS [48,49,50,51,52,53,54,55,56,57] [c]=(c:Int)-48:=by
 rw [zkS_]
 obtain ⟨h1,h2⟩:=h
 have:c=48∨c=49∨c=50∨c=51∨c=52∨c=53∨c=54∨c=55∨c=56∨c=57:=by lia
 rcases this with rfl | rfl | rfl | rfl | rfl | rfl | rfl | rfl | rfl | rfl<;>rfl
theorem zh1_ {c:Nat}(h:¬ (48≤c∧c≤57)):findS [48,49,50,51,52,53,54,55,56,57] [c] = -1:=by
 rw [zkS_]
 have:List.findIdx? (· == c) [48,49,50,51,52,53,54,55,56,57]=none:=by
  rw [List.findIdx?_eq_none_iff]
  intro x hx
  simp only [List.mem_cons,List.not_mem_nil,or_false] at hx
  simp only [beq_eq_false_iff_ne,ne_eq]
  omega
 rw [this]
theorem zlz_ (c:Nat):inS [c] [48,49,50,51,52,53,54,55,56,57]=decide (48≤c∧c≤57):=by
 show decide (c∈[48,49,50,51,52,53,54,55,56,57])=_
 have h1:∀ x∈[48,49,50,51,52,53,54,55,56,57],48≤x∧x≤57:=by decide
 have h2:∀ k,k<10→48+k∈[48,49,50,51,52,53,54,55,56,57]:=by decide
 rw [decide_eq_decide]
 refine ⟨h1 c,fun h=>?_⟩
 have e:48+(c-48)=c:=Nat.add_sub_cancel' h.1
 rw [← e]
 exact h2 _ (Nat.lt_succ_of_le (Nat.sub_le_of_le_add h.2))
theorem zgj_ (c:Nat):48≤fig c∧fig c≤57:=by unfold fig; split<;>omega
end L2
namespace L2
open PySem PySem.Spec PyProof.Rows
structure FlyX (x T C:Addr) (H:Hp) (hb h:Heap):Prop where
 obj:∃ oe vs a0 oT ts,h.get? x=some oe∧(oe.cls=.ref C∧vs[0]?=some a0)∧oe.data=.fields vs∧vs[1]?=some (.ref T)∧T≠x∧h.get? T=some oT∧oT.data=.fields ts∧ts[3]?=some .none
 hx:H x=none
 hT:H T=none
 nx:hb.get? x=none
 nT:hb.get? T=none
noncomputable def CXx (P:Program) (w:World):CXT:=fun outer H s E e s'=>∃ x T C H',e=.ref x∧s'.os=s.os∧AllBare s'.gens∧Un (frs outer) [] H H' s.heap s'.heap∧HOk P w H' s'.heap ∧
 FlyX x T C H' s.heap s'.heap∧E (.ref C) none H'
section
variable {X:Cx}{pins:Pnn}{σ:St}{H:Hp}{s:Shared}
end
section
variable {P:Program}{w:World}{K:Fgg}{mg:Str→Option Value}{base:Heap}{N:List Str}{qual:Str}{scope:Scope}{f:Addr}{cd:Value}{A:Around}{outer:List Env}{s0:Shared}{H0:Hp}{E:XK}
end
end L2
namespace L2
open PySem PySem.Spec PyProof.Rows
noncomputable def gA (K:Fgg) (x:Str):Addr:=match PySem.W.nsIn K mainGlobals x with | some (some (.ref c))=>c | _=>0
theorem zd4_ {K:Fgg}{x:Str}{c:Addr}(h:PySem.W.nsIn K mainGlobals x=some (some (.ref c))):gA K x=c:=by unfold gA; rw [h]
section
variable {X:Cx}{E:XK}{C:Addr}{x:Str}{e:Expr}{es:List Expr}{t:TA}{np cpos pos:Pos}
end
section
variable {X:Cx}{a:Expr}{ta:TE}{pos:Pos}
noncomputable def mFmt:V→Hp→VK→Prop:=fun x H Q=>match x with | .str z=>z.length≤sizeLine∧Q (.str z) H | .int i=>i.natAbs.log2<1920∧Q (tx (strI i)) H | _=>False
theorem zoC_ (ha:PE X a ta):PE X (.FormattedValue a (-1) none pos) (tUn mFmt ta):=by
 intro pins s σ H Q I h
 refine wpAny_FormattedValue_plain (thn (ha pins s σ H _ I h) fun v s1 hq_=>?_)
 obtain ⟨x,H1,I1,r1,q1⟩:=hq_
 cases x with
 | str z =>
  obtain ⟨k,rfl⟩:=r1
  exact wpAny_formatField_str ⟨.str z,H1,I1,⟨_,rfl⟩,q1.2⟩ ⟨.str z,H1,I1.tok _,⟨_,rfl⟩,q1.2⟩ q1.1
 | int i =>
  obtain ⟨k,rfl⟩:=r1
  refine wpAny_formatField_int q1.1 ⟨tx (strI i),H1,I1.tok _,⟨s1.toks+1,?_⟩,q1.2⟩
  unfold strI
  rw [← zbY_]
 | _=>exact q1.elim
noncomputable abbrev TJ:=Str→St→Hp→(Str→Hp→Prop)→Prop
noncomputable def PJ (X:Cx) (vs:List Expr) (t:TJ):Prop:=∀ (acc:Str) (pins:Pnn) (s:Shared) (σ:St) (H:Hp) (Q:Str→Shared→Prop) (R:Str→Hp→Prop),Inv X pins σ H s→t acc σ H R→(∀ out s1 H1,Inv X pins σ H1 s1→R out H1→Q out s1) →
 Joins (model X.prog X.w) X.A X.xe (evalEach vs X.env) acc Q s
noncomputable def tJ0:TJ:=fun acc _ H R=>R acc H
noncomputable def tJ1 (ta:TE) (tr:TJ):TJ:=fun acc σ H R=>ta σ H fun x H1=>match x with | .str z=>(acc++z).length≤sizeLine∧tr (acc++z) σ H1 R | _=>False
theorem zqh_:PJ X [] tJ0:=fun acc pins s σ H Q R I h hq=>hq acc s H I h
theorem zkB_ {vs:List Expr}{tr:TJ}(ha:PE X a ta) (hr:PJ X vs tr) (he:evalEach (a::vs) X.env=eval a X.env::evalEach vs X.env:=by rfl):PJ X (a::vs) (tJ1 ta tr):=by
 intro acc pins s σ H Q R I h hq
 rw [he]
 refine wpAny_mono (ha pins s σ H _ I h) (fun v s1 q=>?_) fun _ _ y=>y
 obtain ⟨x,H1,I1,r1,q1⟩:=q
 cases x with
 | str z =>
  obtain ⟨k,rfl⟩:=r1
  exact ⟨z,k,rfl,q1.1,hr (acc++z) pins s1 σ H1 Q R I1 q1.2 hq⟩
 | _=>exact q1.elim
noncomputable def tJoin (tj:TJ):TE:=fun σ H Q=>tj Str.empty σ H fun out H1=>out.length≤sizeLine∧Q (.str out) H1
theorem zlG_ {b:Expr}{vs:List Expr}{tj:TJ}(h:PJ X (a::b::vs) tj):PE X (.JoinedStr (a::b::vs) pos) (tJoin tj):=by
 intro pins s σ H Q I q
 refine wpAny_JoinedStr (h Str.empty pins s σ H _ _ I q fun out s1 H1 I1 q1=>⟨q1.1,.str out,H1,I1.tok _,⟨_,rfl⟩,q1.2⟩)
end
end L2
namespace LX
open PySem PySem.W PySem.Calls PyProof.Rows Builtin Builtin.ObjectAttr Builtin.Getset_descriptor
section
variable {prog:Program}{w:World}{A:Around}{K:Frag}{x D:Addr}
end
end LX
namespace L2
open PySem PySem.Spec PyProof.Rows
end L2
namespace L2
open PySem PySem.Spec PyProof.Rows
section
variable {X:Cx}{k:Nat}{x:Str}{ps:List Str}{sp:Sp}{E:XK}{p pos:Pos}{e:Expr}{es:List Expr}{t:TA}
end
noncomputable def XP (X:Cx) (pins:Pnn) (W:St→XK) (e:Value) (s':Shared):Prop:=∃ σ' Hb sb,Inv X pins σ' Hb sb∧CXx X.prog X.w X.stack Hb sb (W σ') e s'
noncomputable abbrev TX:=Ends→(St→XK)→St→Hp→Prop
section
variable {X:Cx}{st:Stmt}{rest:List Stmt}{t u:TX}{k:Nat}{x:Str}{ps:List Str}{sp:Sp}{p pos pos':Pos}{e:Expr}{es:List Expr}{ta:TA}
end
section
variable {X:Cx}{pins:Pnn}{σ:St}{Hb H':Hp}{sb s1:Shared}{x T C:Addr}
end
end L2
namespace L2
open PySem PySem.Spec PyProof.Rows
section
variable {X:Cx}{body:List Stmt}{tb:TX}{ts:TS}{S:Addr}{sx n:Str}{i:Nat}{b₀:Stmt}{suite:List Stmt}{np hpos pos:Pos}
end
end L2
namespace L2
open PySem PySem.Spec PyProof.Rows
section
variable {P:Program}{w:World}{K:Fgg}{mg:Str→Option Value}{base:Heap}
end
section
variable {X:Cx}{k:Nat}{x:Str}{ps:List Str}{sp:Sp}{p pos:Pos}{e:Expr}{es:List Expr}{t:TA}
end
end L2
namespace L2
open PySem PySem.Spec PyProof.Rows
section
variable {X:Cx}{k:Nat}{x:Str}{ps:List Str}{sp:Sp}{p pos pos':Pos}{e:Expr}{es:List Expr}{ta:TA}{i:Nat}{y:Str}{py:Pos}
end
noncomputable def SG:List Nat:=[32,48,49,50,51,52,53,54,55,56,57,65,66,67,68,69,70,71,72,73,74,75,76,77,78,79,80,81,82,83,84,85,86,87,88,89,90]
noncomputable def rk (l:List Nat):Option Nat:=match l with | [c]=>SG.findIdx? (· == c) | _=>none
end L2
namespace L2
open PySem PySem.Spec PyProof.Rows
section
variable {X:Cx}
end
section
variable {X:Cx}
end
section
variable {X:Cx}{pins:Pnn}{σ:St}{H:Hp}{s:Shared}
end
section
variable {X:Cx}
end
section
variable {X:Cx}{pins:Pnn}{σ:St}{H:Hp}{s:Shared}
end
theorem Room.u60 {k:Nat}{A:Around}(r:Room k A):A.units+60<cLine:=by have:=r.units; lia
end L2
namespace LX
open PySem Builtin Builtin.Str
section
variable {prog:Program}{w:World}{A:Around}{E:Value→Shared→Prop}{s:Shared}{x:Str}{t:Tok}{Q:Value→Shared→Prop}
end
end LX
namespace L2
open PySem PySem.Spec PyProof.Rows
section
variable {X:Cx}
end
section
variable {X:Cx}{a b c d:Expr}{ta tb tc td:TE}{pos:Pos}
end
end L2
namespace L2
open PySem PySem.Spec PyProof.Rows
section
variable {κ:Type} [DecidableEq κ]
noncomputable def valV (kvs:List (κ×V)) (k:κ):Option V:=(kvs.find? fun kv=>decide (kv.1=k)).map (·.2)
noncomputable def putK (kvs:List (κ×V)) (k:κ) (v:V):List (κ×V) :=
 if (kvs.any fun kv=>decide (kv.1=k))=true then kvs.map (fun kv=>if kv.1=k then (kv.1,v) else kv) else kvs++[(k,v)]
theorem zhL_ {p:κ×V}{r:List (κ×V)}{k:κ}(e:p.1=k):valV (p::r) k=some p.2:=by simp [valV,List.find?_cons,e]
theorem zib_ {p:κ×V}{r:List (κ×V)}{k:κ}(e:¬ p.1=k):valV (p::r) k=valV r k:=by simp [valV,List.find?_cons,e]
theorem zkX_ (k:κ):∀ kvs:List (κ×V),(kvs.any fun kv=>decide (kv.1=k))=(valV kvs k).isSome
 | []=>rfl
 | p::r=>by
  rw [List.any_cons]
  by_cases e:p.1=k
  ·simp only [zhL_ e,decide_eq_true e,Bool.true_or,Option.isSome_some]
  ·rw [zib_ e,decide_eq_false e,Bool.false_or]; exact zkX_ k r
theorem zf8_ (kvs:List (κ×V)) (k:κ) (v:V):(putK kvs k v).length≤kvs.length+1:=by
 unfold putK
 split
 ·rw [List.length_map]; lia
 ·rw [List.length_append,List.length_cons,List.length_nil]; lia
theorem RelO.isSome_eq {o:Option V}{u:Option Value}(r:RelO o u):o.isSome=u.isSome:=by
 cases o with
 | none=>cases u with
  | none=>rfl
  | some _=>exact (show False from r).elim
 | some _=>cases u with
  | none=>exact (show False from r).elim
  | some _=>rfl
theorem KV.val {kvs:List (κ×V)}{vs:List (κ×Value)}(r:KV kvs vs) (k:κ):RelO (valV kvs k) (valueAt vs k):=by
 unfold KV at r
 induction r with
 | nil=>exact True.intro
 | @cons p q ps qs h t ih =>
  obtain ⟨h1,h2⟩:=h
  by_cases e:p.1=k
  ·have e':q.1=k:=h1.symm.trans e
   have b:valueAt (q::qs) k=some q.2:=by simp [valueAt,List.find?_cons,e']
   rw [zhL_ e,b]; exact h2
  ·have e':¬ q.1=k:=fun z=>e (h1.trans z)
   have b:valueAt (q::qs) k=valueAt qs k:=by simp [valueAt,List.find?_cons,e']
   rw [zib_ e,b]; exact ih
theorem KV.any {kvs:List (κ×V)}{vs:List (κ×Value)}(r:KV kvs vs) (k:κ):(kvs.any fun kv=>decide (kv.1=k))=vs.any fun kv=>decide (kv.1=k):=by
 unfold KV at r
 induction r with
 | nil=>rfl
 | cons h t ih=>rw [List.any_cons,List.any_cons,ih,h.1]
theorem KV.repl {kvs:List (κ×V)}{vs:List (κ×Value)}(r:KV kvs vs) (k:κ) {y:V}{u:Value}(ry:RelV y u) :
  KV (kvs.map fun kv=>if kv.1=k then (kv.1,y) else kv) (vs.map fun kv=>if kv.1=k then (kv.1,u) else kv):=by
 unfold KV at r ⊢
 induction r with
 | nil=>exact .nil
 | @cons p q ps qs h t ih =>
  rw [List.map_cons,List.map_cons]
  refine .cons ?_ ih
  obtain ⟨h1,h2⟩:=h
  by_cases e:p.1=k
  ·rw [if_pos e,if_pos (h1.symm.trans e)]; exact ⟨h1,ry⟩
  ·rw [if_neg e,if_neg (fun z=>e (h1.trans z))]; exact ⟨h1,h2⟩
theorem KV.put {kvs:List (κ×V)}{vs:List (κ×Value)}(r:KV kvs vs) (k:κ) {y:V}{u:Value}(ry:RelV y u):KV (putK kvs k y) (stored vs k u):=by
 unfold putK stored
 rw [r.any k]
 by_cases e:(vs.any fun kv=>decide (kv.1=k))=true
 ·rw [if_pos e,if_pos e]; exact r.repl k ry
 ·rw [if_neg e,if_neg e]; exact Paired.snoc r ⟨rfl,ry⟩
theorem KV.length {kvs:List (κ×V)}{vs:List (κ×Value)}(r:KV kvs vs):kvs.length=vs.length:=Paired.length r
end
theorem zpX_ {P:Program}{w:World}{k:Key}{u:Value}(r:RelV (kV k) u):(mixKind P w).is k u=true:=by
 cases k with
 | inl i=>obtain ⟨t,e⟩:=(show ∃ t,u=Value.int i t from r); subst e; exact zjh_ P w i t
 | inr x=>obtain ⟨t,e⟩:=(show ∃ t,u=Value.str x t from r); subst e; exact zjj_ P w x t
theorem ziy_ {P:Program}{w:World}:∀ {ks:List Key}{us:List Value},Vals (ks.map kV) us→ItemsAre (mixKind P w) ks us
 | [],_,r=>by rw [List.map_nil] at r; cases r; exact .nil
 | k::ks,_,r=>by
  rw [List.map_cons] at r
  cases r with
  | cons h t=>exact .cons (zpX_ h) (ziy_ t)
noncomputable abbrev KT (H:Hp):List (List Key×V)→List (List Key×Addr×Value)→Prop:=Paired fun p q=>p.1=q.1∧H q.2.1=some (.tup (p.1.map kV))∧RelV p.2 q.2.2
theorem KT.val {H:Hp}{kvs:List (List Key×V)}{xs:List (List Key×Addr×Value)}(r:KT H kvs xs) (k:List Key):RelO (valV kvs k) ((atKey xs k).map (·.2)):=by
 induction r with
 | nil=>exact True.intro
 | @cons p q ps qs h t ih =>
  obtain ⟨h1,_,h2⟩:=h
  by_cases e:p.1=k
  ·have e':q.1=k:=h1.symm.trans e
   have b:atKey (q::qs) k=some q.2:=by simp [atKey,List.find?_cons,e']
   rw [zhL_ e,b]; exact h2
  ·have e':¬ q.1=k:=fun z=>e (h1.trans z)
   have b:atKey (q::qs) k=atKey qs k:=by simp [atKey,List.find?_cons,e']
   rw [zib_ e,b]; exact ih
theorem KT.repl {H:Hp}{kvs:List (List Key×V)}{xs:List (List Key×Addr×Value)}(r:KT H kvs xs) (k:List Key) {y:V}{u:Value}(ry:RelV y u) :
  KT H (kvs.map fun kv=>if kv.1=k then (kv.1,y) else kv) (xs.map (putAt k u)):=by
 induction r with
 | nil=>exact .nil
 | @cons p q ps qs h t ih =>
  rw [List.map_cons,List.map_cons]
  refine .cons ?_ ih
  obtain ⟨h1,h2,h3⟩:=h
  unfold putAt
  by_cases e:p.1=k
  ·rw [if_pos e,if_pos (h1.symm.trans e)]; exact ⟨h1,h2,ry⟩
  ·rw [if_neg e,if_neg (fun z=>e (h1.trans z))]; exact ⟨h1,h2,h3⟩
theorem KT.put {H:Hp}{kvs:List (List Key×V)}{xs:List (List Key×Addr×Value)}(r:KT H kvs xs) (k:List Key) {b:Addr}{y:V}{u:Value}(hb:H b=some (.tup (k.map kV))) (ry:RelV y u) :
  KT H (putK kvs k y) (storedH xs k b u):=by
 have e:(kvs.any fun kv=>decide (kv.1=k))=(atKey xs k).isSome:=by
  rw [zkX_,(r.val k).isSome_eq,Option.isSome_map]
 unfold putK storedH
 rw [e]
 by_cases q:(atKey xs k).isSome=true
 ·rw [if_pos q,if_pos q]; exact r.repl k ry
 ·rw [if_neg q,if_neg q]; exact Paired.snoc r ⟨rfl,hb,ry⟩
theorem KT.keeps {H H':Hp}{kvs:List (List Key×V)}{xs:List (List Key×Addr×Value)}(r:KT H kvs xs) (ht:∀ b ys,H b=some (.tup ys)→H' b=some (.tup ys)):KT H' kvs xs :=
 Paired.mapP r fun _ _ z=>⟨z.1,ht _ _ z.2.1,z.2.2⟩
section
variable {P:Program}{w:World}{H:Hp}{h:Heap}{a:Addr}
theorem rd_of {u:HO}(ok:HOk P w H h) (e:Rd H a u):ObjOk P w H h a u:=e.ok ok
theorem zpv_ {kvs:List (Key×V)}(ok:HOk P w H h) (e:Rd H a (.dK kvs)):kvs.length≤sizeLine∧(a == sysModules)=false∧∃ vs,KV kvs vs∧h.DictOf (mixKind P w) a vs :=
 show ObjOk P w H h a (.dK kvs) from rd_of ok e
theorem dk_of {kvs:List (Key×V)}(ok:HOk P w H h) (e:H a=some (.dK kvs)):kvs.length≤sizeLine∧(a == sysModules)=false∧∃ vs,KV kvs vs∧h.DictOf (mixKind P w) a vs:=zpv_ ok (.inl e)
theorem zmG_ {ks:List Key}(ok:HOk P w H h) (e:H a=some (.tup (ks.map kV))):(tupleKind (mixKind P w)).is h ks a:=by
 obtain ⟨_,its,r,o,h1,h2,n,h3⟩:=(show ObjOk P w H h a (.tup (ks.map kV)) from ok a _ e)
 exact ⟨o,its.toArray,n,h1,h2,h3,by simpa using ziy_ r⟩
theorem zpT_ {kvs:List (List Key×V)}(ok:HOk P w H h) (e:Rd H a (.dT kvs)):kvs.length≤sizeLine∧(a == sysModules)=false ∧
  ∃ xs,KT H kvs xs∧h.DictOfH (tupleKind (mixKind P w)) a xs:=by
 obtain ⟨z,y,xs,r,o,es,ep,h1,h2,h3,h4,h5⟩:=(show ObjOk P w H h a (.dT kvs) from rd_of ok e)
 refine ⟨z,y,xs,r,o,es,ep,h1,h2,h3,h4,fun x hx=>?_,h5⟩
 have all:∀ {l:List (List Key×V)}{m:List (List Key×Addr×Value)},KT H l m→∀ x∈m,(tupleKind (mixKind P w)).is h x.1 x.2.1:=by
  intro l m q
  induction q with
  | nil=>intro x hx; exact nomatch hx
  | @cons p q ps qs hq t ih =>
   intro x hx
   rcases List.mem_cons.mp hx with e | hx
   ·subst e
    exact zmG_ ok (by rw [← hq.1]; exact hq.2.1)
   ·exact ih x hx
 exact all r x hx
theorem dt_of {kvs:List (List Key×V)}(ok:HOk P w H h) (e:H a=some (.dT kvs)):kvs.length≤sizeLine∧(a == sysModules)=false ∧
  ∃ xs,KT H kvs xs∧h.DictOfH (tupleKind (mixKind P w)) a xs:=zpT_ ok (.inl e)
end
noncomputable def DGet (H:Hp) (a:Addr) (y:V) (r:Option V):Prop :=
 (∃ kvs k,Rd H a (.dK kvs)∧y=kV k∧r=valV kvs k)∨∃ kvs k b,Rd H a (.dT kvs)∧y=.ref b∧H b=some (.tup (k.map kV))∧r=valV kvs k
noncomputable def DPut (H:Hp) (a:Addr) (y v:V) (H':Hp):Prop :=
 (∃ kvs k,H a=some (.dK kvs)∧y=kV k∧kvs.length<sizeLine∧H'=upd H a (.dK (putK kvs k v))) ∨
 ∃ kvs k b,H a=some (.dT kvs)∧y=.ref b∧H b=some (.tup (k.map kV))∧kvs.length<sizeLine∧H'=upd H a (.dT (putK kvs k v))
theorem DPut.k {H:Hp}{a:Addr}{kvs:List (Key×V)}{k:Key}{v:V}(e:H a=some (.dK kvs)) (hl:kvs.length<sizeLine):DPut H a (kV k) v (upd H a (.dK (putK kvs k v))):=.inl ⟨kvs,k,e,rfl,hl,rfl⟩
section
variable {X:Cx}{pins:Pnn}{σ:St}{H:Hp}{s:Shared}{a:Addr}{y v:V}{u r:Value}{o:Option V}{A:Around}{E:Value→Shared→Prop}
theorem Inv.big (I:Inv X pins σ H s):sysModules<s.heap.objs.size:=by
 have h:mainGlobals<s.heap.objs.size:=(I.mod.glob.keeps I.bk).lt
 exact Nat.lt_trans (by decide) h
theorem zpx_ {Q:Value→Shared→Prop}(hu:A.units+1<cLine) (I:Inv X pins σ H s) (g:DGet H a y (some v)) (ry:RelV y u) (h:∀ w' s',Inv X pins σ H s'→RelV v w'→Q w' s') :
  wpAny (model X.prog X.w) A (getItem (.ref a) u) Q E s:=by
 rcases g with ⟨kvs,k,e,ey,l⟩ | ⟨kvs,k,b,e,ey,eb,l⟩
 ·subst ey
  obtain ⟨z,hd,vs,rel,dd⟩:=zpv_ I.hok e
  obtain ⟨w',hw,rw'⟩:=RelO.some_of (v:=v) (o:=valueAt vs k) (by rw [l]; exact rel.val k)
  exact wpAny_getItem_of (zpX_ ry) dd.mapOf hw (h w' _ (I.tok _) rw')
 ·subst ey
  cases (show u=Value.ref b from ry)
  obtain ⟨z,hd,xs,rel,dd⟩:=zpT_ I.hok e
  obtain ⟨w',hw,rw'⟩:=RelO.some_of (v:=v) (o:=(atKey xs k).map (·.2)) (by rw [l]; exact rel.val k)
  obtain ⟨p,hp,hp2⟩:=Option.map_eq_some_iff.mp hw
  refine wpAny_getItem_heap (tupleKind_room_in1 hu) (zmG_ I.hok eb) dd hp ?_
  rw [hp2]
  exact h w' _ (I.tok _) rw'
theorem zmc_ {h':Heap}{t':Nat}{ob:HO}(I:Inv X pins σ H s) (mu:Mut (H a)) (hs:Heap.SameBut a s.heap h') (he:∃ q,h'.get? a=some q) (new:ObjOk X.prog X.w (upd H a ob) h' a ob) :
  Inv X pins σ (upd H a ob) { s with heap:=h',toks:=t' } :=
 I.write (x:=a) (e:=a) mu (.inl rfl) (fun b q hb z=>(hs.2 b hb).trans z) he new
theorem zp0_ {P:Program}{w:World}{H':Hp}{h':Heap}{kvs:List (Key×V)}{vs:List (Key×Value)}(z:kvs.length≤sizeLine) (hd:(a == sysModules)=false) (rel:KV kvs vs) (dd:h'.DictOf (mixKind P w) a vs) :
  ObjOk P w H' h' a (.dK kvs):=⟨z,hd,vs,rel,dd⟩
theorem zlp_ {H':Hp}{Q:Unit→Shared→Prop}(hu:A.units+1<cLine) (I:Inv X pins σ H s) (g:DPut H a y v H') (ry:RelV y u) (rv:RelV v r) (h:∀ s',Inv X pins σ H' s'→Q () s') :
  wpAny (model X.prog X.w) A (setItem (.ref a) u r) Q E s:=by
 rcases g with ⟨kvs,k,e,ey,l,eH⟩ | ⟨kvs,k,b,e,ey,eb,l,eH⟩
 ·subst ey eH
  obtain ⟨z,hd,vs,rel,dd⟩:=dk_of I.hok e
  have hz:vs.length≤sizeLine:=by rw [← rel.length]; exact z
  have hl:(putK kvs k v).length≤sizeLine:=by have:=zf8_ kvs k v; lia
  refine wpAny_setItem_pairs (hsz:=hz) (zpX_ ry) dd fun h' dd' hs=>h _ ?_
  have he:∃ q,h'.get? a=some q:=let ⟨q,_,_,hq,_⟩:=dd'; ⟨q,hq⟩
  exact zmc_ I (by rw [e]; exact True.intro) hs he (zp0_ hl hd (rel.put k rv) dd')
 ·subst ey eH
  cases (show u=Value.ref b from ry)
  obtain ⟨z,hd,xs,rel,dd⟩:=dt_of I.hok e
  have hz:xs.length≤sizeLine:=by rw [← Paired.length rel]; exact z
  have hl:(putK kvs k v).length≤sizeLine:=by have:=zf8_ kvs k v; lia
  refine wpAny_setItem_heap (hsz:=hz) (tupleKind_room_in1 hu) (zmG_ I.hok eb) dd fun h' dd' hs=>h _ ?_
  obtain ⟨q,es,ep,hq,h2,h3,h4,_,h5⟩:=dd'
  refine zmc_ I (by rw [e]; exact True.intro) hs ⟨q,hq⟩ ⟨hl,hd,_,(rel.put k eb rv).keeps fun c ys ec=>?_,q,es,ep,hq,h2,h3,h4,h5⟩
  rw [zbk_ (ne_of ec e (fun z=>nomatch z))]
  exact ec
end
section
variable {X:Cx}{pins:Pnn}{σ:St}{H:Hp}{s:Shared}{a:Addr}{kvs:List (Key×V)}{k:Key}{u:Value}{A:Around}{E:Value→Shared→Prop}
end
noncomputable def NoSl (i:Expr):Prop:=∀ ov iv,subscripted i false ov iv=operate [ov,iv] (getItem ov iv)
theorem subD_of {prog:Program}{w:World}{A:Around}{E:Value→Shared→Prop}{s:Shared}{env:Env}{value slice:Expr}{pos:Pos}{T id:String}{Q:Value→Shared→Prop}
  (hl:typeLookup (.type T) "__getitem__" = pure (some (.builtin id))) (hs:NoSl slice)
  (h:wpAny (model prog w) A (eval value env) (fun o s₁=>wpAny (model prog w) A (eval slice env) (fun i s₂=>s₂.TypeIs o T∧wpAny (model prog w) A (getItem o i) Q E s₂) E s₁) E s) :
  wpAny (model prog w) A (eval (.Subscript value slice pos) env) Q E s:=by
 refine Subscript_ (wpAny_mono h (fun o s₁ h₁=>wpAny_mono h₁ (fun i s₂ h₂=>?_) fun _ _ x=>x) fun _ _ x=>x)
 obtain ⟨hT,h₂⟩:=h₂
 unfold subscriptTail
 refine wpAny_bind ?_
 rw [getitemInPython_of_ne hT.not_modules]
 refine wpAny_bind (wpAny_specialOf hT hl ?_)
 have fin:wpAny (model prog w) A (subscripted slice false o i) (fun r s₃=>wpAny (model prog w) A (letTemporaryGo value o r>>=fun _=>pure r) Q E s₃) E s₂:=by
  rw [hs o i]
  exact wpAny_operating (wpAny_mono h₂ (fun r s₃ h₃=>wpAny_bind (wpAny_letTemporaryGo (wpAny_pure h₃))) fun _ _ x=>x)
 first
  | exact wpAny_pure (wpAny_bind fin)
  | exact wpAny_bind (wpAny_pure (wpAny_bind fin))
  | exact wpAny_bind fin
theorem znQ_ {X:Cx}{pins:Pnn}{σ:St}{H:Hp}{s:Shared}{a:Addr}{y:V}{o:Option V}(I:Inv X pins σ H s) (g:DGet H a y o):s.TypeIs (.ref a) "dict" := by
 rcases g with ⟨kvs,k,e,_,_⟩ | ⟨kvs,k,b,e,_,_,_⟩
 ·obtain ⟨_,_,vs,_,dd⟩:=zpv_ I.hok e
  exact dd.typeIs
 ·obtain ⟨_,_,xs,_,dd⟩:=zpT_ I.hok e
  exact dd.typeIs
section
variable {X:Cx}{o i e value:Expr}{pos pos' tpos:Pos}{td ty tv:TE}
end
theorem zmw_ {P:Program}{w:World}{H:Hp}(h:Heap) (hb:sysModules<h.objs.size):ObjOk P w H (h.push { cls:=.type "dict",data:=.dict #[] }) h.objs.size (.dK []) :=
 ⟨Nat.zero_le _,beq_eq_false_iff_ne.mpr (Ne.symm (Nat.ne_of_lt hb)),[],.nil,Heap.DictOf.new h⟩
noncomputable def tDNewK:TE:=fun _ H Q=>∀ p,H p=none→Q (.ref p) (upd H p (.dK []))
section
variable {X:Cx}{pos:Pos}
theorem znB_:PE X (.Dict [] [] pos) tDNewK:=fun pins s σ H Q I h =>
 wpAny_Dict_empty ⟨.ref s.heap.objs.size,_,I.laid (a:=s.heap.objs.size) (o:=.dK []) (t':=s.toks) (fun _ _ q=>Heap.get?_push_of_some _ q) (Nat.le_refl _) (zmw_ s.heap I.big),rfl,h _ (I.hok.fresh (Nat.le_refl _))⟩
end
section
variable {X:Cx}{pins:Pnn}{σ:St}{H:Hp}{s:Shared}{a:Addr}{y d:V}{u r:Value}{o:Option V}{A:Around}{E:Value→Shared→Prop}
end
section
variable {X:Cx}{o e f:Expr}{apos cpos:Pos}{td ty tx:TE}
end
section
variable {X:Cx}{pins:Pnn}{σ:St}{H:Hp}{s:Shared}{a:Addr}{kvs:List (Key×V)}{A:Around}{E:Value→Shared→Prop}
end
section
variable {X:Cx}{pins:Pnn}{σ:St}{H:Hp}{s:Shared}{a:Addr}{y:V}{u:Value}{A:Around}{E:Value→Shared→Prop}
namespace L2
open PySem PySem.Spec PyProof.Rows
section
variable {X:Cx}
end
section
variable {κ:Type} [DecidableEq κ]
end
end L2
end
end L2
namespace L2
open PySem PySem.Spec PyProof.Rows
section
variable {X:Cx}
end
noncomputable def Itz (K:Fgg) (l m:Addr):It :=
 ⟨fun i H=>∃ xs ys x y,SqL K H l xs∧SqL K H m ys∧xs[i]?=some x∧ys[i]?=some y,
  fun i H v H'=>∃ p x y,(∀ xs,SqL K H l xs→xs[i]?=some x)∧(∀ ys,SqL K H m ys→ys[i]?=some y)∧H p=none∧v=.ref p∧H'=upd H p (.tup [x,y]),
  fun i H=>∃ xs ys,SqL K H l xs∧SqL K H m ys∧(xs.length≤i∨ys.length≤i)⟩
theorem znF_ {P:Program}{w:World}{K:Fgg}{elts:List Expr}{kk:Nat}{pos:Pos}(z TI TO i1 i2 l m:Addr) (D:ZipApart z TI TO i1 i2 l m) :
  Turn P w K (.Tuple elts kk pos) (Itz K l m) [z,TI,TO,i1,i2] z (fun i h=>IsZip h z TI TO .none∧IsPair h TI (.ref i1) (.ref i2)∧(∃ a b,IsPair h TO a b)∧h.IsListIter i1 l i∧h.IsListIter i2 m i) where
 mem:=by simp
 obj:=fun i h st b hb=>by
  obtain ⟨hz,hTI,⟨a,c,hTO⟩,⟨o1,ho1,c1,d1⟩,⟨o2,ho2,c2,d2⟩⟩:=st
  rcases List.mem_cons.mp hb with rfl | hb
  ·exact ⟨_,hz,fun v z=>by cases z⟩
  rcases List.mem_cons.mp hb with rfl | hb
  ·exact ⟨_,hTI,fun v z=>by cases z⟩
  rcases List.mem_cons.mp hb with rfl | hb
  ·exact ⟨_,hTO,fun v z=>by cases z⟩
  rcases List.mem_cons.mp hb with rfl | hb
  ·exact ⟨o1,ho1,fun v z=>by rw [d1] at z; cases z⟩
  ·have e:b=i2:=by simpa using hb
   subst e
   exact ⟨o2,ho2,fun v z=>by rw [d2] at z; cases z⟩
 keep:=fun i h h' st k=>by
  obtain ⟨hz,hTI,⟨a,c,hTO⟩,h1,h2⟩:=st
  exact ⟨k z (by simp) _ hz,k TI (by simp) _ hTI,⟨a,c,k TO (by simp) _ hTO⟩,h1.at fun o q=>k i1 (by simp) o q,h2.at fun o q=>k i2 (by simp) o q⟩
 item:=by
  intro X hP hw hK hc i pins s σ H E I hf st hg
  subst hP hw hK
  obtain ⟨xs,ys,x,y,hq,hq2,hx,hy⟩:=hg
  obtain ⟨its,rv,p,hz0⟩:=I.list hq
  obtain ⟨its2,rv2,p2,hz2⟩:=I.list hq2
  obtain ⟨u,hu,ru⟩:=rv.get hx
  obtain ⟨v,hv,rw'⟩:=rv2.get hy
  obtain ⟨hz,hTI,⟨a,c,hTO⟩,h1,h2⟩:=st
  have lt:∀ {c o},s.heap.get? c=some o→c<s.heap.objs.size:=fun e=>Heap.lt_size e
  have lz:=lt hz
  have lTI:=lt hTI
  have lTO:=lt hTO
  have l1:i1<s.heap.objs.size:=by obtain ⟨o,e,_⟩:=id h1; exact lt e
  have l2:i2<s.heap.objs.size:=by obtain ⟨o,e,_⟩:=id h2; exact lt e
  refine wpAny_pyNext_zip_item D hz hTI hTO h1 h2 p.isList p2.isList (x:=u) (y:=v) (by simpa using hu) (by simpa using hv) fun h3 z3 TO3 it13 it23 pr3 sz3 hk3=>?_
  refine ⟨_,rfl,?_⟩
  refine wpAny_letOwnedTupleGo_zip z3 fun h4 z4 hs4=>?_
  replace hs4:Heap.SameBut z h3 h4:=hs4
  have hp:H s.heap.objs.size=none:=I.hok.fresh (Nat.le_refl _)
  have I1:Inv X pins σ (upd H s.heap.objs.size (.tup [x,y])) { s with heap:=s.heap.push { cls:=.type "tuple",data:=.seq #[u,v] },toks:=s.toks }:=by
   refine I.laid (fun b u q=>Heap.get?_push_of_some _ q) (Nat.le_refl _) ⟨?_,[u,v],.cons ru (.cons rw' .nil),⟨_,Heap.get?_push_size _ rfl,rfl,_,rfl⟩⟩
   show 2≤sizeLine
   decide
  have hlt:∀ b∈[z,TI,TO,i1,i2],b<s.heap.objs.size:=fun b hb=>by
   rcases List.mem_cons.mp hb with rfl | hb
   ·exact lz
   rcases List.mem_cons.mp hb with rfl | hb
   ·exact lTI
   rcases List.mem_cons.mp hb with rfl | hb
   ·exact lTO
   rcases List.mem_cons.mp hb with rfl | hb
   ·exact l1
   ·have e:b=i2:=by simpa using hb
    rw [e]; exact l2
  have hf1:∀ b∈[z,TI,TO,i1,i2],FpOk X pins (upd H s.heap.objs.size (.tup [x,y])) b:=fun b hb=>by
   obtain ⟨f0,r⟩:=hf b hb
   refine ⟨?_,r⟩
   rw [zbk_ (Nat.ne_of_lt (hlt b hb))]
   exact f0
  have I2:Inv X pins σ (upd H s.heap.objs.size (.tup [x,y])) { s with heap:=h4,toks:=s.toks }:=by
   refine Inv.turnedL (s:={ s with heap:=s.heap.push { cls:=.type "tuple",data:=.seq #[u,v] },toks:=s.toks }) (ch:=[z,TI,TO,i1,i2]) I1 (fun b o hb q=>?_) hf1
   have n1:b≠z:=fun e=>hb (by simp [e])
   have n2:b≠TO:=fun e=>hb (by simp [e])
   have n3:b≠i1:=fun e=>hb (by simp [e])
   have n4:b≠i2:=fun e=>hb (by simp [e])
   refine (hs4.2 b n1).trans ?_
   rcases Heap.get?_push_cases q with ⟨rfl,rfl⟩ | q'
   ·exact pr3
   ·exact hk3 b o n1 n2 n3 n4 q'
  refine ⟨.ref s.heap.objs.size,_,I2,rfl,⟨s.heap.objs.size,x,y,fun zs hy'=>by rw [I.list_inj hy' hq]; exact hx,fun zs hy'=>by rw [I.list_inj hy' hq2]; exact hy,hp,rfl,rfl⟩,⟨z4,?_,⟨u,v,?_⟩,?_,?_⟩,fun b hb=>(hf1 b hb).1⟩
  ·exact (hs4.2 TI D.TIz).trans (hk3 TI _ D.TIz D.TITO D.TIi1 D.TIi2 hTI)
  ·exact (hs4.2 TO D.TOz).trans TO3
  ·exact it13.extBut hs4.extBut D.i1z
  ·exact it23.extBut hs4.extBut D.i2z
 done:=by
  intro X hP hw hK hc i pins s σ H E I hf st hg
  subst hP hw hK
  obtain ⟨xs,ys,hq,hq2,hx⟩:=hg
  obtain ⟨its,rv,p,hz0⟩:=I.list hq
  obtain ⟨its2,rv2,p2,hz2⟩:=I.list hq2
  obtain ⟨hz,hTI,⟨a,c,hTO⟩,h1,h2⟩:=st
  have hl:=rv.length
  have hl2:=rv2.length
  refine wpAny_pyNext_zip_end (I.ok.hd hc) D hz hTI hTO h1 h2 p.isList p2.isList ?_ fun h' eb=>⟨rfl,?_⟩
  ·rcases hx with hx | hx
   ·exact .inl (by simp; lia)
   ·exact .inr (by simp; lia)
  ·refine Inv.turnedL (s:=s) (t':=s.toks) (ch:=[z,TI,TO,i1,i2]) I (fun b o hb q=>eb b o (fun e=>hb (by simp [e])) (fun e=>hb (by simp [e])) (fun e=>hb (by simp [e])) (fun e=>hb (by simp [e])) q) hf
 self:=fun _ _ _ _ _ st h=>wpAny_pyIter_zip st.1 h
theorem zlq_ {N l m:Nat}(hl:l<N) (hm:m<N):ZipApart (N+4) (N+2) (N+3) N (N+1) l m:=by
 constructor<;>(intro e; have e':(_:Nat)=_:=congrArg (fun x:Nat=>x) e; lia)
section
variable {X:Cx}{elts:List Expr}{kk:Nat}{tpos:Pos}
noncomputable def iZip (K:Fgg) (ta:TA):TI:=fun σ H R=>ta σ H fun vs H1=>match vs with
 | [.ref a,.ref b]=>(∃ xs,SqL K H1 a xs)∧(∃ ys,SqL K H1 b ys)∧R (Itz K a b) H1
 | _=>False
theorem zqg_ {a b:Expr}{ta:TA}{p pos:Pos}(hm:Gb X.mg "zip") (ha:PA X [a,b] ta) (hg:Gl X "zip" := by rfl) (hs:starEach [a,b] X.env=[(false,eval a X.env),(false,eval b X.env)]:=by rfl) (hs2:starEach [b] X.env=[(false,eval b X.env)]:=by rfl) :
  PI X (.Tuple elts kk tpos) (.Call (.Name "zip" p) [a,b] [] pos) (iZip X.K ta):=by
 intro pins s σ H R I h
 refine Call_ (zhw_ I hg hm (u:=.type "zip") (by rfl) (PyProof.Rows.callWith_type1 (thn (ha pos pins s σ H _ I h) fun us s1 hq_=>?_) (by rw [hs,hs2]) (by rw [hs2]; rfl)))
 obtain ⟨vs,H1,I1,r1,q1⟩:=hq_
 try dsimp only at q1
 split at q1
 ·rename_i l m
  obtain ⟨⟨xs,hq⟩,⟨ys,hq2⟩,q⟩:=q1
  cases r1 with
  | cons r rr =>
   cases rr with
   | cons r' rr =>
    cases rr
    cases r
    cases r'
    obtain ⟨its,rv,p1,hz⟩:=I1.list hq
    obtain ⟨its2,rv2,p2,hz2⟩:=I1.list hq2
    refine call_zip_2 p1.isList p2.isList fun h' hz' hTI hTO h1 h2 hsz hk=>?_
    refine wpAny_pyIter_zip (s:={ s1 with heap:=h' }) hz' ?_
    have I2:Inv X pins σ H1 { s1 with heap:=h' }:=I1.kept (t':=s1.toks) hk
    have la:l<s1.heap.objs.size:=by obtain ⟨o,e,_⟩:=p1.isList; exact Heap.lt_size e
    have lb:m<s1.heap.objs.size:=by obtain ⟨o,e,_⟩:=p2.isList; exact Heap.lt_size e
    have DD:ZipApart (s1.heap.objs.size+4) (s1.heap.objs.size+2) (s1.heap.objs.size+3) s1.heap.objs.size (s1.heap.objs.size+1) l m:=by
     exact zlq_ la lb
    refine ⟨s1.heap.objs.size+4,[s1.heap.objs.size+4,s1.heap.objs.size+2,s1.heap.objs.size+3,s1.heap.objs.size,s1.heap.objs.size+1],_,_,H1,rfl,I2,znF_ _ _ _ _ _ l m DD,⟨hz',hTI,⟨_,_,hTO⟩,h1,h2⟩,fun b hb=>?_,q⟩
    have hb':s1.heap.objs.size≤b:=by
     simp only [List.mem_cons,List.not_mem_nil,or_false] at hb
     rcases hb with rfl | rfl | rfl | rfl | rfl
     ·exact Nat.le_add_right _ _
     ·exact Nat.le_add_right _ _
     ·exact Nat.le_add_right _ _
     ·exact Nat.le_refl _
     ·exact Nat.le_add_right _ _
    exact I1.fpOk hb' (I1.hok.fresh hb')
 ·exact q1.elim
end
section
variable {X:Cx}{e st:Expr}{te:TE}{ts:TO}{pos p2:Pos}
end
end L2
namespace L2
open PySem PySem.Spec PyProof.Rows
noncomputable def keyV:V→Option Key
 | .int i=>some (.inl i)
 | .str z=>some (.inr z)
 | _=>none
theorem zpn_ {y:V}{k:Key}(h:keyV y=some k):y=kV k:=by
 cases y<;>first | (cases h; rfl) | cases h
noncomputable def atD (x y:V) (H:Hp) (R:Addr→List (Key×V)→Key→Prop):Prop:=match x with
 | .ref a=>(match keyV y with | some k=>∃ kvs,H a=some (.dK kvs)∧R a kvs k | none=>False)
 | _=>False
theorem zqT_ {x y:V}{H:Hp}{R:Addr→List (Key×V)→Key→Prop}(h:atD x y H R):∃ a kvs k,x=.ref a∧y=kV k∧H a=some (.dK kvs)∧R a kvs k:=by
 unfold atD at h
 cases x with
 | ref a =>
  cases e:keyV y with
  | none=>rw [e] at h; exact h.elim
  | some k =>
   rw [e] at h
   obtain ⟨kvs,h1,h2⟩:=h
   exact ⟨a,kvs,k,rfl,zpn_ e,h1,h2⟩
 | _=>exact h.elim
noncomputable def mDPut (td ty tv:TE):TS:=fun D σ H=>tv σ H fun v H1=>td σ H1 fun x H2=>ty σ H2 fun y H3=>atD x y H3 fun a kvs k=>kvs.length<sizeLine∧D.nx σ (upd H3 a (.dK (putK kvs k v)))
section
variable {X:Cx}{o i e value:Expr}{pos pos' tpos:Pos}{td ty tv:TE}
theorem zmx_ (hu:X.A.units+60<cLine) (ho:PE X o td) (hi:PE X i ty) (hv:PE X value tv) (hs:swapsWith value (some (.Subscript o i pos')) pos.line X.env=pure false:=by rfl) :
  PS X (.Assign [.Subscript o i pos'] value pos) (mDPut td ty tv):=by
 intro pins s σ H D I h
 refine wpAny_Assign_Subscript (thn (hv pins s σ H _ I h) fun r s1 ⟨v,H1,I1,rv,q1⟩=>thn (ho pins s1 σ H1 _ I1 q1) fun u s2 ⟨x,H2,I2,rx,q2⟩=>thn (hi pins s2 σ H2 _ I2 q2) fun iv s3 hq_=>?_) hs
 obtain ⟨y,H3,I3,ry,q3⟩:=hq_
 obtain ⟨a,kvs,k,rfl,rfl,hd,hl,q⟩:=zqT_ q3
 obtain rfl:u=Value.ref a:=rx
 exact zlp_ (by lia) I3 (DPut.k hd hl) ry rv fun s4 I4=>⟨σ,_,I4,q⟩
end
section
variable {X:Cx}{o e f:Expr}{apos cpos:Pos}{td ty tx':TE}
end
section
variable {X:Cx}{o i:Expr}{pos:Pos}{td ty:TE}
end
end L2
namespace L2
open PySem PySem.Spec PyProof.Rows
inductive Mo (α:Type) where
 | ok (a:α) | ex (c:String) | no
namespace Mo
variable {α β γ:Type}
noncomputable def bind (x:Mo α) (f:α→Mo β):Mo β:=match x with | .ok a=>f a | .ex c=>.ex c | .no=>.no
theorem ok_bind (a:α) (f:α→Mo β):(Mo.ok a).bind f=f a:=rfl
noncomputable def noex (x:Mo α):Mo α:=match x with | .ok a=>.ok a | _=>.no
noncomputable def lim (n:Nat) (k:Mo α):Mo α:=if n≤sizeLine then k else .no
theorem lim_ok {n:Nat}{k:Mo α}(h:n≤100000):lim n k=k:=if_pos (zfG_ h)
noncomputable def grd (p:Prop) [Decidable p] (k:Mo α):Mo α:=if p then k else .no
theorem grd_ok {p:Prop} [Decidable p] {k:Mo α}(h:p):grd p k=k:=if_pos h
noncomputable def opt (x:Option α):Mo α:=match x with | some a=>.ok a | none=>.no
end Mo
noncomputable def un (F h:Hp):Hp:=fun p=>match F p with | some o=>some o | none=>h p
noncomputable def Dj (F h:Hp):Prop:=∀ p,F p=none∨h p=none
noncomputable def Jn (h1 h2 h:Hp):Prop:=∀ p,(h1 p=none∧h p=h2 p)∨(h2 p=none∧h p=h1 p)
noncomputable def Ext (F H F' H':Hp):Prop:=Same F F'∧Same F' H'∧Same H H'∧∀ p,F p=none→F' p≠none→H p=none
theorem Ext.refl {F H:Hp}(h:Same F H):Ext F H F H:=⟨Same.refl _,h,Same.refl _,fun p a b=>absurd a b⟩
theorem Ext.trans {F H F1 H1 F2 H2:Hp}(a:Ext F H F1 H1) (b:Ext F1 H1 F2 H2):Ext F H F2 H2:=by
 obtain ⟨a1,a2,a3,a4⟩:=a
 obtain ⟨b1,b2,b3,b4⟩:=b
 refine ⟨a1.trans b1,b2,a3.trans b3,fun p hp hq=>?_⟩
 cases e:F1 p with
 | none=>exact a3.free (b4 p e hq)
 | some o=>exact a4 p hp (by rw [e]; exact Option.some_ne_none _)
theorem Ext.heap {F H H':Hp}(h:Same F H) (g:Same H H'):Ext F H F H':=⟨Same.refl _,h.trans g,g,fun p a b=>absurd a b⟩
theorem Ext.new {F H:Hp}(h:Same F H) {p:Addr}{o:HO}(hp:H p=none):Ext F H (upd F p o) (upd H p o):=by
 refine ⟨zfC_ (h.free hp) _,fun b u e=>?_,zfC_ hp _,fun q a b=>?_⟩
 ·unfold upd at e ⊢
  split
  ·rename_i z; rw [if_pos z] at e; exact e
  ·rename_i z; rw [if_neg z] at e; exact h _ _ e
 ·unfold upd at b
  split at b
  ·rename_i z; rw [z]; exact hp
  ·exact absurd a b
structure Ty (α:Type) where
 R:α→V→Hp→Prop
 mono:∀ {a v H H'},Same H H'→R a v H→R a v H'
noncomputable def Tups (H H':Hp):Prop:=∀ p xs,H p=some (.tup xs)→H' p=some (.tup xs)
noncomputable def Imm {α:Type}(T:Ty α):Prop:=∀ {a v H H'},Tups H H'→T.R a v H→T.R a v H'
noncomputable abbrev tyInt:Ty Int:=⟨fun a v _=>v=.int a,fun _ h=>h⟩
noncomputable abbrev tyStr:Ty (List Nat):=⟨fun a v _=>v=tx a,fun _ h=>h⟩
noncomputable abbrev tyBl:Ty Bool:=⟨fun a v _=>v=.bl a,fun _ h=>h⟩
noncomputable abbrev tyNon:Ty Unit:=⟨fun _ v _=>v=.non,fun _ h=>h⟩
theorem zb_:Imm tyInt:=fun _ h=>h
theorem zB_:Imm tyStr:=fun _ h=>h
theorem zaY_:Imm tyBl:=fun _ h=>h
theorem zmq_:Imm tyNon:=fun _ h=>h
noncomputable abbrev tyOpt {α:Type}(T:Ty α):Ty (Option α):=⟨fun a v H=>match a with | none=>v=.non | some x=>T.R x v H∧v≠.non,fun {a v H H'} g h=>by cases a with | none=>exact h | some x=>exact ⟨T.mono g h.1,h.2⟩⟩
theorem zdw_ {α:Type}{T:Ty α}(i:Imm T):Imm (tyOpt T):=fun {a v H H'} g h=>by cases a with | none=>exact h | some x=>exact ⟨i g h.1,h.2⟩
structure Cs (γ:Type) where
 R:γ→List V→Hp→Prop
 mono:∀ {c vs H H'},Same H H'→R c vs H→R c vs H'
noncomputable def ImmC {γ:Type}(C:Cs γ):Prop:=∀ {c vs H H'},Tups H H'→C.R c vs H→C.R c vs H'
noncomputable abbrev csNil:Cs Unit:=⟨fun _ vs _=>vs=[],fun _ h=>h⟩
noncomputable abbrev csLast {α:Type}(T:Ty α):Cs α:=⟨fun a vs H=>∃ v,vs=[v]∧T.R a v H,fun g ⟨v,e,h⟩=>⟨v,e,T.mono g h⟩⟩
noncomputable abbrev csCons {α γ:Type}(T:Ty α) (C:Cs γ):Cs (α×γ):=⟨fun a vs H=>∃ v us,vs=v::us∧T.R a.1 v H∧C.R a.2 us H,fun g ⟨v,us,e,h,q⟩=>⟨v,us,e,T.mono g h,C.mono g q⟩⟩
theorem znG_:ImmC csNil:=fun _ h=>h
theorem zs_ {α:Type}{T:Ty α}(i:Imm T):ImmC (csLast T):=fun g ⟨v,e,h⟩=>⟨v,e,i g h⟩
theorem zv_ {α γ:Type}{T:Ty α}{C:Cs γ}(i:Imm T) (j:ImmC C):ImmC (csCons T C):=fun g ⟨v,us,e,h,q⟩=>⟨v,us,e,i g h,j g q⟩
noncomputable abbrev tyTup {γ:Type}(C:Cs γ):Ty γ:=⟨fun c v H=>∃ p us,v=.ref p∧H p=some (.tup us)∧C.R c us H,fun g ⟨p,us,e,h,q⟩=>⟨p,us,e,g _ _ h,C.mono g q⟩⟩
theorem z8_ {γ:Type}{C:Cs γ}(i:ImmC C):Imm (tyTup C):=fun g ⟨p,us,e,h,q⟩=>⟨p,us,e,g _ _ h,i g q⟩
noncomputable abbrev Prs {α:Type}(T:Ty α) (H:Hp) (xs:List α) (vs:List V):Prop:=Paired (fun x v=>T.R x v H) xs vs
theorem zdy_ {α β:Type}{R R':α→β→Prop}(h:∀ a b,R a b→R' a b):∀ {xs:List α}{ys:List β},Paired R xs ys→Paired R' xs ys
 | _,_,.nil=>.nil
 | _,_,.cons a t=>.cons (h _ _ a) (zdy_ h t)
theorem Prs.mono {α:Type}{T:Ty α}{H H':Hp}{xs:List α}{vs:List V}(g:Same H H') (h:Prs T H xs vs):Prs T H' xs vs:=zdy_ (fun _ _ r=>T.mono g r) h
theorem Prs.imm {α:Type}{T:Ty α}(i:Imm T) {H H':Hp}{xs:List α}{vs:List V}(g:Tups H H') (h:Prs T H xs vs):Prs T H' xs vs:=zdy_ (fun _ _ r=>i g r) h
noncomputable abbrev tyL {α:Type}(T:Ty α):Ty (List α):=⟨fun xs v H=>∃ p vs,v=.ref p∧H p=some (.lst vs)∧Prs T H xs vs,fun g ⟨p,vs,e,h,q⟩=>⟨p,vs,e,g _ _ h,q.mono g⟩⟩
noncomputable abbrev tySc (K:Fgg):Ty (List Int):=⟨fun xs v H=>∃ p,v=.ref p∧SqL K H p (xs.map V.int),fun g ⟨p,e,h⟩=>⟨p,e,g.seq h⟩⟩
structure Own (α:Type) where
 O:α→V→Hp→Hp→Prop
 fr:Ty α
 mono:∀ {a v F F' h},Same F F'→O a v F h→O a v F' h
 frz:∀ {a v F h},Dj F h→O a v F h→fr.R a v (un F h)
 notup:∀ {a v F h},O a v F h→∀ p xs,h p≠some (.tup xs)
noncomputable def ImmO {α:Type}(O:Own α):Prop:=∀ {a v F F' h},Tups F F'→O.O a v F h→O.O a v F' h
theorem zbW_ {F h:Hp}:Same F (un F h):=fun p o e=>by unfold un; rw [e]
theorem zhb_ {F h:Hp}(d:Dj F h):Same h (un F h):=fun p o e=>by
 unfold un
 rcases d p with z | z
 ·rw [z]; exact e
 ·rw [z] at e; cases e
noncomputable abbrev owF {α:Type}(T:Ty α):Own α:=⟨fun a v F h=>(∀ p,h p=none)∧T.R a v F,T,fun g ⟨e,h⟩=>⟨e,T.mono g h⟩,fun _ ⟨_,h⟩=>T.mono zbW_ h,fun ⟨e,_⟩ p xs z=>by rw [e] at z; cases z⟩
theorem zt_ {α:Type}{T:Ty α}(i:Imm T):ImmO (owF T):=fun g ⟨e,h⟩=>⟨e,i g h⟩
noncomputable def one (p:Addr) (o:HO):Hp:=fun q=>if q=p then some o else none
theorem zbU_ {p:Addr}{o:HO}:one p o p=some o:=if_pos rfl
noncomputable abbrev owL {α:Type}(T:Ty α):Own (List α):=⟨fun xs v F h=>∃ p vs,v=.ref p∧h=one p (.lst vs)∧Prs T F xs vs,tyL T,fun g ⟨p,vs,e,z,q⟩=>⟨p,vs,e,z,q.mono g⟩,
 fun d ⟨p,vs,e,z,q⟩=>⟨p,vs,e,zhb_ d _ _ (by rw [z]; exact zbU_),q.mono zbW_⟩,
 fun ⟨p,vs,e,z,q⟩ b xs y=>by rw [z] at y; unfold one at y; split at y<;>cases y⟩
theorem z2_ {α:Type}{T:Ty α}(i:Imm T):ImmO (owL T):=fun g ⟨p,vs,e,z,q⟩=>⟨p,vs,e,z,q.imm i g⟩
inductive Sl:Type 1 where
 | dead
 | fz {α:Type}(T:Ty α) (a:α)
 | ow {α:Type}(O:Own α) (a:α)
noncomputable def Sl.P:Sl→Option V→Hp→Hp→Prop
 | .dead,_,_,_=>True
 | .fz T a,o,F,_=>∃ v,o=some v∧T.R a v F
 | .ow O a,o,F,h=>∃ v,o=some v∧O.O a v F h
noncomputable def Sl.Z:Sl→Option V→Hp→Prop
 | .dead,_,_=>True
 | .fz T a,o,F=>∃ v,o=some v∧T.R a v F
 | .ow O a,o,F=>∃ v,o=some v∧O.fr.R a v F
noncomputable def Sl.cold:Sl→Sl
 | .ow _ _=>.dead
 | s=>s
noncomputable def Hold:List Sl→St→Hp→Hp→Prop
 | [],[],_,_=>True
 | s::L,o::σ,F,h=>∃ h1 h2,Jn h1 h2 h∧s.P o F h1∧Hold L σ F h2
 | _,_,_,_=>False
noncomputable def HoldF (L:List Sl) (σ:St) (F:Hp):Prop:=∀ (i:Nat) (s:Sl),L[i]?=some s→s.Z (σ[i]?.join) F
theorem Sl.P.mono {s:Sl}{o:Option V}{F F' h:Hp}(g:Same F F') (q:s.P o F h):s.P o F' h:=by
 cases s with
 | dead=>exact q
 | fz T a=>obtain ⟨v,e,r⟩:=q; exact ⟨v,e,T.mono g r⟩
 | ow O a=>obtain ⟨v,e,r⟩:=q; exact ⟨v,e,O.mono g r⟩
theorem Sl.Z.mono {s:Sl}{o:Option V}{F F':Hp}(g:Same F F') (q:s.Z o F):s.Z o F':=by
 cases s with
 | dead=>exact q
 | fz T a=>obtain ⟨v,e,r⟩:=q; exact ⟨v,e,T.mono g r⟩
 | ow O a=>obtain ⟨v,e,r⟩:=q; exact ⟨v,e,O.fr.mono g r⟩
theorem HoldF.mono {L:List Sl}{σ:St}{F F':Hp}(g:Same F F') (q:HoldF L σ F):HoldF L σ F':=fun i s e=>(q i s e).mono g
theorem Hold.mono:∀ {L:List Sl}{σ:St}{F F' h:Hp},Same F F'→Hold L σ F h→Hold L σ F' h
 | [],[],_,_,_,_,q=>q
 | s::L,o::σ,F,F',h,g,⟨h1,h2,j,p,r⟩=>⟨h1,h2,j,p.mono g,r.mono g⟩
 | [],_::_,_,_,_,_,q=>q.elim
 | _::_,[],_,_,_,_,q=>q.elim
theorem Hold.len:∀ {L:List Sl}{σ:St}{F h:Hp},Hold L σ F h→L.length=σ.length
 | [],[],_,_,_=>rfl
 | s::L,o::σ,F,h,⟨h1,h2,j,p,r⟩=>by rw [List.length_cons,List.length_cons,r.len]
 | [],_::_,_,_,q=>q.elim
 | _::_,[],_,_,q=>q.elim
theorem Jn.l {h1 h2 h:Hp}(j:Jn h1 h2 h):Same h1 h:=fun p o e=>by
 rcases j p with ⟨a,b⟩ | ⟨a,b⟩
 ·rw [a] at e; cases e
 ·rw [b]; exact e
theorem Jn.r {h1 h2 h:Hp}(j:Jn h1 h2 h):Same h2 h:=fun p o e=>by
 rcases j p with ⟨a,b⟩ | ⟨a,b⟩
 ·rw [b]; exact e
 ·rw [a] at e; cases e
theorem Jn.dj {h1 h2 h:Hp}(j:Jn h1 h2 h):Dj h1 h2:=fun p=>by
 rcases j p with ⟨a,b⟩ | ⟨a,b⟩
 ·exact .inl a
 ·exact .inr a
theorem zep_ {h1 h2:Hp}(d:Dj h1 h2):Jn h1 h2 (un h1 h2):=fun p=>by
 unfold un
 rcases d p with a | a
 ·rw [a]; exact .inl ⟨rfl,rfl⟩
 ·refine .inr ⟨a,?_⟩
  cases h1 p with
  | none=>exact a
  | some o=>rfl
theorem Hold.at:∀ {L:List Sl}{σ:St}{F h:Hp}(i:Nat) {s:Sl},Hold L σ F h→L[i]?=some s →
  ∃ o h1 h2,σ[i]?=some o∧Jn h1 h2 h∧s.P o F h1∧∀ s' o' h1' h',Jn h1' h2 h'→s'.P o' F h1'→Hold (L.set i s') (σ.set i o') F h'
 | [],_,_,_,_,_,_,e=>by cases e
 | s::L,[],_,_,_,_,q,_=>q.elim
 | s::L,o::σ,F,h,0,t,⟨h1,h2,j,p,r⟩,e=>by
  cases e
  exact ⟨o,h1,h2,rfl,j,p,fun s' o' h1' h' j' p'=>⟨h1',h2,j',p',r⟩⟩
 | s::L,o::σ,F,h,i+1,t,⟨h1,h2,j,p,r⟩,e=>by
  obtain ⟨o1,k1,k2,e1,j1,p1,f⟩:=Hold.at i r (by simpa using e)
  have d1:Dj h1 k1:=fun p=>by
   rcases j.dj p with a | a
   ·exact .inl a
   ·exact .inr (j1.l.free a)
  have d2:Dj h1 k2:=fun p=>by
   rcases j.dj p with a | a
   ·exact .inl a
   ·exact .inr (j1.r.free a)
  refine ⟨o1,k1,un h1 k2,by simpa using e1,fun p=>?_,p1,fun s' o' k1' h' j' p'=>?_⟩
  ·rcases j p with ⟨a,b⟩ | ⟨a,b⟩
   ·rcases j1 p with ⟨c,d⟩ | ⟨c,d⟩
    ·refine .inl ⟨c,?_⟩; unfold un; rw [a,b,d]
    ·refine .inr ⟨?_,by rw [b,d]⟩; unfold un; rw [a,c]
   ·refine .inl ⟨j1.l.free a,?_⟩
    have:k2 p=none:=j1.r.free a
    unfold un; rw [b]
    cases h1 p with
    | none=>rw [this]
    | some u=>rfl
  ·have dd:Dj k1' k2:=fun p=>by
    rcases j' p with ⟨a,b⟩ | ⟨a,b⟩
    ·exact .inl a
    ·right; unfold un at a
     cases z:h1 p with
     | none=>rw [z] at a; exact a
     | some u=>rw [z] at a; cases a
   refine ⟨h1,un k1' k2,fun p=>?_,p,f s' o' k1' _ (zep_ dd) p'⟩
   rcases j' p with ⟨a,b⟩ | ⟨a,b⟩
   ·unfold un at b ⊢
    cases z:h1 p with
    | none=>rw [z] at b; exact .inl ⟨rfl,by rw [b,a]⟩
    | some u =>
     rw [z] at b
     refine .inr ⟨?_,b⟩
     rw [a]
     rcases d2 p with y | y
     ·rw [y] at z; cases z
     ·exact y
   ·unfold un at a
    cases z:h1 p with
    | some u=>rw [z] at a; cases a
    | none =>
     rw [z] at a
     refine .inl ⟨rfl,?_⟩
     unfold un; rw [b]
     cases k1' p with
     | none=>exact a.symm
     | some u=>rfl
theorem Hold.froz {L:List Sl}{σ:St}{F h:Hp}(d:Dj F h) (q:Hold L σ F h):HoldF L σ (un F h):=by
 intro i s e
 obtain ⟨o,h1,h2,e1,j,p,_⟩:=q.at i e
 rw [e1]
 have d1:Dj F h1:=fun p=>by
  rcases d p with a | a
  ·exact .inl a
  ·exact .inr (j.l.free a)
 cases s with
 | dead=>trivial
 | fz T a=>obtain ⟨v,e2,r⟩:=p; exact ⟨v,e2,T.mono zbW_ r⟩
 | ow O a =>
  obtain ⟨v,e2,r⟩:=p
  refine ⟨v,e2,O.fr.mono (fun p u z=>?_) (O.frz d1 r)⟩
  unfold un at z ⊢
  cases y:F p with
  | some w=>rw [y] at z; exact z
  | none=>rw [y] at z; exact j.l _ _ z
theorem Hold.coldF {L:List Sl}{σ:St}{F h:Hp}(q:Hold L σ F h):HoldF (L.map Sl.cold) σ F:=by
 intro i s e
 rw [List.getElem?_map] at e
 cases e1:L[i]? with
 | none=>rw [e1] at e; cases e
 | some t =>
  rw [e1] at e
  cases e
  obtain ⟨o,h1,h2,e2,j,p,_⟩:=q.at i e1
  rw [e2]
  cases t with
  | dead=>trivial
  | fz T a=>obtain ⟨v,e2,r⟩:=p; exact ⟨v,e2,r⟩
  | ow O a=>trivial
end L2
namespace L2
open PySem PySem.Spec PyProof.Rows
noncomputable def After {α:Type}(K:Fgg) (r:Mo α) (E:XK) (F H:Hp) (k:α→Hp→Hp→Prop):Prop:=match r with
 | .ok a=>∀ F' H',Ext F H F' H'→k a F' H'
 | .ex c=>∀ F' H',Ext F H F' H'→E (.ref (gA K c)) none H'
 | .no=>False
section
variable {K:Fgg}{E:XK}{α β γ ρ:Type}{F H:Hp}
theorem After.bind {r:Mo α}{f:α→Mo β}{k:β→Hp→Hp→Prop}(h:After K (r.bind f) E F H k):After K r E F H fun a F1 H1=>After K (f a) E F1 H1 k:=by
 cases r with
 | ok a =>
  intro F1 H1 x
  have h':After K (f a) E F H k:=h
  cases e:f a with
  | ok b=>rw [e] at h'; exact fun F2 H2 y=>h' F2 H2 (x.trans y)
  | ex c=>rw [e] at h'; exact fun F2 H2 y=>h' F2 H2 (x.trans y)
  | no=>rw [e] at h'; exact h'
 | ex c=>exact h
 | no=>exact h
theorem After.imp {r:Mo α}{k k':α→Hp→Hp→Prop}(h:After K r E F H k) (g:∀ a F' H',Ext F H F' H'→k a F' H'→k' a F' H'):After K r E F H k':=by
 cases r with
 | ok a=>exact fun F' H' x=>g a F' H' x (h F' H' x)
 | ex c=>exact h
 | no=>exact h
theorem After.ok {a:α}{k:α→Hp→Hp→Prop}(hs:Same F H) (h:After K (.ok a) E F H k):k a F H:=h F H (.refl hs)
theorem After.noex {r:Mo α}{k:α→Hp→Hp→Prop}(h:After K r.noex E F H k):After K r E0 F H k:=by
 cases r with
 | ok a=>exact h
 | ex c=>exact h.elim
 | no=>exact h
theorem After.lim {n:Nat}{r:Mo α}{k:α→Hp→Hp→Prop}(h:After K (Mo.lim n r) E F H k):n≤sizeLine∧After K r E F H k:=by
 unfold Mo.lim at h
 split at h
 ·exact ⟨by assumption,h⟩
 ·exact h.elim
theorem After.grd {p:Prop} [Decidable p] {r:Mo α}{k:α→Hp→Hp→Prop}(h:After K (Mo.grd p r) E F H k):p∧After K r E F H k:=by
 unfold Mo.grd at h
 split at h
 ·exact ⟨by assumption,h⟩
 ·exact h.elim
theorem After.opt {x:Option α}{k:α→Hp→Hp→Prop}(h:After K (Mo.opt x) E F H k):∃ a,x=some a∧After K (.ok a) E F H k:=by
 cases x with
 | none=>exact h.elim
 | some a=>exact ⟨a,rfl,h⟩
noncomputable def EvF (K:Fgg) (e:TE) (E:XK) (L:List Sl) (r:Mo α) (T:Ty α):Prop :=
 ∀ σ F H (Q:VK),HoldF L σ F→Same F H→After K r E F H (fun a F' H'=>∀ v,T.R a v F'→Q v H')→e σ H Q
noncomputable def OwnK (O:Own α) (H:Hp) (Q:VK) (a:α) (F' H':Hp):Prop:=∀ v h,(∀ p,h p≠none→H p=none)→Dj F' h→Same h H'→O.O a v F' h→Q v H'
noncomputable def EvO (K:Fgg) (e:TE) (E:XK) (L:List Sl) (r:Mo α) (O:Own α):Prop :=
 ∀ σ F H (Q:VK),HoldF L σ F→Same F H→After K r E F H (OwnK O H Q)→e σ H Q
noncomputable def EvT (K:Fgg) (t:TT) (E:XK) (L:List Sl) (r:Mo Bool):Prop :=
 ∀ σ F H (Q:Bool→Hp→Prop),HoldF L σ F→Same F H→After K r E F H (fun b _ H'=>Q b H')→t σ H Q
noncomputable def EvA (K:Fgg) (t:TA) (E:XK) (L:List Sl) (r:Mo γ) (C:Cs γ):Prop :=
 ∀ σ F H (Q:List V→Hp→Prop),HoldF L σ F→Same F H→After K r E F H (fun c F' H'=>∀ vs,C.R c vs F'→Q vs H')→t σ H Q
variable {L:List Sl}{e e1 e2:TE}{T:Ty α}{r:Mo α}
theorem EvO.fr {O:Own α}(h:EvO K e E L r O):EvF K e E L r O.fr:=by
 intro σ F H Q hL hs q
 refine h σ F H Q hL hs ?_
 cases r with
 | ok a =>
  intro F' H' x v h' fresh d s o
  refine q (un F' h') H' ⟨x.1.trans zbW_,fun p o e=>?_,x.2.2.1,fun p a b=>?_⟩ v (O.frz d o)
  ·unfold un at e
   cases z:F' p with
   | some w=>rw [z] at e; cases e; exact x.2.1 _ _ z
   | none=>rw [z] at e; exact s _ _ e
  ·unfold un at b
   cases z:F' p with
   | some w=>exact x.2.2.2 p a (by rw [z]; exact Option.some_ne_none _)
   | none=>rw [z] at b; exact fresh p b
 | ex c=>exact q
 | no=>exact q
theorem EvF.ow (h:EvF K e E L r T):EvO K e E L r (owF T):=by
 intro σ F H Q hL hs q
 refine h σ F H Q hL hs (q.imp fun a F' H' x k v hv=>?_)
 exact k v (fun _=>none) (fun p z=>absurd rfl z) (fun p=>.inr rfl) (fun p o z=>by cases z) ⟨fun _=>rfl,hv⟩
theorem ev_c {v:V}{a:α}(h:∀ F,T.R a v F):EvF K (tC v) E L (.ok a) T:=fun σ F H Q hL hs q=>q.ok hs v (h F)
theorem zm_ (i:Int):EvF K (tC (.int i)) E L (.ok i) tyInt:=ev_c fun _=>rfl
theorem zdO_ (l:List Nat):EvF K (tC (tx l)) E L (.ok l) tyStr:=ev_c fun _=>rfl
theorem zla_ (b:Bool):EvF K (tC (.bl b)) E L (.ok b) tyBl:=ev_c fun _=>rfl
theorem zo4_:EvF K (tC .non) E L (.ok ()) tyNon:=ev_c fun _=>rfl
theorem zpc_ {β:Type}{T:Ty β}:EvF K (tC .non) E L (.ok (none:Option β)) (tyOpt T):=ev_c fun _=>rfl
theorem zoT_ (hn:∀ a v F,T.R a v F→v≠.non) (h:EvF K e E L r T):EvF K e E L (r.bind fun a=>.ok (some a)) (tyOpt T):=by
 intro σ F H Q hL hs q
 exact h σ F H Q hL hs (q.bind.imp fun a F1 H1 x k v hv=>k.ok x.2.1 v ⟨hv,hn _ _ _ hv⟩)
theorem zd_ (i:Nat) {a:α}(h:L[i]?=some (.fz T a)):EvF K (mVar i) E L (.ok a) T:=by
 intro σ F H Q hL hs q
 obtain ⟨v,e,r⟩:=hL i _ h
 unfold mVar
 cases z:σ[i]? with
 | none=>rw [z] at e; cases e
 | some o =>
  rw [z] at e
  cases (show o=some v from e)
  exact q.ok hs v r
theorem zka_ (i:Nat) {O:Own α}{a:α}(h:L[i]?=some (.ow O a)):EvF K (mVar i) E L (.ok a) O.fr:=by
 intro σ F H Q hL hs q
 obtain ⟨v,e,r⟩:=hL i _ h
 unfold mVar
 cases z:σ[i]? with
 | none=>rw [z] at e; cases e
 | some o =>
  rw [z] at e
  cases (show o=some v from e)
  exact q.ok hs v r
noncomputable def Op2 (K:Fgg) (m:R2) (E:XK) (T1:Ty α) (T2:Ty β) (g:α→β→Mo γ) (T:Ty γ):Prop :=
 ∀ a b x y F H (Q:VK),Same F H→T1.R a x F→T2.R b y F→After K (g a b) E F H (fun c F' H'=>∀ v,T.R c v F'→Q v H')→m x y H Q
noncomputable def Op2O (K:Fgg) (m:R2) (E:XK) (T1:Ty α) (T2:Ty β) (g:α→β→Mo γ) (O:Own γ):Prop :=
 ∀ a b x y F H (Q:VK),Same F H→T1.R a x F→T2.R b y F→After K (g a b) E F H (OwnK O H Q)→m x y H Q
theorem OwnK.back {O:Own α}{H H1:Hp}{Q:VK}{a:α}{F' H':Hp}(g:Same H H1) (h:OwnK O H Q a F' H'):OwnK O H1 Q a F' H' :=
 fun v k fresh d s o=>h v k (fun p z=>g.free (fresh p z)) d s o
theorem zM_ {m:R2}{T1:Ty α}{T2:Ty β}{T:Ty γ}{g:α→β→Mo γ}{r1:Mo α}{r2:Mo β}(hop:Op2 K m E T1 T2 g T) (h1:EvF K e1 E L r1 T1) (h2:EvF K e2 E L r2 T2) :
  EvF K (tOp m e1 e2) E L (r1.bind fun a=>r2.bind fun b=>g a b) T:=by
 intro σ F H Q hL hs q
 refine h1 σ F H _ hL hs (q.bind.imp fun a F1 H1 x1 k1 v1 hv1=>?_)
 refine h2 σ F1 H1 _ (hL.mono x1.1) x1.2.1 (k1.bind.imp fun b F2 H2 x2 k2 v2 hv2=>?_)
 exact hop a b v1 v2 F2 H2 Q x2.2.1 (T1.mono x2.1 hv1) hv2 k2
theorem zpY_ {m:R2}{T1:Ty α}{T2:Ty β}{O:Own γ}{g:α→β→Mo γ}{r1:Mo α}{r2:Mo β}(hop:Op2O K m E T1 T2 g O) (h1:EvF K e1 E L r1 T1) (h2:EvF K e2 E L r2 T2) :
  EvO K (tOp m e1 e2) E L (r1.bind fun a=>r2.bind fun b=>g a b) O:=by
 intro σ F H Q hL hs q
 refine h1 σ F H _ hL hs (q.bind.imp fun a F1 H1 x1 k1 v1 hv1=>?_)
 refine h2 σ F1 H1 _ (hL.mono x1.1) x1.2.1 (k1.bind.imp fun b F2 H2 x2 k2 v2 hv2=>?_)
 exact hop a b v1 v2 F2 H2 Q x2.2.1 (T1.mono x2.1 hv1) hv2 (k2.imp fun c F3 H3 x3 k3=>k3.back (x1.2.2.1.trans x2.2.2.1))
theorem zpD_ {g:Int→Int→V}{f:Int→Int→α}(h:∀ i j F,T.R (f i j) (g i j) F):Op2 K (mI0 g) E tyInt tyInt (fun i j=>.ok (f i j)) T:=by
 intro a b x y F H Q hs hx hy q
 cases hx; cases hy
 exact q.ok hs _ (h a b F)
theorem op_i {C:Int→Int→Prop} [∀ i j,Decidable (C i j)] {g:Int→Int→V}{f:Int→Int→α}(h:∀ i j F,T.R (f i j) (g i j) F):Op2 K (mI C g) E tyInt tyInt (fun i j=>.grd (C i j) (.ok (f i j))) T:=by
 intro a b x y F H Q hs hx hy q
 cases hx; cases hy
 obtain ⟨c,q⟩:=q.grd
 exact ⟨c,q.ok hs _ (h a b F)⟩
instance (i j:Int):Decidable (CMul i j):=inferInstanceAs (Decidable (_∨_))
instance (i j:Int):Decidable (CDiv i j):=inferInstanceAs (Decidable (_∧_))
instance (i j:Int):Decidable (CPow i j):=inferInstanceAs (Decidable (_∧_∧_))
theorem za4_:Op2 K mAdd E tyInt tyInt (fun i j=>.ok (i+j)) tyInt:=by
 intro a b x y F H Q hs hx hy q
 cases hx; cases hy
 exact q.ok hs _ rfl
theorem zbR_:Op2 K mSub E tyInt tyInt (fun i j=>.ok (i-j)) tyInt:=zpD_ fun _ _ _=>rfl
theorem zaZ_:Op2 K mMod E tyInt tyInt (fun i j=>.grd (0<j) (.ok (i % j))) tyInt:=op_i (C:=fun _ j=>0<j) fun _ _ _=>rfl
theorem zqq_:Op2 K mLt E tyInt tyInt (fun i j=>.ok (decide (i<j))) tyBl:=zpD_ fun _ _ _=>rfl
theorem zoc_:Op2 K mGt E tyInt tyInt (fun i j=>.ok (decide (j<i))) tyBl:=zpD_ fun _ _ _=>rfl
theorem zn5_:Op2 K mGe E tyInt tyInt (fun i j=>.ok (decide (j≤i))) tyBl:=zpD_ fun _ _ _=>rfl
theorem zeb_:Op2 K mAdd E tyStr tyStr (fun i j=>.lim (i.length+j.length) (.ok (i++j))) tyStr:=by
 intro a b x y F H Q hs hx hy q
 cases hx; cases hy
 obtain ⟨c,q⟩:=q.lim
 exact ⟨c,q.ok hs _ rfl⟩
theorem Prs.append {xs ys:List α}{vs us:List V}(a:Prs T H xs vs) (b:Prs T H ys us):Prs T H (xs++ys) (vs++us):=by
 induction a with
 | nil=>exact b
 | cons r t ih=>exact .cons r ih
theorem Prs.len {xs:List α}{vs:List V}(a:Prs T H xs vs):xs.length=vs.length:=Paired.length a
theorem Prs.get {xs:List α}{vs:List V}(a:Prs T H xs vs) (i:Nat):(xs[i]?=none∧vs[i]?=none)∨∃ x v,xs[i]?=some x∧vs[i]?=some v∧T.R x v H:=by
 induction a generalizing i with
 | nil=>exact .inl ⟨rfl,rfl⟩
 | cons r t ih =>
  cases i with
  | zero=>exact .inr ⟨_,_,rfl,rfl,r⟩
  | succ i=>simpa using ih i
theorem Prs.take {xs:List α}{vs:List V}(a:Prs T H xs vs) (n:Nat):Prs T H (xs.take n) (vs.take n):=by
 induction a generalizing n with
 | nil=>rw [List.take_nil,List.take_nil]; exact .nil
 | cons r t ih =>
  cases n with
  | zero=>exact .nil
  | succ n=>exact .cons r (ih n)
theorem Prs.drop {xs:List α}{vs:List V}(a:Prs T H xs vs) (n:Nat):Prs T H (xs.drop n) (vs.drop n):=by
 induction a generalizing n with
 | nil=>rw [List.drop_nil,List.drop_nil]; exact .nil
 | cons r t ih =>
  cases n with
  | zero=>exact .cons r t
  | succ n=>exact ih n
theorem Prs.set {xs:List α}{vs:List V}(a:Prs T H xs vs) (i:Nat) {x:α}{v:V}(q:T.R x v H):Prs T H (xs.set i x) (vs.set i v):=by
 induction a generalizing i with
 | nil=>exact .nil
 | cons r t ih =>
  cases i with
  | zero=>exact .cons q t
  | succ i=>exact .cons r (ih i)
theorem zoX_ {vs:List V}{xs:List α}{p:Addr}{F' H':Hp}{Q:VK}(hp:H p=none) (h2:H' p=some (.lst vs)) (hf:F' p=none) (hr:Prs T F' xs vs) (q:OwnK (owL T) H Q xs F' H'):Q (.ref p) H':=by
 refine q (.ref p) (one p (.lst vs)) (fun b z=>?_) (fun b=>?_) (fun b o z=>?_) ⟨p,vs,rfl,rfl,hr⟩
 ·unfold one at z; split at z
  ·rename_i e; rw [e]; exact hp
  ·exact absurd rfl z
 ·unfold one; split
  ·rename_i e; rw [e]; exact .inl hf
  ·exact .inr rfl
 ·unfold one at z; split at z
  ·rename_i e; rw [e]; cases z; exact h2
  ·cases z
theorem zeC_ {vs:List V}{xs:List α}{p:Addr}{Q:VK}(hs:Same F H) (hp:H p=none) (hr:Prs T F xs vs) (q:After K (.ok xs) E F H (OwnK (owL T) H Q)):Q (.ref p) (upd H p (.lst vs)) :=
 zoX_ hp zbu_ (hs.free hp) hr (q F _ (.heap hs (zfC_ hp _)))
theorem zp1_:EvA K tNil E L (.ok ()) csNil:=fun σ F H Q hL hs q=>q.ok hs [] rfl
theorem zg_ (h:EvF K e E L r T):EvA K (tCons e tNil) E L r (csLast T):=by
 intro σ F H Q hL hs q
 exact h σ F H _ hL hs (q.imp fun a F1 H1 x k v hv=>k [v] ⟨v,rfl,hv⟩)
theorem zE_ {ta:TA}{r2:Mo γ}{C:Cs γ}(h:EvF K e E L r T) (h2:EvA K ta E L r2 C):EvA K (tCons e ta) E L (r.bind fun a=>r2.bind fun c=>.ok (a,c)) (csCons T C):=by
 intro σ F H Q hL hs q
 refine h σ F H _ hL hs (q.bind.imp fun a F1 H1 x1 k1 v1 hv1=>?_)
 refine h2 σ F1 H1 _ (hL.mono x1.1) x1.2.1 (k1.bind.imp fun c F2 H2 x2 k2 vs hvs=>?_)
 exact k2.ok x2.2.1 (v1::vs) ⟨v1,vs,rfl,T.mono x2.1 hv1,hvs⟩
noncomputable def Ct (K:Fgg) (C:Cs γ) (f:γ→Mo ρ) (O:Own ρ):Sp:=fun vs H Q E=>∃ F c,Same F H∧C.R c vs F∧After K (f c) E F H (OwnK O H Q)
theorem zdW_ {C:Cs γ}{f:γ→Mo ρ}{O:Own ρ}{ta:TA}{r:Mo γ}(h:EvA K ta E L r C):EvO K (tCall (Ct K C f O) [] E0 ta) E L (r.bind fun c=>(f c).noex) O:=by
 intro σ F H Q hL hs q
 refine h σ F H _ hL hs (q.bind.imp fun c F1 H1 x1 k1 vs hvs=>?_)
 rw [List.append_nil]
 exact ⟨F1,c,x1.2.1,hvs,k1.noex.imp fun r F2 H2 x2 k2=>k2.back x1.2.2.1⟩
noncomputable def Bl (K:Fgg) (m:List V→Hp→VK→Prop) (E:XK) (C:Cs γ) (g:γ→Mo α) (T:Ty α):Prop :=
 ∀ c vs F H (Q:VK),Same F H→C.R c vs F→After K (g c) E F H (fun c F' H'=>∀ v,T.R c v F'→Q v H')→m vs H Q
noncomputable def BlO (K:Fgg) (m:List V→Hp→VK→Prop) (E:XK) (C:Cs γ) (g:γ→Mo α) (O:Own α):Prop :=
 ∀ c vs F H (Q:VK),Same F H→C.R c vs F→After K (g c) E F H (OwnK O H Q)→m vs H Q
theorem zg0_ {m:List V→Hp→VK→Prop}{C:Cs γ}{g:γ→Mo α}{ta:TA}{r:Mo γ}(hb:Bl K m E C g T) (h:EvA K ta E L r C):EvF K (tCB m ta) E L (r.bind g) T:=by
 intro σ F H Q hL hs q
 exact h σ F H _ hL hs (q.bind.imp fun c F1 H1 x1 k1 vs hvs=>hb c vs F1 H1 Q x1.2.1 hvs k1)
theorem zlI_ {m:List V→Hp→VK→Prop}{C:Cs γ}{g:γ→Mo α}{O:Own α}{ta:TA}{r:Mo γ}(hb:BlO K m E C g O) (h:EvA K ta E L r C):EvO K (tCB m ta) E L (r.bind g) O:=by
 intro σ F H Q hL hs q
 exact h σ F H _ hL hs (q.bind.imp fun c F1 H1 x1 k1 vs hvs=>hb c vs F1 H1 Q x1.2.1 hvs (k1.imp fun a F2 H2 x2 k2=>k2.back x1.2.2.1))
theorem zpp_:Bl K (mLen K) E (csLast tyStr) (fun l=>.lim l.length (.ok (l.length:Int))) tyInt:=by
 rintro c vs F H Q hs ⟨v,rfl,rfl⟩ q
 obtain ⟨z,q⟩:=q.lim
 exact ⟨z,q.ok hs _ rfl⟩
theorem zdT_:Bl K (mLen K) E (csLast (tyL T)) (fun l=>.ok (l.length:Int)) tyInt:=by
 rintro c vs F H Q hs ⟨v,rfl,p,us,rfl,h,r⟩ q
 exact ⟨us,.inl (.of (hs _ _ h)),q.ok hs _ (by rw [r.len])⟩
theorem zmA_:Bl K (mLen K) E (csLast (tySc K)) (fun l=>.ok (l.length:Int)) tyInt:=by
 rintro c vs F H Q hs ⟨v,rfl,p,rfl,h⟩ q
 exact ⟨_,.inl (hs.seq h),q.ok hs _ (by rw [List.length_map])⟩
theorem znS_:Bl K (mTwo max) E (csCons tyInt (csLast tyInt)) (fun c=>.ok (max c.1 c.2)) tyInt:=by
 rintro c vs F H Q hs ⟨v,us,rfl,rfl,w,rfl,rfl⟩ q
 exact q.ok hs _ rfl
theorem zob_:Bl K (mTwo min) E (csCons tyInt (csLast tyInt)) (fun c=>.ok (min c.1 c.2)) tyInt:=by
 rintro c vs F H Q hs ⟨v,us,rfl,rfl,w,rfl,rfl⟩ q
 exact q.ok hs _ rfl
theorem zqj_:Bl K mStr E (csLast tyInt) (fun i=>.grd (i.natAbs.log2<1920) (.ok (strI i))) tyStr:=by
 rintro c vs F H Q hs ⟨v,rfl,rfl⟩ q
 obtain ⟨z,q⟩:=q.grd
 exact ⟨z,q.ok hs _ rfl⟩
theorem zl6_ {xs:List Int}:Prs tyInt H xs (xs.map V.int):=by
 induction xs with
 | nil=>exact .nil
 | cons x xs ih=>exact .cons rfl ih
theorem zh6_:Op2 K (mIx K) E tyStr tyInt (fun l i=>.lim l.length (.opt ((atI l i).map fun c=>[c]))) tyStr:=by
 rintro a b x y F H Q hs rfl rfl q
 obtain ⟨z,q⟩:=q.lim
 obtain ⟨l,e,q⟩:=q.opt
 refine ⟨z,?_⟩
 show (match atI a b with | some c=>Q (tx [c]) H | none=>False)
 cases e1:atI a b with
 | none=>rw [e1] at e; cases e
 | some c=>rw [e1] at e; cases e; exact q.ok hs _ rfl
theorem zmd_ {xs:List α}{vs:List V}(r:Prs T H xs vs) {i:Int}{x:α}(e:atI xs i=some x):∃ v,atI vs i=some v∧T.R x v H:=by
 unfold atI at e ⊢
 rw [← r.len]
 cases e1:ixN xs.length i with
 | none=>rw [e1] at e; cases e
 | some j =>
  rw [e1] at e
  rcases r.get j with ⟨a,b⟩ | ⟨y,v,a,b,c⟩
  ·have:xs[j]?=some x:=e
   rw [a] at this; cases this
  ·have:xs[j]?=some x:=e
   rw [a] at this; cases this
   exact ⟨v,b,c⟩
theorem zd6_:Op2 K (mIx K) E (tyL T) tyInt (fun l i=>.opt (atI l i)) T:=by
 rintro a b x y F H Q hs ⟨p,vs,rfl,h,r⟩ rfl q
 obtain ⟨l,e,q⟩:=q.opt
 refine ⟨vs,.inl (.of (hs _ _ h)),?_⟩
 obtain ⟨v,e2,rv⟩:=zmd_ r e
 rw [e2]
 exact q.ok hs v rv
theorem zoM_:Op2 K (mIx K) E (tySc K) tyInt (fun l i=>.opt (atI l i)) tyInt:=by
 rintro a b x y F H Q hs ⟨p,rfl,h⟩ rfl q
 obtain ⟨l,e,q⟩:=q.opt
 refine ⟨_,.inl (hs.seq h),?_⟩
 obtain ⟨v,e2,rv⟩:=zmd_ (H:=F) zl6_ e
 rw [e2]
 exact q.ok hs v rv
noncomputable def CsAt (C:Cs γ) (i:Nat) (T:Ty α) (pr:γ→α):Prop:=∀ {c vs H},C.R c vs H→∃ v,vs[i]?=some v∧T.R (pr c) v H
theorem zfg_:CsAt (csLast T) 0 T id:=fun ⟨v,e,h⟩=>⟨v,by rw [e]; rfl,h⟩
theorem at_0 {C:Cs γ}:CsAt (csCons T C) 0 T Prod.fst:=fun ⟨v,us,e,h,q⟩=>⟨v,by rw [e]; rfl,h⟩
theorem at_s {C:Cs γ}{i:Nat}{pr:γ→α}{T':Ty β}(h:CsAt C i T pr):CsAt (csCons T' C) (i+1) T (fun c=>pr c.2):=fun ⟨v,us,e,_,q⟩=>by
 obtain ⟨w,e2,r⟩:=h q
 exact ⟨w,by rw [e]; exact e2,r⟩
theorem zet_ {C:Cs γ}{i:Nat}{pr:γ→α}{r:Mo γ}(ha:CsAt C i T pr) (h:EvF K e E L r (tyTup C)):EvF K (tOp (mIx K) e (tC (.int i))) E L (r.bind fun c=>.ok (pr c)) T:=by
 intro σ F H Q hL hs q
 refine h σ F H _ hL hs (q.bind.imp fun c F1 H1 x1 k1 v1 hq_=>?_)
 obtain ⟨p,us,ev,hp,hc⟩:=hq_
 subst ev
 obtain ⟨w,e2,rw'⟩:=ha hc
 refine ⟨us,.inr (.of (x1.2.1 _ _ hp)),?_⟩
 have e3:atI us (i:Int)=some w:=by
  unfold atI
  rw [zk8_ (by lia) (by have:=(List.getElem?_eq_some_iff.mp e2).1; lia)]
  simpa using e2
 rw [e3]
 exact k1.ok x1.2.1 w rw'
end
end L2
namespace L2
open PySem PySem.Spec PyProof.Rows
section
variable {K:Fgg}{E:XK}{α β γ ρ:Type}{F H:Hp}{L:List Sl}{e e1 e2:TE}{T:Ty α}{r:Mo α}
variable {t t1 t2:TT}{b b1 b2:Mo Bool}
theorem zdS_ (h:EvF K e E L b tyBl):EvT K (mTest e) E L b:=by
 intro σ F H Q hL hs q
 refine h σ F H _ hL hs (q.imp fun a F1 H1 x k v hv=>?_)
 cases hv
 exact k
theorem zjG_ (h:EvT K t E L b):EvT K (tNot t) E L (b.bind fun c=>.ok (!c)):=by
 intro σ F H Q hL hs q
 exact h σ F H _ hL hs (q.bind.imp fun a F1 H1 x k=>k.ok x.2.1)
theorem zqY_ (h1:EvT K t1 E L b1) (h2:EvT K t2 E L b2):EvT K (mAnd t1 t2) E L (b1.bind fun c=>if c then b2 else .ok false):=by
 intro σ F H Q hL hs q
 refine h1 σ F H _ hL hs (q.bind.imp fun a F1 H1 x k=>⟨fun c=>?_,fun c=>?_⟩)
 ·rw [if_pos c] at k; exact h2 σ F1 H1 _ (hL.mono x.1) x.2.1 k
 ·rw [if_neg (by rw [c]; decide)] at k; exact k.ok x.2.1
theorem et_or (h1:EvT K t1 E L b1) (h2:EvT K t2 E L b2):EvT K (mOr t1 t2) E L (b1.bind fun c=>if c then .ok true else b2):=by
 intro σ F H Q hL hs q
 refine h1 σ F H _ hL hs (q.bind.imp fun a F1 H1 x k=>⟨fun c=>?_,fun c=>?_⟩)
 ·rw [if_pos c] at k; exact k.ok x.2.1
 ·rw [if_neg (by rw [c]; decide)] at k; exact h2 σ F1 H1 _ (hL.mono x.1) x.2.1 k
theorem ev_or (h1:EvF K e1 E L b1 tyBl) (h2:EvF K e2 E L b2 tyBl):EvF K (mOrV e1 e2) E L (b1.bind fun c=>if c then .ok true else b2) tyBl:=by
 intro σ F H Q hL hs q
 refine h1 σ F H _ hL hs (q.bind.imp fun a F1 H1 x k v hv=>?_)
 cases hv
 refine ⟨fun c=>?_,fun c=>?_⟩
 ·rw [if_pos c] at k; exact k.ok x.2.1 _ rfl
 ·rw [if_neg (by rw [c]; decide)] at k; exact h2 σ F1 H1 _ (hL.mono x.1) x.2.1 k
theorem zqR_ (h1:EvF K e1 E L b1 tyBl):EvF K (mNotV e1) E L (b1.bind fun c=>.ok (!c)) tyBl:=by
 intro σ F H Q hL hs q
 refine h1 σ F H _ hL hs (q.bind.imp fun a F1 H1 x k v hv=>?_)
 cases hv
 exact k.ok x.2.1 _ rfl
theorem zoN_ {r:Mo Int}(h1:EvF K e1 E L r tyInt):EvF K (mNeg e1) E L (r.bind fun c=>.ok (-c)) tyInt:=by
 intro σ F H Q hL hs q
 refine h1 σ F H _ hL hs (q.bind.imp fun a F1 H1 x k v hv=>?_)
 cases hv
 exact k.ok x.2.1 _ rfl
theorem ev_if {r1 r2:Mo α}(ht:EvT K t E L b) (h1:EvF K e1 E L r1 T) (h2:EvF K e2 E L r2 T):EvF K (mIf t e1 e2) E L (b.bind fun c=>if c then r1 else r2) T:=by
 intro σ F H Q hL hs q
 refine ht σ F H _ hL hs (q.bind.imp fun a F1 H1 x k=>⟨fun c=>?_,fun c=>?_⟩)
 ·rw [if_pos c] at k; exact h1 σ F1 H1 _ (hL.mono x.1) x.2.1 k
 ·rw [if_neg (by rw [c]; decide)] at k; exact h2 σ F1 H1 _ (hL.mono x.1) x.2.1 k
theorem After.more {k:α→Hp→Hp→Prop}(h:After K r E F H k):After K r E F H fun a F1 H1=>∀ F2 H2,Ext F1 H1 F2 H2→k a F2 H2:=by
 cases r with
 | ok a=>exact fun F1 H1 x F2 H2 y=>h F2 H2 (x.trans y)
 | ex c=>exact h
 | no=>exact h
noncomputable def CsN (C:Cs γ) (n:Nat):Prop:=∀ {c vs H},C.R c vs H→vs.length=n
theorem ziq_:CsN csNil 0:=fun e=>by rw [e]; rfl
theorem zf_:CsN (csLast T) 1:=fun ⟨v,e,_⟩=>by rw [e]; rfl
theorem zi_ {C:Cs γ}{n:Nat}(h:CsN C n):CsN (csCons T C) (n+1):=fun ⟨v,us,e,_,q⟩=>by rw [e,List.length_cons,h q]
theorem zqD_ {ta:TA}{C:Cs γ}{r:Mo γ}{n:Nat}(hl:CsN C n) (h:EvA K ta E L r C) (hn:n≤100:=by decide):EvF K (tTup ta) E L r (tyTup C):=by
 intro σ F H Q hL hs q
 refine h σ F H _ hL hs (q.more.imp fun c F1 H1 x1 k1 vs hvs=>⟨zfG_ (by rw [hl hvs]; lia),fun p hp=>?_⟩)
 have x:=Ext.new (o:=.tup vs) x1.2.1 hp
 exact k1 _ _ x _ ⟨p,vs,rfl,zbu_,C.mono x.1 hvs⟩
noncomputable def CsL (C:Cs γ) (T:Ty α) (f:γ→List α):Prop:=∀ {c vs H},C.R c vs H→Prs T H (f c) vs
theorem zge_:CsL (csLast T) T fun a=>[a]:=fun ⟨v,e,h⟩=>by rw [e]; exact .cons h .nil
theorem zff_ {C:Cs γ}{f:γ→List α}(h:CsL C T f):CsL (csCons T C) T fun c=>c.1::f c.2:=fun ⟨v,us,e,q,z⟩=>by rw [e]; exact .cons q (h z)
theorem zlv_ {ta:TA}{C:Cs γ}{r:Mo γ}{n:Nat}{f:γ→List α}(hl:CsN C n) (hf:CsL C T f) (h:EvA K ta E L r C) (hn:n≤100:=by decide):EvO K (tLst ta) E L (r.bind fun c=>.ok (f c)) (owL T):=by
 intro σ F H Q hL hs q
 refine h σ F H _ hL hs (q.bind.imp fun c F1 H1 x1 k1 vs hvs=>⟨zfG_ (by rw [hl hvs]; omega),fun p hp=>?_⟩)
 exact zeC_ x1.2.1 hp (hf hvs) (k1.imp fun a F2 H2 x2 k2=>k2.back x1.2.2.1)
theorem zgY_ (T:Ty α):EvO K (tLst tNil) E L (.ok []) (owL T):=by
 intro σ F H Q hL hs q
 exact ⟨Nat.zero_le _,fun p hp=>zeC_ hs hp (T:=T) .nil q⟩
noncomputable def EvP (K:Fgg) (t:TO) (E:XK) (L:List Sl) (r:Mo (Option Int)):Prop :=
 ∀ σ F H (Q:Option Int→Hp→Prop),HoldF L σ F→Same F H→After K r E F H (fun b _ H'=>Q b H')→t σ H Q
theorem zoI_:EvP K tNoPart E L (.ok none):=fun σ F H Q hL hs q=>q.ok hs
theorem zi5_ {r:Mo Int}(h:EvF K e E L r tyInt):EvP K (mPart e) E L (r.bind fun i=>.ok (some i)):=by
 intro σ F H Q hL hs q
 refine h σ F H _ hL hs (q.bind.imp fun a F1 H1 x k v hv=>?_)
 cases hv
 exact k.ok x.2.1
noncomputable def cutG (xs:List α) (lo hi:Option Int):List α:=(xs.drop (HT.sIx xs.length 0 lo)).take (HT.sIx xs.length xs.length hi-HT.sIx xs.length 0 lo)
theorem zmb_ {xs:List α}{vs:List V}(q:Prs T H xs vs) (lo hi:Option Int):Prs T H (cutG xs lo hi) (cutV vs lo hi):=by
 unfold cutG cutV
 rw [← q.len]
 exact (q.drop _).take _
variable {tl th:TO}{rl rh:Mo (Option Int)}
theorem zh4_ {r:Mo (List Nat)}(h:EvF K e E L r tyStr) (hl:EvP K tl E L rl) (hh:EvP K th E L rh):EvF K (tSl (mSl K) e tl th) E L (r.bind fun l=>rl.bind fun a=>rh.bind fun b=>.lim l.length (.ok (cutG l a b))) tyStr:=by
 intro σ F H Q hL hs q
 refine h σ F H _ hL hs (q.bind.imp fun l F1 H1 x1 k1 v hv=>?_)
 refine hl σ F1 H1 _ (hL.mono x1.1) x1.2.1 (k1.bind.imp fun a F2 H2 x2 k2=>?_)
 refine hh σ F2 H2 _ (hL.mono (x1.1.trans x2.1)) x2.2.1 (k2.bind.imp fun b F3 H3 x3 k3=>?_)
 cases hv
 obtain ⟨z,k3⟩:=k3.lim
 exact ⟨z,k3.ok x3.2.1 _ rfl⟩
theorem zqt_ {r:Mo (List α)}(h:EvF K e E L r (tyL T)) (hl:EvP K tl E L rl) (hh:EvP K th E L rh):EvO K (tSl (mSl K) e tl th) E L (r.bind fun l=>rl.bind fun a=>rh.bind fun b=>.ok (cutG l a b)) (owL T):=by
 intro σ F H Q hL hs q
 refine h σ F H _ hL hs (q.bind.imp fun l F1 H1 x1 k1 v hv=>?_)
 refine hl σ F1 H1 _ (hL.mono x1.1) x1.2.1 (k1.bind.imp fun a F2 H2 x2 k2=>?_)
 refine hh σ F2 H2 _ (hL.mono (x1.1.trans x2.1)) x2.2.1 (k2.bind.imp fun b F3 H3 x3 k3=>?_)
 obtain ⟨p,vs,rfl,hp,hr⟩:=hv
 have x:=x2.1.trans x3.1
 exact ⟨vs,.of (x3.2.1 _ _ (x _ _ hp)),fun q hq=>zeC_ x3.2.1 hq (zmb_ (hr.mono x) a b) (k3.imp fun _ _ _ _ z=>z.back ((x1.2.2.1.trans x2.2.2.1).trans x3.2.2.1))⟩
theorem zpe_ {r:Mo (List Int)}(h:EvF K e E L r (tySc K)) (hl:EvP K tl E L rl) (hh:EvP K th E L rh):EvO K (tSl (mSl K) e tl th) E L (r.bind fun l=>rl.bind fun a=>rh.bind fun b=>.ok (cutG l a b)) (owL tyInt):=by
 intro σ F H Q hL hs q
 refine h σ F H _ hL hs (q.bind.imp fun l F1 H1 x1 k1 v hv=>?_)
 refine hl σ F1 H1 _ (hL.mono x1.1) x1.2.1 (k1.bind.imp fun a F2 H2 x2 k2=>?_)
 refine hh σ F2 H2 _ (hL.mono (x1.1.trans x2.1)) x2.2.1 (k2.bind.imp fun b F3 H3 x3 k3=>?_)
 obtain ⟨p,rfl,hp⟩:=hv
 have x:=x2.1.trans x3.1
 exact ⟨_,x3.2.1.seq (x.seq hp),fun q hq=>zeC_ x3.2.1 hq (zmb_ zl6_ a b) (k3.imp fun _ _ _ _ z=>z.back ((x1.2.2.1.trans x2.2.2.1).trans x3.2.2.1))⟩
theorem zn3_:Op2 K mIs E (tyOpt T) tyNon (fun a _=>.ok a.isNone) tyBl:=by
 rintro a b x y F H Q hs hx rfl k
 have:decide (x=.non)=a.isNone:=by
  cases a with
  | none=>cases hx; rfl
  | some a=>exact decide_eq_false hx.2
 show (match mIsB x .non with | some b=>Q (.bl b) H | none=>False)
 have e:mIsB x .non=some (decide (x=.non)):=rfl
 rw [e,this]
 exact k.ok hs _ rfl
theorem znJ_:Op2 K mIsNot E (tyOpt T) tyNon (fun a _=>.ok a.isSome) tyBl:=by
 rintro a b x y F H Q hs hx rfl k
 have:(!decide (x=.non))=a.isSome:=by
  cases a with
  | none=>cases hx; rfl
  | some a=>rw [decide_eq_false hx.2]; rfl
 show (match mIsB x .non with | some b=>Q (.bl (!b)) H | none=>False)
 have e:mIsB x .non=some (decide (x=.non)):=rfl
 rw [e]
 show Q (.bl (!decide (x=.non))) H
 rw [this]
 exact k.ok hs _ rfl
theorem zqy_:Op2 K (mIn K false) E tyStr tyStr (fun a b=>.ok (inS a b)) tyBl:=by
 rintro a b x y F H Q hs rfl rfl k
 exact k.ok hs _ rfl
structure Flt (T:Ty α) (q:α→α→Bool):Prop where
 flat:∀ {a x H},T.R a x H→flatV x=true
 eq:∀ {a b x y H},T.R a x H→T.R b y H→eqV x y=q a b
theorem znT_:Flt tyInt (fun a b=>decide (a=b)):=⟨fun h=>by cases h; rfl,fun h h'=>by cases h; cases h'; unfold eqV; exact rfl⟩
theorem zoj_ {q:α→α→Bool}(f:Flt T q) {H:Hp}{a:α}{x:V}(ha:T.R a x H) {xs:List α}{vs:List V}(r:Prs T H xs vs):vs.all flatV=true∧inV x vs=xs.any fun y=>q y a:=by
 induction r with
 | nil=>exact ⟨rfl,rfl⟩
 | cons r t ih =>
  refine ⟨by rw [List.all_cons,f.flat r,ih.1]; rfl,?_⟩
  unfold inV at ih ⊢
  rw [List.any_cons,List.any_cons,f.eq r ha,ih.2]
theorem zqC_ {q:α→α→Bool}(f:Flt T q):Op2 K (mIn K false) E T (tyL T) (fun a b=>.ok (b.any fun y=>q y a)) tyBl:=by
 rintro a b x y F H Q hs hx ⟨p,vs,rfl,hp,hr⟩ k
 obtain ⟨h1,h2⟩:=zoj_ f hx hr
 refine ⟨vs,.inl (.of (hs _ _ hp)),f.flat hx,h1,?_⟩
 rw [h2]
 exact k.ok hs _ rfl
noncomputable def Me (K:Fgg) (m:V→List V→Hp→VK→Prop) (E:XK) (C:Cs γ) (g:List Nat→γ→Mo α) (T:Ty α):Prop :=
 ∀ l c vs F H (Q:VK),Same F H→C.R c vs F→After K (g l c) E F H (fun c F' H'=>∀ v,T.R c v F'→Q v H')→m (tx l) vs H Q
theorem znO_ {m:V→List V→Hp→VK→Prop}{C:Cs γ}{g:List Nat→γ→Mo α}{ta:TA}{r0:Mo (List Nat)}{r:Mo γ}(hb:Me K m E C g T) (h0:EvF K e E L r0 tyStr) (h:EvA K ta E L r C):EvF K (tBM K "str" m e ta) E L (r0.bind fun l=>r.bind fun c=>g l c) T:=by
 intro σ F H Q hL hs q
 refine h0 σ F H _ hL hs (q.bind.imp fun l F1 H1 x1 k1 v hv=>?_)
 cases hv
 refine ⟨rfl,h σ F1 H1 _ (hL.mono x1.1) x1.2.1 (k1.bind.imp fun c F2 H2 x2 k2 vs hvs=>hb l c vs F2 H2 Q x2.2.1 hvs k2)⟩
theorem zov_:Me K mFind E (csLast tyStr) (fun l c=>.ok (findS l c)) tyInt:=by
 rintro l c vs F H Q hs ⟨v,rfl,rfl⟩ k
 exact k.ok hs _ rfl
theorem znh_:Me K mIndex E (csLast tyStr) (fun l c=>.grd (findS l c ≠ -1) (.ok (findS l c))) tyInt:=by
 rintro l c vs F H Q hs ⟨v,rfl,rfl⟩ k
 obtain ⟨z,k⟩:=k.grd
 exact ⟨z,k.ok hs _ rfl⟩
noncomputable def zfL (l:List Nat) (i:Int):List Nat:=(Txt.zfill ⟨l.toArray⟩ i).cps.toList
theorem zm1_:Me K mZfill E (csLast tyInt) (fun l i=>.grd (PadOk i=true) (.ok (zfL l i))) tyStr:=by
 rintro l c vs F H Q hs ⟨v,rfl,rfl⟩ k
 obtain ⟨z,k⟩:=k.grd
 exact ⟨z,k.ok hs _ rfl⟩
end
end L2
namespace L2
open PySem PySem.Spec PyProof.Rows
section
variable {K:Fgg}{E:XK}{α β γ ρ S S' B:Type}{F H:Hp}{L:List Sl}{e e1 e2:TE}{T:Ty α}{r:Mo α}
noncomputable def setL (L:List Sl) (ss:List (Nat×Sl)):List Sl:=ss.foldl (fun L q=>L.set q.1 q.2) L
noncomputable def setS (σ:St) (ss:List (Nat×Option V)):St:=ss.foldl (fun L q=>L.set q.1 q.2) σ
inductive Plain (F:Hp):List (Nat×Sl)→List (Nat×Option V)→Prop
 | nil:Plain F [] []
 | cons {α:Type}{T:Ty α}{a:α}{i:Nat}{v:V}{ss vs} (h:T.R a v F) (t:Plain F ss vs):Plain F ((i,.fz T a)::ss) ((i,some v)::vs)
noncomputable def TgR (K:Fgg) (g:TG) (T:Ty α) (ss:α→List (Nat×Sl)):Prop :=
 ∀ a v σ F H (Q:St→Hp→Prop),Same F H→T.R a v F→(∀ vs,Plain F (ss a) vs→Q (setS σ vs) H)→g v σ H Q
theorem zaD_ (i:Nat):TgR K (gName i) T fun a=>[(i,.fz T a)]:=by
 intro a v σ F H Q hs hv q
 exact q [(i,some v)] (.cons hv .nil)
noncomputable def TgC (K:Fgg) (g:TGs) (C:Cs γ) (ss:γ→List (Nat×Sl)):Prop :=
 ∀ a vs σ F H (Q:St→Hp→Prop),Same F H→C.R a vs F→(∀ us,Plain F (ss a) us→Q (setS σ us) H)→g vs σ H Q
theorem zil_ {g:TG}{ss:α→List (Nat×Sl)}(h:TgR K g T ss):TgC K (gConsM g gNilM) (csLast T) ss:=by
 rintro a vs σ F H Q hs ⟨v,rfl,hv⟩ q
 exact h a v σ F H _ hs hv fun us hu=>q us hu
theorem ziu_ (i:Nat) {g:TGs}{C:Cs γ}{ss:γ→List (Nat×Sl)}(h:TgC K g C ss):TgC K (gConsM (gName i) g) (csCons T C) fun c=>(i,.fz T c.1)::ss c.2:=by
 rintro a vs σ F H Q hs ⟨v,us,rfl,hv,hc⟩ q
 exact h a.2 us _ F H _ hs hc fun ws hw=>q ((i,some v)::ws) (.cons hv hw)
theorem zlE_ {n:Nat}{g:TGs}{C:Cs γ}{ss:γ→List (Nat×Sl)}(hn:CsN C n) (h:TgC K g C ss):TgR K (gTupM K n g) (tyTup C) ss:=by
 rintro a v σ F H Q hs ⟨p,us,rfl,hp,hc⟩ q
 exact ⟨us,.of (hs _ _ hp),hn hc,h a us σ F H Q hs hc q⟩
theorem zk7_ {σ:St}{i j:Nat}{o:Option V}(h:i<σ.length):((σ.set i o)[j]?).join=if i=j then o else (σ[j]?).join:=by
 rw [List.getElem?_set]
 split
 ·rename_i e; subst e; first | rfl | (rw [if_pos h]; rfl)
 ·rfl
theorem zl1_ {σ:St}{i:Nat}{s:Sl}{o:Option V}(hl:L.length=σ.length) (h:HoldF L σ F) (hs:s.Z o F):HoldF (L.set i s) (σ.set i o) F:=by
 intro j t e
 rw [List.getElem?_set] at e
 split at e
 ·rename_i z; subst z
  split at e
  ·rename_i y; cases e
   rw [zk7_ (by rw [← hl]; exact y),if_pos rfl]; exact hs
  ·cases e
 ·rename_i z
  by_cases y:i<σ.length
  ·rw [zk7_ y,if_neg z]; exact h j t e
  ·rw [List.set_eq_of_length_le (by lia)]; exact h j t e
theorem ziX_ {ss:List (Nat×Sl)}{vs:List (Nat×Option V)}(p:Plain F ss vs):∀ {L:List Sl}{σ:St},L.length=σ.length→HoldF L σ F→HoldF (setL L ss) (setS σ vs) F∧(setS σ vs).length=σ.length∧(setL L ss).length=L.length:=by
 induction p with
 | nil=>exact fun hl h=>⟨h,rfl,rfl⟩
 | cons hv t ih =>
  rename_i T a i v ss vs
  intro L σ hl h
  obtain ⟨a1,b,c⟩:=ih (L:=L.set i (.fz T a)) (σ:=σ.set i (some v)) (by rw [List.length_set,List.length_set]; exact hl) (zl1_ (s:=.fz T a) hl h ⟨v,rfl,hv⟩)
  exact ⟨a1,b.trans (by rw [List.length_set]),c.trans (by rw [List.length_set])⟩
noncomputable def DeadAt (L:List Sl) (is:List Nat):Prop:=∀ i∈is,∀ s,L[i]?=some s→s=.dead
theorem znn_ {ss:List (Nat×Sl)}{vs:List (Nat×Option V)}(p:Plain F ss vs) {j:Nat}:∀ {σ:St},j∉ss.map (·.1)→(setS σ vs)[j]?=σ[j]?:=by
 induction p with
 | nil=>exact fun _=>rfl
 | cons hv t ih =>
  rename_i i v ss vs
  intro σ hj
  have h1:i≠j:=fun z=>hj (by rw [← z]; exact List.mem_cons_self)
  have h2:=ih (σ:=σ.set i (some v)) fun z=>hj (List.mem_cons_of_mem _ z)
  exact h2.trans (List.getElem?_set_ne h1)
structure Yl (K:Fgg) (J:It) (xs:List α) (T:Ty α) (F1:Hp):Prop where
 go:∀ i H x,Same F1 H→xs[i]?=some x→J.go i H∧∀ v H',J.yld i H v H'→∀ F,Same F1 F→Same F H→∃ F',Ext F H F' H'∧T.R x v F'
 stop:∀ H,Same F1 H→J.stop xs.length H
noncomputable def EvI (K:Fgg) (wi:TI) (E:XK) (L:List Sl) (r:Mo (List α)) (T:Ty α):Prop :=
 ∀ σ F H (R:It→Hp→Prop),HoldF L σ F→Same F H→After K r E F H (fun xs F' H'=>∀ J,Yl K J xs T F'→R J H')→wi σ H R
theorem znL_ {r:Mo (List Nat)}(h:EvF K e E L r tyStr):EvI K (iAny K e) E L (r.bind fun l=>.ok (l.map fun c=>[c])) tyStr:=by
 intro σ F H R hL hs q
 refine h σ F H _ hL hs (q.bind.imp fun l F1 H1 x1 k1 v hv=>?_)
 cases hv
 refine k1.ok x1.2.1 _ ⟨fun i H x hH hx=>?_,fun H hH=>?_⟩
 ·rw [List.getElem?_map] at hx
  cases e:l[i]? with
  | none=>rw [e] at hx; cases hx
  | some c =>
   rw [e] at hx; cases hx
   have hi:=(List.getElem?_eq_some_iff.mp e).1
   refine ⟨hi,?_⟩
   rintro v H' ⟨rfl,rfl⟩ F _ hF
   refine ⟨F,.refl hF,?_⟩
   show tx [l.getD i 0]=tx [c]
   rw [List.getD_eq_getElem?_getD,e]; rfl
 ·show l.length≤(l.map fun c=>[c]).length
  rw [List.length_map]; exact Nat.le_refl _
theorem ei_l {r:Mo (List α)}(h:EvF K e E L r (tyL T)):EvI K (iAny K e) E L r T:=by
 intro σ F H R hL hs q
 refine h σ F H _ hL hs (q.imp fun l F1 H1 x1 k1 v hv=>?_)
 obtain ⟨p,vs,rfl,hp,hr⟩:=hv
 refine .inl ⟨⟨vs,.of (x1.2.1 _ _ hp)⟩,k1 _ ⟨fun i H x hH hx=>?_,fun H hH=>⟨vs,.of (hH _ _ hp),by rw [hr.len]; exact Nat.le_refl _⟩⟩⟩
 rcases hr.get i with ⟨a,_⟩ | ⟨y,u,a,b,c⟩
 ·rw [a] at hx; cases hx
 ·rw [a] at hx; cases hx
  refine ⟨⟨vs,u,.of (hH _ _ hp),b⟩,?_⟩
  rintro v H' ⟨rfl,z⟩ F hF hF'
  have e:=z vs (.of (hH _ _ hp))
  rw [b] at e; cases e
  exact ⟨F,.refl hF',T.mono hF c⟩
noncomputable def rngI (lo:Int) (n:Nat):List Int:=(List.range n).map fun (i:Nat)=>lo+i
theorem zn2_ {lo:Int}{n:Nat}{F1:Hp}:Yl K (Itr lo n) (rngI lo n) tyInt F1:=by
 refine ⟨fun i H x hH hx=>?_,fun H hH=>?_⟩
 ·unfold rngI at hx
  rw [List.getElem?_map] at hx
  cases e:(List.range n)[i]? with
  | none=>rw [e] at hx; cases hx
  | some c =>
   rw [e] at hx; cases hx
   obtain ⟨hi,e⟩:=List.getElem?_eq_some_iff.mp e
   rw [List.getElem_range] at e; subst e
   rw [List.length_range] at hi
   refine ⟨hi,?_⟩
   rintro v H' ⟨rfl,rfl⟩ F _ hF
   exact ⟨F,.refl hF,rfl⟩
 ·show n≤_
  unfold rngI; rw [List.length_map,List.length_range]; exact Nat.le_refl _
theorem zfD_ {r:Mo Int}{ta:TA}(h:EvA K ta E L r (csLast tyInt)):EvI K (mRng1 ta) E L (r.bind fun j=>.grd (-(2 ^ 62)≤j∧j<2 ^ 62) (.ok (rngI 0 j.toNat))) tyInt:=by
 intro σ F H R hL hs q
 refine h σ F H _ hL hs (q.bind.imp fun l F1 H1 x1 k1 v hv=>?_)
 obtain ⟨u,rfl,rfl⟩:=hv
 obtain ⟨z,k1⟩:=k1.grd
 exact ⟨z.1,z.2,k1.ok x1.2.1 _ zn2_⟩
theorem zpk_ {r:Mo (Int×Int)}{ta:TA}(h:EvA K ta E L r (csCons tyInt (csLast tyInt))):EvI K (mRng2 ta) E L (r.bind fun c=>.grd (-(2 ^ 62)≤c.1∧c.1<2 ^ 62 ∧ -(2 ^ 62)≤c.2∧c.2<2 ^ 62) (.ok (rngI c.1 (c.2-c.1).toNat))) tyInt:=by
 intro σ F H R hL hs q
 refine h σ F H _ hL hs (q.bind.imp fun l F1 H1 x1 k1 v hv=>?_)
 obtain ⟨u,us,rfl,rfl,w,rfl,rfl⟩:=hv
 obtain ⟨z,k1⟩:=k1.grd
 exact ⟨z,k1.ok x1.2.1 _ zn2_⟩
noncomputable def enumL (xs:List α):List (Int×α):=(List.range xs.length).zip xs |>.map fun q=>((q.1:Int),q.2)
theorem zgx_ (xs:List α) (i:Nat):(enumL xs)[i]?=(xs[i]?).map fun x=>((i:Int),x):=by
 unfold enumL
 rw [List.getElem?_map]
 cases e:xs[i]? with
 | none =>
  have:=List.getElem?_eq_none_iff.mp e
  rw [List.getElem?_eq_none (by rw [List.length_zip,List.length_range]; lia)]; rfl
 | some x =>
  have hi:=(List.getElem?_eq_some_iff.mp e).1
  have:((List.range xs.length).zip xs)[i]?=some (i,x):=List.getElem?_zip_eq_some.mpr ⟨by rw [List.getElem?_range hi],e⟩
  rw [this]; rfl
theorem zdG_ (xs:List α):(enumL xs).length=xs.length:=by unfold enumL; rw [List.length_map,List.length_zip,List.length_range,Nat.min_self]
theorem zqw_ {T2:Ty β}{r:Mo (List α×List β)}{ta:TA}(h:EvA K ta E L r (csCons (tyL T) (csLast (tyL T2)))):EvI K (iZip K ta) E L (r.bind fun c=>.ok (c.1.zip c.2)) (tyTup (csCons T (csLast T2))):=by
 intro σ F H R hL hs q
 refine h σ F H _ hL hs (q.bind.imp fun l F1 H1 x1 k1 vs hv=>?_)
 obtain ⟨v,ws,rfl,⟨p,us,rfl,hp,hr⟩,v2,rfl,p2,us2,rfl,hp2,hr2⟩:=hv
 refine ⟨⟨us,.of (x1.2.1 _ _ hp)⟩,⟨us2,.of (x1.2.1 _ _ hp2)⟩,k1.ok x1.2.1 _ ⟨fun i H x hH hx=>?_,fun H hH=>?_⟩⟩
 ·obtain ⟨hx1,hx2⟩:=List.getElem?_zip_eq_some.mp (show (l.1.zip l.2)[i]?=some (x.1,x.2) from hx)
  rcases hr.get i with ⟨a,_⟩ | ⟨y,u,a,b,c⟩
  ·rw [a] at hx1; cases hx1
  rcases hr2.get i with ⟨a',_⟩ | ⟨y',u',a',b',c'⟩
  ·rw [a'] at hx2; cases hx2
  rw [a] at hx1; rw [a'] at hx2
  injection hx1 with hx1
  injection hx2 with hx2
  refine ⟨⟨us,us2,u,u',.of (hH _ _ hp),.of (hH _ _ hp2),b,b'⟩,?_⟩
  rintro v H' ⟨p3,w,w',z,z',hp3,rfl,rfl⟩ F hF hF'
  have e:=z us (.of (hH _ _ hp))
  have e':=z' us2 (.of (hH _ _ hp2))
  rw [b] at e; cases e
  rw [b'] at e'; cases e'
  have x':=Ext.new (o:=.tup [u,u']) hF' hp3
  refine ⟨_,x',p3,_,rfl,zbu_,_,_,rfl,?_,u',rfl,?_⟩
  ·rw [← hx1]; exact T.mono (hF.trans x'.1) c
  ·rw [← hx2]; exact T2.mono (hF.trans x'.1) c'
 ·refine ⟨us,us2,.of (hH _ _ hp),.of (hH _ _ hp2),?_⟩
  rw [List.length_zip,hr.len,hr2.len]
  omega
noncomputable def compM (f:α→Mo (Option β)):List α→List β→Mo (List β)
 | [],acc=>.ok acc
 | x::xs,acc=>(f x).bind fun o=>match o with | none=>compM f xs acc | some y=>.lim (acc.length+1) (compM f xs (acc++[y]))
theorem za8_ {f:α→Mo (Option β)}{g:α→β}:∀ {xs:List α}{acc:List β},(∀ x∈xs,f x=.ok (some (g x)))→acc.length+xs.length≤100000→compM f xs acc=.ok (acc++xs.map g)
 | [],acc,_,_=>by unfold compM; rw [List.map_nil,List.append_nil]
 | x::xs,acc,h,hl=>by
  rw [List.length_cons] at hl
  unfold compM
  rw [h x List.mem_cons_self,Mo.ok_bind]
  show Mo.lim _ _=_
  rw [Mo.lim_ok (by lia),za8_ (fun y hy=>h y (List.mem_cons_of_mem _ hy)) (by rw [List.length_append,List.length_singleton]; lia)]
  simp
noncomputable def cL (lv:List Str) (fr:List (Str×Nat)) (L:List Sl):List Sl:=lv.map (fun _=>Sl.dead)++fr.map fun q=>(L[q.2]?).getD .dead
theorem zkv_ {lv:List Str}{fr:List (Str×Nat)}{σ:St}(h:HoldF L σ F):HoldF (cL lv fr L) (cS lv fr σ) F:=by
 intro i s e
 unfold cL at e
 unfold cS
 by_cases hi:i<lv.length
 ·rw [List.getElem?_append_left (by rw [List.length_map]; exact hi),List.getElem?_map,List.getElem?_eq_getElem hi] at e
  cases e; trivial
 ·rw [List.getElem?_append_right (by rw [List.length_map]; lia),List.length_map,List.getElem?_map] at e
  rw [List.getElem?_append_right (by rw [List.length_map]; lia),List.length_map,List.getElem?_map]
  cases z:fr[i-lv.length]? with
  | none=>rw [z] at e; cases e
  | some q =>
   rw [z] at e
   have e:(L[q.2]?).getD .dead=s:=by simpa using e
   show Sl.Z s (σ[q.2]?).join F
   cases y:L[q.2]? with
   | none=>rw [y] at e; rw [← e]; trivial
   | some t=>rw [y] at e; cases e; exact h _ _ y
theorem zmX_ {lv:List Str}{fr:List (Str×Nat)}{σ:St}:(cL lv fr L).length=(cS lv fr σ).length:=by unfold cL cS; simp
noncomputable def cond1 (c:Mo Bool) (f:Mo β):Mo (Option β):=(c.bind fun b=>if b then f.bind fun y=>.ok (some y) else .ok none).noex
end
end L2
namespace L2
open PySem PySem.Spec PyProof.Rows
inductive Out (ρ B S:Type) where
 | nx (s:S) | rt (r:ρ) | bk (b:B) | ct (b:B)
noncomputable def Okk (F0 H0 F h H:Hp):Prop:=Ext F0 H0 F H∧Dj F h∧Same h H∧(∀ p,h p≠none→H0 p=none)∧∀ p xs,h p≠some (.tup xs)
section
variable {K:Fgg}{E:XK}{α β γ ρ S S' B B':Type}{F0 H0 F h H:Hp}{L:List Sl}{e e1 e2:TE}{T:Ty α}{r:Mo α}{O:Own ρ}
noncomputable def Fin (K:Fgg) (r:Mo (Out ρ B S)) (E:XK) (LS:S→List Sl) (LB:B→List Sl) (O:Own ρ) (F0 H0:Hp) (D:Ends):Prop:=match r with
 | .ok (.nx s)=>∀ σ F h H,Hold (LS s) σ F h→Okk F0 H0 F h H→D.nx σ H
 | .ok (.bk b)=>∀ σ F h H,Hold (LB b) σ F h→Okk F0 H0 F h H→D.bk σ H
 | .ok (.ct b)=>∀ σ F h H,Hold (LB b) σ F h→Okk F0 H0 F h H→D.ct σ H
 | .ok (.rt a)=>∀ v F h H,Okk F0 H0 F h H→O.O a v F h→D.rt v H
 | .ex c=>∀ F h H,Okk F0 H0 F h H→E (.ref (gA K c)) none H
 | .no=>False
noncomputable def EvS (K:Fgg) (t:TS) (E:XK) (L:List Sl) (r:Mo (Out ρ B S)) (LS:S→List Sl) (LB:B→List Sl) (O:Own ρ):Prop :=
 ∀ F0 H0 σ F h H (D:Ends),Hold L σ F h→Okk F0 H0 F h H→Fin K r E LS LB O F0 H0 D→t D σ H
variable {t u:TS}{LS:S→List Sl}{LS':S'→List Sl}{LB:B→List Sl}
noncomputable def thenO (r:Mo (Out ρ B S)) (k:S→Mo (Out ρ B S')):Mo (Out ρ B S'):=r.bind fun o=>match o with | .nx s=>k s | .rt a=>.ok (.rt a) | .bk b=>.ok (.bk b) | .ct b=>.ok (.ct b)
theorem zex_ {r:Mo (Out ρ B S)}{k:S→Mo (Out ρ B S')}(h1:EvS K t E L r LS LB O) (h2:∀ s,EvS K u E (LS s) (k s) LS' LB O):EvS K (tSeq t u) E L (thenO r k) LS' LB O:=by
 intro F0 H0 σ F h H D hL ok fin
 refine h1 F0 H0 σ F h H { D with nx:=u D } hL ok ?_
 cases r with
 | no=>exact fin
 | ex c=>exact fin
 | ok o =>
  cases o with
  | nx s=>exact fun σ F h H hL ok=>h2 s F0 H0 σ F h H D hL ok fin
  | rt a=>exact fin
  | bk b=>exact fin
  | ct b=>exact fin
theorem Okk.thaw (ok:Okk F0 H0 F h H):Same (un F h) H:=fun p o e=>by
 unfold un at e
 cases z:F p with
 | some w=>rw [z] at e; cases e; exact ok.1.2.1 _ _ z
 | none=>rw [z] at e; exact ok.2.2.1 _ _ e
noncomputable def less (G h:Hp):Hp:=fun p=>match h p with | none=>G p | some _=>none
theorem zV_ {G h:Hp}{p:Addr}(e:h p=none):less G h p=G p:=by unfold less; rw [e]
theorem Okk.back (ok:Okk F0 H0 F h H) {G' H':Hp}(x:Ext (un F h) H G' H'):Okk F0 H0 (less G' h) h H'∧Same F (less G' h)∧Tups G' (less G' h):=by
 obtain ⟨o1,o2,o3,o4,o5⟩:=ok
 have hs:Same F (less G' h):=fun p o e=>by
  have hp:h p=none:=by
   rcases o2 p with z | z
   ·rw [z] at e; cases e
   ·exact z
  rw [zV_ hp]; exact x.1 _ _ (zbW_ _ _ e)
 refine ⟨⟨⟨o1.1.trans hs,fun p o e=>?_,o1.2.2.1.trans x.2.2.1,fun p a b=>?_⟩,fun p=>?_,fun p o e=>?_,o4,o5⟩,hs,fun p xs e=>?_⟩
 ·unfold less at e
  split at e
  ·exact x.2.1 _ _ e
  ·cases e
 ·unfold less at b
  split at b
  ·rename_i z
   cases y:un F h p with
   | none=>exact o1.2.2.1.free (x.2.2.2 p y b)
   | some o =>
    unfold un at y
    cases w:F p with
    | some _=>exact o1.2.2.2 p a (by rw [w]; exact Option.some_ne_none _)
    | none=>rw [w,z] at y; cases y
  ·exact absurd rfl b
 ·unfold less
  cases z:h p with
  | none=>exact .inr rfl
  | some o=>exact .inl rfl
 ·exact x.2.1 _ _ (x.1 _ _ (zhb_ o2 _ _ e))
 ·unfold less
  cases z:h p with
  | none=>exact e
  | some o =>
   have:=x.1 _ _ (zhb_ o2 _ _ z)
   rw [e] at this; cases this
   exact absurd z (o5 p xs)
theorem zcg_ {r:Mo α}{k:α→Mo (Out ρ B S)}{G:Hp}{D:Ends}{kk:α→Hp→Hp→Prop}(ok:Okk F0 H0 F h H) (G1:Hp) (hG:G1=un F h∨G1=F) (fin:Fin K (r.bind k) E LS LB O F0 H0 D)
  (hk:∀ a F' H',r=.ok a→Ext G1 H F' H'→kk a F' H'):After K r E G1 H kk:=by
 cases r with
 | ok a=>exact fun F' H' x=>hk a F' H' rfl x
 | no=>exact fin
 | ex c =>
  intro F' H' x
  rcases hG with rfl | rfl
  ·exact fin _ _ _ (ok.back x).1
  ·refine fin F' h H' ⟨ok.1.trans x,fun p=>?_,ok.2.2.1.trans x.2.2.1,ok.2.2.2.1,ok.2.2.2.2⟩
   cases z:h p with
   | none=>exact .inr rfl
   | some o =>
    left
    rcases ok.2.1 p with y | y
    ·cases w:F' p with
     | none=>rfl
     | some o'=>have:=x.2.2.2 p y (by rw [w]; exact Option.some_ne_none _); rw [ok.2.2.1 _ _ z] at this; cases this
    ·rw [y] at z; cases z
theorem Okk.cold (ok:Okk F0 H0 F h H) {F' H':Hp}(x:Ext F H F' H'):Okk F0 H0 F' h H':=by
 refine ⟨ok.1.trans x,fun p=>?_,ok.2.2.1.trans x.2.2.1,ok.2.2.2.1,ok.2.2.2.2⟩
 cases z:h p with
 | none=>exact .inr rfl
 | some o =>
  left
  rcases ok.2.1 p with y | y
  ·cases w:F' p with
   | none=>rfl
   | some o'=>have:=x.2.2.2 p y (by rw [w]; exact Option.some_ne_none _); rw [ok.2.2.1 _ _ z] at this; cases this
  ·rw [y] at z; cases z
theorem zei_ {i:Nat}{s:Sl}{σ:St}{a:α}{v:V}(hi:L[i]?=some s) (hL:Hold L σ F h) (hv:T.R a v F):Hold (L.set i (.fz T a)) (σ.set i (some v)) F h:=by
 obtain ⟨o,h1,h2,_,j,_,f⟩:=hL.at i hi
 exact f (.fz T a) (some v) h1 h j ⟨v,rfl,hv⟩
theorem zlB_ {i:Nat}{s:Sl}{σ:St}{a:α}{v:V}{O1:Own α}{hn:Hp}(ok:Okk F0 H0 F h H) (hi:L[i]?=some s) (hL:Hold L σ F h) (fresh:∀ p,hn p≠none→H0 p=none) (dj:Dj F hn) (dh:Dj hn h) (hs:Same hn H) (hv:O1.O a v F hn) :
  ∃ h',Hold (L.set i (.ow O1 a)) (σ.set i (some v)) F h'∧Okk F0 H0 F h' H:=by
 obtain ⟨o,h1,h2,_,j,_,f⟩:=hL.at i hi
 have d2:Dj hn h2:=fun p=>by
  rcases dh p with z | z
  ·exact .inl z
  ·exact .inr (j.r.free z)
 refine ⟨un hn h2,f (.ow O1 a) (some v) hn _ (zep_ d2) ⟨v,rfl,hv⟩,ok.1,fun p=>?_,fun p o e=>?_,fun p e=>?_,fun p xs e=>?_⟩
 ·unfold un
  cases z:hn p with
  | some w =>
   rcases dj p with y | y
   ·exact .inl y
   ·rw [y] at z; cases z
  | none =>
   rcases ok.2.1 p with y | y
   ·exact .inl y
   ·exact .inr (j.r.free y)
 ·unfold un at e
  cases z:hn p with
  | some w=>rw [z] at e; cases e; exact hs _ _ z
  | none=>rw [z] at e; exact ok.2.2.1 _ _ (j.r _ _ e)
 ·unfold un at e
  cases z:hn p with
  | some w=>exact fresh p (by rw [z]; exact Option.some_ne_none _)
  | none =>
   rw [z] at e
   cases y:h2 p with
   | none=>exact absurd y e
   | some w=>exact ok.2.2.2.1 p (by rw [j.r _ _ y]; exact Option.some_ne_none _)
 ·unfold un at e
  cases z:hn p with
  | some w=>rw [z] at e; cases e; exact O1.notup hv p xs z
  | none=>rw [z] at e; exact ok.2.2.2.2 p xs (j.r _ _ e)
theorem zcN_ {i:Nat}{s:Sl}{k:α→Mo (Out ρ B S)}(hi:L[i]?=some s) (hT:Imm T) (he:EvF K e E L r T) (hk:∀ a,EvS K u E (L.set i (.fz T a)) (k a) LS LB O):EvS K (tSeq (tAsg e (gName i)) u) E L (r.bind k) LS LB O:=by
 intro F0 H0 σ F h H D hL ok fin
 refine he σ (un F h) H _ (hL.froz ok.2.1) ok.thaw (zcg_ (G:=F) ok _ (.inl rfl) fin fun a F' H' hr x v hv=>?_)
 obtain ⟨o,hs,ht⟩:=ok.back x
 rw [hr] at fin
 exact hk a F0 H0 _ _ h H' D (zei_ hi (hL.mono hs) (hT ht hv)) o fin
theorem zpM_ {hn h:Hp}(hh:Same h H) (fresh:∀ p,hn p≠none→H p=none):Dj hn h:=fun p=>by
 cases z:hn p with
 | none=>exact .inl rfl
 | some w =>
  have:=fresh p (by rw [z]; exact Option.some_ne_none _)
  exact .inr (hh.free this)
theorem zdv_ {i:Nat}{s:Sl}{O1:Own α}{k:α→Mo (Out ρ B S)}(hi:L[i]?=some s) (hO:ImmO O1) (he:EvO K e E L r O1) (hk:∀ a,EvS K u E (L.set i (.ow O1 a)) (k a) LS LB O):EvS K (tSeq (tAsg e (gName i)) u) E L (r.bind k) LS LB O:=by
 intro F0 H0 σ F h H D hL ok fin
 refine he σ (un F h) H _ (hL.froz ok.2.1) ok.thaw (zcg_ (G:=F) ok _ (.inl rfl) fin fun a F' H' hr x v hn fresh dj hsn hv=>?_)
 obtain ⟨o,hs,ht⟩:=ok.back x
 rw [hr] at fin
 have dj':Dj (less F' h) hn:=fun p=>by
  unfold less
  cases z:h p with
  | none=>exact dj p
  | some w=>exact .inl rfl
 obtain ⟨h',a1,a2⟩:=zlB_ o hi (hL.mono hs) (fun p z=>ok.1.2.2.1.free (fresh p z)) dj' (zpM_ ok.2.2.1 fresh) hsn (hO ht hv)
 exact hk a F0 H0 _ _ h' H' D a1 a2 fin
theorem zbT_ {α:Type}{l:List α}{i:Nat}{o:α}(h:l[i]?=some o):l.set i o=l:=by
 obtain ⟨hi,e⟩:=List.getElem?_eq_some_iff.mp h
 rw [← e]; exact List.set_getElem_self hi
theorem zlc_ {i:Nat}{O1:Own α}{a:α}{r:Mo (Out ρ B S)}(hi:L[i]?=some (.ow O1 a)) (hk:EvS K u E (L.set i (.fz O1.fr a)) r LS LB O):EvS K u E L r LS LB O:=by
 intro F0 H0 σ F h H D hL ok fin
 obtain ⟨o,h1,h2,e1,j,⟨v,e2,hv⟩,f⟩:=hL.at i hi
 obtain ⟨o1,o2,o3,o4,o5⟩:=ok
 have dj1:Dj F h1:=fun p=>by
  rcases o2 p with z | z
  ·exact .inl z
  ·exact .inr (j.l.free z)
 have dj2:Dj F h2:=fun p=>by
  rcases o2 p with z | z
  ·exact .inl z
  ·exact .inr (j.r.free z)
 have g1:Hold (L.set i (.dead)) σ F h2:=by
  have:=f .dead o (fun _=>none) h2 (fun p=>.inl ⟨rfl,rfl⟩) trivial
  rwa [zbT_ e1] at this
 have g2:Hold (L.set i (.fz O1.fr a)) σ (un F h1) h2:=by
  have g3:=g1.mono (zbW_ (h:=h1))
  have hi':(L.set i Sl.dead)[i]?=some .dead:=by
   rw [List.getElem?_set_self]
   exact (List.getElem?_eq_some_iff.mp hi).1
  have:=zei_ (T:=O1.fr) hi' g3 (O1.frz dj1 hv)
  rw [List.set_set] at this
  subst e2
  rwa [zbT_ e1] at this
 refine hk F0 H0 σ _ h2 H D g2 ⟨⟨o1.1.trans zbW_,fun p o e=>?_,o1.2.2.1,fun p a b=>?_⟩,fun p=>?_,j.r.trans o3,fun p z=>?_,fun p xs e=>o5 p xs (j.r _ _ e)⟩ fin
 ·unfold un at e
  cases z:F p with
  | some w=>rw [z] at e; cases e; exact o1.2.1 _ _ z
  | none=>rw [z] at e; exact o3 _ _ (j.l _ _ e)
 ·unfold un at b
  cases z:F p with
  | some w=>exact o1.2.2.2 p a (by rw [z]; exact Option.some_ne_none _)
  | none =>
   rw [z] at b
   cases y:h1 p with
   | none=>exact absurd y b
   | some w=>exact o4 p (by rw [j.l _ _ y]; exact Option.some_ne_none _)
 ·unfold un
  cases z:F p with
  | some w =>
   rcases dj2 p with y | y
   ·rw [y] at z; cases z
   ·exact .inr y
  | none=>exact j.dj p
 ·cases y:h2 p with
  | none=>exact absurd y z
  | some w=>exact o4 p (by rw [j.r _ _ y]; exact Option.some_ne_none _)
theorem zdV_ {r:Mo ρ}(hO:ImmO O) (he:EvO K e E L r O):EvS K (tRet e) E L (r.bind fun a=>.ok (.rt a)) LS LB O:=by
 intro F0 H0 σ F h H D hL ok fin
 refine he σ (un F h) H _ (hL.froz ok.2.1) ok.thaw (zcg_ (G:=F) ok _ (.inl rfl) fin fun a F' H' hr x v hn fresh dj hsn hv=>?_)
 obtain ⟨o,hs,ht⟩:=ok.back x
 rw [hr] at fin
 refine fin v _ hn H' ⟨o.1,fun p=>?_,hsn,fun p z=>ok.1.2.2.1.free (fresh p z),O.notup hv⟩ (hO ht hv)
 unfold less
 cases z:h p with
 | none=>exact dj p
 | some w=>exact .inl rfl
theorem zqA_ {i:Nat}{a:ρ}(hi:L[i]?=some (.ow O a)):EvS K (tRet (mVar i)) E L (.ok (.rt a)) LS LB O:=by
 intro F0 H0 σ F h H D hL ok fin
 obtain ⟨o,h1,h2,e1,j,⟨v,e2,hv⟩,f⟩:=hL.at i hi
 subst e2
 show mVar i σ H D.rt
 unfold mVar
 rw [e1]
 obtain ⟨o1,o2,o3,o4,o5⟩:=ok
 refine fin v F h1 H ⟨o1,fun p=>?_,j.l.trans o3,fun p z=>?_,O.notup hv⟩ hv
 ·rcases o2 p with z | z
  ·exact .inl z
  ·exact .inr (j.l.free z)
 ·cases y:h1 p with
  | none=>exact absurd y z
  | some w=>exact o4 p (by rw [j.l _ _ y]; exact Option.some_ne_none _)
theorem s_if {c:TT}{b:Mo Bool}{r1 r2:Mo (Out ρ B S)}(hc:EvT K c E L b) (h1:EvS K t E L r1 LS LB O) (h2:EvS K u E L r2 LS LB O):EvS K (mIfS c t u) E L (b.bind fun c=>if c then r1 else r2) LS LB O:=by
 intro F0 H0 σ F h H D hL ok fin
 refine hc σ (un F h) H _ (hL.froz ok.2.1) ok.thaw (zcg_ (G:=F) ok _ (.inl rfl) fin fun a F' H' hr x=>?_)
 obtain ⟨o,hs,ht⟩:=ok.back x
 rw [hr] at fin
 have fin':Fin K (if a then r1 else r2) E LS LB O F0 H0 D:=fin
 refine ⟨fun z=>?_,fun z=>?_⟩
 ·rw [if_pos z] at fin'; exact h1 F0 H0 σ _ h H' D (hL.mono hs) o fin'
 ·rw [if_neg (by rw [z]; decide)] at fin'; exact h2 F0 H0 σ _ h H' D (hL.mono hs) o fin'
inductive Sub:List Sl→List Sl→Prop
 | nil:Sub [] []
 | same {s:Sl}{L L':List Sl}(h:Sub L L'):Sub (s::L) (s::L')
 | dead {s:Sl}{L L':List Sl}(h:Sub L L'):Sub (s::L) (.dead::L')
theorem Sub.hold {L L':List Sl}(w:Sub L L'):∀ {σ:St}{F h:Hp},Hold L σ F h→Hold L' σ F h:=by
 induction w with
 | nil=>exact fun h=>h
 | same _ ih =>
  intro σ F h q
  cases σ with
  | nil=>exact q.elim
  | cons o σ=>obtain ⟨h1,h2,j,p,r⟩:=q; exact ⟨h1,h2,j,p,ih r⟩
 | dead _ ih =>
  intro σ F h q
  cases σ with
  | nil=>exact q.elim
  | cons o σ=>obtain ⟨h1,h2,j,p,r⟩:=q; exact ⟨h1,h2,j,trivial,ih r⟩
theorem zZ_ {s:S}(w:Sub L (LS s)):EvS K tNext E L (.ok (.nx s)) LS LB O:=fun F0 H0 σ F h H D hL ok fin=>fin σ F h H (w.hold hL) ok
theorem ze4_ {r:Mo (Out ρ B S)}(h:EvS K (tSeq t tNext) E L r LS LB O):EvS K t E L r LS LB O:=h
noncomputable def forO (step:S→α→Mo (Out ρ S S)):List α→S→Mo (Out ρ B S)
 | [],s=>.ok (.nx s)
 | x::xs,s=>(step s x).bind fun o=>match o with | .nx s'=>forO step xs s' | .ct s'=>forO step xs s' | .bk s'=>.ok (.nx s') | .rt a=>.ok (.rt a)
theorem zfH_ {ss:List (Nat×Sl)}{vs:List (Nat×Option V)}(p:Plain F ss vs):∀ {L:List Sl}{σ:St},Hold L σ F h→Hold (setL L ss) (setS σ vs) F h:=by
 induction p with
 | nil=>exact fun h=>h
 | cons hv t ih =>
  rename_i T a i v ss vs
  intro L σ q
  refine ih (L:=L.set i (.fz T a)) (σ:=σ.set i (some v)) ?_
  by_cases hi:i<L.length
  ·exact zei_ (List.getElem?_eq_getElem hi) q hv
  ·rw [List.set_eq_of_length_le (by lia),List.set_eq_of_length_le (by have:=q.len; lia)]; exact q
theorem Okk.rebase {F1 H1:Hp}(x:Ext F0 H0 F1 H1) (ok:Okk F0 H0 F h H) (s:Same F1 F):Okk F1 H0 F h H:=by
 obtain ⟨o1,o2,o3,o4,o5⟩:=ok
 refine ⟨⟨s,o1.2.1,o1.2.2.1,fun p a b=>o1.2.2.2 p (x.1.free a) b⟩,o2,o3,o4,o5⟩
theorem Okk.unbase {F1 H1:Hp}(x:Ext F0 H0 F1 H1) (ok:Okk F1 H0 F h H):Okk F0 H0 F h H:=by
 obtain ⟨o1,o2,o3,o4,o5⟩:=ok
 refine ⟨⟨x.1.trans o1.1,o1.2.1,o1.2.2.1,fun p a b=>?_⟩,o2,o3,o4,o5⟩
 cases z:F1 p with
 | none=>exact o1.2.2.2 p z b
 | some w=>exact x.2.2.2 p a (by rw [z]; exact Option.some_ne_none _)
theorem zjg_ {wi:TI}{g:TG}{tb:TS}{s0:S}{r:Mo (List α)}{ss:α→List (Nat×Sl)}{step:S→α→Mo (Out ρ S S)}(hi:EvI K wi E ((LS s0).map Sl.cold) r T) (hg:TgR K g T ss)
  (hb:∀ s a,EvS K tb E (setL (LS s) (ss a)) (step s a) LS LS O):EvS K (tFor wi g tb) E (LS s0) (r.bind fun xs=>forO step xs s0) LS LB O:=by
 intro F0 H0 σ F h H D hL ok fin
 refine hi σ F H _ hL.coldF ok.1.2.1 (zcg_ (G:=F) ok _ (.inr rfl) fin fun xs F1 H1 hr x1 J Y=>?_)
 rw [hr] at fin
 have xx:=ok.1.trans x1
 refine ⟨fun i m σ H=>m=xs.length-i∧i≤xs.length∧∃ s F h,Hold (LS s) σ F h∧Okk F1 H0 F h H∧Fin K (forO (B:=B) step (xs.drop i) s) E LS LB O F0 H0 D,
  ⟨_,rfl,Nat.zero_le _,s0,F1,h,hL.mono x1.1,(ok.cold x1).rebase xx (Same.refl _),fin⟩,?_⟩
 rintro i m σ H ⟨rfl,hi,s,F,h,hL,ok,fin⟩
 have s1:Same F1 H:=ok.1.1.trans ok.1.2.1
 by_cases hlt:i<xs.length
 ·right
  obtain ⟨g1,g2⟩:=Y.go i H xs[i] s1 (List.getElem?_eq_getElem hlt)
  refine ⟨g1,fun σ' H'=>i+1≤xs.length∧∃ s F h,Hold (LS s) σ' F h∧Okk F1 H0 F h H'∧Fin K (forO (B:=B) step (xs.drop (i+1)) s) E LS LB O F0 H0 D,fun σ' H' z=>⟨xs.length-(i+1),by omega,rfl,z⟩,fun v H2 hy=>?_⟩
  obtain ⟨F2,x2,hv⟩:=g2 v H2 hy F ok.1.1 ok.1.2.1
  refine hg xs[i] v σ F2 H2 _ x2.2.1 hv fun vs hp=>?_
  refine hb s xs[i] F1 H0 _ F2 h H2 _ (zfH_ hp (hL.mono x2.1)) (ok.cold x2) ?_
  rw [List.drop_eq_getElem_cons hlt] at fin
  unfold forO at fin
  cases e:step s xs[i] with
  | no=>rw [e] at fin; exact fin
  | ex c=>rw [e] at fin; exact fun F h H ok=>fin F h H (ok.unbase xx)
  | ok o =>
   rw [e] at fin
   cases o with
   | nx s'=>exact fun σ' F' h' H' hL' ok'=>⟨hlt,s',F',h',hL',ok',fin⟩
   | ct s'=>exact fun σ' F' h' H' hL' ok'=>⟨hlt,s',F',h',hL',ok',fin⟩
   | bk s'=>exact fun σ' F' h' H' hL' ok'=>fin σ' F' h' H' hL' (ok'.unbase xx)
   | rt a=>exact fun v F h H ok=>fin v F h H (ok.unbase xx)
 ·left
  have e:i=xs.length:=by omega
  subst e
  rw [List.drop_length] at fin
  exact ⟨Y.stop H s1,fin σ F h H hL (ok.unbase xx)⟩
noncomputable def whileO (c:S→Mo Bool) (step:S→Mo (Out ρ S S)):Nat→S→Mo (Out ρ B S)
 | 0,_=>.no
 | n+1,s=>(c s).bind fun b=>if b then (step s).bind fun o=>match o with | .nx s'=>whileO c step n s' | .ct s'=>whileO c step n s' | .bk s'=>.ok (.nx s') | .rt a=>.ok (.rt a) else .ok (.nx s)
theorem zpl_ {tc:TT}{tb:TS}{s0:S}(n:Nat) {c:S→Mo Bool}{step:S→Mo (Out ρ S S)}(hc:∀ s,EvT K tc E (LS s) (c s)) (hb:∀ s,EvS K tb E (LS s) (step s) LS LS O) :
  EvS K (tWhile tc tb) E (LS s0) (whileO c step n s0) LS LB O:=by
 intro F0 H0 σ F h H D hL ok fin
 refine ⟨fun m σ H=>∃ s F h,Hold (LS s) σ F h∧Okk F0 H0 F h H∧Fin K (whileO (B:=B) c step m s) E LS LB O F0 H0 D,⟨n,s0,F,h,hL,ok,fin⟩,?_⟩
 rintro m σ H ⟨s,F,h,hL,ok,fin⟩
 cases m with
 | zero=>exact fin.elim
 | succ m =>
  unfold whileO at fin
  refine hc s σ (un F h) H _ (hL.froz ok.2.1) ok.thaw (zcg_ (G:=F) ok _ (.inl rfl) fin fun a F' H' hr x=>?_)
  obtain ⟨o,hs,ht⟩:=ok.back x
  rw [hr] at fin
  cases a with
  | false=>rw [if_neg (by decide)]; exact fin σ _ h H' (hL.mono hs) o
  | true =>
   rw [if_pos rfl]
   refine ⟨fun σ' H''=>∃ s F h,Hold (LS s) σ' F h∧Okk F0 H0 F h H''∧Fin K (whileO (B:=B) c step m s) E LS LB O F0 H0 D,fun σ' H'' z=>⟨m,Nat.lt_succ_self _,z⟩,?_⟩
   refine hb s F0 H0 σ _ h H' _ (hL.mono hs) o ?_
   have fin':Fin K ((step s).bind fun o=>match o with | .nx s'=>whileO (B:=B) c step m s' | .ct s'=>whileO c step m s' | .bk s'=>.ok (.nx s') | .rt a=>.ok (.rt a)) E LS LB O F0 H0 D:=fin
   cases e:step s with
   | no=>rw [e] at fin'; exact fin'
   | ex c=>rw [e] at fin'; exact fin'
   | ok o =>
    rw [e] at fin'
    cases o with
    | nx s'=>exact fun σ' F' h' H' hL' ok'=>⟨s',F',h',hL',ok',fin'⟩
    | ct s'=>exact fun σ' F' h' H' hL' ok'=>⟨s',F',h',hL',ok',fin'⟩
    | bk s'=>exact fin'
    | rt a=>exact fin'
theorem zdB_ {i:Nat}{σ:St}{xs:List α}(hL:Hold L σ F h) (hi:L[i]?=some (.ow (owL T) xs)) (ok:Okk F0 H0 F h H) :
  ∃ p vs,σ[i]?=some (some (.ref p))∧H p=some (.lst vs)∧Prs T F xs vs∧∀ xs' vs',Prs T F xs' vs'→∃ h',Hold (L.set i (.ow (owL T) xs')) σ F h'∧Okk F0 H0 F h' (upd H p (.lst vs')):=by
 obtain ⟨o,h1,h2,e1,j,⟨v,e2,p,vs,rfl,rfl,hr⟩,f⟩:=hL.at i hi
 subst e2
 obtain ⟨o1,o2,o3,o4,o5⟩:=ok
 have hp:h p=some (.lst vs):=j.l _ _ zbU_
 have h2p:h2 p=none:=by
  rcases j.dj p with z | z
  ·rw [zbU_] at z; cases z
  ·exact z
 have Fp:F p=none:=by
  rcases o2 p with z | z
  ·exact z
  ·rw [hp] at z; cases z
 have H0p:H0 p=none:=o4 p (by rw [hp]; exact Option.some_ne_none _)
 refine ⟨p,vs,e1,o3 _ _ hp,hr,fun xs' vs' hr'=>?_⟩
 have d2:Dj (one p (.lst vs')) h2:=fun q=>by
  unfold one; split
  ·rename_i z; rw [z]; exact .inr h2p
  ·exact .inl rfl
 have g:=f (.ow (owL T) xs') (some (.ref p)) (one p (.lst vs')) _ (zep_ d2) ⟨_,rfl,p,vs',rfl,rfl,hr'⟩
 rw [zbT_ e1] at g
 refine ⟨_,g,⟨o1.1,fun q o z=>?_,fun q o z=>?_,o1.2.2.2⟩,fun q=>?_,fun q o z=>?_,fun q z=>?_,fun q ys z=>?_⟩
 ·unfold upd; split
  ·rename_i w; rw [w,Fp] at z; cases z
  ·exact o1.2.1 _ _ z
 ·unfold upd; split
  ·rename_i w; rw [w,H0p] at z; cases z
  ·exact o1.2.2.1 _ _ z
 ·by_cases w:q=p
  ·rw [w]; exact .inl Fp
  ·unfold un one; simp only [if_neg w]
   rcases o2 q with z | z
   ·exact .inl z
   ·exact .inr (j.r.free z)
 ·unfold un one at z
  unfold upd
  by_cases w:q=p
  ·rw [if_pos w]; simp only [if_pos w] at z; exact z
  ·rw [if_neg w]; simp only [if_neg w] at z; exact o3 _ _ (j.r _ _ z)
 ·unfold un one at z
  by_cases w:q=p
  ·rw [w]; exact H0p
  ·simp only [if_neg w] at z
   cases y:h2 q with
   | none=>exact absurd y z
   | some u=>exact o4 q (by rw [j.r _ _ y]; exact Option.some_ne_none _)
 ·unfold un one at z
  by_cases w:q=p
  ·simp only [if_pos w] at z; cases z
  ·simp only [if_neg w] at z; exact o5 q ys (j.r _ _ z)
theorem zdr_ {i:Nat}{σ:St}{v:V}{Q:VK}(e:σ[i]?=some (some v)) (q:Q v H):mVar i σ H Q:=by unfold mVar; rw [e]; exact q
theorem zix_ {n:Nat}{r:Mo (Out ρ B S)}{D:Ends}(h:Fin K (Mo.lim n r) E LS LB O F0 H0 D):n≤sizeLine∧Fin K r E LS LB O F0 H0 D:=by
 unfold Mo.lim at h
 split at h
 ·exact ⟨by assumption,h⟩
 ·exact h.elim
theorem zow_ {x:Option α}{k:α→Mo (Out ρ B S)}{D:Ends}(h:Fin K ((Mo.opt x).bind k) E LS LB O F0 H0 D):∃ a,x=some a∧Fin K (k a) E LS LB O F0 H0 D:=by
 cases x with
 | none=>exact h.elim
 | some a=>exact ⟨a,rfl,h⟩
theorem zhT_ {i:Nat}{xs:List α}{k:α→Mo (Out ρ B S)}(hi:L[i]?=some (.ow (owL T) xs)) (hT:Imm T) (he:EvF K e E L r T) (hk:∀ a,EvS K u E (L.set i (.ow (owL T) (xs++[a]))) (k a) LS LB O) :
  EvS K (tSeq (tDrop (tBM K "list" rAppend (mVar i) (tCons e tNil))) u) E L (r.bind fun a=>.lim (xs.length+1) (k a)) LS LB O:=by
 intro F0 H0 σ F h H D hL ok fin
 obtain ⟨p,vs,e1,hp,hr,_⟩:=zdB_ hL hi ok
 show mVar i σ H fun x H1=>tyV K "list" x H1∧tCons e tNil σ H1 fun xs H2=>rAppend x xs H2 (fun _ H3=>u D σ H3)
 refine zdr_ e1 ⟨.inl ⟨rfl,vs,.of hp⟩,?_⟩
 refine he σ (un F h) H _ (hL.froz ok.2.1) ok.thaw (zcg_ (G:=F) ok _ (.inl rfl) fin fun a F' H' hra x v hv=>?_)
 obtain ⟨o,hs,ht⟩:=ok.back x
 rw [hra] at fin
 obtain ⟨hz,fin⟩:=zix_ (show Fin K (Mo.lim (xs.length+1) (k a)) E LS LB O F0 H0 D from fin)
 obtain ⟨p',vs',e1',hp',hr',mm⟩:=zdB_ (hL.mono hs) hi o
 rw [e1] at e1'; cases e1'
 obtain ⟨h',a1,a2⟩:=mm (xs++[a]) (vs'++[v]) (hr'.append (.cons (hT ht hv) .nil))
 exact ⟨p,vs',v,rfl,rfl,hp',by rw [← hr'.len]; lia,hk a F0 H0 σ _ h' _ D a1 a2 fin⟩
theorem zk1_ {i:Nat}{xs:List α}{r:Mo (List α)}{k:List α→Mo (Out ρ B S)}(hi:L[i]?=some (.ow (owL T) xs)) (hT:Imm T) (he:EvF K e E L r (tyL T)) (hk:∀ a,EvS K u E (L.set i (.ow (owL T) (xs++a))) (k a) LS LB O) :
  EvS K (tSeq (tDrop (tBM K "list" rExtend (mVar i) (tCons e tNil))) u) E L (r.bind fun a=>.lim (xs.length+a.length) (k a)) LS LB O:=by
 intro F0 H0 σ F h H D hL ok fin
 obtain ⟨p,vs,e1,hp,hr,_⟩:=zdB_ hL hi ok
 show mVar i σ H fun x H1=>tyV K "list" x H1∧tCons e tNil σ H1 fun xs H2=>rExtend x xs H2 (fun _ H3=>u D σ H3)
 refine zdr_ e1 ⟨.inl ⟨rfl,vs,.of hp⟩,?_⟩
 refine he σ (un F h) H _ (hL.froz ok.2.1) ok.thaw (zcg_ (G:=F) ok _ (.inl rfl) fin fun a F' H' hra x v hq_=>?_)
 obtain ⟨p2,us,ev,hp2,hr2⟩:=hq_
 obtain ⟨o,hs,ht⟩:=ok.back x
 rw [hra] at fin
 subst ev
 obtain ⟨hz,fin⟩:=zix_ (show Fin K (Mo.lim (xs.length+a.length) (k a)) E LS LB O F0 H0 D from fin)
 obtain ⟨p',vs',e1',hp',hr',mm⟩:=zdB_ (hL.mono hs) hi o
 rw [e1] at e1'; cases e1'
 obtain ⟨h',a1,a2⟩:=mm (xs++a) (vs'++us) (hr'.append (hr2.imm hT ht))
 exact ⟨p,p2,vs',us,rfl,rfl,hp',x.2.1 _ _ hp2,by rw [← hr'.len,← hr2.len]; exact hz,hk a F0 H0 σ _ h' _ D a1 a2 fin⟩
theorem zp8_ {i:Nat}{xs:List α}{ei:TE}{ri:Mo Int}{k:List α→Mo (Out ρ B S)}(hi:L[i]?=some (.ow (owL T) xs)) (hT:Imm T) (he:EvF K e E L r T) (hei:EvF K ei E L ri tyInt) (hk:∀ a,EvS K u E (L.set i (.ow (owL T) a)) (k a) LS LB O) :
  EvS K (tSeq (tAsg e (gSub (mVar i) ei mSet)) u) E L (r.bind fun a=>ri.bind fun j=>(Mo.opt ((ixN xs.length j).map fun n=>xs.set n a)).bind k) LS LB O:=by
 intro F0 H0 σ F h H D hL ok fin
 refine he σ (un F h) H _ (hL.froz ok.2.1) ok.thaw (zcg_ (G:=F) ok _ (.inl rfl) fin fun a F' H' hra x v hv=>?_)
 obtain ⟨o,hs,ht⟩:=ok.back x
 rw [hra] at fin
 have hL':=hL.mono hs
 obtain ⟨p,vs,e1,hp,hr,_⟩:=zdB_ hL' hi o
 refine zdr_ e1 ?_
 have hv':=hT ht hv
 refine hei σ (un _ h) H' _ (hL'.froz o.2.1) o.thaw (zcg_ (G:=F) o _ (.inl rfl) fin fun j F2 H2 hrj x2 v2 hv2=>?_)
 cases hv2
 obtain ⟨o',hs',ht'⟩:=o.back x2
 rw [hrj] at fin
 obtain ⟨ys,ey,fin⟩:=zow_ fin
 obtain ⟨p',vs',e1',hp',hr',mm⟩:=zdB_ (hL'.mono hs') hi o'
 rw [e1] at e1'; cases e1'
 cases ej:ixN xs.length j with
 | none=>rw [ej] at ey; cases ey
 | some n =>
  rw [ej] at ey; cases ey
  obtain ⟨h',a1,a2⟩:=mm (xs.set n a) (vs'.set n v) (hr'.set n (T.mono hs' hv'))
  refine ⟨vs',hp',?_⟩
  rw [← hr'.len,ej]
  exact hk _ F0 H0 σ _ h' _ D a1 a2 fin
noncomputable def fnO (r:Mo (Out ρ Unit Unit)):Mo ρ:=r.bind fun o=>match o with | .rt a=>.ok a | _=>.no
inductive Args (F:Hp):List V→List Sl→Prop
 | nil:Args F [] []
 | cons {α:Type}{T:Ty α}{a:α}{v:V}{vs ss} (h:T.R a v F) (t:Args F vs ss):Args F (v::vs) (.fz T a::ss)
theorem Args.hold {vs:List V}{ss:List Sl}(a:Args F vs ss) (n:Nat):Hold (ss++List.replicate n .dead) (vs.map some++List.replicate n none) F (fun _=>none):=by
 induction a with
 | nil =>
  induction n with
  | zero=>trivial
  | succ n ih=>exact ⟨fun _=>none,fun _=>none,fun p=>.inl ⟨rfl,rfl⟩,trivial,ih⟩
 | cons hv t ih=>exact ⟨fun _=>none,fun _=>none,fun p=>.inl ⟨rfl,rfl⟩,⟨_,rfl,hv⟩,ih⟩
noncomputable def CsS (C:Cs γ) (ss:γ→List Sl):Prop:=∀ {c vs F},C.R c vs F→Args F vs (ss c)
theorem zmg_:CsS csNil fun _=>[]:=fun e=>by rw [e]; exact .nil
theorem zJ_:CsS (csLast T) fun a=>[.fz T a]:=fun ⟨v,e,h⟩=>by rw [e]; exact .cons h .nil
theorem z9_ {C:Cs γ}{ss:γ→List Sl}(h:CsS C ss):CsS (csCons T C) fun c=>.fz T c.1::ss c.2:=fun ⟨v,us,e,q,z⟩=>by rw [e]; exact .cons q (h z)
theorem zlK_ (hs:Same F H):Okk F H F (fun _=>none) H:=by
 refine ⟨.refl hs,fun p=>.inr rfl,fun p o e=>?_,fun p e=>absurd rfl e,fun p xs e=>?_⟩
 ·cases e
 ·cases e
theorem zez_ {t:XK→TS}{C:Cs γ}{ss:γ→List Sl}{f:γ→Mo (Out ρ Unit Unit)}{N:List Str}(n m:Nat) (hn:CsN C n) (hm:N.length-n=m) (hC:CsS C ss) (h:∀ c E,EvS K (t E) E (ss c++List.replicate m .dead) (f c) (fun _:Unit=>[]) (fun _:Unit=>[]) O) :
  ∀ vs H Q E,Ct K C (fun c=>fnO (f c)) O vs H Q E→t E { nx:=fun _ H'=>Q .non H',rt:=Q } (start N vs) H:=by
 rintro vs H Q E ⟨F,c,hs,hc,q⟩
 have hstart:start N vs=vs.map some++List.replicate m none:=by unfold start; rw [hn hc,hm]
 rw [hstart]
 refine h c E F H _ F (fun _=>none) H _ ((hC hc).hold m) (zlK_ hs) ?_
 have q:After K (fnO (f c)) E F H (OwnK O H Q):=q
 cases e:f c with
 | no=>rw [e] at q; exact q
 | ex cc=>rw [e] at q; exact fun F h H ok=>q F H ok.1
 | ok o =>
  rw [e] at q
  cases o with
  | nx s=>exact q.elim
  | bk s=>exact q.elim
  | ct s=>exact q.elim
  | rt a=>exact fun v F' h' H' ok hv=>q F' H' ok.1 v h' (fun p z=>ok.2.2.2.1 p z) ok.2.1 ok.2.2.1 hv
end
end L2
namespace L2
open PySem PySem.Spec PyProof.Rows
section
variable {K:Fgg}{E:XK}{α β γ ρ S S' B B':Type}{F0 H0 F h H:Hp}{L L':List Sl}{e e1 e2:TE}{T:Ty α}{r:Mo α}{O:Own ρ}{t u:TS}{LS:S→List Sl}{LS':S'→List Sl}{LB:B→List Sl}
noncomputable def CDivG (i j:Int):Prop:=0<j∧Builtin.divisionGoesByPylong i j=false
instance (i j:Int):Decidable (CDivG i j):=inferInstanceAs (Decidable (_∧_))
instance (i j:Int):Decidable (IntMulOk i j):=inferInstanceAs (Decidable (¬ _))
noncomputable abbrev mMulG:R2:=mI IntMulOk fun i j=>.int (i*j)
noncomputable abbrev mDivG:R2:=mI CDivG fun i j=>.int (i / j)
theorem zoW_ {X:Cx}:OpR X (binaryOp .Mult) mMulG:=opM (opI fun _ _ _ _ _ _ _ hc q=>mul_int q hc)
theorem zdj_ {X:Cx}:OpR X (binaryOp .FloorDiv) mDivG:=opM (opI fun i j _ _ _ _ _ hc q=>by
 have h1:(0:Int)<j:=hc.1
 exact floordiv_int (by lia) (by rw [Int.fdiv_eq_ediv_of_nonneg i (by lia)]; exact q) (.inl hc.2))
theorem zce_:Op2 K mDivG E tyInt tyInt (fun i j=>.grd (CDivG i j) (.ok (i / j))) tyInt:=op_i fun _ _ _=>rfl
theorem zht_ {Pq:α→Prop}:∀ q∈([]:List α),Pq q:=fun q h=>by cases h
theorem zed_ {Pq:α→Prop}{a:α}{l:List α}(h:Pq a) (t:∀ q∈l,Pq q):∀ q∈a::l,Pq q:=List.forall_mem_cons.mpr ⟨h,t⟩
theorem zdb_ {r:Mo (Out ρ B S)}(w:Sub L L') (hk:EvS K t E L' r LS LB O):EvS K t E L r LS LB O:=fun F0 H0 σ F h H D hL ok fin=>hk F0 H0 σ F h H D (w.hold hL) ok fin
theorem at_ {r:Mo (Out ρ B S)}(L:List Sl) (hk:EvS K t E L r LS LB O):EvS K t E L r LS LB O:=hk
theorem zgW_ (i:Nat) {xs:List α}(h:L[i]?=some (.ow (owL T) xs)):EvF K (mVar i) E L (.ok xs) (tyL T):=zka_ i h
theorem zcC_:EvT K tTrue E L (.ok true):=fun σ F H Q hL hs q=>q.ok hs
theorem dead1 {L:List Sl}:DeadAt (.dead::L) [0]:=fun i hi s e=>by
 cases (List.mem_singleton.mp hi); cases e; rfl
theorem dead2 {L:List Sl}:DeadAt (.dead::.dead::L) [0,1]:=fun i hi s e=>by
 rcases List.mem_cons.mp hi with rfl | hi
 ·cases e; rfl
 ·cases (List.mem_singleton.mp hi); cases e; rfl
theorem zqS_ {a:List Nat}{v:V}{F:Hp}(h:tyStr.R a v F):v≠.non:=by cases h; exact fun z=>V.noConfusion z
end
end L2
namespace L2
open PySem PySem.Spec PyProof.Rows
section
variable {α β γ ρ S S' B:Type}
@[simp] theorem Mo.okB (a:α) (f:α→Mo β):(Mo.ok a).bind f=f a:=of_eq_true (eq_self _)
@[simp] theorem Mo.exB (c:String) (f:α→Mo β):(Mo.ex c:Mo α).bind f=.ex c:=of_eq_true (eq_self _)
@[simp] theorem Mo.noB (f:α→Mo β):(Mo.no:Mo α).bind f=.no:=of_eq_true (eq_self _)
@[simp] theorem Mo.noexO (a:α):(Mo.ok a).noex=.ok a:=of_eq_true (eq_self _)
@[simp] theorem Mo.optS (a:α):Mo.opt (some a)=.ok a:=of_eq_true (eq_self _)
@[simp] theorem zju_ (s:S) (k:S→Mo (Out ρ B S')):thenO (.ok (.nx s)) k=k s:=of_eq_true (eq_self _)
@[simp] theorem znz_ (a:ρ) (k:S→Mo (Out ρ B S')):thenO (.ok (.rt a)) k=.ok (.rt a):=of_eq_true (eq_self _)
@[simp] theorem zmR_ (b:B) (k:S→Mo (Out ρ B S')):thenO (.ok (.bk b)) k=.ok (.bk b):=of_eq_true (eq_self _)
@[simp] theorem zno_ (b:B) (k:S→Mo (Out ρ B S')):thenO (.ok (.ct b)) k=.ok (.ct b):=of_eq_true (eq_self _)
@[simp] theorem zpZ_ (a:ρ):fnO (.ok (.rt a))=.ok a:=of_eq_true (eq_self _)
@[simp] theorem zmC_ (step:S→α→Mo (Out ρ S S)) (s:S):forO (B:=B) step [] s=.ok (.nx s):=of_eq_true (eq_self _)
theorem zig_ (step:S→α→Mo (Out ρ S S)) (x:α) (xs:List α) (s:S):forO (B:=B) step (x::xs) s=(step s x).bind fun o=>match o with | .nx s'=>forO step xs s' | .ct s'=>forO step xs s' | .bk s'=>.ok (.nx s') | .rt a=>.ok (.rt a):=rfl
theorem zim_ {step:S→α→Mo (Out ρ S S)}{x:α}{xs:List α}{s s':S}(h:step s x=.ok (.nx s')):forO (B:=B) step (x::xs) s=forO step xs s':=by rw [zig_,h]; rfl
theorem znI_ {step:S→α→Mo (Out ρ S S)}{x:α}{xs:List α}{s:S}{a:ρ}(h:step s x=.ok (.rt a)):forO (B:=B) step (x::xs) s=.ok (.rt a):=by rw [zig_,h]; rfl
theorem zdn_ {step:S→α→Mo (Out ρ S S)}(g:S→α→S):∀ {xs:List α}{s:S},(∀ s x,x∈xs→step s x=.ok (.nx (g s x)))→forO (B:=B) step xs s=.ok (.nx (xs.foldl g s))
 | [],s,_=>rfl
 | x::xs,s,h=>by rw [zim_ (h s x List.mem_cons_self),zdn_ g fun s y hy=>h s y (List.mem_cons_of_mem _ hy)]; rfl
theorem zk3_ {step:S→α→Mo (Out ρ S S)}(P:List α→S→Prop):∀ {xs:List α}(done:List α) {s:S},P done s→(∀ d x s,(∃ r,done++xs=d++x::r)→P d s→∃ s',step s x=.ok (.nx s')∧P (d++[x]) s')→∃ s',forO (B:=B) step xs s=.ok (.nx s')∧P (done++xs) s'
 | [],done,s,h0,_=>⟨s,rfl,by rw [List.append_nil]; exact h0⟩
 | x::xs,done,s,h0,h=>by
  obtain ⟨s1,e1,p1⟩:=h done x s ⟨xs,rfl⟩ h0
  obtain ⟨s2,e2,p2⟩:=zk3_ P (xs:=xs) (done++[x]) p1 fun d y s ⟨r,hr⟩ hp=>h d y s ⟨r,by rw [← hr]; simp⟩ hp
  exact ⟨s2,by rw [zim_ e1,e2],by simpa using p2⟩
theorem zh7_ {step:Unit→α→Mo (Out ρ Unit Unit)}:∀ {xs:List α},(∀ x∈xs,step () x=.ok (.nx ()))→forO (B:=B) step xs ()=.ok (.nx ())
 | [],_=>rfl
 | x::xs,h=>by rw [zim_ (h x List.mem_cons_self),zh7_ fun y hy=>h y (List.mem_cons_of_mem _ hy)]
theorem zir_ {step:Unit→α→Mo (Out ρ Unit Unit)}{p:α→Bool}{a:α→ρ}:∀ {xs:List α},(∀ x∈xs,step () x=if p x then .ok (.rt (a x)) else .ok (.nx ()))→forO (B:=B) step xs ()=match xs.find? p with | some x=>.ok (.rt (a x)) | none=>.ok (.nx ())
 | [],_=>rfl
 | x::xs,h=>by
  have h1:=h x List.mem_cons_self
  rw [List.find?_cons]
  cases e:p x with
  | true=>rw [e,if_pos rfl] at h1; rw [znI_ h1]
  | false=>rw [e,if_neg (by decide)] at h1; rw [zim_ h1,zir_ fun y hy=>h y (List.mem_cons_of_mem _ hy)]
open PySem PySem.Spec PyProof.Rows in
theorem znW_ {a j:Int}(h0:0<j) (h:j.natAbs.log2<9000):CDivG a j:=by
 refine ⟨h0,?_⟩
 unfold Builtin.divisionGoesByPylong
 simp only
 rw [Bool.and_eq_false_iff]
 left
 rw [decide_eq_false_iff_not]
 split<;>lia
theorem log2_lt {n k:Nat}(h:n<2 ^ k):n.log2<k∨n=0:=by
 by_cases hz:n=0
 ·exact .inr hz
 ·exact .inl ((Nat.log2_lt hz).mpr h)
theorem zpb_ {a j:Int}(h0:0<j) (h:j<2 ^ 1000):CDivG a j:=by
 refine znW_ h0 ?_
 have h1:j.natAbs<2 ^ 1000:=by
  have:((2:Int) ^ 1000)=((2 ^ 1000:Nat):Int):=by rw [Int.natCast_pow]; rfl
  rw [this] at h
  lia
 rcases log2_lt h1 with h | h
 ·lia
 ·rw [h]; decide
open PySem PySem.Spec PyProof.Rows in
theorem zdf_ {i j:Int}(h : -(2 ^ 64)<i∧i<2 ^ 64 ∨ -(2 ^ 64)<j∧j<2 ^ 64):IntMulOk i j:=CMul.ok h
@[simp] theorem zoh_ {a j:Int}{k:Mo α}(h0:0<j) (h1:j<1073741824):Mo.grd (CDivG a j) k=k:=Mo.grd_ok (zpb_ h0 (by lia))
@[simp] theorem grd_T {k:Mo α} [Decidable True]:Mo.grd True k=k:=Mo.grd_ok trivial
@[simp] theorem zor_ {j:Int}{k:Mo α}(h0:0<j):Mo.grd (0<j) k=k:=Mo.grd_ok h0
open PySem PySem.Spec PyProof.Rows in
@[simp] theorem zmO_ {i j:Int}{k:Mo α}(h0 : -18446744073709551616<i) (h1:i<18446744073709551616):Mo.grd (IntMulOk i j) k=k:=Mo.grd_ok (zdf_ (.inl ⟨by lia,by lia⟩))
open PySem PySem.Spec PyProof.Rows in
theorem zk6_ {i j:Int}{k:Mo α}(h0 : -18446744073709551616<j) (h1:j<18446744073709551616):Mo.grd (IntMulOk i j) k=k:=Mo.grd_ok (zdf_ (.inr ⟨by lia,by lia⟩))
theorem zcn_ (lo:Int) (n:Nat):(rngI lo n).length=n:=by unfold rngI; rw [List.length_map,List.length_range]
theorem zm7_ {lo x:Int}{n:Nat}:x∈rngI lo n↔lo≤x∧x<lo+n:=by
 unfold rngI
 simp only [List.mem_map,List.mem_range]
 constructor
 ·rintro ⟨a,h,rfl⟩; lia
 ·rintro ⟨h1,h2⟩; exact ⟨(x-lo).toNat,by lia,by lia⟩
theorem zhx_ {xs:List α}{k:Int}(h0:0≤k):atI xs k=xs[k.toNat]?:=by
 unfold atI ixN
 rw [if_pos h0]
 split
 ·rfl
 ·rename_i h
  rw [List.getElem?_eq_none (by omega)]; rfl
theorem zdk_ {xs:List α}{k:Int}(h0:0≤k) (h1:k<xs.length):∃ x,atI xs k=some x∧x∈xs:=by
 rw [zhx_ h0,List.getElem?_eq_getElem (show k.toNat<xs.length by lia)]
 exact ⟨_,rfl,List.getElem_mem _⟩
theorem zok_ {xs:List α}(k:Int) (h:xs≠[]):∃ x,atI xs (k % (xs.length:Int))=some x∧x∈xs:=by
 have:0<xs.length:=List.length_pos_iff.mpr h
 exact zdk_ (Int.emod_nonneg _ (by lia)) (Int.emod_lt_of_pos _ (by lia))
theorem zd0_ (xs:List α) (lo hi:Option Int):(cutG xs lo hi).length≤xs.length:=by
 unfold cutG; rw [List.length_take,List.length_drop]; lia
end
end L2
namespace L2
open PySem PySem.Spec PyProof.Rows
section
variable {K:Fgg}{E:XK}{α β γ ρ S S' B B':Type}{F0 H0 F h H:Hp}{L L':List Sl}{e e1 e2:TE}{T:Ty α}{r:Mo α}{O:Own ρ}{t u:TS}{LS:S→List Sl}{LS':S'→List Sl}{LB:B→List Sl}
theorem zmF_ {n:Nat}{j:Int}{k:Nat}(h:ixN n j=some k):k<n:=by
 unfold ixN at h
 split at h
 ·split at h
  ·cases h; lia
  ·cases h
 ·split at h
  ·cases h; lia
  ·cases h
end
end L2
namespace L2
open PySem PySem.Spec PyProof.Rows
section
variable {K:Fgg}{E:XK}{α β γ ρ S S' B B':Type}{F0 H0 F h H:Hp}{L L':List Sl}{e e1 e2:TE}{T:Ty α}{r:Mo α}{O:Own ρ}{t u:TS}{LS:S→List Sl}{LS':S'→List Sl}{LB:B→List Sl}
@[irreducible] def fuelW:Nat:=100000
theorem zmE_:fuelW=100000:=by unfold fuelW; rfl
end
end L2
namespace L2
open PySem PySem.Spec PyProof.Rows
section
variable {α:Type}
theorem zb6_ {S B ρ:Type}{step:S→α→Mo (Out ρ S S)}{xs:List α}{s:S}{G:Mo (Out ρ B S)→Prop}(P:List α→S→Prop) (h0:P [] s) (hs:∀ d x s,(∃ r,xs=d++x::r)→P d s→∃ s',step s x=.ok (.nx s')∧P (d++[x]) s') (hk:∀ s',P xs s'→G (.ok (.nx s'))):G (forO step xs s):=by
 obtain ⟨s',e,p⟩:=zk3_ (B:=B) P (xs:=xs) [] h0 (fun d x s hr hp=>hs d x s hr hp)
 rw [e]
 exact hk s' p
end
noncomputable abbrev Crd:=List Nat
noncomputable def sg (c:Crd) (col:Int):Nat:=c.getD (col-1).toNat 0
noncomputable def rk1 (x:Nat):Nat:=(SG.findIdx? (· == x)).getD 0 % 37
noncomputable def rnk (c:Crd) (col:Int):Nat:=rk1 (sg c col)
noncomputable def kv:List Int→Crd→Nat
 | [],_=>0
 | c::L,a=>rnk a c*37 ^ L.length+kv L a
end L2
namespace L2
open PySem PySem.Spec PyProof.Rows
end L2
namespace L2
open PySem PySem.Spec PyProof.Rows
open PySem.SeqAt
open PySem.AutoSeq1 (wpAny_loadPart')
open PySem.MeetsSeq PySem.MeetsSeq2 PySem.MeetsSeq3
end L2
namespace L2
open PySem PySem.Spec PyProof.Rows
section
variable {K:Fgg}{E:XK}{H:Hp}
end
end L2
namespace L2
open PySem PySem.Spec PyProof.Rows
section
variable {α:Type}
theorem zg7_ {n d:Nat}{i:Int}(h:0≤i):HT.sIx n d (some i)=min i.toNat n:=by
 unfold HT.sIx
 simp only
 split<;>lia
theorem zkI_ {xs:List α}{i:Int}(h:0≤i):cutG xs none (some i)=xs.take i.toNat:=by
 unfold cutG
 rw [zg7_ h,show HT.sIx xs.length 0 none=0 from rfl,List.drop_zero,Nat.sub_zero,← List.take_take,List.take_length]
theorem ziM_ {xs:List α}{i:Int}(h:0≤i):cutG xs (some i) none=xs.drop i.toNat:=by
 unfold cutG
 rw [zg7_ h,show HT.sIx xs.length xs.length none=xs.length from rfl]
 by_cases hl:i.toNat≤xs.length
 ·rw [Nat.min_eq_left hl,List.take_of_length_le (by rw [List.length_drop]; exact Nat.le_refl _)]
 ·rw [Nat.min_eq_right (by lia),List.drop_length,List.drop_eq_nil_of_le (by lia),List.take_nil]
theorem zls_ {xs:List α}{q:Int×α}(h:q∈enumL xs):∃ i:Nat,i<xs.length∧q.1=i∧xs[i]?=some q.2:=by
 obtain ⟨i,hi,e⟩:=List.mem_iff_getElem.mp h
 rw [zdG_] at hi
 have:=zgx_ xs i
 rw [List.getElem?_eq_getElem (by rw [zdG_]; exact hi),e] at this
 refine ⟨i,hi,?_⟩
 cases e2:xs[i]? with
 | none=>rw [e2] at this; cases this
 | some x=>rw [e2] at this; injection this with this; rw [this]; exact ⟨rfl,rfl⟩
end
end L2
namespace L2
open PySem PySem.Spec PyProof.Rows
section
variable {K:Fgg}{E:XK}{α β γ ρ S S' B B':Type}{F0 H0 F h H:Hp}{L L':List Sl}{e e1 e2:TE}{T:Ty α}{r:Mo α}{O:Own ρ}{t u:TS}{LS:S→List Sl}{LS':S'→List Sl}{LB:B→List Sl}
theorem zF_ {C:Cs γ}{f:γ→Mo α}{ta:TA}{r:Mo γ}(h:EvA K ta E L r C):EvF K (tCall (Ct K C f (owF T)) [] E0 ta) E L (r.bind fun c=>(f c).noex) T:=(zdW_ h).fr
end
end L2
namespace L2
open PySem PySem.Spec PyProof.Rows
noncomputable def repL {α:Type}(xs:List α) (n:Int):List α:=(List.replicate n.toNat xs).flatten
noncomputable def CRep (m:Nat) (n:Int):Prop:=0≤n∧n≤100000∧m≤100000∧m*n.toNat≤100000
instance (m:Nat) (n:Int):Decidable (CRep m n):=inferInstanceAs (Decidable (_∧_))
noncomputable def mMulX:R2:=fun x y H Q=>match x,y with
 | .int i,.int j=>IntMulOk i j∧Q (.int (i*j)) H
 | .str z,.int n=>CRep z.cps.toList.length n∧Q (tx (repL z.cps.toList n)) H
 | .ref l,.int k=>∃ xs,H l=some (.lst xs)∧CRep xs.length k∧∀ p,H p=none→Q (.ref p) (upd H p (.lst (repL xs k)))
 | _,_=>False
theorem zmp_ (z:Array Nat) (n:Nat):(List.foldl (fun x1 x2=>x1++x2) #[] (List.replicate n z)).toList=(List.replicate n z.toList).flatten:=by
 have:∀ (l:List (Array Nat)) (acc:Array Nat),(l.foldl (fun x1 x2=>x1++x2) acc).toList=acc.toList++(l.map Array.toList).flatten:=by
  intro l
  induction l with
  | nil=>intro acc; simp
  | cons a l ih=>intro acc; rw [List.foldl_cons,ih]; simp
 rw [this]
 simp
theorem zdA_ {X:Cx}:OpR X (binaryOp .Mult) mMulX:=by
 intro pins s σ H x y v u Q I rx ry h
 cases x<;>cases y<;>first
  | exact h.elim
  | exact zoW_ pins s σ H _ _ v u Q I rx ry h
  | (obtain ⟨xs,hl,⟨c1,c2,c3,c4⟩,q⟩:=h
     exact zqB_ pins s σ H _ _ v u Q I rx ry ⟨_,_,xs,rfl,rfl,hl,by lia,by lia,zfG_ c4,q⟩)
  | (rename_i z n
     obtain ⟨⟨c1,c2,c3,c4⟩,q⟩:=h
     obtain ⟨t,rfl⟩:=rx
     obtain ⟨t',rfl⟩:=ry
     have hz:z.length=z.cps.toList.length:=by simp [Str.length]
     refine PySem.P.mul_str (by simp; lia) (fun h1 h2=>?_) (fun h1 h2=>?_) ?_
     ·rw [hz]
      have hn:0<n:=by lia
      have:(z.cps.toList.length:Int)*n≤2 ^ 63-1:=by
       have e:n=(n.toNat:Int):=by lia
       rw [e,← Int.natCast_mul]; lia
      have:=Int.le_ediv_of_mul_le hn this
      lia
     ·unfold Builtin.Str.tooLong
      rw [hz]
      have:=zfG_ c4
      exact decide_eq_false (by lia)
     ·by_cases h1:n<1
      ·rw [if_pos h1]
       have:n=0:=by lia
       subst this
       exact ⟨Nat.zero_le _,tx [],H,I.tok _,⟨_,rfl⟩,q⟩
      ·rw [if_neg h1]
       by_cases h2:(n == 1 || z.length == 0)=true
       ·rw [if_pos h2]
        have e:repL z.cps.toList n=z.cps.toList:=by
         unfold repL
         rw [Bool.or_eq_true] at h2
         rcases h2 with h2 | h2
         ·have:n=1:=by simpa using h2
          subst this; simp
         ·have:z.cps.toList=[]:=List.length_eq_zero_iff.mp (by rw [← hz]; simpa using h2)
          rw [this]; simp
        rw [e] at q
        refine ⟨tx z.cps.toList,H,I,⟨t,?_⟩,q⟩
        show Value.str z t=Value.str ⟨z.cps.toList.toArray⟩ t
        rw [← zbY_]
       ·rw [if_neg h2]
        refine ⟨?_,tx (repL z.cps.toList n),H,I.tok _,⟨s.toks,?_⟩,q⟩
        ·have e:(⟨List.foldl (fun x1 x2=>x1++x2) #[] (List.replicate n.toNat z.cps)⟩:Str).length=(List.replicate n.toNat z.cps.toList).flatten.length:=by
          rw [← zmp_]; simp [Str.length]
         rw [e,zmo_]
         exact zfG_ (by rw [Nat.mul_comm]; exact c4)
        show Value.str _ _=Value.str _ _
        congr 1
        unfold repL
        rw [← zmp_])
section
variable {K:Fgg}{E:XK}{α β γ ρ S S' B B':Type}{F0 H0 F h H:Hp}{L L':List Sl}{e e1 e2:TE}{T:Ty α}{r:Mo α}{O:Own ρ}{t u:TS}{LS:S→List Sl}{LB:B→List Sl}
theorem zdl_:Op2 K mMulX E tyInt tyInt (fun i j=>.grd (IntMulOk i j) (.ok (i*j))) tyInt:=by
 rintro a b x y F H Q hs rfl rfl k
 obtain ⟨c,k⟩:=k.grd
 exact ⟨c,k.ok hs _ rfl⟩
theorem zjK_:Op2 K mMulX E tyStr tyInt (fun l n=>.grd (CRep l.length n) (.ok (repL l n))) tyStr:=by
 rintro a b x y F H Q hs rfl rfl k
 obtain ⟨c,k⟩:=k.grd
 exact ⟨c,k.ok hs _ rfl⟩
theorem zoG_ {xs:List α}{vs:List V}(hr:Prs T H xs vs) (n:Int):Prs T H (repL xs n) (repL vs n):=by
 unfold repL
 induction n.toNat with
 | zero=>exact .nil
 | succ m ih=>rw [List.replicate_succ,List.replicate_succ,List.flatten_cons,List.flatten_cons]; exact hr.append ih
theorem zny_:Op2O K mMulX E (tyL T) tyInt (fun l n=>.grd (CRep l.length n) (.ok (repL l n))) (owL T):=by
 rintro a b x y F H Q hs ⟨p,vs,rfl,hp,hr⟩ rfl k
 obtain ⟨c,k⟩:=k.grd
 exact ⟨vs,hs _ _ hp,by rw [← hr.len]; exact c,fun q hq=>zeC_ hs hq (zoG_ hr b) k⟩
noncomputable def strsL (l:List (List Nat)):List Str:=l.map fun z=>⟨z.toArray⟩
theorem znv_ {l:List (List Nat)}{vs:List V}(h:Prs tyStr H l vs):strsOf vs=some (strsL l):=by
 induction h with
 | nil=>rfl
 | cons r t ih=>cases r; show (strsOf _).map _=_; rw [ih]; rfl
theorem zkd_:Me K (mJoin K) E (csLast (tyL tyStr)) (fun l c=>.grd (JoinOk ⟨l.toArray⟩ (strsL c)=true) (.ok (joinS l (strsL c)))) tyStr:=by
 rintro l c vs F H Q hs ⟨v,rfl,p,us,rfl,hp,hr⟩ k
 obtain ⟨z,k⟩:=k.grd
 refine ⟨us,.of (hs _ _ hp),?_⟩
 rw [znv_ hr]
 exact ⟨z,k.ok hs _ rfl⟩
end
end L2
namespace L2
open PySem PySem.Spec PyProof.Rows
structure KyT (κ:Type) where
 T:Ty κ
 key:κ→Key
 inj:∀ {a b},key a=key b→a=b
 of:∀ {a v H},T.R a v H→keyV v=some (key a)
noncomputable abbrev kInt:KyT Int:=⟨tyInt,Sum.inl,fun h=>by injection h,fun h=>by cases h; rfl⟩
section
variable {K:Fgg}{E:XK}{α β γ ρ κ S S' B B':Type}{F0 H0 F h H:Hp}{L L':List Sl}{e e1 e2:TE}{T:Ty α}{r:Mo α}{O:Own ρ}{t u:TS}{LS:S→List Sl}{LB:B→List Sl}{KY:KyT κ}
noncomputable abbrev DPr (KY:KyT κ) (T:Ty α) (H:Hp) (m:List (κ×α)) (kvs:List (Key×V)):Prop:=Paired (fun (q:κ×α) (w:Key×V)=>w.1=KY.key q.1∧T.R q.2 w.2 H) m kvs
theorem DPr.mono {m:List (κ×α)}{kvs:List (Key×V)}{H H':Hp}(g:Same H H') (h:DPr KY T H m kvs):DPr KY T H' m kvs:=zdy_ (fun _ _ r=>⟨r.1,T.mono g r.2⟩) h
theorem DPr.imm (i:Imm T) {m:List (κ×α)}{kvs:List (Key×V)}{H H':Hp}(g:Tups H H') (h:DPr KY T H m kvs):DPr KY T H' m kvs:=zdy_ (fun _ _ r=>⟨r.1,i g r.2⟩) h
noncomputable abbrev tyD (KY:KyT κ) (T:Ty α):Ty (List (κ×α)):=⟨fun m v H=>∃ p kvs,v=.ref p∧H p=some (.dK kvs)∧DPr KY T H m kvs,fun g ⟨p,kvs,e,h,q⟩=>⟨p,kvs,e,g _ _ h,q.mono g⟩⟩
noncomputable abbrev owD (KY:KyT κ) (T:Ty α):Own (List (κ×α)):=⟨fun m v F h=>∃ p kvs,v=.ref p∧h=one p (.dK kvs)∧DPr KY T F m kvs,tyD KY T,fun g ⟨p,vs,e,z,q⟩=>⟨p,vs,e,z,q.mono g⟩,
 fun d ⟨p,vs,e,z,q⟩=>⟨p,vs,e,zhb_ d _ _ (by rw [z]; exact zbU_),q.mono zbW_⟩,
 fun ⟨p,vs,e,z,q⟩ b xs y=>by rw [z] at y; unfold one at y; split at y<;>cases y⟩
theorem zfY_ (i:Imm T):ImmO (owD KY T):=fun g ⟨p,vs,e,z,q⟩=>⟨p,vs,e,z,q.imm i g⟩
variable [DecidableEq κ]
noncomputable def getA (m:List (κ×α)) (k:κ):Option α:=(m.find? fun q=>decide (q.1=k)).map (·.2)
noncomputable def putA (m:List (κ×α)) (k:κ) (v:α):List (κ×α):=if (m.any fun q=>decide (q.1=k))=true then m.map (fun q=>if q.1=k then (q.1,v) else q) else m++[(k,v)]
theorem zoo_ (a b:κ):decide (KY.key a=KY.key b)=decide (a=b):=by rw [decide_eq_decide]; exact ⟨KY.inj,fun h=>by rw [h]⟩
theorem zoz_ {m:List (κ×α)}{kvs:List (Key×V)}(h:DPr KY T H m kvs) (k:κ):(kvs.any fun w=>decide (w.1=KY.key k))=m.any fun q=>decide (q.1=k):=by
 induction h with
 | nil=>rfl
 | cons r t ih=>rw [List.any_cons,List.any_cons,ih,r.1,zoo_]
theorem zoi_ {m m':List (κ×α)}{kvs kvs':List (Key×V)}(h:DPr KY T H m kvs) (h':DPr KY T H m' kvs'):DPr KY T H (m++m') (kvs++kvs'):=by
 induction h with
 | nil=>exact h'
 | cons r t ih=>exact .cons r ih
theorem zo0_ {m:List (κ×α)}{kvs:List (Key×V)}(h:DPr KY T H m kvs) (k:κ) {a:α}{v:V}(hv:T.R a v H):DPr KY T H (m.map fun q=>if q.1=k then (q.1,a) else q) (kvs.map fun w=>if w.1=KY.key k then (w.1,v) else w):=by
 induction h with
 | nil=>exact .nil
 | cons r t ih =>
  rename_i q w m kvs
  rw [List.map_cons,List.map_cons]
  refine .cons ?_ ih
  by_cases e:q.1=k
  ·rw [if_pos e,if_pos (by rw [r.1,e])]; exact ⟨r.1,hv⟩
  ·rw [if_neg e,if_neg (fun z=>e (KY.inj (by rw [← r.1,z])))]; exact r
theorem zoV_ {m:List (κ×α)}{kvs:List (Key×V)}(h:DPr KY T H m kvs) (k:κ) {a:α}{v:V}(hv:T.R a v H):DPr KY T H (putA m k a) (putK kvs (KY.key k) v):=by
 unfold putA putK
 rw [zoz_ h]
 split
 ·exact zo0_ h k hv
 ·exact zoi_ h (.cons ⟨rfl,hv⟩ .nil)
theorem zn6_ (KY:KyT κ) (T:Ty α):EvO K tDNewK E L (.ok []) (owD KY T):=by
 intro σ F H Q hL hs q p hp
 have q':OwnK (owD KY T) H Q [] F (upd H p (.dK [])):=q F _ (.heap hs (zfC_ hp _))
 refine q' (.ref p) (one p (.dK [])) (fun b z=>?_) (fun b=>?_) (fun b o z=>?_) ⟨p,[],rfl,rfl,.nil⟩
 ·unfold one at z; split at z
  ·rename_i e; rw [e]; exact hp
  ·exact absurd rfl z
 ·unfold one; split
  ·rename_i e; rw [e]; exact .inl (hs.free hp)
  ·exact .inr rfl
 ·unfold one at z; split at z
  ·rename_i e; rw [e]; cases z; exact zbu_
  ·cases z
end
end L2
namespace L2
open PySem PySem.Spec PyProof.Rows
section
variable {α κ:Type} [DecidableEq κ]
theorem zjH_ (m:List (κ×α)) (k j:κ) (v:α):getA (putA m k v) j=if k=j then some v else getA m j:=by
 unfold getA putA
 by_cases ha:(m.any fun q=>decide (q.1=k))=true
 ·rw [if_pos ha]
  induction m with
  | nil=>cases ha
  | cons q m ih =>
   rw [List.map_cons,List.find?_cons,List.find?_cons]
   by_cases e:q.1=k
   ·rw [if_pos e]
    by_cases e2:k=j
    ·rw [if_pos e2]
     simp [e,e2]
    ·rw [if_neg e2]
     have:¬ q.1=j:=fun z=>e2 (by rw [← e,z])
     simp only [decide_eq_false this]
     by_cases hb:(m.any fun q=>decide (q.1=k))=true
     ·have:=ih hb
      rw [if_neg e2] at this
      exact this
     ·have e3:m.map (fun q=>if q.1=k then (q.1,v) else q)=m:=by
       rw [List.map_congr_left (g:=id) (fun x hx=>?_),List.map_id]
       have:¬ x.1=k:=fun z=>hb (List.any_eq_true.mpr ⟨x,hx,by simpa using z⟩)
       simp [this]
      rw [e3]
   ·rw [if_neg e]
    have hb:(m.any fun q=>decide (q.1=k))=true:=by
     rw [List.any_cons,decide_eq_false e,Bool.false_or] at ha; exact ha
    by_cases e2:q.1=j
    ·simp only [decide_eq_true e2]
     have:¬ k=j:=fun z=>e (by rw [e2,z])
     rw [if_neg this]
    ·simp only [decide_eq_false e2]
     exact ih hb
 ·rw [if_neg ha,List.find?_append]
  by_cases e2:k=j
  ·subst e2
   have:m.find? (fun q=>decide (q.1=k))=none:=by
    rw [List.find?_eq_none]
    intro x hx z
    exact ha (List.any_eq_true.mpr ⟨x,hx,z⟩)
   rw [this,if_pos rfl]
   simp
  ·rw [if_neg e2]
   cases m.find? (fun q=>decide (q.1=j)) with
   | some z=>rfl
   | none=>simp [e2]
theorem zmV_ (m:List (κ×α)) (k:κ) (v:α):(putA m k v).length≤m.length+1:=by
 unfold putA
 split
 ·rw [List.length_map]; lia
 ·rw [List.length_append]; exact Nat.le_refl _
end
section
variable {α:Type}
end
end L2
namespace L2
open PySem PySem.Spec PyProof.Rows
section
variable {K:Fgg}{E:XK}
end
end L2
namespace Att
open PySem PySem.W PySem.Calls PyProof.Rows
theorem zns_ {ns:List Int}(h:WData.layableAll [WData.list (ns.map WData.int)]=true):∀ x∈ns,Builtin.Int.intBits x≤1048576:=by
 intro x hx
 have h1:=layableW_arg h _ (List.mem_singleton.mpr rfl)
 have h2:=layableW_item h1 (.int x) (List.mem_map.mpr ⟨x,hx,rfl⟩)
 exact PyData.bits_of_layable (layable_int h2)
theorem attach_callB {l:OpenLaw}{n:Nat}{q:Program}{loose:List Str}{XP:(Str→Option Value)→Heap→Prop}{YP:World→Heap→Prop}{d:DefRec}
  (hn:l.most=some n) (hdf:d.params.defaults=[])
  (call:∀ (w:World) (s₀ s₁:Shared) (mg mb:Str→Option Value) (fa:Addr) (o:Obj) (pm cd doc:Value) (a:Addr) (vs:List Value) (ns:List Int),
   (∀ x∈ns,Builtin.Int.intBits x≤1048576) →
   Ground q loose [] XP w s₀ mg mb s₁.heap→YP w s₁.heap →
   s₁.heap.get? fa=some o→o.data=.func (docDef d.name d.params d.body d.scope pm cd doc)→s₁.heap.CodeRec cd d.name→mg d.name=some (.ref fa) →
   s₁.heap.get? a=some { cls:=.type "list",data:=.seq vs.toArray }→IntsAre vs ns→ns.length≤n→s₁.gens=#[] →
   codeAny (model l.prog w) callerA (.call (.ref fa) ⟨[.ref a],[]⟩) (fun r s'=>r=.ok (.ret (.bool true))∧OldK s₁.heap s'.heap∧s'.os=s₁.os∧AllBare s'.gens) s₁) :
  WalkO q loose XP YP l.row.toRowW d [] (fun f vs=>PySem.call f vs):=by
 intro w s₀ s₁ mg mb G Y fa o pm cd doc dV kV ho hd hcd hD hmg hg args vals as hpre hlay hrd hwl hlo
 obtain rfl:dV=.none:=Dflts.none hD hdf
 obtain rfl:kV=.none:=Dflts.noKw hD
 obtain ⟨a,vs,ns,rfl,rfl,hobj,hints,hlen⟩:=zly_ hn hpre hwl
 refine enter_call (codeAny_mono (call w s₀ s₁ mg mb fa o pm cd doc a vs ns (zns_ hlay) G Y ho (fd_plain hd) hcd hmg hobj hints hlen hg) fun r s' hq=>?_)
 obtain ⟨rfl,h2,h3,h4⟩:=hq
 exact ⟨.inl ⟨.bool true,.bool true,[],rfl,fun _=>rfl,.bool true,zlf_ l _,fun _=>⟨List.Pairwise.nil,fun _ hm=>(nomatch hm)⟩⟩,h2,h3,h4⟩
end Att
namespace L2
open PySem PySem.Spec PyProof.Rows
theorem zmK_ {l:PySem.W.OpenLaw}{n k:Nat}{q:Program}{loose:List Str}{XP:(Str→Option Value)→Heap→Prop}{YP:World→Heap→Prop}{d:DefRec}{K:Params→Fgg}{CX:World→CXT}{sp:World→Sp}{x:Str}
  (hn:l.most=some n) (hn2:n≤sizeLine) (hdf:d.params.defaults=[]) (hr:Room k callerA)
  (hY:∀ (w:World) (h:Heap),YP w h→(K w.params).In h)
  (F:∀ (w:World) (mg:Str→Option Value) (fa:Addr) (h:Heap),(K w.params).In h→h.Ns mainGlobals mg→mg d.name=some (.ref fa) →
   ∃ fd:FuncData,(∀ (s:Shared) (u:Value),BindsTo s fd ⟨[u],[]⟩ [(x,u)]) ∧
    ∀ base:Heap,(K w.params).In base→base.Ns mainGlobals mg→FnOk l.prog w (K w.params) mg base (CX w) k fa fd [x] (sp w))
  (hsp:∀ (w:World) (H:Hp) (a:Addr) (ns:List Int),ns.length≤n→(∀ x∈ns,Builtin.Int.intBits x≤1048576)→Only H→SqL (K w.params) H a (ns.map V.int)→sp w [.ref a] H (fun v _=>v=.bl true) fun _ _ _=>False)
  (hCX:∀ (w:World) (H:Hp) (s:Shared) (e:Value) (s':Shared),CX w [] H s (fun _ _ _=>False) e s'→False) :
  PySem.W.WalkO q loose XP YP l.row.toRowW d [] (fun f vs=>PySem.call f vs):=by
 refine Att.attach_callB hn hdf fun w s₀ s₁ mg mb fa o pm cd doc a vs ns hbits G Y ho hd hcd hmg hobj hints hlen hg=>?_
 have KX:=hY w _ Y
 obtain ⟨fd,hb,hF⟩:=F w mg fa _ KX G.T.g hmg
 exact zmQ_ KX G.T.g G.T.b G.T.builtins G.T.nolimit hg hobj hints (Nat.le_trans hlen hn2) hr hF hb (fun H hO hS=>hsp w H a ns hlen hbits hO hS) fun H e s'=>hCX w H s₁ e s'
noncomputable abbrev BitsOk (ns:List Int):Prop:=∀ x∈ns,Builtin.Int.intBits x≤1048576
end L2
namespace L2
open PySem PySem.Spec PyProof.Rows PySem.W
section
variable {α β:Type}
noncomputable def okT (lt:Nat→Nat→Bool) (n:Nat):KasT α→(α→Prop)→Prop
 | .ret a,P=>P a
 | .ask i j k,P=>i<n∧j<n∧okT lt n (k (lt i j)) P
variable {lt:Nat→Nat→Bool}{n:Nat}
theorem zer_ {f:α→KasT β}{P:β→Prop}:∀ (t:KasT α),okT lt n t (fun a=>okT lt n (f a) P)→okT lt n (t.bind f) P
 | .ret _,h=>h
 | .ask i j k,h=>⟨h.1,h.2.1,zer_ (k (lt i j)) h.2.2⟩
theorem zcW_ {P Q:α→Prop}(hq:∀ a,P a→Q a):∀ (t:KasT α),okT lt n t P→okT lt n t Q
 | .ret _,h=>hq _ h
 | .ask i j k,h=>⟨h.1,h.2.1,zcW_ hq (k (lt i j)) h.2.2⟩
theorem zoR_ {prog:Program}{w:World}{A:Around}{κ:SortKind}{vs:List Value}{s:Shared}{P:α→Prop}{Q:α→Shared→Prop}
  (cm:∀ i j (C:Bool→Shared→Prop),i<n→j<n→C (lt i j) s→kas_ask prog w A κ vs i j C s) (hq:∀ a,P a→Q a s):∀ t:KasT α,okT lt n t P→t.kasWp (kas_ask prog w A κ vs) Q s
 | .ret a,h=>hq a h
 | .ask i j k,h=>cm i j (fun b s'=>(k b).kasWp (kas_ask prog w A κ vs) Q s') h.1 h.2.1 (zoR_ cm hq (k (lt i j)) h.2.2)
structure WOr (lt:Nat→Nat→Bool):Prop where
 asym:∀ {a b},lt a b=true→lt b a=false
 tr:∀ {a b c},lt b a=false→lt c b=false→lt c a=false
noncomputable abbrev le (lt:Nat→Nat→Bool) (a b:Nat):Prop:=lt b a=false
theorem WOr.refl (w:WOr lt) (a:Nat):le lt a a:=by
 cases h:lt a a with
 | false=>exact h
 | true=>exact w.asym h
noncomputable abbrev Pm (p:Array Nat) (n:Nat):Prop:=p.toList.Perm (List.range n)
theorem zft_ {p:Array Nat}(h:Pm p n):p.size=n:=by have:=h.length_eq; rwa [List.length_range,Array.length_toList] at this
theorem zld_ {p:Array Nat}(h:Pm p n) {i:Nat}(hi:i<n):p.getD i 0<n:=by
 have hs:=zft_ h
 have:p.getD i 0=p[i]'(by lia):=by simp [Array.getD,hs,hi]
 rw [this]
 exact List.mem_range.mp (h.mem_iff.mp (by simp))
theorem zdt_ {p q:Array Nat}{i j:Nat}(h:p[i]?=q[j]?):p.getD i 0=q.getD j 0:=by
 rw [Array.getD_eq_getD_getElem?,Array.getD_eq_getD_getElem?,h]
theorem zkn_ {p:Array Nat}(h:Pm p n) (i j:Nat):Pm (kas_rev p i j) n:=(Array.perm_iff_toList_perm.mp (mirror_perm p i j _)).trans h
theorem zhq_ {p:Array Nat}{i j:Nat}(hj:j≤p.size) (k:Nat):(kas_rev p i j).getD k 0=if i≤k∧k<j then p.getD (i+j-1-k) 0 else p.getD k 0:=by
 have:=getElem?_mirror_all (xs:=p) (i:=i) hj k
 split
 ·rename_i q; rw [if_pos q] at this; exact zdt_ this
 ·rename_i q; rw [if_neg q] at this; exact zdt_ this
noncomputable def Asc (lt:Nat→Nat→Bool) (p:Array Nat) (k:Nat):Prop:=∀ i j,i≤j→j<k→le lt (p.getD i 0) (p.getD j 0)
noncomputable def Dsc (lt:Nat→Nat→Bool) (p:Array Nat) (k:Nat):Prop:=∀ i j,i≤j→j<k→le lt (p.getD j 0) (p.getD i 0)
theorem Asc.one (w:WOr lt) (p:Array Nat):Asc lt p 1:=fun i j a b=>by
 obtain rfl:i=j:=by lia
 exact w.refl _
theorem zmL_ (w:WOr lt) {p:Array Nat}(hp:Pm p n):∀ (f m:Nat),1≤m→m+f≤n→Asc lt p m→okT lt n (kas_asc p f m) (fun r=>m≤r∧r≤m+f∧Asc lt p r∧(r<m+f→lt (p.getD r 0) (p.getD (r-1) 0)=true))
 | 0,m,h1,hm,ha=>⟨Nat.le_refl _,Nat.le_refl _,ha,fun h=>absurd h (Nat.lt_irrefl _)⟩
 | f+1,m,h1,hm,ha=>by
  refine ⟨zld_ hp (by lia),zld_ hp (by lia),?_⟩
  show okT lt n (if lt (p.getD m 0) (p.getD (m-1) 0)=true then KasT.ret m else kas_asc p f (m+1)) _
  cases h:lt (p.getD m 0) (p.getD (m-1) 0) with
  | true=>rw [if_pos rfl]; exact ⟨Nat.le_refl _,by lia,ha,fun _=>h⟩
  | false =>
   rw [if_neg (by decide)]
   refine zcW_ (fun r q=>⟨by lia,by lia,q.2.2.1,fun z=>q.2.2.2 (by lia)⟩) _ (zmL_ w hp f (m+1) (by lia) (by lia) fun i j hij hj=>?_)
   by_cases e:j<m
   ·exact ha i j hij e
   ·obtain rfl:j=m:=by lia
    by_cases e2:i=j
    ·subst e2; exact w.refl _
    ·exact w.tr (ha i (j-1) (by lia) (by lia)) h
theorem zoq_ (w:WOr lt) {p:Array Nat}{m q:Nat}(hm:m≤p.size) (hq:q+1≤m) (hd:Dsc lt p m) (he:∀ i,m-(q+1)≤i→i<m→le lt (p.getD i 0) (p.getD (m-1) 0)):Dsc lt (kas_rev p (m-(q+1)) m) m:=by
 intro i j hij hj
 have r1:=zhq_ (p:=p) (i:=m-(q+1)) hm i
 have r2:=zhq_ (p:=p) (i:=m-(q+1)) hm j
 show lt _ _=false
 rw [r1,r2]
 by_cases a:m-(q+1)≤i
 ·rw [if_pos ⟨a,by omega⟩,if_pos ⟨by omega,hj⟩]
  exact w.tr (he _ (by omega) (by omega)) (hd _ (m-1) (by omega) (by omega))
 ·rw [if_neg (fun z=>a z.1)]
  by_cases b:m-(q+1)≤j
  ·rw [if_pos ⟨b,hj⟩]; exact hd _ _ (by omega) (by omega)
  ·rw [if_neg (fun z=>b z.1)]; exact hd _ _ hij hj
theorem zjn_ (w:WOr lt):∀ (f:Nat) (p:Array Nat) (m q:Nat),Pm p n→q+1≤m→m+f≤n→Dsc lt p m→(∀ i,m-(q+1)≤i→i<m→le lt (p.getD i 0) (p.getD (m-1) 0)) →
  okT lt n (kas_desc f p m q) (fun r=>Pm r.1 n∧r.2.2+1≤r.2.1∧r.2.1≤m+f∧Dsc lt r.1 r.2.1∧∀ i,r.2.1-(r.2.2+1)≤i→i<r.2.1→le lt (r.1.getD i 0) (r.1.getD (r.2.1-1) 0))
 | 0,p,m,q,hp,h1,hm,hd,he=>⟨hp,h1,Nat.le_refl _,hd,he⟩
 | f+1,p,m,q,hp,h1,hm,hd,he=>by
  have hsz:=zft_ hp
  refine ⟨zld_ hp (by lia),zld_ hp (by lia),?_⟩
  cases h:lt (p.getD m 0) (p.getD (m-1) 0) with
  | true =>
   dsimp only
   rw [if_pos rfl]
   have fin:∀ p1:Array Nat,Pm p1 n→Dsc lt p1 m→p1.getD m 0=p.getD m 0→(∀ i,i<m→le lt (p.getD (m-1) 0) (p1.getD i 0))→okT lt n (kas_desc f p1 (m+1) 0) (fun r=>Pm r.1 n∧r.2.2+1≤r.2.1∧r.2.1≤m+(f+1)∧Dsc lt r.1 r.2.1∧∀ i,r.2.1-(r.2.2+1)≤i→i<r.2.1→le lt (r.1.getD i 0) (r.1.getD (r.2.1-1) 0)):=by
    intro p1 hp1 hd1 e1 hb
    refine zcW_ (fun r q=>⟨q.1,q.2.1,by lia,q.2.2.2⟩) _ (zjn_ w f p1 (m+1) 0 hp1 (by lia) (by lia) (fun i j hij hj=>?_) fun i a b=>?_)
    ·by_cases e:j<m
     ·exact hd1 i j hij e
     ·obtain rfl:j=m:=by lia
      by_cases e2:i=j
      ·subst e2; exact w.refl _
      ·rw [e1]; exact w.tr (w.asym h) (hb i (by lia))
    ·obtain rfl:i=m:=by lia
     exact w.refl _
   by_cases hq:q > 0
   ·rw [if_pos hq]
    refine fin _ (zkn_ hp _ _) (zoq_ w (by lia) h1 hd he) ?_ fun i hi=>?_
    ·rw [zhq_ (by lia),if_neg (by lia)]
    ·rw [zhq_ (by lia)]
     split
     ·exact hd _ _ (by lia) (by lia)
     ·exact hd _ _ (by lia) (by lia)
   ·rw [if_neg hq]
    exact fin p hp hd rfl fun i hi=>hd _ _ (by lia) (by lia)
  | false =>
   dsimp only
   rw [if_neg (by decide)]
   refine ⟨zld_ hp (by lia),zld_ hp (by lia),?_⟩
   cases h2:lt (p.getD (m-1) 0) (p.getD m 0) with
   | true=>dsimp only; rw [if_pos rfl]; exact ⟨hp,h1,by show m≤m+(f+1); lia,hd,he⟩
   | false =>
    dsimp only
    rw [if_neg (by decide)]
    refine zcW_ (fun r q=>⟨q.1,q.2.1,by lia,q.2.2.2⟩) _ (zjn_ w f p (m+1) (q+1) hp (by lia) (by lia) (fun i j hij hj=>?_) fun i a b=>?_)
    ·by_cases e:j<m
     ·exact hd i j hij e
     ·obtain rfl:j=m:=by lia
      by_cases e2:i=j
      ·subst e2; exact w.refl _
      ·exact w.tr h2 (hd i (j-1) (by lia) (by lia))
    ·show le lt (p.getD i 0) (p.getD m 0)
     by_cases e:i=m
     ·subst e; exact w.refl _
     ·exact w.tr (he i (by lia) (by lia)) h
noncomputable abbrev Got (lt:Nat→Nat→Bool) (n:Nat) (r:Nat×Array Nat):Prop:=Pm r.2 n∧r.1≤n∧Asc lt r.2 r.1
theorem zkH_ (w:WOr lt) {p:Array Nat}{m:Nat}(hp:Pm p n) (h1:1≤m) (hm:m≤n) (hd:Dsc lt p m):okT lt n (kas_tail3 m n p) (Got lt n):=by
 have hsz:=zft_ hp
 refine zer_ _ (zcW_ (fun r q=>?_) _ (zmL_ w (zkn_ hp 0 m) (n-m) m h1 (by omega) fun i j hij hj=>?_))
 ·exact ⟨zkn_ hp 0 m,by show r≤n; omega,q.2.2.1⟩
 ·rw [zhq_ (by omega),zhq_ (by omega),if_pos (by omega),if_pos (by omega)]
  exact hd _ _ (by omega) (by omega)
theorem zf6_ (w:WOr lt) {p:Array Nat}{m:Nat}(hp:Pm p n) (hm:m+1≤n) (hd:Dsc lt p (m+1)):okT lt n (kas_descPart m n p) (Got lt n):=by
 refine zer_ _ (zcW_ (fun r q=>?_) _ (zjn_ w (n-(m+1)) p (m+1) 0 hp (by lia) (by lia) hd fun i a b=>?_))
 ·obtain ⟨q1,q2,q3,q4,q5⟩:=q
  have hsz:=zft_ q1
  by_cases z:r.2.2 > 0
  ·rw [if_pos z]
   exact zkH_ w (zkn_ q1 _ _) (by lia) (by lia) (zoq_ w (by lia) q2 q4 q5)
  ·rw [if_neg z]
   exact zkH_ w q1 (by lia) (by lia) q4
 ·obtain rfl:i=m:=by lia
  exact w.refl _
theorem zmy_ (w:WOr lt) {p:Array Nat}(hp:Pm p n) (hn:1≤n):okT lt n (kas_count n p) (Got lt n):=by
 have hsz:=zft_ hp
 refine zer_ _ (zcW_ (fun m q=>?_) _ (zmL_ w hp (n-1) 1 (Nat.le_refl _) (by lia) (Asc.one w p)))
 obtain ⟨q1,q2,q3,q4⟩:=q
 by_cases e:m=n
 ·rw [if_pos (by simp [e])]; exact ⟨hp,by show m≤n; lia,q3⟩
 ·rw [if_neg (by simp [e])]
  have hl:=q4 (by lia)
  by_cases z:m > 1
  ·rw [if_pos z]
   refine ⟨zld_ hp (by lia),zld_ hp (by lia),?_⟩
   cases c:lt (p.getD 0 0) (p.getD (m-1) 0) with
   | true=>dsimp only; rw [if_pos rfl]; exact ⟨hp,by show m≤n; lia,q3⟩
   | false =>
    dsimp only
    rw [if_neg (by decide)]
    have hall:∀ a b,a<m→b<m→le lt (p.getD a 0) (p.getD b 0):=fun a b ha hb=>w.tr (w.tr (q3 a (m-1) (by lia) (by lia)) c) (q3 0 b (by lia) hb)
    refine zf6_ w (zkn_ hp 0 m) (by lia) fun i j hij hj=>?_
    rw [zhq_ (by lia),zhq_ (by lia)]
    by_cases a:j<m
    ·rw [if_pos (by lia),if_pos (by lia)]; exact hall _ _ (by lia) (by lia)
    ·obtain rfl:j=m:=by lia
     rw [if_neg (by lia)]
     by_cases b:i<j
     ·rw [if_pos (by lia)]; exact w.tr (w.asym hl) (hall _ _ (by lia) (by lia))
     ·obtain rfl:i=j:=by lia
      rw [if_neg (by lia)]; exact w.refl _
  ·rw [if_neg z]
   obtain rfl:m=1:=by lia
   refine zf6_ w hp (by lia) fun i j hij hj=>?_
   by_cases a:i=j
   ·subst a; exact w.refl _
   ·obtain rfl:i=0:=by lia
    obtain rfl:j=1:=by lia
    exact w.asym hl
theorem zhZ_ (w:WOr lt) {p:Array Nat}{k:Nat}(hp:Pm p n) (hk:k<n) (ha:Asc lt p k):∀ (f l r:Nat),l≤r→r≤k→r-l≤f→(∀ i,i<l→le lt (p.getD i 0) (p.getD k 0))→(∀ i,r≤i→i<k→le lt (p.getD k 0) (p.getD i 0)) →
  okT lt n (kas_place p k f l r) (fun m=>m≤k∧(∀ i,i<m→le lt (p.getD i 0) (p.getD k 0))∧∀ i,m≤i→i<k→le lt (p.getD k 0) (p.getD i 0))
 | 0,l,r,h1,h2,h3,h4,h5=>⟨by show l≤k; omega,h4,fun i a b=>h5 i (by omega) b⟩
 | f+1,l,r,h1,h2,h3,h4,h5=>by
  unfold kas_place
  by_cases e:l ≥ r
  ·rw [if_pos e]; exact ⟨by show l≤k; omega,h4,fun i a b=>h5 i (by omega) b⟩
  ·rw [if_neg e]
   refine ⟨zld_ hp hk,zld_ hp (by omega),?_⟩
   cases c:lt (p.getD k 0) (p.getD ((l+r) / 2) 0) with
   | true =>
    dsimp only
    rw [if_pos rfl]
    refine zhZ_ w hp hk ha f l ((l+r) / 2) (by omega) (by omega) (by omega) h4 fun i a b=>?_
    exact w.tr (w.asym c) (ha _ _ a b)
   | false =>
    dsimp only
    rw [if_neg (by decide)]
    refine zhZ_ w hp hk ha f ((l+r) / 2+1) r (by omega) h2 (by omega) (fun i hi=>?_) h5
    exact w.tr (ha i ((l+r) / 2) (by omega) (by omega)) c
theorem zoS_ (w:WOr lt):∀ (f:Nat) (p:Array Nat) (k:Nat),Pm p n→k+f=n→Asc lt p k→okT lt n (kas_bin f p k) (fun r=>Pm r n∧Asc lt r n)
 | 0,p,k,hp,hk,ha=>⟨hp,(show k=n by lia) ▸ ha⟩
 | f+1,p,k,hp,hk,ha=>by
  have hsz:=zft_ hp
  refine zer_ _ (zcW_ (fun l q=>?_) _ (zhZ_ w hp (by lia) ha k 0 k (by lia) (Nat.le_refl _) (by lia) (fun i hi=>absurd hi (by lia)) fun i a b=>absurd b (by lia)))
  obtain ⟨q1,q2,q3⟩:=q
  have hb:∀ i,(bubble p k (k-l)).getD i 0=if i=l then p.getD k 0 else if l<i∧i≤k then p.getD (i-1) 0 else p.getD i 0:=fun i=>by
   have:=getElem?_bubble (xs:=p) (src:=k) (by lia) (k-l) (by lia) i
   rw [show k-(k-l)=l by lia] at this
   split
   ·rename_i z; rw [if_pos z] at this; exact zdt_ this
   ·rename_i z
    rw [if_neg z] at this
    split
    ·rename_i y; rw [if_pos y] at this; exact zdt_ this
    ·rename_i y; rw [if_neg y] at this; exact zdt_ this
  refine zoS_ w f _ (k+1) ((Array.perm_iff_toList_perm.mp (bubble_perm p k _)).trans hp) (by lia) fun i j hij hj=>?_
  rw [hb,hb]
  by_cases e1:i=l
  ·rw [if_pos e1]
   by_cases e2:j=l
   ·rw [if_pos e2]; exact w.refl _
   ·rw [if_neg e2,if_pos (by lia)]; exact q3 _ (by lia) (by lia)
  ·rw [if_neg e1]
   by_cases e2:j=l
   ·rw [if_pos e2,if_neg (by lia)]; exact q2 _ (by lia)
   ·rw [if_neg e2]
    by_cases e3:l<i
    ·rw [if_pos (by lia),if_pos (by lia)]; exact ha _ _ (by lia) (by lia)
    ·rw [if_neg (by lia)]
     by_cases e4:l<j
     ·rw [if_pos (by lia)]; exact ha _ _ (by lia) (by lia)
     ·rw [if_neg (by lia)]; exact ha _ _ hij (by lia)
theorem zn4_ (w:WOr lt) (hn:1≤n):okT lt n (kas_sort n) (fun r=>Pm r n∧Asc lt r n):=by
 have h0:Pm (List.toArray (List.range n)) n:=by simp [Pm]
 refine zer_ _ (zcW_ (fun r q=>?_) _ (zmy_ w h0 hn))
 obtain ⟨q1,q2,q3⟩:=q
 by_cases e:r.1<n
 ·rw [if_pos e]
  refine zoS_ w _ _ _ q1 (by lia) ?_
  by_cases e1:r.1=0
  ·rw [e1]; exact Asc.one w _
  ·rw [Nat.max_eq_left (by lia)]; exact q3
 ·rw [if_neg e]
  obtain e:r.1=n:=by lia
  rw [e] at q3
  exact ⟨q1,q3⟩
end
section
variable {prog:Program}{w:World}{A:Around}{E:Value→Shared→Prop}{s:Shared}{vs:List Value}{lt:Nat→Nat→Bool}
noncomputable def CmpAt (prog:Program) (w:World) (vs:List Value) (lt:Nat→Nat→Bool) (s:Shared):Prop :=
 ∃ κ,(∀ (A:Around) (C:SortKind→Shared→Prop),C κ s→wpAny (model prog w) A (keyKind' vs.toArray) C (fun _ _=>False) s) ∧
  ∀ (A:Around) i j (C:Bool→Shared→Prop),i<vs.length→j<vs.length→C (lt i j) s→kas_ask prog w A κ vs i j C s
noncomputable def Srtd (lt:Nat→Nat→Bool) (n:Nat) (p:List Nat):Prop:=p.Perm (List.range n)∧p.Pairwise (le lt)
theorem zoD_ {n:Nat}{p:Array Nat}(h:Pm p n∧Asc lt p n):Srtd lt n p.toList:=by
 refine ⟨h.1,List.pairwise_iff_getElem.mpr fun i j hi hj hij=>?_⟩
 have hs:=zft_ h.1
 rw [Array.length_toList] at hi hj
 have:=h.2 i j (by lia) (by lia)
 have e:∀ k (hk:k<p.size),p.getD k 0=p.toList[k]'(by simpa using hk):=fun k hk=>by simp [Array.getD,hk]
 rwa [e i hi,e j hj] at this
theorem zmB_ {a:Addr}{n:Nat}{P:PySem.Fin→Shared→Prop}(ho:s.heap.get? a=some (seqObj "list" vs.toArray n)) (h64:vs.length<64) (wo:WOr lt)
  (kk:2≤vs.length→∀ h':Heap,(∀ b o,b≠a→s.heap.get? b=some o→h'.get? b=some o)→CmpAt prog w vs lt { s with heap:=h' })
  (q:∀ (h':Heap) c (p:List Nat),(∀ b o,b≠a→s.heap.get? b=some o→h'.get? b=some o)→Srtd lt vs.length p→h'.get? a=some (seqObj "list" (p.map fun i=>vs.getD i Value.none).toArray c)→P (.done (.ret .none)) { s with heap:=h' }) :
  wpAny (model prog w) A (Builtin.«list.sort» ⟨[.ref a],[]⟩) P E s:=by
 have ha:a<s.heap.objs.size:=Heap.lt_size ho
 have s1:=Heap.SameBut.update s.heap a (Obj.mapSeq fun _=>(#[]:Array Value))
 obtain ⟨e1,ho1⟩:∃ e1,(s.heap.update a (Obj.mapSeq fun _=>(#[]:Array Value))).get? a=some (seqObj "list" #[] e1):=⟨_,get?_update_seq ho fun _=>#[]⟩
 have kp:∀ b o,b≠a→s.heap.get? b=some o→(((s.heap.update a (Obj.mapSeq fun _=>(#[]:Array Value))).push (seqObj "tuple" vs.toArray 0)).push (seqObj "list" #[] 0)).get? b=some o:=fun b o hb e =>
  Heap.get?_push_of_some _ (Heap.get?_push_of_some _ ((s1.2 b hb).trans e))
 have na:(((s.heap.update a (Obj.mapSeq fun _=>(#[]:Array Value))).push (seqObj "tuple" vs.toArray 0)).push (seqObj "list" #[] 0)).get? a=some (seqObj "list" #[] e1):=Heap.get?_push_of_some _ (Heap.get?_push_of_some _ ho1)
 rw [list_sort_plain]
 refine wpAny_bind (listItems_at ho rfl ?_)
 refine wpAny_bind (listUpdate_at ho rfl ?_ (by rw [List.size_toArray,sizeLine_eq]; lia) (Nat.zero_le _))
 refine wpAny_bind (seqEpoch_at ho1 rfl ?_)
 refine wpAny_bind (wpAny_newTuple ?_ (by show vs.length≤_; rw [sizeLine_eq]; lia))
 refine wpAny_bind (wpAny_newList ?_ (Nat.zero_le _))
 refine wpAny_holding ?_
 show wpAny (model prog w) A _ P E { s with heap:=((s.heap.update a (Obj.mapSeq fun _=>(#[]:Array Value))).push (seqObj "tuple" vs.toArray 0)).push (seqObj "list" #[] 0) }
 generalize hh:((s.heap.update a (Obj.mapSeq fun _=>(#[]:Array Value))).push (seqObj "tuple" vs.toArray 0)).push (seqObj "list" #[] 0)=h2 at kp na
 dsimp only
 have fin:∀ (st':SortSt) (p:List Nat),(arrOf st').map (·.2)=(p.map fun i=>vs.getD i Value.none).toArray→failedOf st'=none→Srtd lt vs.length p→wpAny (model prog w) A (do
   let touched:=(← seqEpoch a) != e1
   Builtin.List.listUpdate (.ref a) fun _=>(arrOf st').map (·.2)
   if let some e:=failedOf st' then rule "list.sort.comparison-raised"; throw e
   if touched then rule "list.sort.modified"; raiseError "ValueError" "list modified during sort"
   ret .none) P E { s with heap:=h2 }:=by
  intro st' p hout hf hp
  rw [hout,hf]
  have hsz:(List.toArray (p.map fun i=>vs.getD i Value.none)).size=vs.length:=by rw [List.size_toArray,List.length_map,hp.1.length_eq,List.length_range]
  have s2:=Heap.SameBut.update h2 a (Obj.mapSeq fun _=>List.toArray (p.map fun i=>vs.getD i Value.none))
  obtain ⟨c2,hc2⟩:∃ c2,(h2.update a (Obj.mapSeq fun _=>List.toArray (p.map fun i=>vs.getD i Value.none))).get? a=some (seqObj "list" (List.toArray (p.map fun i=>vs.getD i Value.none)) c2):=⟨_,get?_update_seq na fun _=>List.toArray (p.map fun i=>vs.getD i Value.none)⟩
  refine wpAny_bind (seqEpoch_at (s:={ s with heap:=h2 }) na rfl ?_)
  refine wpAny_bind (listUpdate_at (s:={ s with heap:=h2 }) na rfl ?_ (Nat.zero_le _) (Nat.le_trans (Nat.le_of_eq hsz) (by rw [sizeLine_eq]; lia)))
  simp only [bne_self_eq_false,Bool.false_eq_true,if_false]
  exact wpAny_pure (q _ c2 p (fun b o hb e=>(s2.2 b hb).trans (kp b o hb e)) hp hc2)
 by_cases hn2:2≤vs.length
 ·have hn2':¬ vs.toArray.size<2:=by rw [List.size_toArray]; lia
  rw [if_neg hn2',if_neg hn2']
  obtain ⟨κ,k1,k2⟩:=kk hn2 h2 kp
  refine wpAny_bind (wpAny_mono (k1 A (fun κ' s'=>κ'=κ∧s'={ s with heap:=h2 }) ⟨rfl,rfl⟩) (fun κ' s0 hk=>?_) fun _ _ x=>x.elim)
  obtain ⟨rfl,rfl⟩:=hk
  refine wpAny_bind (wpAny_mono (kat_run (Q:=fun st' s'=>s'={ s with heap:=h2 }∧∃ p:Array Nat,p.size=vs.length∧arrOf st'=p.map (kas_item (vs.toArray.zip vs.toArray))∧failedOf st'=none∧(Pm p vs.length∧Asc lt p vs.length)) (G:=fun p s'=>s'={ s with heap:=h2 }∧(Pm p vs.length∧Asc lt p vs.length))
   rfl hn2 h64 (fun p' st' s' a1 a2 a3 a4=>⟨a4.1,p',a1,a2,a3,a4.2⟩) (zoR_ (P:=fun r=>Pm r vs.length∧Asc lt r vs.length) (fun i j C hi hj hc=>k2 A i j C hi hj hc) (fun p hp=>⟨rfl,hp⟩) _ (zn4_ wo (by lia)))) ?_ fun _ _ e=>e)
  rintro ⟨⟨⟩,st'⟩ s' ⟨rfl,p,hp,har,hf,hpp⟩
  exact fin st' p.toList (kat_snds rfl har) hf (zoD_ hpp)
 ·have hn2':vs.toArray.size<2:=by rw [List.size_toArray]; lia
  rw [if_pos hn2',if_pos hn2']
  refine wpAny_bind (wpAny_pure ?_)
  refine wpAny_bind (wpAny_pure ?_)
  refine fin _ (List.range vs.length) ?_ rfl ⟨List.Perm.refl _,?_⟩
  ·show ((vs.toArray.zip vs.toArray).map (·.2))=_
   apply Array.toList_inj.mp
   rw [Array.toList_map,Array.toList_zip]
   have e:∀ l:List Value,(l.zip l).map (·.2)=l:=fun l=>by
    induction l with
    | nil=>rfl
    | cons x l ih=>rw [List.zip_cons_cons,List.map_cons,ih]
   show (vs.zip vs).map (·.2)=(List.range vs.length).map fun i=>vs.getD i Value.none
   rw [e]
   apply List.ext_getElem?
   intro i
   by_cases hi:i<vs.length
   ·simp [hi]
   ·simp [List.getElem?_eq_none,hi,Nat.le_of_not_lt hi]
  ·rcases (show vs.length=0∨vs.length=1 by lia) with e | e
   ·rw [e]; exact .nil
   ·rw [e]; exact List.pairwise_singleton _ _
end
end L2
namespace L2
open PySem PySem.Spec PyProof.Rows PySem.W
noncomputable def knd:V→Nat | .int _=>1 | .str _=>2 | _=>0
noncomputable def ltF:V→V→Bool | .int a,.int b=>decide (a<b) | .str a,.str b=>decide (a.cps.toList<b.cps.toList) | _,_=>false
noncomputable def eqF:V→V→Bool | .int a,.int b=>a == b | .str a,.str b=>decide (a=b) | _,_=>false
section
variable {prog:Program}{w:World}{A:Around}{E:Value→Shared→Prop}{s:Shared}{Q:Bool→Shared→Prop}
theorem zeZ_ {x:V}(h:knd x≠0):(∃ i,x=.int i)∨∃ z,x=.str z:=by
 cases x<;>first | exact .inl ⟨_,rfl⟩ | exact .inr ⟨_,rfl⟩ | exact absurd rfl h
theorem zod_ {x y:V}{u v:Value}{b:Bool}(hx:RelV x u) (hy:RelV y v) (hk:knd x=knd y) (h0:knd x≠0) (q:Q (ltF x y) s):wpAny (model prog w) A (oneLt' b u v) Q E s:=by
 rcases zeZ_ h0 with ⟨i,rfl⟩ | ⟨z,rfl⟩
 ·rcases zeZ_ (x:=y) (fun e=>h0 (hk.trans e)) with ⟨j,rfl⟩ | ⟨z,rfl⟩
  ·obtain ⟨t,rfl⟩:=hx
   obtain ⟨t',rfl⟩:=hy
   cases b with
   | true=>exact oneLt_int q
   | false=>exact kat_one _ _ (PyProof.Rows.lt_int q)
  ·cases hk
 ·rcases zeZ_ (x:=y) (fun e=>h0 (hk.trans e)) with ⟨j,rfl⟩ | ⟨z',rfl⟩
  ·cases hk
  ·obtain ⟨t,rfl⟩:=hx
   obtain ⟨t',rfl⟩:=hy
   cases b with
   | true=>exact oneLt_str q
   | false=>exact kat_one _ _ (PyProof.Rows.lt_str q)
end
noncomputable def tyK (k:Nat):Value:=if k=1 then .type "int" else .type "str"
theorem zpj_ {M:Model}{h:Heap}{x:V}{u:Value}{k:Nat}(r:RelV x u) (hk:knd x=k) (h0:k≠0):Looks M h (typeOf u) (tyK k):=by
 subst hk
 rcases zeZ_ h0 with ⟨i,rfl⟩ | ⟨z,rfl⟩
 ·obtain ⟨t,rfl⟩:=r
  exact .now
 ·obtain ⟨t,rfl⟩:=r
  exact .now
theorem zqH_ (k:Nat):(tyK k != Value.type "tuple")=true:=by unfold tyK; split<;>decide +kernel
theorem zp6_ (k:Nat):(tyK k == tyK k)=true:=by unfold tyK; split<;>decide +kernel
theorem ze7_ {ys:List V}{us:List Value}(r:Vals ys us) {i:Nat}(h:i<us.length):∃ y,ys[i]?=some y∧RelV y (us.getD i Value.none)∧y∈ys:=by
 have hl:=Vals.length r
 have e:ys[i]?=some ys[i]:=List.getElem?_eq_getElem (by omega)
 obtain ⟨u,eu,ru⟩:=Vals.get r e
 refine ⟨_,e,?_,List.getElem_mem _⟩
 rw [List.getD_eq_getElem?_getD,eu]
 exact ru
theorem zkb_ {ys:List V}{us:List Value}(r:Vals ys us):∀ (idx:List Nat),(∀ i∈idx,i<us.length)→Vals (idx.map fun i=>ys.getD i .non) (idx.map fun i=>us.getD i Value.none)
 | [],_=>.nil
 | i::idx,h=>by
  obtain ⟨y,e,ry,_⟩:=ze7_ r (h i (List.mem_cons_self ..))
  refine .cons ?_ (zkb_ r idx fun j hj=>h j (List.mem_cons_of_mem _ hj))
  show RelV (ys.getD i V.non) _
  rw [List.getD_eq_getElem?_getD,e]
  exact ry
section
variable {X:Cx}
end
end L2
namespace L2
open PySem PySem.Spec PyProof.Rows PySem.W
section
variable {α β:Type}
structure LOr (lt:α→α→Bool):Prop where
 asym:∀ {a b},lt a b=true→lt b a=false
 tr:∀ {a b c},lt b a=false→lt c b=false→lt c a=false
 anti:∀ {a b},lt a b=false→lt b a=false→a=b
noncomputable def srtL (lt:α→α→Bool) (xs:List α):List α:=xs.mergeSort (fun a b=>!lt b a)
theorem zeX_ (lt:α→α→Bool) (xs:List α):(srtL lt xs).Perm xs:=List.mergeSort_perm _ _
theorem zi0_ {lt:α→α→Bool}(o:LOr lt) (xs:List α):(srtL lt xs).Pairwise fun a b=>lt b a=false:=by
 have:=List.pairwise_mergeSort (le:=fun a b=>!lt b a) (fun a b c h1 h2=>by simp only [Bool.not_eq_true'] at *; exact o.tr h1 h2) (fun a b=>by
  cases h:lt b a with
  | false=>simp
  | true=>simp [o.asym h]) xs
 exact this.imp (fun h=>by simpa using h)
theorem zjx_ {lt:α→α→Bool}(o:LOr lt):∀ {ws ys:List α},ws.Perm ys→ws.Pairwise (fun a b=>lt b a=false)→ys.Pairwise (fun a b=>lt b a=false)→ws=ys
 | [],ys,hp,_,_=>by rw [List.Perm.nil_eq hp]
 | w::ws,[],hp,_,_=>by have:=hp.length_eq; simp at this
 | w::ws,y::ys,hp,h1,h2=>by
  obtain ⟨a1,a2⟩:=List.pairwise_cons.mp h1
  obtain ⟨b1,b2⟩:=List.pairwise_cons.mp h2
  have e:w=y:=by
   have m1:w∈y::ys:=hp.mem_iff.mp (List.mem_cons_self ..)
   have m2:y∈w::ws:=hp.mem_iff.mpr (List.mem_cons_self ..)
   rcases List.mem_cons.mp m1 with e | m1
   ·exact e
   ·rcases List.mem_cons.mp m2 with e | m2
    ·exact e.symm
    ·exact o.anti (b1 w m1) (a1 y m2)
  subst e
  rw [zjx_ o (List.Perm.cons_inv hp) a2 b2]
theorem zlH_ {lt:α→α→Bool}(o:LOr lt) {ws xs:List α}(hp:ws.Perm xs) (hs:ws.Pairwise fun a b=>lt b a=false):ws=srtL lt xs :=
 zjx_ o (hp.trans (zeX_ lt xs).symm) hs (zi0_ o xs)
noncomputable def ltI (a b:Int):Bool:=decide (a<b)
theorem zqW_:LOr ltI:=by
 unfold ltI
 refine ⟨fun h=>?_,fun h h'=>?_,fun h h'=>?_⟩<;>simp only [decide_eq_true_eq,decide_eq_false_iff_not] at*<;> lia
end
end L2
namespace L2
open PySem PySem.Spec PyProof.Rows PySem.W
section
variable {α β γ:Type}{K:Fgg}{E:XK}
noncomputable def FlT (T:Ty α) (k:Nat) (lt:α→α→Bool):Prop:=k≠0∧∀ a v F,T.R a v F→knd v=k∧∀ b u F',T.R b u F'→ltF v u=lt a b∧(eqF v u=true↔a=b)
theorem zqE_:FlT tyInt 1 ltI:=by
 refine ⟨by decide,fun a v F h=>?_⟩
 subst h
 refine ⟨rfl,fun b u F' h'=>?_⟩
 subst h'
 exact ⟨rfl,by simp [eqF]⟩
theorem zjf_ {T:Ty α}{H:Hp}:∀ {xs:List α}{vs:List V},Prs T H xs vs→∀ (i:Nat) (v:V),vs[i]?=some v→∃ x,xs[i]?=some x∧T.R x v H
 | _,_,.nil,i,v,e=>by simp at e
 | _,_,.cons a t,0,v,e=>by simp at e; subst e; exact ⟨_,rfl,a⟩
 | _,_,.cons a t,i+1,v,e=>zjf_ t i v (by simpa using e)
theorem zmt_ {T:Ty α}{H:Hp}{xs:List α}{vs:List V}(r:Prs T H xs vs) (d:α):∀ (idx:List Nat),(∀ i∈idx,i<vs.length)→Prs T H (idx.map fun i=>xs.getD i d) (idx.map fun i=>vs.getD i .non)
 | [],_=>.nil
 | i::idx,h=>by
  have hi:=h i (List.mem_cons_self ..)
  obtain ⟨x,e,rx⟩:=zjf_ r i vs[i] (List.getElem?_eq_getElem hi)
  refine .cons ?_ (zmt_ r d idx fun j hj=>h j (List.mem_cons_of_mem _ hj))
  show T.R (xs.getD i d) (vs.getD i .non) H
  rw [List.getD_eq_getElem?_getD,List.getD_eq_getElem?_getD,e,List.getElem?_eq_getElem hi]
  exact rx
theorem zjy_ {lt:α→α→Bool}(o:LOr lt) {xs:List α}{d:α}{idx:List Nat}(h:Srtd (fun i j=>lt (xs.getD i d) (xs.getD j d)) xs.length idx):(idx.map fun i=>xs.getD i d)=srtL lt xs:=by
 refine zlH_ o ?_ ?_
 ·have e:(List.range xs.length).map (fun i=>xs.getD i d)=xs:=by
   apply List.ext_getElem?
   intro i
   by_cases hi:i<xs.length
   ·simp [hi]
   ·simp [List.getElem?_eq_none,hi,Nat.le_of_not_lt hi]
  have:=h.1.map (fun i=>xs.getD i d)
  rwa [e] at this
 ·exact List.pairwise_map.mpr (h.2.imp fun q=>q)
theorem zp7_ {lt:α→α→Bool}(o:LOr lt) (f:Nat→α):WOr fun i j=>lt (f i) (f j):=⟨fun h=>o.asym h,fun h h'=>o.tr h h'⟩
end
end L2
universe u
namespace L2
open PySem PySem.Spec PyProof.Rows
section
variable {α γ:Type}{K:Fgg}{E:XK}{L:List Sl}{T:Ty α}{e:TE}
end
noncomputable abbrev owLp {α:Type}(p:Addr) (T:Ty α):Own (List α):=⟨fun xs v F h=>v=.ref p∧∃ vs,h=one p (.lst vs)∧Prs T F xs vs,tyL T,fun g ⟨e,vs,z,q⟩=>⟨e,vs,z,q.mono g⟩,
 fun d ⟨e,vs,z,q⟩=>⟨p,vs,e,zhb_ d _ _ (by rw [z]; exact zbU_),q.mono zbW_⟩,
 fun ⟨e,vs,z,q⟩ b xs y=>by rw [z] at y; unfold one at y; split at y<;>cases y⟩
section
variable {α:Type}{K:Fgg}{E:XK}{L:List Sl}{T:Ty α}{F h H F0 H0:Hp}{ρ B S:Type}{LS:S→List Sl}{LB:B→List Sl}{O:Own ρ}
theorem zl0_ {α:Type u}{l:List α}{i:Nat}{o:α}(h:l[i]?=some o):l.set i o=l:=by
 apply List.ext_getElem?
 intro j
 rw [List.getElem?_set]
 have hlt:=(List.getElem?_eq_some_iff.mp h).1
 by_cases e:i=j
 ·subst e; rw [if_pos rfl,if_pos hlt,h]
 ·rw [if_neg e]
theorem zmT_ {i:Nat}{σ:St}{xs:List α}(hL:Hold L σ F h) (hi:L[i]?=some (.ow (owL T) xs)):∃ p,Hold (L.set i (.ow (owLp p T) xs)) σ F h:=by
 obtain ⟨o,h1,h2,e1,j,⟨v,e2,p,vs,rfl,z,hr⟩,f⟩:=hL.at i hi
 subst e2
 have g:=f (.ow (owLp p T) xs) (some (.ref p)) h1 _ j ⟨_,rfl,rfl,vs,z,hr⟩
 rw [zbT_ e1] at g
 exact ⟨p,g⟩
theorem zgU_ {p:Addr}{i:Nat}{σ:St}{xs:List α}(hi:L[i]?=some (.ow (owL T) xs)) (hL:Hold (L.set i (.ow (owLp p T) xs)) σ F h):Hold L σ F h:=by
 have hlt:=(List.getElem?_eq_some_iff.mp hi).1
 obtain ⟨o,h1,h2,e1,j,⟨v,e2,rfl,vs,z,hr⟩,f⟩:=hL.at i (s:=.ow (owLp p T) xs) (by rw [List.getElem?_set_self hlt])
 subst e2
 have g:=f (.ow (owL T) xs) (some (.ref p)) h1 _ j ⟨_,rfl,p,vs,rfl,z,hr⟩
 rw [List.set_set,zbT_ e1,zl0_ hi] at g
 exact g
theorem zji_ {p:Addr}{i:Nat}{σ:St}{xs:List α}(hi:L[i]?=some (.ow (owL T) xs)) (hL:Hold (L.set i (.ow (owLp p T) xs)) σ F h) (ok:Okk F0 H0 F h H):σ[i]?=some (some (.ref p))∧∃ vs,H p=some (.lst vs)∧Prs T F xs vs:=by
 have hlt:=(List.getElem?_eq_some_iff.mp hi).1
 obtain ⟨o,h1,h2,e1,j,⟨v,e2,rfl,vs,z,hr⟩,f⟩:=hL.at i (s:=.ow (owLp p T) xs) (by rw [List.getElem?_set_self hlt])
 subst e2
 exact ⟨e1,vs,ok.2.2.1 _ _ (j.l _ _ (by rw [z]; exact zbU_)),hr⟩
theorem zqa_ {i0:Nat}{xs:List α}{g:TG}{tb:TS}{s0:S}{ss:α→List (Nat×Sl)}{step:S→α→Mo (Out ρ S S)}{LSp:Addr→S→List Sl}(h0:∀ s,(LS s)[i0]?=some (.ow (owL T) xs)) (hp:∀ p s,LSp p s=(LS s).set i0 (.ow (owLp p T) xs))
  (hg:TgR K g T ss) (hb:∀ p s a,EvS K tb E (setL (LSp p s) (ss a)) (step s a) (LSp p) (LSp p) O):EvS K (tFor (iAny K (mVar i0)) g tb) E (LS s0) (forO step xs s0) LS LB O:=by
 intro F0 H0 σ F h H D hL ok fin
 obtain ⟨p,hLp⟩:=zmT_ hL (h0 s0)
 rw [← hp p s0] at hLp
 have look:∀ {s σ F h H F1},Hold (LSp p s) σ F h→Okk F1 H0 F h H→σ[i0]?=some (some (.ref p))∧∃ vs,H p=some (.lst vs)∧Prs T F xs vs:=fun {s σ F h H F1} a b=>zji_ (h0 s) (by rw [← hp]; exact a) b
 obtain ⟨e1,vs,e2,e3⟩:=look hLp ok
 unfold tFor iAny
 refine zdr_ e1 ?_
 refine Or.inl ⟨⟨vs,.of e2⟩,?_⟩
 refine ⟨fun i m σ H=>m=xs.length-i∧i≤xs.length∧∃ s F h,Hold (LSp p s) σ F h∧Okk F0 H0 F h H∧Fin K (forO (B:=B) step (xs.drop i) s) E LS LB O F0 H0 D,⟨_,rfl,Nat.zero_le _,s0,F,h,hLp,ok,fin⟩,?_⟩
 rintro i m σ H ⟨rfl,hi,s,F,h,hL,ok,fin⟩
 obtain ⟨_,us,u1,u2⟩:=look hL ok
 by_cases hlt:i<xs.length
 ·right
  have hlu:=Paired.length u2
  obtain ⟨x,ex,rx⟩:=zjf_ u2 i us[i] (List.getElem?_eq_getElem (by omega))
  rw [List.getElem?_eq_getElem hlt] at ex
  injection ex with ex
  refine ⟨⟨us,us[i],.of u1,List.getElem?_eq_getElem (by omega)⟩,fun σ' H'=>i+1≤xs.length∧∃ s F h,Hold (LSp p s) σ' F h∧Okk F0 H0 F h H'∧Fin K (forO (B:=B) step (xs.drop (i+1)) s) E LS LB O F0 H0 D,fun σ' H' z=>⟨xs.length-(i+1),by omega,rfl,z⟩,fun v H2 hy=>?_⟩
  obtain ⟨rfl,z⟩:=hy
  have ev:=z us (.of u1)
  rw [List.getElem?_eq_getElem (by omega)] at ev
  injection ev with ev
  subst ev
  refine hg xs[i] _ σ F H2 _ ok.1.2.1 (by rw [ex]; exact rx) fun vs hpl=>?_
  refine hb p s xs[i] F0 H0 _ F h H2 _ (zfH_ hpl hL) ok ?_
  rw [List.drop_eq_getElem_cons hlt] at fin
  unfold forO at fin
  cases e:step s xs[i] with
  | no=>rw [e] at fin; exact fin
  | ex c=>rw [e] at fin; exact fin
  | ok o =>
   rw [e] at fin
   cases o with
   | nx s'=>exact fun σ' F' h' H' hL' ok'=>⟨hlt,s',F',h',hL',ok',fin⟩
   | ct s'=>exact fun σ' F' h' H' hL' ok'=>⟨hlt,s',F',h',hL',ok',fin⟩
   | bk s'=>exact fun σ' F' h' H' hL' ok'=>fin σ' F' h' H' (zgU_ (h0 s') (by rw [← hp]; exact hL')) ok'
   | rt a=>exact fin
 ·left
  have e:i=xs.length:=by omega
  subst e
  rw [List.drop_length] at fin
  exact ⟨⟨us,.of u1,by rw [Paired.length u2]; exact Nat.le_refl _⟩,fin σ F h H (zgU_ (h0 s) (by rw [← hp]; exact hL)) ok⟩
end
end L2
namespace L2
open PySem PySem.Spec PyProof.Rows PySem.W
section
variable {prog:Program}{w:World}{A:Around}{E:Value→Shared→Prop}{s:Shared}{T:String}{rr dd:Addr}{n:Nat}{PP:Nat→Value→Prop}{OK:Heap→Prop}
theorem znD_ {R:List Value→Shared→Prop}(Kd:KdlSrc prog w T rr dd n PP OK) (hh:A.handled=none) (hok:OK s.heap) (hn:n≤sizeLine)
  (hR:∀ (h':Heap) (tk:Nat) (acc:Array Value),s.heap.objs.size<h'.objs.size→(∀ b o,s.heap.get? b=some o→h'.get? b=some o)→ItemsOf PP acc n→R acc.toList { s with heap:=h',toks:=tk }) :
  wpAny (model prog w) A (collect (.ref rr)) R E s:=by
 obtain ⟨lr,ld⟩:=Kd.there _ hok
 unfold collect; refine wpAny_bind (wpAny_runValue (codeAny_builtin entry_proto_collect' ?_)); rw [Around.under_plainId PySem.F.plain_proto_collect _]
 show wpAny _ A.in1 (newList []>>=fun l=>again (.builtin "list.__iadd__" ⟨[l,.ref rr],[]⟩)) _ _ s; refine wpAny_bind (wpAny_newObj_type ?_)
 refine wpAny_pure ⟨plainId_quiet PySem.F.plain_list_iadd _,codeAny_builtin entry_list_iadd' ?_⟩; rw [Around.under_plainId PySem.F.plain_list_iadd _]
 have h0:(s.heap.push { cls:=.type "list",data:=.seq ([]:List Value).toArray }).get? s.heap.objs.size=some { cls:=.type "list",data:=.seq #[] }:=Heap.get?_push_size _ rfl
 show wpAny _ A.in1 (Builtin.List.listExtendWith (.ref s.heap.objs.size) (.ref rr) (.ref s.heap.objs.size)) _ _ _
 have key:=kdl_extend (A:=A) (s:={ s with heap:=s.heap.push { cls:=.type "list",data:=.seq ([]:List Value).toArray } })
  (R:=fun (q:Result) (s':Shared)=>∃ (h':Heap) (tk:Nat) (acc:Array Value) (c:Nat),q=.ok (.ret (.ref s.heap.objs.size))∧s'={ s with heap:=h',toks:=tk }∧(∀ b o,s.heap.get? b=some o→h'.get? b=some o)∧h'.get? s.heap.objs.size=some { cls:=.type "list",dict:=none,data:=.seq acc c,slots:=#[] }∧ItemsOf PP acc n)
  Kd hh (Kd.keep _ _ hok fun b _ o e=>Heap.get?_push_of_some _ e) s.heap.objs.size (Nat.ne_of_gt lr) (Nat.ne_of_gt ld) (.ref s.heap.objs.size) 0 h0
  (fun h' tk acc c hk hS hacc=>⟨h',tk,acc,c,rfl,rfl,fun b o e=>hk b o (Nat.ne_of_lt (Heap.lt_size e)) (Heap.get?_push_of_some _ e),hS,hacc⟩) hn
 refine wpAny_mono key (fun fin s' x=>?_) fun e s' x=>?_
 ·cases fin with
  | done f =>
   obtain ⟨h',tk,acc,c,e,rfl,hk,hS,hacc⟩:=x
   cases e; show wpAny _ A (load s.heap.objs.size>>=_) _ _ _
   exact wpAny_bind (wpAny_load hS (wpAny_pure (hR h' tk acc (Heap.lt_size hS) hk hacc)))
  | again c1 =>
   refine ⟨x.1,codeAny_mono x.2 fun q s2 y=>?_⟩; obtain ⟨h',tk,acc,c,rfl,rfl,hk,hS,hacc⟩:=y
   show wpAny _ A (load s.heap.objs.size>>=_) _ _ _; exact wpAny_bind (wpAny_load hS (wpAny_pure (hR h' tk acc (Heap.lt_size hS) hk hacc)))
 ·obtain ⟨_,_,_,_,e',_⟩:=x; cases e'
end
section
variable {prog:Program}{w:World}{A:Around}{E:Value→Shared→Prop}{s:Shared}{lt:Nat→Nat→Bool}
theorem zlx_ {v:Value}{n:Nat}{PV:List Value→Prop}{Q:Value→Shared→Prop}(h64:n<64) (wo:WOr lt) (hlen:∀ vs,PV vs→vs.length=n)
  (col:∀ R:List Value→Shared→Prop,(∀ (vs:List Value) (h':Heap) (tk:Nat),PV vs→s.heap.objs.size≤h'.objs.size→(∀ b o,s.heap.get? b=some o→h'.get? b=some o)→R vs { s with heap:=h',toks:=tk })→wpAny (model prog w) A.in1 (collect v) R E s)
  (kk:∀ (vs:List Value),PV vs→2≤vs.length→∀ (h':Heap) (tk:Nat),(∀ b o,s.heap.get? b=some o→h'.get? b=some o)→CmpAt prog w vs lt { s with heap:=h',toks:=tk })
  (q:∀ (vs:List Value) (l:Addr) (h':Heap) (tk:Nat) c (p:List Nat),PV vs→s.heap.objs.size≤l→(∀ b o,s.heap.get? b=some o→h'.get? b=some o)→Srtd lt vs.length p→h'.get? l=some (seqObj "list" (p.map fun i=>vs.getD i Value.none).toArray c)→Q (.ref l) { s with heap:=h',toks:=tk }) :
  wpAny (model prog w) A (call (.builtin "sorted") [v]) Q E s:=by
 refine Calls.call_function_entry kind_sorted plain_sorted entry_sorted (args_sorted1 _) ?_
 unfold Builtin.«sorted»
 refine wpAny_bind (m:=checkCount "sorted" 1 1 _) (wpAny_pure ?_)
 refine wpAny_bind (col _ fun vs h1 tk pv hle k1=>?_)
 have hn:=hlen vs pv
 refine wpAny_bind (wpAny_newList ?_ (by rw [sizeLine_eq]; lia))
 have hoL:(h1.push (seqObj "list" vs.toArray 0)).get? h1.objs.size=some (seqObj "list" vs.toArray 0):=Heap.get?_push_size _ rfl
 have keep:∀ b o,s.heap.get? b=some o→(h1.push (seqObj "list" vs.toArray 0)).get? b=some o:=fun b o e=>Heap.get?_push_of_some _ (k1 b o e)
 show wpAny _ _ _ _ _ { s with heap:=h1.push (seqObj "list" vs.toArray 0),toks:=tk }
 have keep2:∀ (h':Heap),(∀ b o,b≠h1.objs.size→(h1.push (seqObj "list" vs.toArray 0)).get? b=some o→h'.get? b=some o)→∀ b o,s.heap.get? b=some o→h'.get? b=some o:=fun h' hk b o e =>
  hk b o (Nat.ne_of_lt (Heap.lt_size (k1 b o e))) (keep b o e)
 refine wpAny_bind (wpAny_holding (wpAny_call_entry slot_list_sort ⟨_,hoL,rfl⟩ entry_list_sort ?body (args_list_sort _)))
 case body =>
  refine zmB_ (s:={ s with heap:=h1.push (seqObj "list" vs.toArray 0),toks:=tk }) hoL (by lia) wo (fun h2 h' hk=>kk vs pv h2 h' tk (keep2 h' hk)) fun h' c p hk hp ho'=>?_
  exact ⟨_,rfl,wpAny_pure ⟨_,rfl,q vs _ h' tk c p pv hle (keep2 h' hk) hp ho'⟩⟩
end
section
variable {X:Cx}
theorem zmD_ {ys:List V}{its:List Value}{lt:Nat→Nat→Bool}{k:Nat}{s:Shared}(r':Vals ys its) (hk:k≠0) (hall:∀ y∈ys,knd y=k) (hlt:∀ i j x y,ys[i]?=some x→ys[j]?=some y→lt i j=ltF x y) (h2:2≤its.length) :
  CmpAt X.prog X.w its lt s:=by
 refine ⟨oneType',fun A C hC=>?_,fun A i j C hi hj hC=>?_⟩
 ·refine kas_kind h2 (T:=tyK k) (fun v hv=>?_) (zqH_ k) (zp6_ k) hC
  obtain ⟨i,hi⟩:=List.mem_iff_getElem?.mp hv
  obtain ⟨hi',_⟩:=List.getElem?_eq_some_iff.mp hi
  obtain ⟨y,_,ry,hy⟩:=ze7_ r' hi'
  rw [List.getD_eq_getElem?_getD,hi] at ry
  exact zpj_ ry (hall y hy) hk
 ·obtain ⟨x,ex,rx,hx⟩:=ze7_ r' hi
  obtain ⟨y,ey,ry,hy⟩:=ze7_ r' hj
  rw [hlt i j x y ex ey] at hC
  unfold kas_ask
  rw [keyLt'_oneType]
  exact zod_ rx ry (by rw [hall x hx,hall y hy]) (by rw [hall x hx]; exact hk) hC
theorem is_kV {P:Program}{w:World}{k:Key}{u:Value}(h:(mixKind P w).is k u=true):RelV (kV k) u:=by
 rw [zkw_] at h
 rcases zaW_ h with ⟨i,t,rfl,rfl⟩ | ⟨x,t,rfl,rfl⟩<;>exact ⟨_,rfl⟩
end
section
variable {α β γ κ:Type}{K:Fgg}{E:XK}
theorem zqr_ (x:Int) (F:Hp):(kInt).T.R x (kV (kInt.key x)) F:=rfl
end
end L2
namespace L2
open PySem PySem.Spec PyProof.Rows PySem.W
section
variable {prog:Program}{w:World}{A:Around}{E:Value→Shared→Prop}{s:Shared}{z ti to i j:Addr}{f g:List Addr}{n1 n2 k:Nat}{P1 P2:Nat→Value→Prop}{S1 S2:Nat→Heap→Prop}{a b:Value}
end
end L2
namespace L2
open PySem PySem.Spec PyProof.Rows PySem.W
section
variable {prog:Program}{w:World}{A:Around}{E:Value→Shared→Prop}{s:Shared}
end
section
variable {X:Cx}{elts:List Expr}{kk:Nat}{tpos:Pos}
end
section
variable {K:Fgg}{E:XK}{α β:Type}{L:List Sl}{T:Ty α}
end
end L2
namespace L2
open PySem PySem.Spec PyProof.Rows
section
variable {K:Fgg}{E:XK}{α β γ ρ S B:Type}{F0 H0 F h H:Hp}{L:List Sl}{e:TE}{T:Ty α}{r:Mo α}{O:Own ρ}{u:TS}{LS:S→List Sl}{LB:B→List Sl}
theorem Hold.atM:∀ {L:List Sl}{σ:St}{F h:Hp}(i:Nat) {s:Sl},Hold L σ F h→L[i]?=some s →
  ∃ o h1 h2,σ[i]?=some o∧Jn h1 h2 h∧s.P o F h1∧∀ F' s' o' h1' h',Same F F'→Jn h1' h2 h'→s'.P o' F' h1'→Hold (L.set i s') (σ.set i o') F' h'
 | [],_,_,_,_,_,_,e=>by cases e
 | s::L,[],_,_,_,_,q,_=>q.elim
 | s::L,o::σ,F,h,0,t,⟨h1,h2,j,p,r⟩,e=>by
  cases e
  exact ⟨o,h1,h2,rfl,j,p,fun F' s' o' h1' h' g j' p'=>⟨h1',h2,j',p',r.mono g⟩⟩
 | s::L,o::σ,F,h,i+1,t,⟨h1,h2,j,p,r⟩,e=>by
  obtain ⟨o1,k1,k2,e1,j1,p1,f⟩:=Hold.atM i r (by simpa using e)
  have d1:Dj h1 k1:=fun p=>by
   rcases j.dj p with a | a
   ·exact .inl a
   ·exact .inr (j1.l.free a)
  have d2:Dj h1 k2:=fun p=>by
   rcases j.dj p with a | a
   ·exact .inl a
   ·exact .inr (j1.r.free a)
  refine ⟨o1,k1,un h1 k2,by simpa using e1,fun p=>?_,p1,fun F' s' o' k1' h' g j' p'=>?_⟩
  ·rcases j p with ⟨a,b⟩ | ⟨a,b⟩
   ·rcases j1 p with ⟨c,d⟩ | ⟨c,d⟩
    ·refine .inl ⟨c,?_⟩; unfold un; rw [a,b,d]
    ·refine .inr ⟨?_,by rw [b,d]⟩; unfold un; rw [a,c]
   ·refine .inl ⟨j1.l.free a,?_⟩
    have:k2 p=none:=j1.r.free a
    unfold un; rw [b]
    cases h1 p with
    | none=>rw [this]
    | some u=>rfl
  ·have dd:Dj k1' k2:=fun p=>by
    rcases j' p with ⟨a,b⟩ | ⟨a,b⟩
    ·exact .inl a
    ·right; unfold un at a
     cases z:h1 p with
     | none=>rw [z] at a; exact a
     | some u=>rw [z] at a; cases a
   refine ⟨h1,un k1' k2,fun p=>?_,p.mono g,f F' s' o' k1' _ g (zep_ dd) p'⟩
   rcases j' p with ⟨a,b⟩ | ⟨a,b⟩
   ·unfold un at b ⊢
    cases z:h1 p with
    | none=>rw [z] at b; exact .inl ⟨rfl,by rw [b,a]⟩
    | some u =>
     rw [z] at b
     refine .inr ⟨?_,b⟩
     rw [a]
     rcases d2 p with y | y
     ·rw [y] at z; cases z
     ·exact y
   ·unfold un at a
    cases z:h1 p with
    | some u=>rw [z] at a; cases a
    | none =>
     rw [z] at a
     refine .inl ⟨rfl,?_⟩
     unfold un; rw [b]
     cases k1' p with
     | none=>exact a.symm
     | some u=>rfl
structure PutC (F2 H2 h H0 k k' F3 H3:Hp):Prop where
 ff:Same F2 F3
 fh:Same F3 H3
 ol:Same (less H2 k) H3
 nw:∀ q,F2 q=none→F3 q≠none→H2 q=none∨k q≠none
 kh:Same k' H3
 dj:Dj F3 k'
 fr:∀ q,k q=none→k' q≠none→h q=none∧H0 q=none
theorem zhG_ {O1:Own α}{i:Nat}{σ:St}{x:α}(hL:Hold L σ F h) (hi:L[i]?=some (.ow O1 x)) (ok:Okk F0 H0 F h H) :
  ∃ v k,σ[i]?=some (some v)∧O1.O x v F k∧Same k H∧Same k h∧Dj F k∧∀ {β:Type}(O2:Own β) (x':β) (v':V) (k' F3 H3:Hp),PutC F H h H0 k k' F3 H3→O2.O x' v' F3 k' →
   ∃ h',Hold (L.set i (.ow O2 x')) (σ.set i (some v')) F3 h'∧Okk F0 H0 F3 h' H3:=by
 obtain ⟨o,k,hr,e1,j,⟨v,e2,ho⟩,f⟩:=hL.atM i hi
 subst e2
 obtain ⟨o1,o2,o3,o4,o5⟩:=ok
 have kh:Same k h:=j.l
 have rh:Same hr h:=j.r
 have kne:∀ q,k q≠none→h q≠none:=fun q z w=>z (kh.free w)
 refine ⟨v,k,e1,ho,kh.trans o3,kh,fun q=>?_,?_⟩
 ·rcases o2 q with z | z
  ·exact .inl z
  ·exact .inr (kh.free z)
 intro β O2 x' v' k' F3 H3 P hv'
 have rk:∀ {q o},hr q=some o→k q=none:=fun {q o} z=>by
  rcases j.dj q with y | y
  ·exact y
  ·rw [y] at z; cases z
 have dj:Dj k' hr:=fun q=>by
  by_cases w:k' q=none
  ·exact .inl w
  ·right
   by_cases w2:k q=none
   ·exact rh.free (P.fr q w2 w).1
   ·rcases j.dj q with y | y
    ·exact absurd y w2
    ·exact y
 have rH:∀ {q o},hr q=some o→H3 q=some o:=fun {q o} z=>P.ol q o (by rw [zV_ (rk z)]; exact o3 _ _ (rh _ _ z))
 refine ⟨un k' hr,f F3 (.ow O2 x') (some v') k' _ P.ff (zep_ dj) ⟨_,rfl,hv'⟩,⟨o1.1.trans P.ff,P.fh,fun q o z=>?_,fun q a b=>?_⟩,fun q=>?_,fun q o z=>?_,fun q z=>?_,fun q xs z=>?_⟩
 ·have hq:h q=none:=by
   cases w:h q with
   | none=>rfl
   | some s=>have:=o4 q (by rw [w]; exact Option.some_ne_none _); rw [this] at z; cases z
  exact P.ol q o (by rw [zV_ (kh.free hq)]; exact o1.2.2.1 _ _ z)
 ·by_cases w:F q=none
  ·rcases P.nw q w b with y | y
   ·exact o1.2.2.1.free y
   ·exact o4 q (kne q y)
  ·exact o1.2.2.2 q a w
 ·unfold un
  cases w:k' q with
  | some s =>
   left
   rcases P.dj q with y | y
   ·exact y
   ·rw [y] at w; cases w
  | none =>
   cases y:hr q with
   | none=>exact .inr rfl
   | some s =>
    left
    have hq:h q=some s:=rh _ _ y
    have Fq:F q=none:=by
     rcases o2 q with d | d
     ·exact d
     ·rw [d] at hq; cases hq
    by_cases w3:F3 q=none
    ·exact w3
    ·rcases P.nw q Fq w3 with d | d
     ·rw [o3 _ _ hq] at d; cases d
     ·exact absurd (rk y) d
 ·unfold un at z
  cases w:k' q with
  | some s=>rw [w] at z; rw [P.kh q s w]; exact z
  | none=>rw [w] at z; exact rH z
 ·unfold un at z
  cases w:k' q with
  | some s =>
   by_cases y:k q=none
   ·exact (P.fr q y (by rw [w]; exact Option.some_ne_none _)).2
   ·exact o4 q (kne q y)
  | none =>
   rw [w] at z
   exact o4 q fun y=>z (rh.free y)
 ·unfold un at z
  cases w:k' q with
  | some s=>rw [w] at z; refine O2.notup hv' q xs ?_; rw [w]; exact z
  | none=>rw [w] at z; exact o5 q xs (rh _ _ z)
theorem PutC.same {k k':Hp}{H3:Hp}(ok:Okk F0 H0 F h H) (kh:Same k h) (a:Same k' H3) (b:∀ q,k q=none→k' q=none→H3 q=H q) (c:∀ q,k q=none→k' q≠none→F q=none∧h q=none∧H0 q=none∧H q=k' q):PutC F H h H0 k k' F H3:=by
 have dj:Dj F k':=fun q=>by
  by_cases w:k' q=none
  ·exact .inr w
  ·left
   by_cases y:k q=none
   ·exact (c q y w).1
   ·rcases ok.2.1 q with d | d
    ·exact d
    ·exact absurd (kh.free d) y
 have ol:∀ q o,k q=none→H q=some o→H3 q=some o:=fun q o y z=>by
  by_cases w:k' q=none
  ·rw [b q y w]; exact z
  ·obtain ⟨_,_,_,e⟩:=c q y w
   rw [z] at e
   exact a _ _ e.symm
 refine ⟨Same.refl _,fun q o z=>?_,fun q o z=>?_,fun q y z=>absurd y z,a,dj,fun q y z=>⟨(c q y z).2.1,(c q y z).2.2.1⟩⟩
 ·have y:k q=none:=by
   rcases ok.2.1 q with d | d
   ·rw [d] at z; cases z
   ·exact kh.free d
  exact ol q o y (ok.1.2.1 _ _ z)
 ·unfold less at z
  split at z
  ·rename_i y; exact ol q o y z
  ·cases z
theorem PutC.one {p:Addr}{o o':HO}(ok:Okk F0 H0 F h H) (kh:Same (one p o) h):PutC F H h H0 (one p o) (one p o') F (upd H p o'):=by
 have ne:∀ q,L2.one p o q=none→q≠p:=fun q z w=>by rw [w,zbU_] at z; cases z
 refine PutC.same ok kh (fun q s z=>?_) (fun q z1 z2=>zbk_ (ne q z1)) fun q z1 z2=>?_
 ·unfold L2.one at z
  split at z
  ·rename_i w; unfold upd; rw [if_pos w]; exact z
  ·cases z
 ·unfold L2.one at z2
  rw [if_neg (ne q z1)] at z2
  exact absurd rfl z2
end
section
variable {K:Fgg}{E:XK}{α β γ ρ S B:Type}{F0 H0 F h H:Hp}{L:List Sl}{e:TE}{T:Ty α}{r:Mo α}{O:Own ρ}{u:TS}{LS:S→List Sl}{LB:B→List Sl}{p:Addr}{vs:List V}
end
end L2
namespace L2
open PySem PySem.Spec PyProof.Rows
section
variable {α β γ:Type}
noncomputable def OwAll (O:Own α) (F:Hp):List α→List V→Hp→Prop
 | [],[],h=>∀ p,h p=none
 | x::xs,v::vs,h=>∃ h1 h2,Jn h1 h2 h∧O.O x v F h1∧OwAll O F xs vs h2
 | _,_,_=>False
variable {O:Own α}
theorem OwAll.mono:∀ {xs:List α}{vs:List V}{F F' h:Hp},Same F F'→OwAll O F xs vs h→OwAll O F' xs vs h
 | [],[],_,_,_,_,q=>q
 | x::xs,v::vs,F,F',h,g,⟨h1,h2,j,o,r⟩=>⟨h1,h2,j,O.mono g o,r.mono g⟩
 | [],_::_,_,_,_,_,q=>q.elim
 | _::_,[],_,_,_,_,q=>q.elim
theorem OwAll.imm (i:ImmO O):∀ {xs:List α}{vs:List V}{F F' h:Hp},Tups F F'→OwAll O F xs vs h→OwAll O F' xs vs h
 | [],[],_,_,_,_,q=>q
 | x::xs,v::vs,F,F',h,g,⟨h1,h2,j,o,r⟩=>⟨h1,h2,j,i g o,r.imm i g⟩
 | [],_::_,_,_,_,_,q=>q.elim
 | _::_,[],_,_,_,_,q=>q.elim
theorem OwAll.notup:∀ {xs:List α}{vs:List V}{F h:Hp},OwAll O F xs vs h→∀ p ys,h p≠some (.tup ys)
 | [],[],_,_,q,p,ys=>by rw [q p]; exact fun z=>by cases z
 | x::xs,v::vs,F,h,⟨h1,h2,j,o,r⟩,p,ys=>by
  rcases j p with ⟨_,b⟩ | ⟨_,b⟩
  ·rw [b]; exact r.notup p ys
  ·rw [b]; exact O.notup o p ys
 | [],_::_,_,_,q,_,_=>q.elim
 | _::_,[],_,_,q,_,_=>q.elim
theorem OwAll.len:∀ {xs:List α}{vs:List V}{F h:Hp},OwAll O F xs vs h→xs.length=vs.length
 | [],[],_,_,_=>rfl
 | x::xs,v::vs,F,h,⟨h1,h2,j,o,r⟩=>by rw [List.length_cons,List.length_cons,r.len]
 | [],_::_,_,_,q=>q.elim
 | _::_,[],_,_,q=>q.elim
theorem zeD_ {F h1 h:Hp}(d:Dj F h) (s:Same h1 h):Same (un F h1) (un F h):=fun p o e=>by
 unfold un at e ⊢
 cases z:F p with
 | some w=>rw [z] at e; exact e
 | none=>rw [z] at e; exact s _ _ e
theorem OwAll.prs:∀ {xs:List α}{vs:List V}{F h G:Hp},Dj F h→Same (un F h) G→OwAll O F xs vs h→Prs O.fr G xs vs
 | [],[],_,_,_,_,_,_=>.nil
 | x::xs,v::vs,F,h,G,d,g,⟨h1,h2,j,o,r⟩=>by
  have d1:Dj F h1:=fun p=>by
   rcases d p with z | z
   ·exact .inl z
   ·exact .inr (j.l.free z)
  have d2:Dj F h2:=fun p=>by
   rcases d p with z | z
   ·exact .inl z
   ·exact .inr (j.r.free z)
  exact .cons (O.fr.mono ((zeD_ d j.l).trans g) (O.frz d1 o)) (r.prs d2 ((zeD_ d j.r).trans g))
 | [],_::_,_,_,_,_,_,q=>q.elim
 | _::_,[],_,_,_,_,_,q=>q.elim
theorem zk2_ {h1 h2 h:Hp}(j:Jn h1 h2 h):Jn h2 h1 h:=fun p=>by
 rcases j p with ⟨a,b⟩ | ⟨a,b⟩
 ·exact .inr ⟨a,b⟩
 ·exact .inl ⟨a,b⟩
theorem zdZ_ {h1 h2 h12 h3 h:Hp}(j:Jn h1 h2 h12) (k:Jn h12 h3 h):∃ h23,Jn h2 h3 h23∧Jn h1 h23 h:=by
 have d:Dj h2 h3:=fun p=>by
  rcases k.dj p with z | z
  ·exact .inl (j.r.free z)
  ·exact .inr z
 refine ⟨un h2 h3,zep_ d,fun p=>?_⟩
 unfold un
 rcases k p with ⟨a,b⟩ | ⟨a,b⟩
 ·refine .inl ⟨j.l.free a,?_⟩
  rw [j.r.free a]; exact b
 ·rcases j p with ⟨c,e⟩ | ⟨c,e⟩
  ·refine .inl ⟨c,?_⟩
   rw [b,e]
   cases z:h2 p with
   | none=>exact a.symm ▸ rfl
   | some w=>rfl
  ·refine .inr ⟨?_,by rw [b,e]⟩
   rw [c]; exact a
theorem OwAll.at:∀ {xs:List α}{vs:List V}{F h:Hp}(i:Nat) {x:α},OwAll O F xs vs h→xs[i]?=some x →
  ∃ v h1 h2,vs[i]?=some v∧Jn h1 h2 h∧O.O x v F h1∧∀ x' h1' h' F3,Same F F3→O.O x' v F3 h1'→Jn h1' h2 h'→OwAll O F3 (xs.set i x') vs h'
 | [],_,_,_,_,_,_,e=>by cases e
 | x::xs,[],_,_,_,_,q,_=>q.elim
 | x::xs,v::vs,F,h,0,y,⟨h1,h2,j,o,r⟩,e=>by
  cases e
  exact ⟨v,h1,h2,rfl,j,o,fun x' h1' h' F3 g o' j'=>⟨h1',h2,j',o',r.mono g⟩⟩
 | x::xs,v::vs,F,h,i+1,y,⟨h1,h2,j,o,r⟩,e=>by
  obtain ⟨w,k1,k2,e1,j1,o1,f⟩:=OwAll.at i r (by simpa using e)
  obtain ⟨m,jm,jh⟩:=zdZ_ j1 (zk2_ j)
  refine ⟨w,k1,m,by simpa using e1,jh,o1,fun x' k1' h' F3 g o' j'=>?_⟩
  have d:Dj k1' k2:=fun p=>by
   rcases j'.dj p with z | z
   ·exact .inl z
   ·exact .inr (jm.l.free z)
  refine ⟨h1,un k1' k2,?_,O.mono g o,f x' k1' _ F3 g o' (zep_ d)⟩
  intro p
  rcases j' p with ⟨a,b⟩ | ⟨a,b⟩
  ·rcases jm p with ⟨c,e⟩ | ⟨c,e⟩
   ·right
    refine ⟨by unfold un; rw [a,c],by rw [b,e]⟩
   ·left
    refine ⟨c,by unfold un; rw [a,b,e]⟩
  ·left
   refine ⟨jm.r.free a,?_⟩
   unfold un
   rw [b]
   cases z:k1' p with
   | none=>exact (jm.l.free a).symm ▸ rfl
   | some w=>rfl
theorem OwAll.snoc:∀ {xs:List α}{vs:List V}{F h:Hp}{x:α}{v:V}{hn:Hp},OwAll O F xs vs h→O.O x v F hn→Dj h hn→OwAll O F (xs++[x]) (vs++[v]) (un h hn)
 | [],[],F,h,x,v,hn,q,o,d=>by
  refine ⟨hn,fun _=>none,fun p=>.inr ⟨rfl,?_⟩,o,fun _=>rfl⟩
  unfold un; rw [q p]
 | y::xs,w::vs,F,h,x,v,hn,⟨h1,h2,j,o1,r⟩,o,d=>by
  obtain ⟨m,jm,jh⟩:=zdZ_ j (zep_ d)
  have d2:Dj h2 hn:=jm.dj
  have e:m=un h2 hn:=by
   funext p
   unfold un
   rcases jm p with ⟨a,b⟩ | ⟨a,b⟩
   ·rw [a]; exact b
   ·rw [b]
    cases z:h2 p with
    | none=>exact a.symm ▸ rfl
    | some w=>rfl
  rw [e] at jh
  exact ⟨h1,_,jh,o1,r.snoc o d2⟩
 | [],_::_,_,_,_,_,_,q,_,_=>q.elim
 | _::_,[],_,_,_,_,_,q,_,_=>q.elim
noncomputable abbrev owLO (O:Own α):Own (List α):=⟨fun xs v F h=>∃ p vs h2,v=.ref p∧Jn (one p (.lst vs)) h2 h∧OwAll O F xs vs h2,tyL O.fr,fun g ⟨p,vs,h2,e,j,q⟩=>⟨p,vs,h2,e,j,q.mono g⟩,
 fun {a v F h} d ⟨p,vs,h2,e,j,q⟩=>⟨p,vs,e,zhb_ d _ _ (j.l _ _ zbU_),q.prs (fun b=>by
  rcases d b with z | z
  ·exact .inl z
  ·exact .inr (j.r.free z)) (zeD_ d j.r)⟩,
 fun ⟨p,vs,h2,e,j,q⟩ b xs y=>by
  rcases j b with ⟨_,z⟩ | ⟨_,z⟩
  ·rw [z] at y; exact q.notup b xs y
  ·rw [z] at y; unfold one at y; split at y<;>cases y⟩
theorem zbt_ (i:ImmO O):ImmO (owLO O):=fun g ⟨p,vs,h2,e,j,q⟩=>⟨p,vs,h2,e,j,q.imm i g⟩
end
section
variable {K:Fgg}{E:XK}{α β γ ρ S B:Type}{F0 H0 F h H:Hp}{L:List Sl}{e te ei:TE}{T:Ty α}{r:Mo α}{Or:Own ρ}{u:TS}{LS:S→List Sl}{LB:B→List Sl}{σ:St}
noncomputable def Foc (F0 H0:Hp) (σ:St) (h F1:Hp) (O':Own β) (y:β) (u:V) (LF:β→List Sl):Prop :=
 ∀ F2 H2,Same F1 F2→Okk F0 H0 F2 h H2→∃ k,O'.O y u F2 k∧Same k h ∧
  ∀ y' k' F3 H3,PutC F2 H2 h H0 k k' F3 H3→O'.O y' u F3 k'→∃ h',Hold (LF y') σ F3 h'∧Okk F0 H0 F3 h' H3
theorem zjB_ {O:Own α}{x:α}{i:Nat}(hL:Hold L σ F h) (hi:L[i]?=some (.ow O x)):∃ v,σ[i]?=some (some v)∧Foc F0 H0 σ h F O x v (fun x'=>L.set i (.ow O x')):=by
 obtain ⟨o,_,_,e1,_,⟨v,e2,_⟩,_⟩:=hL.at i hi
 subst e2
 refine ⟨v,e1,fun F2 H2 s ok=>?_⟩
 obtain ⟨v',k,e1',ho,_,kh,_,g⟩:=zhG_ (hL.mono s) hi ok
 rw [e1] at e1'; cases e1'
 refine ⟨k,ho,kh,fun y' k' F3 H3 a b=>?_⟩
 obtain ⟨h',a1,a2⟩:=g O y' v k' F3 H3 a b
 rw [zbT_ e1] at a1
 exact ⟨h',a1,a2⟩
theorem Foc.part {O:Own α}{O':Own β}{F1:Hp}{y:α}{z:β}{w u:V}{LF:α→List Sl}{put:β→α}(f:Foc F0 H0 σ h F1 O y u LF)
  (pt:∀ F2 k,Same F1 F2→Same k h→O.O y u F2 k→∃ k1 k2,Jn k1 k2 k∧O'.O z w F2 k1∧∀ z' k1' k' F3,Same F2 F3→O'.O z' w F3 k1'→Jn k1' k2 k'→O.O (put z') u F3 k'):Foc F0 H0 σ h F1 O' z w (fun z'=>LF (put z')):=by
 intro F2 H2 s ok
 obtain ⟨k,ho,kh,g⟩:=f F2 H2 s ok
 obtain ⟨k1,k2,j,ho',pp⟩:=pt F2 k s kh ho
 refine ⟨k1,ho',j.l.trans kh,fun z' k1' F3 H3 P hz=>?_⟩
 have d:Dj k1' k2:=fun q=>by
  by_cases w1:k1' q=none
  ·exact .inl w1
  ·right
   by_cases w2:k1 q=none
   ·exact (j.r.trans kh).free (P.fr q w2 w1).1
   ·rcases j.dj q with y | y
    ·exact absurd y w2
    ·exact y
 have k2h:∀ {q o},k2 q=some o→k1 q=none∧H3 q=some o:=fun {q o} e=>by
  have y1:k1 q=none:=by
   rcases j.dj q with y1 | y1
   ·exact y1
   ·rw [y1] at e; cases e
  exact ⟨y1,P.ol q o (by rw [zV_ y1]; exact ok.2.2.1 _ _ (kh _ _ (j.r _ _ e)))⟩
 refine g (put z') (un k1' k2) F3 H3 ⟨P.ff,P.fh,fun q o e=>?_,(fun q a b=>(P.nw q a b).imp id fun z w=>z (j.l.free w)),fun q o e=>?_,fun q=>?_,fun q a1 a2=>?_⟩ (pp z' k1' _ F3 P.ff hz (zep_ d))
 ·unfold less at e
  split at e
  ·rename_i y; exact P.ol q o (by rw [zV_ (j.l.free y)]; exact e)
  ·cases e
 ·unfold un at e
  cases y:k1' q with
  | some s=>rw [y] at e; rw [P.kh q s y]; exact e
  | none=>rw [y] at e; exact (k2h e).2
 ·unfold un
  cases y:k1' q with
  | some s =>
   rcases P.dj q with d | d
   ·exact .inl d
   ·rw [d] at y; cases y
  | none =>
   cases e:k2 q with
   | none=>exact .inr rfl
   | some s =>
    left
    have hq:h q=some s:=kh _ _ (j.r _ _ e)
    have Fq:F2 q=none:=by
     rcases ok.2.1 q with d | d
     ·exact d
     ·rw [d] at hq; cases hq
    by_cases w3:F3 q=none
    ·exact w3
    ·rcases P.nw q Fq w3 with d | d
     ·rw [ok.2.2.1 _ _ hq] at d; cases d
     ·exact absurd (k2h e).1 d
 ·unfold un at a2
  have y2:k2 q=none:=j.r.free a1
  have y:k1' q≠none:=fun y=>by rw [y] at a2; exact a2 y2
  exact P.fr q (j.l.free a1) y
noncomputable def EvPt (K:Fgg) (te:TE) (E:XK) (L:List Sl) (i:Nat) (O:Own α) (O':Own β) (r:Mo (β×(β→α))):Prop :=
 ∀ F0 H0 σ F h H (Q:VK),Hold L σ F h→Okk F0 H0 F h H→After K r E (un F h) H (fun yp G1 H1=>∀ u,Foc F0 H0 σ h (less G1 h) O' yp.1 u (fun z=>L.set i (.ow O (yp.2 z)))→Q u H1)→te σ H Q
theorem zfy_ {O:Own α}{x:α}{i:Nat}(hi:L[i]?=some (.ow O x)):EvPt K (mVar i) E L i O O (.ok (x,fun z=>z)):=by
 intro F0 H0 σ F h H Q hL ok q
 obtain ⟨o,hs,_⟩:=ok.back (Ext.refl ok.thaw)
 obtain ⟨v,ev,fc⟩:=zjB_ (F0:=F0) (H0:=H0) (hL.mono hs) hi
 exact zdr_ ev (q.ok ok.thaw v fc)
theorem zmi_ {O:Own β}{p:Addr}{xs:List β}{n:Nat}{y:β}{vs:List V}{w:V}(hv:h p=some (.lst vs)) (hw:vs[n]?=some w) (e:xs[n]?=some y) :
  ∀ F2 k,Same k h→(owLO O).O xs (.ref p) F2 k→∃ k1 k2,Jn k1 k2 k∧O.O y w F2 k1∧∀ y' k1' k' F3,Same F2 F3→O.O y' w F3 k1'→Jn k1' k2 k'→(owLO O).O (xs.set n y') (.ref p) F3 k':=by
 rintro F2 k kh ⟨p',vs',k2,ep,j,all⟩
 cases ep
 have ev:vs'=vs:=by
  have:=kh _ _ (j.l _ _ zbU_)
  rw [hv] at this
  injection this with this
  injection this with this
  exact this.symm
 subst ev
 obtain ⟨w',a1,a2,e1,j1,o1,f⟩:=all.at n e
 rw [hw] at e1; cases e1
 obtain ⟨m,jm,jk⟩:=zdZ_ j1 (zk2_ j)
 refine ⟨a1,m,jk,o1,fun y' k1' k' F3 g o' j'=>?_⟩
 have d:Dj k1' a2:=fun q=>by
  rcases j'.dj q with z | z
  ·exact .inl z
  ·exact .inr (jm.l.free z)
 refine ⟨p,vs',un k1' a2,rfl,?_,f y' k1' _ F3 g o' (zep_ d)⟩
 intro q
 rcases j' q with ⟨a,b⟩ | ⟨a,b⟩
 ·rcases jm q with ⟨c,e⟩ | ⟨c,e⟩
  ·right
   refine ⟨by unfold un; rw [a,c],by rw [b,e]⟩
  ·left
   refine ⟨c,by unfold un; rw [a,b,e]⟩
 ·left
  refine ⟨jm.r.free a,?_⟩
  unfold un
  rw [b]
  cases z:k1' q with
  | none=>exact (jm.l.free a).symm ▸ rfl
  | some w=>rfl
theorem zik_ {G1 G2 h:Hp}(s:Same G1 G2):Same (less G1 h) (less G2 h):=fun p o e=>by
 unfold less at e ⊢
 split at e
 ·exact s _ _ e
 ·cases e
end
end L2
namespace L2
open PySem PySem.Spec PyProof.Rows
noncomputable def mFld (C:Addr) (te:TE) (f:Str):TE:=fun σ H Q=>te σ H fun x H1=>match x with
 | .ref a=>∃ dx fs v,H1 a=some (.ins C dx fs)∧fs.lookup f=some v∧Q v H1
 | _=>False
noncomputable def mSFld (C:Addr) (te tv:TE) (f:Str):TS:=fun D σ H=>tv σ H fun y H1=>te σ H1 fun x H2=>match x with
 | .ref a=>∃ dx fs,H2 a=some (.ins C dx fs)∧fs.length<1000∧D.nx σ (upd H2 a (.ins C dx (putF f y fs)))
 | _=>False
noncomputable def Gm (P:Program) (w:World) (K:Fgg) (mg:Str→Option Value) (base:Heap) (CX:CXT) (k:Nat) (C:Addr) (m:Str) (ps:List Str) (sp:Sp):Prop :=
 ∃ f fd,FnOk P w K mg base CX k f fd ps sp∧Cls K C∧Meth K C m f∧Binds K fd ps []
noncomputable def Gk (P:Program) (w:World) (K:Fgg) (mg:Str→Option Value) (base:Heap) (CX:CXT) (k:Nat) (x:Str) (C:Addr) (ps:List Str) (sp:Sp):Prop :=
 ∃ f fd,FnOk P w K mg base CX k f fd ps sp∧Mk K C f∧mg x=some (.ref C)∧Binds K fd ps []
section
variable {X:Cx}{e value o:Expr}{es:List Expr}{f m x:Str}{p pos pos' apos:Pos}{ta tv:TE}{t:TA}{C:Addr}{k:Nat}{ps:List Str}{sp:Sp}
theorem zaU_ (c:Cls X.K C) (n:NoAttr X.K C f) (he:PE X e ta) (hb:attributeBase e f X.env (eval e X.env)=eval e X.env:=by rfl):PE X (.Attribute e f pos) (mFld C ta f):=by
 intro pins s σ H Q I h
 refine zpi_ hb (thn (he pins s σ H _ I h) fun u s1 hq_=>?_)
 obtain ⟨x,H1,I1,rx,q1⟩:=hq_
 cases x with
 | ref a =>
  obtain ⟨dx,fs,v,ea,l,q⟩:=q1
  obtain rfl:u=Value.ref a:=rx
  exact zk5_ I1 ea c n l fun u' s2 I2 ru=>⟨v,H1,I2,ru,q⟩
 | _=>exact q1.elim
theorem zcj_ (c:Cls X.K C) (n:NoAttr X.K C f) (ha:PE X o ta) (hv:PE X value tv) (hs:swapsWith value (some (.Attribute o f pos')) pos.line X.env=pure false:=by rfl):PS X (.Assign [.Attribute o f pos'] value pos) (mSFld C ta tv f):=by
 intro pins s σ H D I h
 refine plainObj_wpAny_Assign_Attribute (thn (hv pins s σ H _ I h) fun u s1 ⟨y,H1,I1,ry,q⟩=>thn (ha pins s1 σ H1 _ I1 q) fun ov s2 hq_=>?_) hs
 obtain ⟨x,H2,I2,rx,q2⟩:=hq_
 cases x with
 | ref a =>
  obtain ⟨dx,fs,ea,l,q3⟩:=q2
  obtain rfl:ov=Value.ref a:=rx
  exact zjV_ I2 ea c n l ry fun s3 I3=>⟨σ,_,I3,q3⟩
 | _=>exact q2.elim
theorem zcx_ {pl:Sem Bool}(G:Gm X.prog X.w X.K X.mg X.base CX0 k C m ps sp) (hr:Room k X.A) (he:PE X o ta) (ha:PA X (e::es) t)
  (hst:starEach (e::es) X.env=(false,eval e X.env)::starEach es X.env:=by rfl) (hpl:(backTo pos (starEach es X.env)).any (·.1)=false:=by rfl)
  (ht:eval (.Call (.Attribute o m apos) (e::es) [] pos) X.env=(do
   let ov ← eval o X.env
   standAt apos.atName
   let (f,first) ← holding [ov] (getMethod ov m pl)
   callWith pos f first (backTo pos (starEach (e::es) X.env)) (backToKw pos (keywordEach [] X.env))):=by rfl) :
  PE X (.Call (.Attribute o m apos) (e::es) [] pos) (tMeth C m sp [] E0 ta t):=by
 obtain ⟨f,fd,F,c,hm,hb⟩:=G
 exact zpo_ he c hm F hr hb .nil pass0 ha hst hpl ht
theorem zc2_ {pl:Sem Bool}(G:Gm X.prog X.w X.K X.mg X.base CX0 k C m ps sp) (hr:Room k X.A) (he:PE X o ta)
  (ht:eval (.Call (.Attribute o m apos) [] [] pos) X.env=(do
   let ov ← eval o X.env
   standAt apos.atName
   let (f,first) ← holding [ov] (getMethod ov m pl)
   callWith pos f first (backTo pos (starEach [] X.env)) (backToKw pos (keywordEach [] X.env))):=by rfl) :
  PE X (.Call (.Attribute o m apos) [] [] pos) (tMeth C m sp [] E0 ta tNil):=by
 obtain ⟨f,fd,F,c,hm,hb⟩:=G
 exact znj_ he c hm F hr hb .nil pass0 ht
theorem zkx_ (G:Gk X.prog X.w X.K X.mg X.base CX0 k x C ps sp) (hr:Room (k+1) X.A) (ha:PA X (e::es) t) (hg:Gl X x:=by rfl) (hdb:(x == ("__debug__" : Str))=false:=by decide)
  (he:starEach (e::es) X.env=(false,eval e X.env)::starEach es X.env:=by rfl) (hpl:(backTo pos (starEach es X.env)).any (·.1)=false:=by rfl) :
  PE X (.Call (.Name x p) (e::es) [] pos) (tMake C sp [] E0 t):=by
 obtain ⟨f,fd,F,M,hm,hb⟩:=G
 exact zoO_ M F hr hg hm hb .nil pass0 ha hdb he hpl
end
theorem zee_:∀ {ns:List Str}{vs:List V}{i:Nat}{f:Str}{v:V},ns.Nodup→ns[i]?=some f→vs[i]?=some v→(ns.zip vs).lookup f=some v
 | [],_,_,_,_,_,h,_=>by simp at h
 | n::ns,[],_,_,_,_,_,h=>by simp at h
 | n::ns,w::vs,0,f,v,_,h,h'=>by
  simp at h h'; subst h h'
  rw [List.zip_cons_cons,List.lookup_cons,beq_self_eq_true]
 | n::ns,w::vs,i+1,f,v,nd,h,h'=>by
  obtain ⟨h1,h2⟩:=List.nodup_cons.mp nd
  have hf:ns[i]?=some f:=by simpa using h
  have hne:(f == n)=false:=beq_eq_false_iff_ne.mpr fun z=>h1 (z ▸ List.mem_of_getElem? hf)
  rw [List.zip_cons_cons,List.lookup_cons,hne]
  exact zee_ h2 hf (by simpa using h')
theorem zbs_:∀ {ns:List Str}{vs:List V}{f:Str},f∉ns→(ns.zip vs).lookup f=none
 | [],_,_,_=>rfl
 | n::ns,[],_,_=>rfl
 | n::ns,w::vs,f,h=>by
  have hne:(f == n)=false:=beq_eq_false_iff_ne.mpr fun z=>h (z ▸ List.mem_cons_self ..)
  rw [List.zip_cons_cons,List.lookup_cons,hne]
  exact zbs_ fun z=>h (List.mem_cons_of_mem _ z)
theorem zjE_:∀ {ns:List Str}{vs:List V}{i:Nat}{f:Str}(v:V),ns.Nodup→ns[i]?=some f→i<vs.length→putF f v (ns.zip vs)=ns.zip (vs.set i v)
 | [],_,_,_,_,_,h,_=>by simp at h
 | n::ns,[],_,_,_,_,_,h=>by simp at h
 | n::ns,w::vs,0,f,v,_,h,_=>by
  simp at h; subst h
  rw [List.zip_cons_cons,putF,if_pos rfl]; rfl
 | n::ns,w::vs,i+1,f,v,nd,h,h'=>by
  obtain ⟨h1,h2⟩:=List.nodup_cons.mp nd
  have hf:ns[i]?=some f:=by simpa using h
  have hne:¬ n=f:=fun z=>h1 (z ▸ List.mem_of_getElem? hf)
  rw [List.zip_cons_cons,putF,if_neg hne,zjE_ v h2 hf (by simpa using h')]; rfl
theorem zh0_:∀ {ns:List Str}{vs:List V}{f:Str}(v:V),f∉ns→vs.length=ns.length→putF f v (ns.zip vs)=(ns++[f]).zip (vs++[v])
 | [],[],f,v,_,_=>rfl
 | [],_::_,_,_,_,h=>by simp at h
 | _::_,[],_,_,_,h=>by simp at h
 | n::ns,w::vs,f,v,h,hl=>by
  have hne:¬ n=f:=fun z=>h (z ▸ List.mem_cons_self ..)
  rw [List.zip_cons_cons,putF,if_neg hne,zh0_ v (fun z=>h (List.mem_cons_of_mem _ z)) (by simpa using hl)]; rfl
theorem zmr_:∀ {ns:List Str}{vs us:List V},vs.length=ns.length→us.length=ns.length→ns.zip vs=ns.zip us→vs=us
 | [],[],[],_,_,_=>rfl
 | n::ns,v::vs,u::us,h1,h2,e=>by
  rw [List.zip_cons_cons,List.zip_cons_cons] at e
  injection e with e1 e2
  injection e1 with _ e1
  rw [e1,zmr_ (by simpa using h1) (by simpa using h2) e2]
 | [],_::_,_,h,_,_=>by simp at h
 | [],[],_::_,_,h,_=>by simp at h
 | _::_,[],_,h,_,_=>by simp at h
 | _::_,_::_,[],_,h,_=>by simp at h
structure Ps (γ:Type) where
 P:γ→List V→Hp→Hp→Prop
 fr:Cs γ
 mono:∀ {c vs F F' h},Same F F'→P c vs F h→P c vs F' h
 frz:∀ {c vs F h},Dj F h→P c vs F h→fr.R c vs (un F h)
 notup:∀ {c vs F h},P c vs F h→∀ p xs,h p≠some (.tup xs)
section
variable {α β γ:Type}
theorem dj_l {F h1 h2 h:Hp}(d:Dj F h) (j:Jn h1 h2 h):Dj F h1:=fun p=>by
 rcases d p with z | z
 ·exact .inl z
 ·exact .inr (j.l.free z)
theorem dj_r {F h1 h2 h:Hp}(d:Dj F h) (j:Jn h1 h2 h):Dj F h2:=fun p=>by
 rcases d p with z | z
 ·exact .inl z
 ·exact .inr (j.r.free z)
noncomputable abbrev psNil:Ps Unit:=⟨fun _ vs _ h=>vs=[]∧∀ p,h p=none,csNil,fun _ q=>q,fun _ q=>q.1,fun q p xs z=>by rw [q.2 p] at z; cases z⟩
noncomputable abbrev psO (O:Own α) (P:Ps γ):Ps (α×γ):=⟨fun c vs F h=>∃ v us h1 h2,vs=v::us∧Jn h1 h2 h∧O.O c.1 v F h1∧P.P c.2 us F h2,csCons O.fr P.fr,
 fun g ⟨v,us,h1,h2,e,j,a,b⟩=>⟨v,us,h1,h2,e,j,O.mono g a,P.mono g b⟩,
 fun d ⟨v,us,h1,h2,e,j,a,b⟩=>⟨v,us,e,O.fr.mono (zeD_ d j.l) (O.frz (dj_l d j) a),P.fr.mono (zeD_ d j.r) (P.frz (dj_r d j) b)⟩,
 fun ⟨v,us,h1,h2,e,j,a,b⟩ p xs z=>by
  rcases j p with ⟨_,y⟩ | ⟨_,y⟩
  ·rw [y] at z; exact P.notup b p xs z
  ·rw [y] at z; exact O.notup a p xs z⟩
noncomputable def two (p dx:Addr) (o:HO):Hp:=fun q=>if q=p then some o else if q=dx then some (.own p) else none
theorem zjk_ {p dx:Addr}{o:HO}:two p dx o p=some o:=if_pos rfl
theorem znd_ {p dx:Addr}{o:HO}(h:dx≠p):two p dx o dx=some (.own p):=by unfold two; rw [if_neg h,if_pos rfl]
theorem zom_ {p dx q:Addr}{o:HO}(h:two p dx o q=none):q≠p∧q≠dx:=by
 refine ⟨fun e=>?_,fun e=>?_⟩
 ·rw [e,zjk_] at h; cases h
 ·unfold two at h; split at h
  ·cases h
  ·first | cases h | (rw [if_pos e] at h; cases h)
noncomputable abbrev tyI (C:Addr) (ns:List Str) (Q:Cs γ):Ty γ:=⟨fun c v H=>∃ p dx vs,v=.ref p∧H p=some (.ins C dx (ns.zip vs))∧vs.length=ns.length∧Q.R c vs H,fun g ⟨p,dx,vs,e,h,l,q⟩=>⟨p,dx,vs,e,g _ _ h,l,Q.mono g q⟩⟩
noncomputable abbrev owI (C:Addr) (ns:List Str) (P:Ps γ):Own γ:=⟨fun c v F h=>∃ p dx vs k,v=.ref p∧dx≠p∧Jn (two p dx (.ins C dx (ns.zip vs))) k h∧vs.length=ns.length∧P.P c vs F k,tyI C ns P.fr,
 fun g ⟨p,dx,vs,k,e,n,j,l,q⟩=>⟨p,dx,vs,k,e,n,j,l,P.mono g q⟩,
 fun d ⟨p,dx,vs,k,e,n,j,l,q⟩=>⟨p,dx,vs,e,zhb_ d _ _ (j.l _ _ zjk_),l,P.fr.mono (zeD_ d j.r) (P.frz (dj_r d j) q)⟩,
 fun ⟨p,dx,vs,k,e,n,j,l,q⟩ b xs y=>by
  rcases j b with ⟨_,z⟩ | ⟨_,z⟩
  ·rw [z] at y; exact P.notup q b xs y
  ·rw [z] at y; unfold two at y; split at y
   ·cases y
   ·split at y<;>cases y⟩
noncomputable abbrev owAt (u:V) (O:Own α):Own α:=⟨fun a v F h=>v=u∧O.O a v F h,O.fr,fun g q=>⟨q.1,O.mono g q.2⟩,fun d q=>O.frz d q.2,fun q=>O.notup q.2⟩
noncomputable def PsAt (P:Ps γ) (n:Nat) (O:Own β) (pr:γ→β) (st:γ→β→γ):Prop:=∀ {c vs F h},P.P c vs F h→∃ v h1 h2,vs[n]?=some v∧Jn h1 h2 h∧O.O (pr c) v F h1∧∀ z' h1' h' F3,Same F F3→O.O z' v F3 h1'→Jn h1' h2 h'→P.P (st c z') vs F3 h'
theorem zpL_ {O:Own β}{P:Ps γ}:PsAt (psO O P) 0 O (fun c=>c.1) (fun c z=>(z,c.2)):=fun ⟨v,us,h1,h2,e,j,a,b⟩=>by
 subst e
 exact ⟨v,h1,h2,rfl,j,a,fun z' h1' h' F3 g o' j'=>⟨v,us,h1',h2,rfl,j',o',P.mono g b⟩⟩
theorem zpz_ {b t m a h:Hp}(jm:Jn b t m) (j:Jn a m h):Jn t (un a b) h:=fun q=>by
 rcases j q with ⟨x,y⟩ | ⟨x,y⟩
 ·rcases jm q with ⟨c,e⟩ | ⟨c,e⟩
  ·right
   refine ⟨by unfold un; rw [x,c],by rw [y,e]⟩
  ·left
   refine ⟨c,by unfold un; rw [x,y,e]⟩
 ·left
  refine ⟨jm.r.free x,?_⟩
  unfold un
  rw [y]
  cases z:a q with
  | none=>exact (jm.l.free x).symm ▸ rfl
  | some w=>rfl
theorem zpE_ {a b t m h:Hp}(jm:Jn b t m) (j:Jn a m h):Dj a b:=fun q=>by
 rcases j.dj q with z | z
 ·exact .inl z
 ·exact .inr (jm.l.free z)
theorem zjW_ {O:Own α}{O':Own β}{P:Ps γ}{n:Nat}{pr:γ→β}{st:γ→β→γ}(h:PsAt P n O' pr st):PsAt (psO O P) (n+1) O' (fun c=>pr c.2) (fun c z=>(c.1,st c.2 z)):=fun ⟨v,us,h1,h2,e,j,a,b⟩=>by
 subst e
 obtain ⟨w,k1,k2,e1,j1,o1,f⟩:=h b
 obtain ⟨m,jm,jh⟩:=zdZ_ j1 (zk2_ j)
 refine ⟨w,k1,m,by simpa using e1,jh,o1,fun z' k1' h' F3 g o' j'=>?_⟩
 exact ⟨v,us,h1,un k1' k2,rfl,zpz_ jm j',O.mono g a,f z' k1' _ F3 g o' (zep_ (zpE_ jm j'))⟩
noncomputable def PsPut (P:Ps γ) (n:Nat) (O:Own β) (st:γ→β→γ):Prop:=∀ {c vs F h},P.P c vs F h→n<vs.length∧∃ h2,Same h2 h∧∀ z' v' h1' h' F3,Same F F3→O.O z' v' F3 h1'→Jn h1' h2 h'→P.P (st c z') (vs.set n v') F3 h'
theorem zjO_ {O:Own β}{P:Ps γ}:PsPut (psO O P) 0 O (fun c z=>(z,c.2)):=fun ⟨v,us,h1,h2,e,j,a,b⟩=>by
 subst e
 exact ⟨by simp,h2,j.r,fun z' v' h1' h' F3 g o' j'=>⟨v',us,h1',h2,rfl,j',o',P.mono g b⟩⟩
theorem zd1_ {O:Own α}{O':Own β}{P:Ps γ}{n:Nat}{st:γ→β→γ}(h:PsPut P n O' st):PsPut (psO O P) (n+1) O' (fun c z=>(c.1,st c.2 z)):=fun ⟨v,us,h1,h2,e,j,a,b⟩=>by
 subst e
 obtain ⟨hn,k2,ks,f⟩:=h b
 have d:Dj k2 h1:=fun q=>by
  rcases j.dj q with z | z
  ·exact .inr z
  ·exact .inl (ks.free z)
 refine ⟨by simpa using hn,un k2 h1,fun q o z=>?_,fun z' v' k1' h' F3 g o' j'=>?_⟩
 ·unfold un at z
  cases y:k2 q with
  | some w=>rw [y] at z; rw [← z]; exact j.r _ _ (ks _ _ y)
  | none=>rw [y] at z; exact j.l _ _ z
 ·exact ⟨v,us.set n v',h1,un k1' k2,rfl,zpz_ (zep_ d) j',O.mono g a,f z' v' k1' _ F3 g o' (zep_ (zpE_ (zep_ d) j'))⟩
noncomputable def PsAdd (P:Ps γ) (O:Own β) {δ:Type}(P':Ps δ) (ad:γ→β→δ):Prop:=∀ {c vs F h},P.P c vs F h→∀ z v' h1' h' F3,Same F F3→O.O z v' F3 h1'→Jn h1' h h'→P'.P (ad c z) (vs++[v']) F3 h'
theorem zf0_ {O:Own β}:PsAdd psNil O (psO O psNil) (fun _ z=>(z,())):=fun q z v' h1' h' F3 g o' j'=>by
 rw [q.1]
 exact ⟨v',[],h1',_,rfl,j',o',rfl,q.2⟩
theorem zcz_ {O:Own α}{O':Own β}{P:Ps γ}{δ:Type}{P':Ps δ}{ad:γ→β→δ}(h:PsAdd P O' P' ad):PsAdd (psO O P) O' (psO O P') (fun c z=>(c.1,ad c.2 z)):=fun ⟨v,us,h1,h2,e,j,a,b⟩ z v' k1' h' F3 g o' j'=>by
 subst e
 have jm:Jn h2 h1 _:=zk2_ j
 exact ⟨v,us++[v'],h1,un k1' h2,rfl,zpz_ jm j',O.mono g a,h b z v' k1' _ F3 g o' (zep_ (zpE_ jm j'))⟩
end
section
variable {K:Fgg}{E:XK}{α β γ δ ρ S B:Type}{F0 H0 F h H:Hp}{L:List Sl}{e te ei:TE}{T:Ty α}{r:Mo α}{Or:Own ρ}{u:TS}{LS:S→List Sl}{LB:B→List Sl}{σ:St}{C:Addr}{ns:List Str}{f:Str}{i n:Nat}
theorem zcp_ {Q:Cs γ}{pr:γ→α}{r:Mo γ}(nd:ns.Nodup) (hf:ns[n]?=some f) (ha:CsAt Q n T pr) (he:EvF K te E L r (tyI C ns Q)):EvF K (mFld C te f) E L (r.bind fun c=>.ok (pr c)) T:=by
 intro σ F H R hL hs q
 refine he σ F H _ hL hs (q.bind.imp fun c F1 H1 x1 k1 v hq_=>?_)
 obtain ⟨p,dx,vs,e,hp,hl,hc⟩:=hq_
 subst e
 obtain ⟨w,ew,rw'⟩:=ha hc
 exact ⟨dx,_,w,x1.2.1 _ _ hp,zee_ nd hf ew,k1.ok x1.2.1 w rw'⟩
theorem ziT_ {O:Own α}{O':Own β}{w:V}{r:Mo (β×(β→α))}(hp:EvPt K te E L i O (owAt w O') r):EvPt K te E L i O O' r:=by
 intro F0 H0 σ F h H Q hL ok q
 refine hp F0 H0 σ F h H _ hL ok (q.imp fun yp G1 H1 x1 k1 u fc=>k1 u fun F2 H2 s o2=>?_)
 obtain ⟨k,⟨e,ho⟩,kh,g⟩:=fc F2 H2 s o2
 exact ⟨k,ho,kh,fun y' k' F3 H3 P hy=>g y' k' F3 H3 P ⟨e,hy⟩⟩
theorem zof_ {P:Ps γ}{O':Own β}{pr:γ→β}{st:γ→β→γ}{p dx:Addr}{vs:List V}{w:V}{c:γ}(pa:PsAt P n O' pr st) (hv:h p=some (.ins C dx (ns.zip vs))) (hl:vs.length=ns.length) (hw:vs[n]?=some w) :
  ∀ F2 k,Same k h→(owI C ns P).O c (.ref p) F2 k→∃ k1 k2,Jn k1 k2 k∧O'.O (pr c) w F2 k1∧∀ y' k1' k' F3,Same F2 F3→O'.O y' w F3 k1'→Jn k1' k2 k'→(owI C ns P).O (st c y') (.ref p) F3 k':=by
 rintro F2 k kh ⟨p',dx',vs',m,ep,ndx,j,hl',ps⟩
 cases ep
 have ev:=kh _ _ (j.l _ _ zjk_)
 rw [hv] at ev
 injection ev with ev
 injection ev with _ e1 e2
 subst e1
 have ev:=zmr_ hl hl' e2
 subst ev
 obtain ⟨w',a1,a2,e3,j1,o1,g⟩:=pa ps
 rw [hw] at e3; cases e3
 obtain ⟨mm,jm,jk⟩:=zdZ_ j1 (zk2_ j)
 refine ⟨a1,mm,jk,o1,fun y' k1' k' F3 s o' j'=>?_⟩
 exact ⟨p,dx,vs,un k1' a2,rfl,ndx,zpz_ jm j',hl,g y' k1' _ F3 s o' (zep_ (zpE_ jm j'))⟩
theorem zoY_ {O:Own α}{P:Ps γ}{O':Own β}{pr:γ→β}{st:γ→β→γ}{r:Mo (γ×(γ→α))}(nd:ns.Nodup) (hf:ns[n]?=some f) (pa:PsAt P n O' pr st) (hp:EvPt K te E L i O (owI C ns P) r) :
  EvPt K (mFld C te f) E L i O O' (r.bind fun yp=>.ok (pr yp.1,fun z'=>yp.2 (st yp.1 z'))):=by
 intro F0 H0 σ F h H Q hL ok q
 refine hp F0 H0 σ F h H _ hL ok (q.bind.imp fun yp G1 H1 x1 k1 u fc=>?_)
 obtain ⟨o1,_,_⟩:=ok.back x1
 obtain ⟨k,⟨p,dx,vs,m,rfl,ndx,jn,hl,ps⟩,kh,_⟩:=fc _ H1 (Same.refl _) o1
 have hp1:h p=some (.ins C dx (ns.zip vs)):=kh _ _ (jn.l _ _ zjk_)
 obtain ⟨w,_,_,ew,_⟩:=pa ps
 refine ⟨dx,_,w,o1.2.2.1 _ _ hp1,zee_ nd hf ew,?_⟩
 exact k1.ok x1.2.1 w (Foc.part (put:=st yp.1) (LF:=fun y'=>L.set i (.ow O (yp.2 y'))) fc fun F2 k s kh ho=>zof_ pa hp1 hl ew F2 k kh ho)
theorem zku_ {p dx:Addr}{o o':HO}{m h2 hn:Hp}{k:Hp}(ok:Okk F0 H0 F h H) (kh:Same k h) (ndx:dx≠p) (jn:Jn (two p dx o) m k) (h2m:Same h2 m) (fresh:∀ q,hn q≠none→F q=none∧h q=none∧H0 q=none) (hs:Same hn H) (dn:Dj hn h2) :
  Jn (two p dx o') (un hn h2) (un (two p dx o') (un hn h2))∧PutC F H h H0 k (un (two p dx o') (un hn h2)) F (upd H p o'):=by
 have hnk:∀ q,hn q≠none→k q=none:=fun q z=>kh.free (fresh q z).2.1
 have kp:k p=some o:=jn.l _ _ zjk_
 have kdx:k dx=some (.own p):=jn.l _ _ (znd_ ndx)
 have m0:∀ q,two p dx o q≠none→m q=none:=fun q z=>by
  rcases jn.dj q with y | y
  ·exact absurd y z
  ·exact y
 have two_ne:∀ {o:HO}{q},two p dx o q≠none→q=p∨q=dx:=fun {o q} z=>by
  by_cases a:q=p
  ·exact .inl a
  ·by_cases b:q=dx
   ·exact .inr b
   ·exact absurd (by unfold two; rw [if_neg a,if_neg b]) z
 have dj:Dj (two p dx o') (un hn h2):=fun q=>by
  by_cases z:two p dx o' q=none
  ·exact .inl z
  ·right
   have kq:k q≠none:=by
    rcases two_ne z with e | e
    ·rw [e,kp]; exact Option.some_ne_none _
    ·rw [e,kdx]; exact Option.some_ne_none _
   have hq:hn q=none:=by
    by_cases y:hn q=none
    ·exact y
    ·exact absurd (hnk q y) kq
   have mq:m q=none:=m0 q (by
    rcases two_ne z with e | e
    ·rw [e,zjk_]; exact Option.some_ne_none _
    ·rw [e,znd_ ndx]; exact Option.some_ne_none _)
   unfold un; rw [hq]; exact h2m.free mq
 refine ⟨zep_ dj,PutC.same ok kh (fun q s z=>?_) (fun q z1 z2=>zbk_ fun e=>?_) fun q z1 z2=>?_⟩
 ·unfold un at z
  cases y:two p dx o' q with
  | some w =>
   rw [y] at z
   by_cases e:q=p
   ·rw [e,zjk_] at y; rw [e,zbu_,y]; exact z
   ·rw [zbk_ e]
    have e2:q=dx:=by
     rcases two_ne (o:=o') (q:=q) (by rw [y]; exact Option.some_ne_none _) with a | a
     ·exact absurd a e
     ·exact a
    rw [e2,znd_ ndx] at y
    rw [← z,← y,e2]; exact ok.2.2.1 _ _ (kh _ _ kdx)
  | none =>
   rw [y] at z
   have e:=(zom_ y).1
   rw [zbk_ e]
   cases x:hn q with
   | some w=>rw [x] at z; rw [← z]; exact hs _ _ x
   | none=>rw [x] at z; exact ok.2.2.1 _ _ (kh _ _ (jn.r _ _ (h2m _ _ z)))
 ·rw [e,kp] at z1; cases z1
 ·have e1:two p dx o' q=none:=by
   by_cases y:two p dx o' q=none
   ·exact y
   ·rcases two_ne y with e | e
    ·rw [e,kp] at z1; cases z1
    ·rw [e,kdx] at z1; cases z1
  have e2:h2 q=none:=h2m.free (jn.r.free z1)
  have eu:un (two p dx o') (un hn h2) q=hn q:=by
   unfold un; rw [e1]
   cases x:hn q with
   | some w=>rfl
   | none=>exact e2
  rw [eu] at z2 ⊢
  obtain ⟨a,b,c⟩:=fresh q z2
  refine ⟨a,b,c,?_⟩
  cases x:hn q with
  | none=>exact absurd x z2
  | some w=>exact hs _ _ x
theorem zqs_ {O:Own β}{P:Ps γ}{st:γ→α→γ}{r0:Mo (γ×(γ→β))}{k:β→Mo (Out ρ B S)}(nd:ns.Nodup) (hf:ns[n]?=some f) (hsm:ns.length<1000) (pp:PsPut P n (owF T) st) (hT:Imm T) (he:EvF K e E L r T) (hp:EvPt K te E L i O (owI C ns P) r0) (hk:∀ x',EvS K u E (L.set i (.ow O x')) (k x') LS LB Or) :
  EvS K (tSeq (mSFld C te e f) u) E L (r.bind fun a=>r0.bind fun yp=>k (yp.2 (st yp.1 a))) LS LB Or:=by
 intro F0 H0 σ F h H D hL ok fin
 refine he σ (un F h) H _ (hL.froz ok.2.1) ok.thaw (zcg_ (G:=F) ok _ (.inl rfl) fin fun a F' H' hra x v hv=>?_)
 obtain ⟨o,hs,ht⟩:=ok.back x
 rw [hra] at fin
 refine hp F0 H0 σ (less F' h) h H' _ (hL.mono hs) o (zcg_ (G:=F) o _ (.inl rfl) fin fun yp G1 H1 hr0 x1 u0 fc=>?_)
 obtain ⟨o1,hs1,_⟩:=o.back x1
 rw [hr0] at fin
 obtain ⟨k0,⟨p,dx,vs,m,rfl,ndx,jn,hl,ps⟩,kh,g⟩:=fc _ H1 (Same.refl _) o1
 obtain ⟨hn,h2,h2m,pf⟩:=pp ps
 have hp1:H1 p=some (.ins C dx (ns.zip vs)):=o1.2.2.1 _ _ (kh _ _ (jn.l _ _ zjk_))
 refine ⟨dx,_,hp1,by rw [List.length_zip]; omega,?_⟩
 rw [zjE_ v nd hf hn]
 have nul:∀ q,(fun _:Addr=>(none:Option HO)) q≠none→less G1 h q=none∧h q=none∧H0 q=none:=fun q z=>absurd rfl z
 obtain ⟨j',P'⟩:=zku_ (o':=.ins C dx (ns.zip (vs.set n v))) (hn:=fun _=>none) o1 kh ndx jn h2m nul (fun q o z=>by cases z) (fun q=>.inl rfl)
 have eu:un (fun _=>none) h2=h2:=by funext q; rfl
 rw [eu] at j' P'
 obtain ⟨h',a1,a2⟩:=g (st yp.1 a) _ _ _ P' ⟨p,dx,vs.set n v,h2,rfl,ndx,j',by rw [List.length_set]; exact hl,pf a v (fun _=>none) h2 _ (Same.refl _) ⟨fun _=>rfl,T.mono hs1 (hT ht hv)⟩ (fun q=>.inl ⟨rfl,rfl⟩)⟩
 exact hk _ F0 H0 σ _ h' _ D a1 a2 fin
theorem zp2_ {P:Ps γ}{P':Ps δ}{ad:γ→α→δ}{x:γ}{w:V}{k:δ→Mo (Out ρ B S)}(hi:L[i]?=some (.ow (owAt w (owI C ns P)) x)) (hf:f∉ns) (hsm:ns.length<900) (pp:PsAdd P (owF T) P' ad) (hT:Imm T) (he:EvF K e E L r T) (hk:∀ x',EvS K u E (L.set i (.ow (owAt w (owI C (ns++[f]) P')) x')) (k x') LS LB Or) :
  EvS K (tSeq (mSFld C (mVar i) e f) u) E L (r.bind fun a=>k (ad x a)) LS LB Or:=by
 intro F0 H0 σ F h H D hL ok fin
 refine he σ (un F h) H _ (hL.froz ok.2.1) ok.thaw (zcg_ (G:=F) ok _ (.inl rfl) fin fun a F' H' hra x1 v hv=>?_)
 obtain ⟨o,hs,ht⟩:=ok.back x1
 rw [hra] at fin
 obtain ⟨v0,k0,e1,⟨ew,p,dx,vs,m,rfl,ndx,jn,hl,ps⟩,kH,kh,_,g⟩:=zhG_ (hL.mono hs) hi o
 have hp1:H' p=some (.ins C dx (ns.zip vs)):=kH _ _ (jn.l _ _ zjk_)
 refine zdr_ e1 ⟨dx,_,hp1,by rw [List.length_zip]; omega,?_⟩
 rw [zh0_ v hf hl]
 have nul:∀ q,(fun _:Addr=>(none:Option HO)) q≠none→less F' h q=none∧h q=none∧H0 q=none:=fun q z=>absurd rfl z
 obtain ⟨j',PC⟩:=zku_ (o':=.ins C dx ((ns++[f]).zip (vs++[v]))) (hn:=fun _=>none) o kh ndx jn (Same.refl m) nul (fun q o z=>by cases z) (fun q=>.inl rfl)
 have eu:un (fun _=>none) m=m:=by funext q; rfl
 rw [eu] at j' PC
 obtain ⟨h',a1,a2⟩:=g (owAt w (owI C (ns++[f]) P')) (ad x a) (.ref p) _ _ _ PC ⟨ew,p,dx,vs++[v],m,rfl,ndx,j',by rw [List.length_append,List.length_append,hl]; rfl,pp ps a v (fun _=>none) m _ (Same.refl _) ⟨fun _=>rfl,hT ht hv⟩ (fun q=>.inl ⟨rfl,rfl⟩)⟩
 rw [zbT_ e1] at a1
 exact hk _ F0 H0 σ _ h' _ D a1 a2 fin
end
end L2
namespace L2
open PySem PySem.Spec PyProof.Rows
section
variable {K:Fgg}{E:XK}{α β γ δ ρ ρ' S B:Type}{F0 H0 F h H:Hp}{L:List Sl}{e te ei:TE}{T:Ty α}{r:Mo α}{Or:Own ρ}{t u:TS}{LS:S→List Sl}{LB:B→List Sl}{σ:St}{C:Addr}{ns:List Str}{f m:Str}{i n:Nat}
noncomputable def FinM (K:Fgg) (r:Mo ρ) (E:XK) (F0 H0:Hp) (kk:ρ→Hp→Hp→Hp→Prop):Prop:=match r with
 | .ok a=>∀ F h H,Okk F0 H0 F h H→kk a F h H
 | .ex c=>∀ F h H,Okk F0 H0 F h H→E (.ref (gA K c)) none H
 | .no=>False
noncomputable abbrev owRM (w:V) (O2:Own β) (Or:Own ρ):Own (ρ×β):=⟨fun r v F h=>∃ h1 h2,Jn h1 h2 h∧Or.O r.1 v F h1∧O2.O r.2 w F h2,⟨fun r v H=>Or.fr.R r.1 v H,fun g q=>Or.fr.mono g q⟩,
 fun g ⟨h1,h2,j,a,b⟩=>⟨h1,h2,j,Or.mono g a,O2.mono g b⟩,
 fun d ⟨h1,h2,j,a,b⟩=>Or.fr.mono (zeD_ d j.l) (Or.frz (dj_l d j) a),
 fun ⟨h1,h2,j,a,b⟩ p xs z=>by
  rcases j p with ⟨_,y⟩ | ⟨_,y⟩
  ·rw [y] at z; exact O2.notup b p xs z
  ·rw [y] at z; exact Or.notup a p xs z⟩
noncomputable def CtM (K:Fgg) (O:Own α) (O2:Own β) (Q:Cs γ) (g:α→γ→Mo (ρ×β)) (Or:Own ρ):Sp:=fun vs H R E=>∃ F h x c w ws,vs=w::ws∧Same F H∧Dj F h∧Same h H∧O.O x w F h∧Q.R c ws F ∧
 FinM K (g x c) E F (less H h) fun r F' h' H'=>∀ v,(owRM w O2 Or).O r v F' h'→R v H'
theorem zeF_ {k:Hp}(ok:Okk F0 H0 F h H) (s:Same k h):Okk F0 H0 F k H:=by
 refine ⟨ok.1,fun p=>?_,s.trans ok.2.2.1,fun p z=>ok.2.2.2.1 p fun y=>z (s.free y),fun p xs z=>ok.2.2.2.2 p xs (s _ _ z)⟩
 rcases ok.2.1 p with z | z
 ·exact .inl z
 ·exact .inr (s.free z)
theorem zaM_ {h:Hp}(p:Addr) (z:h p≠none):less H h p=none:=by
 unfold less
 cases y:h p with
 | none=>exact absurd y z
 | some w=>rfl
theorem zcJ_:Same (less H h) H:=fun p o z=>by
 unfold less at z
 split at z
 ·exact z
 ·cases z
theorem zjU_ (hs:Same F H) (dj:Dj F h) (hh:Same h H) (nt:∀ p xs,h p≠some (.tup xs)):Okk F (less H h) F h H:=by
 refine ⟨⟨Same.refl _,hs,zcJ_,fun p a b=>absurd a b⟩,dj,hh,fun p z=>zaM_ p z,nt⟩
noncomputable def fnMU (r:Mo (Out (Unit×β) Unit β)):Mo (Unit×β):=r.bind fun o=>match o with | .rt a=>.ok a | .nx x=>.ok ((),x) | _=>.no
noncomputable def fnMR (r:Mo (Out (ρ×β) Unit Unit)):Mo (ρ×β):=r.bind fun o=>match o with | .rt a=>.ok a | _=>.no
theorem zg4_ {O:Own α}{Q:Cs γ}{ss:γ→List Sl}{x:α}{c:γ}{w:V}{ws:List V}(m:Nat) (hC:CsS Q ss) (hO:O.O x w F h) (hc:Q.R c ws F):Hold (.ow (owAt w O) x::(ss c++List.replicate m .dead)) (some w::(ws.map some++List.replicate m none)) F h :=
 ⟨h,fun _=>none,fun _=>.inr ⟨rfl,rfl⟩,⟨w,rfl,rfl,hO⟩,(hC hc).hold m⟩
theorem zg5_ {t:XK→TS}{O:Own α}{O2:Own β}{Q:Cs γ}{ss:γ→List Sl}{g:α→γ→Mo (Out (Unit×β) Unit β)}{N:List Str}{LS:V→β→List Sl}(n m:Nat) (hn:CsN Q n) (hm:N.length-(n+1)=m) (hC:CsS Q ss) (hLS:∀ w x,(LS w x)[0]?=some (.ow (owAt w O2) x))
  (hb:∀ w x c E,EvS K (t E) E (.ow (owAt w O) x::(ss c++List.replicate m .dead)) (g x c) (LS w) (fun _:Unit=>[]) (owRM w O2 (owF tyNon))) :
  ∀ vs H R E,CtM K O O2 Q (fun x c=>fnMU (g x c)) (owF tyNon) vs H R E→t E { nx:=fun _ H'=>R .non H',rt:=R } (start N vs) H:=by
 rintro vs H R E ⟨F,h,x,c,w,ws,rfl,hs,dj,hh,hO,hc,q⟩
 have hstart:start N (w::ws)=some w::(ws.map some++List.replicate m none):=by
  unfold start
  rw [List.length_cons,hn hc,hm]; rfl
 rw [hstart]
 refine hb w x c E F (less H h) _ F h H _ (zg4_ m hC hO hc) (zjU_ hs dj hh (O.notup hO)) ?_
 cases e:g x c with
 | no=>simp only [fnMU,e] at q; exact q
 | ex cc=>simp only [fnMU,e] at q; exact q
 | ok o =>
  simp only [fnMU,e] at q
  cases o with
  | nx s =>
   intro σ F' h' H' hL ok
   obtain ⟨o,k,hr,e1,j,⟨v,e2,e3,ho⟩,_⟩:=hL.at 0 (hLS w s)
   subst e3
   exact q F' k H' (zeF_ ok j.l) .non ⟨fun _=>none,k,fun _=>.inl ⟨rfl,rfl⟩,⟨fun _=>rfl,rfl⟩,ho⟩
  | bk s=>exact q.elim
  | ct s=>exact q.elim
  | rt a=>exact fun v F' h' H' ok hv=>q F' h' H' ok v hv
theorem ziv_ {t:XK→TS}{O:Own α}{O2:Own β}{Q:Cs γ}{ss:γ→List Sl}{g:α→γ→Mo (Out (ρ×β) Unit Unit)}{N:List Str}(n m:Nat) (hn:CsN Q n) (hm:N.length-(n+1)=m) (hC:CsS Q ss)
  (hb:∀ w x c E,EvS K (t E) E (.ow (owAt w O) x::(ss c++List.replicate m .dead)) (g x c) (fun _:Unit=>[]) (fun _:Unit=>[]) (owRM w O2 Or)) :
  ∀ vs H R E,CtM K O O2 Q (fun x c=>fnMR (g x c)) Or vs H R E→t E { nx:=fun _ H'=>R .non H',rt:=R } (start N vs) H:=by
 rintro vs H R E ⟨F,h,x,c,w,ws,rfl,hs,dj,hh,hO,hc,q⟩
 have hstart:start N (w::ws)=some w::(ws.map some++List.replicate m none):=by
  unfold start
  rw [List.length_cons,hn hc,hm]; rfl
 rw [hstart]
 refine hb w x c E F (less H h) _ F h H _ (zg4_ m hC hO hc) (zjU_ hs dj hh (O.notup hO)) ?_
 cases e:g x c with
 | no=>simp only [fnMR,e] at q; exact q
 | ex cc=>simp only [fnMR,e] at q; exact q
 | ok o =>
  simp only [fnMR,e] at q
  cases o with
  | nx s=>exact q.elim
  | bk s=>exact q.elim
  | ct s=>exact q.elim
  | rt a=>exact fun v F' h' H' ok hv=>q F' h' H' ok v hv
theorem zpK_ {O2:Own β}{x:β}{w:V}(h0:L[i]?=some (.ow (owAt w O2) x)) (hT:Imm T) (he:EvF K e E L r T):EvS K (tRet e) E L (r.bind fun a=>.ok (.rt (a,x))) LS LB (owRM w O2 (owF T)):=by
 intro F0 H0 σ F h H D hL ok fin
 refine he σ (un F h) H _ (hL.froz ok.2.1) ok.thaw (zcg_ (G:=F) ok _ (.inl rfl) fin fun a F' H' hr x1 v hv=>?_)
 obtain ⟨o,hs,ht⟩:=ok.back x1
 rw [hr] at fin
 obtain ⟨_,k,_,_,j,⟨v',_,e3,ho⟩,_⟩:=(hL.mono hs).at i h0
 subst e3
 exact fin v _ k H' (zeF_ o j.l) ⟨fun _=>none,k,fun _=>.inl ⟨rfl,rfl⟩,⟨fun _=>rfl,hT ht hv⟩,ho⟩
theorem zma_ {O:Own α}{P:Ps β}{r0:Mo (β×(β→α))}{Q:Cs γ}{ta:TA}{ra:Mo γ}{g:β→γ→Mo (ρ'×β)}{Or':Own ρ'}{k:α→Mo (Out ρ B S)}(hno:m∉ns) (hI:ImmO (owI C ns P)) (hp:EvPt K te E L i O (owI C ns P) r0) (hC:ImmC Q) (ha:EvA K ta E L ra Q)
  (hk:∀ x',EvS K u E (L.set i (.ow O x')) (k x') LS LB Or) :
  EvS K (tSeq (tDrop (tMeth C m (CtM K (owI C ns P) (owI C ns P) Q g Or') [] E0 te ta)) u) E L (r0.bind fun yp=>ra.bind fun c=>(g yp.1 c).noex.bind fun q=>k (yp.2 q.2)) LS LB Or:=by
 intro F0 H0 σ F h H D hL ok fin
 show te σ H fun x H1=>∃ a dx fs,x=.ref a∧H1 a=some (.ins C dx fs)∧fs.lookup m=none∧ta σ H1 fun vs H2=>CtM K (owI C ns P) (owI C ns P) Q g Or' (x::(vs++[])) H2 (fun _ H3=>u D σ H3) E0
 refine hp F0 H0 σ F h H _ hL ok (zcg_ (G:=F) ok _ (.inl rfl) fin fun yp G1 H1 hr0 x1 u0 fc=>?_)
 obtain ⟨o1,hs1,_⟩:=ok.back x1
 rw [hr0] at fin
 obtain ⟨k0,⟨p,dx,vs0,m0,rfl,ndx,jn,hl,ps⟩,kh,_⟩:=fc _ H1 (Same.refl _) o1
 refine ⟨p,dx,_,rfl,o1.2.2.1 _ _ (kh _ _ (jn.l _ _ zjk_)),zbs_ hno,?_⟩
 refine ha σ (un (less G1 h) h) H1 _ ((hL.mono hs1).froz o1.2.1) o1.thaw (zcg_ (G:=F) o1 _ (.inl rfl) fin fun c G2 H2 hra x2 vs hvs=>?_)
 obtain ⟨o2,hs2,ht2⟩:=o1.back x2
 rw [hra] at fin
 rw [List.append_nil]
 obtain ⟨k1,hO,kh1,gg⟩:=fc _ H2 hs2 o2
 have dFc:∀ q,less h k1 q≠none→k1 q=none:=fun q z=>by
  cases y:k1 q with
  | none=>rfl
  | some s=>exact absurd (zaM_ (H:=h) q (by rw [y]; exact Option.some_ne_none _)) z
 have sFc:Same (un (less G2 h) (less h k1)) H2:=fun q o z=>by
  unfold un at z
  cases y:less G2 h q with
  | some s=>rw [y] at z; rw [← z]; exact o2.1.2.1 _ _ y
  | none=>rw [y] at z; exact o2.2.2.1 _ _ (zcJ_ _ _ z)
 have djc:Dj (un (less G2 h) (less h k1)) k1:=fun q=>by
  by_cases z:k1 q=none
  ·exact .inr z
  ·left
   unfold un
   have:less G2 h q=none:=zaM_ q fun y=>z (kh1.free y)
   rw [this]; exact zaM_ q z
 refine ⟨un (less G2 h) (less h k1),k1,yp.1,c,.ref p,vs,rfl,sFc,djc,kh1.trans o2.2.2.1,(owI C ns P).mono zbW_ hO,Q.mono zbW_ (hC ht2 hvs),?_⟩
 have fin:Fin K ((g yp.1 c).noex.bind fun q=>k (yp.2 q.2)) E LS LB Or F0 H0 D:=fin
 cases e:g yp.1 c with
 | no=>rw [e] at fin; exact fin
 | ex cc=>rw [e] at fin; exact fin.elim
 | ok q =>
  rw [e] at fin
  rintro F' h' H' okc v ⟨hr,hs',j,_,hO2⟩
  have lo:∀ q',less h k1 q'≠none→h q'≠none:=fun q' z y=>z (by unfold less; split; exact y; rfl)
  have tp:Tups F' (less F' (less h k1)):=fun b xs z=>by
   cases y:less h k1 b with
   | none=>rw [zV_ y]; exact z
   | some s =>
    exfalso
    have y2:un (less G2 h) (less h k1) b=some s:=by
     unfold un
     have:less G2 h b=none:=zaM_ b (lo b (by rw [y]; exact Option.some_ne_none _))
     rw [this]; exact y
    have:=okc.1.1 _ _ y2
    rw [z] at this
    injection this with this
    exact o2.2.2.2.2 b xs (by rw [this]; exact zcJ_ _ _ y)
  have PC:PutC (less G2 h) H2 h H0 k1 hs' (less F' (less h k1)) H':=by
   refine ⟨fun b o z=>?_,fun b o z=>okc.1.2.1 _ _ (zcJ_ _ _ z),okc.1.2.2.1,fun b a1 a2=>?_,j.r.trans okc.2.2.1,fun b=>?_,fun b a1 a2=>?_⟩
   ·have hb:h b=none:=by
     cases y:h b with
     | none=>rfl
     | some s=>rw [zaM_ b (by rw [y]; exact Option.some_ne_none _)] at z; cases z
    have:less h k1 b=none:=zcJ_.free hb
    rw [zV_ this]
    exact okc.1.1 _ _ (zbW_ _ _ z)
   ·have y:less h k1 b=none:=by
     cases y:less h k1 b with
     | none=>rfl
     | some s=>exact absurd (zaM_ b (by rw [y]; exact Option.some_ne_none _)) a2
    rw [zV_ y] at a2
    have y2:un (less G2 h) (less h k1) b=none:=by unfold un; rw [a1]; exact y
    have y3:=okc.1.2.2.2 b y2 a2
    by_cases z:k1 b=none
    ·left; rw [zV_ z] at y3; exact y3
    ·exact .inr z
   ·by_cases z:hs' b=none
    ·exact .inr z
    ·left
     rcases okc.2.1 b with y | y
     ·exact zcJ_.free y
     ·exact absurd (j.r.free y) z
   ·have y:=okc.2.2.2.1 b fun y=>a2 (j.r.free y)
    rw [zV_ a1] at y
    exact ⟨o2.2.2.1.free y,o2.1.2.2.1.free y⟩
  obtain ⟨h3,a1,a2⟩:=gg q.2 hs' _ H' PC (hI tp hO2)
  exact hk _ F0 H0 σ _ h3 H' D a1 a2 fin
theorem zkr_ {Q:Cs γ}{Q2:Cs δ}{ta:TA}{r0:Mo γ}{ra:Mo δ}{g:γ×δ→Mo α}(hno:m∉ns) (he:EvF K te E L r0 (tyI C ns Q)) (ha:EvA K ta E L ra Q2) :
  EvF K (tMeth C m (Ct K (csCons (tyI C ns Q) Q2) g (owF T)) [] E0 te ta) E L (r0.bind fun x=>ra.bind fun c=>(g (x,c)).noex) T:=by
 intro σ F H R hL hs q
 refine he σ F H _ hL hs (q.bind.imp fun x F1 H1 x1 k1 v hv=>?_)
 obtain ⟨p,dx,vs,rfl,hp,hl,hc⟩:=id hv
 refine ⟨p,dx,_,rfl,x1.2.1 _ _ hp,zbs_ hno,?_⟩
 refine ha σ F1 H1 _ (hL.mono x1.1) x1.2.1 (k1.bind.imp fun c F2 H2 x2 k2 us hus=>?_)
 rw [List.append_nil]
 refine ⟨F2,(x,c),x2.2.1,⟨_,us,rfl,(tyI C ns Q).mono x2.1 hv,hus⟩,k2.noex.imp fun a F3 H3 x3 k3 w hw _ _ _ hv=>k3 w hv.2⟩
theorem zgr_ {Q:Cs γ}{r0:Mo γ}{g:γ→Mo α}(hno:m∉ns) (he:EvF K te E L r0 (tyI C ns Q)) :
  EvF K (tMeth C m (Ct K (csLast (tyI C ns Q)) g (owF T)) [] E0 te tNil) E L (r0.bind fun x=>(g x).noex) T:=by
 intro σ F H R hL hs q
 refine he σ F H _ hL hs (q.bind.imp fun x F1 H1 x1 k1 v hv=>?_)
 obtain ⟨p,dx,vs,rfl,hp,hl,hc⟩:=id hv
 refine ⟨p,dx,_,rfl,x1.2.1 _ _ hp,zbs_ hno,?_⟩
 exact ⟨F1,x,x1.2.1,⟨_,rfl,hv⟩,k1.noex.imp fun a F3 H3 x3 k3 w hw _ _ _ hv=>k3 w hv.2⟩
theorem zml_ {P:Ps γ}{Q:Cs δ}{ta:TA}{ra:Mo δ}{g:Unit→δ→Mo (Unit×γ)}(ha:EvA K ta E L ra Q) :
  EvO K (tMake C (CtM K (owI C [] psNil) (owI C ns P) Q g (owF tyNon)) [] E0 ta) E L (ra.bind fun c=>(g () c).noex.bind fun q=>.ok q.2) (owI C ns P):=by
 intro σ F H R hL hs q
 refine ha σ F H _ hL hs (q.bind.imp fun c F1 H1 x1 k1 vs hvs x dx hx hdx ndx=>?_)
 rw [List.append_nil]
 have new:∀ b,two x dx (.ins C dx []) b≠none→H1 b=none:=fun b z=>by
  unfold two at z
  split at z
  ·rename_i e; rw [e]; exact hx
  ·split at z
   ·rename_i e; rw [e]; exact hdx
   ·exact absurd rfl z
 have at1:∀ b,two x dx (.ins C dx []) b=none→upd (upd H1 dx (.own x)) x (.ins C dx []) b=H1 b:=fun b z=>by
  obtain ⟨a1,a2⟩:=zom_ z
  rw [zbk_ a1,zbk_ a2]
 have at2:Same (two x dx (.ins C dx [])) (upd (upd H1 dx (.own x)) x (.ins C dx [])):=fun b o z=>by
  unfold two at z
  split at z
  ·rename_i e; rw [e,zbu_]; exact z
  ·rename_i e0
   split at z
   ·rename_i e; rw [zbk_ e0,e,zbu_]; exact z
   ·cases z
 have dj:Dj F1 (two x dx (.ins C dx [])):=fun b=>by
  by_cases z:two x dx (.ins C dx []) b=none
  ·exact .inr z
  ·exact .inl (x1.2.1.free (new b z))
 have sF:Same F1 (upd (upd H1 dx (.own x)) x (.ins C dx [])):=fun b o z=>by
  have hb:=x1.2.1 _ _ z
  rw [at1 b ?_]
  ·exact hb
  ·cases y:two x dx (.ins C dx []) b with
   | none=>rfl
   | some s=>rw [new b (by rw [y]; exact Option.some_ne_none _)] at hb; cases hb
 have eH:∀ b,less (upd (upd H1 dx (.own x)) x (.ins C dx [])) (two x dx (.ins C dx [])) b=H1 b:=fun b=>by
  by_cases z:two x dx (.ins C dx []) b=none
  ·rw [zV_ z,at1 b z]
  ·rw [zaM_ b z,new b z]
 refine ⟨F1,two x dx (.ins C dx []),(),c,.ref x,vs,rfl,sF,dj,at2,⟨x,dx,[],fun _=>none,rfl,ndx,fun _=>.inr ⟨rfl,rfl⟩,rfl,rfl,fun _=>rfl⟩,hvs,?_⟩
 cases e:g () c with
 | no=>rw [e] at k1; exact k1
 | ex cc=>rw [e] at k1; exact k1.elim
 | ok q0 =>
  rw [e] at k1
  rintro F' h' H' okc v ⟨hr,hs',j,⟨_,hv⟩,hO2⟩
  refine ⟨hv,?_⟩
  have xx:Ext F1 H1 F' H':=⟨okc.1.1,okc.1.2.1,fun b o z=>okc.1.2.2.1 b o (by rw [eH]; exact z),fun b a1 a2=>by rw [← eH b]; exact okc.1.2.2.2 b a1 a2⟩
  refine k1 F' H' xx (.ref x) hs' (fun b z=>?_) (fun b=>?_) (j.r.trans okc.2.2.1) hO2
  ·have:=okc.2.2.2.1 b fun y=>z (j.r.free y)
   rw [eH] at this
   exact x1.2.2.1.free this
  ·rcases okc.2.1 b with y | y
   ·exact .inl y
   ·exact .inr (j.r.free y)
end
end L2
namespace L2
open PySem PySem.Spec PyProof.Rows
section
variable {K:Fgg}{E:XK}{α β γ δ ρ ρ' S B:Type}{F0 H0 F h H:Hp}{L:List Sl}{e te ei:TE}{T:Ty α}{r:Mo α}{Or:Own ρ}{t u:TS}{LS:S→List Sl}{LB:B→List Sl}{σ:St}{C:Addr}{ns:List Str}{f m:Str}{i n:Nat}
noncomputable def ImmP (P:Ps γ):Prop:=∀ {c vs F F' h},Tups F F'→P.P c vs F h→P.P c vs F' h
theorem zaC_:ImmP psNil:=fun _ q=>q
theorem zo_ {O:Own α}{P:Ps γ}(a:ImmO O) (b:ImmP P):ImmP (psO O P):=fun g ⟨v,us,h1,h2,e,j,x,y⟩=>⟨v,us,h1,h2,e,j,a g x,b g y⟩
theorem zcy_ {P:Ps γ}(b:ImmP P):ImmO (owI C ns P):=fun g ⟨p,dx,vs,k,e,nd,j,l,q⟩=>⟨p,dx,vs,k,e,nd,j,l,b g q⟩
theorem zhi_ {O:Own β}{P:Ps γ}{st:γ→α→γ}{r0:Mo (γ×(γ→β))}{k:β→Mo (Out ρ B S)}(nd:ns.Nodup) (hf:ns[n]?=some f) (hsm:ns.length<1000) (pp:PsPut P n (owF T) st) (hT:Imm T) (he:EvF K e E L r T) (hp:EvPt K te E L i O (owI C ns P) r0) (hk:∀ x',EvS K u E (L.set i (.ow O x')) (k x') LS LB Or) :
  EvS K (tSeq (mSFld C te e f) u) E L (r.bind fun a=>r0.bind fun yp=>(Mo.ok (yp.2 (st yp.1 a))).bind k) LS LB Or:=zqs_ nd hf hsm pp hT he hp hk
theorem zg9_ {P:Ps γ}{P':Ps δ}{ad:γ→α→δ}{x:γ}{w:V}{k:δ→Mo (Out ρ B S)}(hi:L[i]?=some (.ow (owAt w (owI C ns P)) x)) (hf:f∉ns) (hsm:ns.length<900) (pp:PsAdd P (owF T) P' ad) (hT:Imm T) (he:EvF K e E L r T) (hk:∀ x',EvS K u E (L.set i (.ow (owAt w (owI C (ns++[f]) P')) x')) (k x') LS LB Or) :
  EvS K (tSeq (mSFld C (mVar i) e f) u) E L (r.bind fun a=>(Mo.ok (ad x a)).bind k) LS LB Or:=zp2_ hi hf hsm pp hT he hk
theorem zkf_ {O:Own α}{P:Ps β}{r0:Mo (β×(β→α))}{Q:Cs γ}{ta:TA}{ra:Mo γ}{g:β→γ→Mo (ρ'×β)}{Or':Own ρ'}{k:α→Mo (Out ρ B S)}(hno:m∉ns) (hI:ImmO (owI C ns P)) (hp:EvPt K te E L i O (owI C ns P) r0) (hC:ImmC Q) (ha:EvA K ta E L ra Q)
  (hk:∀ x',EvS K u E (L.set i (.ow O x')) (k x') LS LB Or) :
  EvS K (tSeq (tDrop (tMeth C m (CtM K (owI C ns P) (owI C ns P) Q g Or') [] E0 te ta)) u) E L (r0.bind fun yp=>ra.bind fun c=>(g yp.1 c).noex.bind fun q=>(Mo.ok (yp.2 q.2)).bind k) LS LB Or:=zma_ hno hI hp hC ha hk
end
end L2
namespace L2
open PySem PySem.Spec PyProof.Rows
section
variable {K:Fgg}{E:XK}{γ:Type}{L:List Sl}{C:Addr}{ns:List Str}
theorem zl8_ (i:Nat) {P:Ps γ}{x:γ}(h:L[i]?=some (.ow (owI C ns P) x)):EvF K (mVar i) E L (.ok x) (tyI C ns P.fr):=zka_ i h
theorem zbV_ (i:Nat) {P:Ps γ}{x:γ}{w:V}(h:L[i]?=some (.ow (owAt w (owI C ns P)) x)):EvF K (mVar i) E L (.ok x) (tyI C ns P.fr):=zka_ i h
end
end L2
namespace L2
open PySem PySem.Spec PyProof.Rows
noncomputable def joinL (sep:List Nat):List (List Nat)→List Nat
 | []=>[]
 | [p]=>p
 | p::q::r=>p++sep++joinL sep (q::r)
theorem zga_ (y:Str):∀ ps:List Str,(Str.join y ps).cps.toList=joinL y.cps.toList (ps.map fun p=>p.cps.toList)
 | []=>rfl
 | [p]=>rfl
 | p::q::r=>by
  show (p++y++Str.join y (q::r)).cps.toList=_
  rw [zjr_,zjr_,zga_ y (q::r)]
  rfl
theorem zi4_ (sep:List Nat) (ps:List (List Nat)):joinS sep (strsL ps)=joinL sep ps:=by
 have:=zga_ ⟨sep.toArray⟩ (strsL ps)
 unfold joinS
 refine Eq.trans ?_ (this.trans ?_)
 ·rw [eq_of_beq (PyProof.Rows.join_closes (sep:=⟨sep.toArray⟩) (ys:=strsL ps) rfl)]
 ·unfold strsL
  rw [List.map_map]
  congr 1
  exact (List.map_congr_left fun p _=>rfl).trans (List.map_id _)
end L2
namespace L2
open PySem PySem.Spec PyProof.Rows
section
variable {X:Cx}
noncomputable def mTrL (K:Fgg) (t:TE):TT:=fun σ H Q=>t σ H fun x H'=>match x with
 | .bl k=>Q k H'
 | .ref a=>∃ xs,SqL K H' a xs∧Q (!xs.isEmpty) H'
 | _=>False
theorem zqU_ {e:Expr}{t:TE}(h:PE X e t) (he:∀ whole,isTrue e X.env whole=(do let v ← whole; standAt e.pos; holding [v] (truthy v)):=by intro _; rfl):PT X e (mTrL X.K t):=by
 intro pins s σ H Q I hw
 refine isTrue_plain (thn (h pins s σ H _ I hw) fun v s1 hq_=>?_) (he _)
 obtain ⟨x,H1,I1,r1,q1⟩:=hq_
 cases x with
 | bl c=>cases r1; exact wpAny_truthy_bool ⟨H1,I1,q1⟩
 | ref a =>
  cases r1
  obtain ⟨xs,hq,q⟩:=q1
  obtain ⟨its,rv,p,hz⟩:=I1.list hq
  have hl:=rv.length
  refine wpAny_truthy_list p.isList (by rw [List.size_toArray,← hl]; rw [sizeLine_eq] at hz; lia) ?_
  have e:its.isEmpty=xs.isEmpty:=by cases rv<;>rfl
  refine ⟨H1,I1.tok _,?_⟩
  simpa [e] using q
 | _=>exact q1.elim
end
section
variable {K:Fgg}{E:XK}{α β:Type}{L:List Sl}{e:TE}{T:Ty α}
theorem zpR_ {b:Mo Bool}(h:EvF K e E L b tyBl):EvT K (mTrL K e) E L b:=by
 intro σ F H Q hL hs q
 refine h σ F H _ hL hs (q.imp fun a F1 H1 x k v hv=>?_)
 cases hv
 exact k
theorem zkZ_ {r:Mo (Option α)}(h:EvF K e E L r (tyOpt T)):EvF K e E L (r.bind fun o=>Mo.opt o) T:=by
 intro σ F H Q hL hs q
 refine h σ F H _ hL hs (q.bind.imp fun o F1 H1 x k v hv=>?_)
 cases o with
 | none=>exact k.elim
 | some a=>exact k.ok x.2.1 v hv.1
noncomputable def EvJ (K:Fgg) (k:Nat) (tj:TJ) (E:XK) (L:List Sl) (r:Mo (List Nat)):Prop :=
 ∀ (n:Nat) (acc:List Nat) σ F H (R:Str→Hp→Prop),acc.length≤1000*n→n+k≤90→HoldF L σ F→Same F H→After K r E F H (fun l F' H'=>l.length≤1000*k→R ⟨(acc++l).toArray⟩ H')→tj ⟨acc.toArray⟩ σ H R
theorem zp3_:EvJ K 0 tJ0 E L (.ok []):=fun n acc σ F H R ha hn hL hs q=>by
 have:=q.ok hs (Nat.zero_le _)
 rwa [List.append_nil] at this
theorem zjF_ {ta:TE}{tr:TJ}{k:Nat}{r r':Mo (List Nat)}(h:EvF K ta E L r tyStr) (hr:EvJ K k tr E L r'):EvJ K (k+1) (tJ1 ta tr) E L (r.bind fun a=>.grd (a.length≤1000) (r'.bind fun l=>.ok (a++l))):=by
 intro n acc σ F H R ha hn hL hs q
 refine h σ F H _ hL hs (q.bind.imp fun a F1 H1 x1 k1 v hv=>?_)
 cases hv
 obtain ⟨hz,k1⟩:=k1.grd
 have e:((⟨acc.toArray⟩:Str)++(⟨a.toArray⟩:Str))=⟨(acc++a).toArray⟩:=by
  show (⟨acc.toArray++a.toArray⟩:Str)=_
  simp
 show ((⟨acc.toArray⟩:Str)++(⟨a.toArray⟩:Str)).length≤sizeLine∧tr ((⟨acc.toArray⟩:Str)++(⟨a.toArray⟩:Str)) σ H1 R
 rw [e]
 refine ⟨by show (acc++a).toArray.size≤sizeLine; rw [List.size_toArray,List.length_append,sizeLine_eq]; lia,hr (n+1) (acc++a) σ F1 H1 R (by rw [List.length_append]; lia) (by lia) (hL.mono x1.1) x1.2.1 (k1.bind.imp fun l F2 H2 x2 k2 hl=>?_)⟩
 have:=k2.ok x2.2.1 (by rw [List.length_append]; lia)
 rwa [← List.append_assoc] at this
theorem zlJ_ {tj:TJ}{k:Nat}{r:Mo (List Nat)}(h:EvJ K k tj E L r) (hk:k≤80:=by decide):EvF K (tJoin tj) E L r tyStr:=by
 intro σ F H Q hL hs q
 refine h 0 [] σ F H _ (by simp) (by lia) hL hs (q.imp fun l F' H' x k1 hl=>?_)
 rw [List.nil_append]
 exact ⟨by show l.toArray.size≤sizeLine; rw [List.size_toArray,sizeLine_eq]; lia,k1 _ rfl⟩
theorem zl9_ {r:Mo (List Nat)}(h:EvF K e E L r tyStr):EvF K (tUn mFmt e) E L (r.bind fun l=>.lim l.length (.ok l)) tyStr:=by
 intro σ F H Q hL hs q
 refine h σ F H _ hL hs (q.bind.imp fun l F1 H1 x1 k1 v hv=>?_)
 cases hv
 obtain ⟨hz,k1⟩:=k1.lim
 exact ⟨by show l.toArray.size≤sizeLine; rw [List.size_toArray]; exact hz,k1.ok x1.2.1 _ rfl⟩
end
end L2
namespace L2
open PySem PySem.Spec PyProof.Rows
end L2
namespace L2
open PySem PySem.Spec PyProof.Rows
section
variable {prog:Program}{w:World}{A:Around}{E:Value→Shared→Prop}{s:Shared}
end
section
variable {X:Cx}
end
section
variable {K:Fgg}{E:XK}{α β γ ρ S B:Type}{F H:Hp}{L:List Sl}{e:TE}{T:Ty α}
end
end L2
namespace L2
open PySem PySem.Spec PyProof.Rows
section
variable {α β γ:Type}
noncomputable abbrev owPn (u:V) (O':Own β) (put:β→α) (O:Own α):Own β:=⟨fun z v F k=>∃ k1 k2,Jn k1 k2 k∧O'.O z u F k1∧∀ z' k1' k' F3,Same F F3→O'.O z' u F3 k1'→Jn k1' k2 k'→O.O (put z') v F3 k',
 ⟨fun z v H=>O.fr.R (put z) v H∧O'.fr.R z u H,fun g q=>⟨O.fr.mono g q.1,O'.fr.mono g q.2⟩⟩,
 fun g ⟨k1,k2,j,a,b⟩=>⟨k1,k2,j,O'.mono g a,fun z' k1' k' F3 s=>b z' k1' k' F3 (g.trans s)⟩,
 fun d ⟨k1,k2,j,a,b⟩=>⟨O.frz d (b _ k1 _ _ (Same.refl _) a j),O'.fr.mono (zeD_ d j.l) (O'.frz (dj_l d j) a)⟩,
 fun ⟨k1,k2,j,a,b⟩=>O.notup (b _ k1 _ _ (Same.refl _) a j)⟩
theorem zhr_ {u v:V}{O':Own β}{put:β→α}{O:Own α}{z:β}{F k:Hp}(h:(owPn u O' put O).O z v F k):O.O (put z) v F k:=by
 obtain ⟨k1,k2,j,a,b⟩:=h
 exact b _ k1 _ _ (Same.refl _) a j
theorem zke_ {k1 k2 kb m k:Hp}(jm:Jn k2 kb m) (j:Jn k1 m k):Dj k1 k2∧Jn (un k1 k2) kb k:=by
 refine ⟨fun p=>?_,fun p=>?_⟩
 ·rcases j.dj p with z | z
  ·exact .inl z
  ·exact .inr (jm.l.free z)
 ·unfold un
  rcases j p with ⟨a,b⟩ | ⟨a,b⟩
  ·rw [a,b]
   rcases jm p with ⟨c,e⟩ | ⟨c,e⟩
   ·exact .inl ⟨c,e⟩
   ·exact .inr ⟨c,e⟩
  ·right
   refine ⟨jm.r.free a,?_⟩
   rw [b]
   cases z:k1 p with
   | some w=>rfl
   | none=>exact (jm.l.free a).symm
theorem zqJ_ {k:Hp}:Jn k (fun _=>none) k:=fun p=>.inr ⟨rfl,rfl⟩
theorem zlu_ {k k':Hp}(j:Jn k (fun _=>none) k'):k'=k:=by
 funext p
 rcases j p with ⟨a,b⟩ | ⟨a,b⟩
 ·rw [a,b]
 ·exact b
end
section
variable {K:Fgg}{E:XK}{α β γ δ ρ ρ' S B:Type}{F0 H0 F h H:Hp}{L:List Sl}{e te ei:TE}{T:Ty α}{r:Mo α}{Or:Own ρ}{t u:TS}{LS:S→List Sl}{LB:B→List Sl}{σ:St}{C:Addr}{ns:List Str}{f m:Str}{i n w:Nat}
theorem zdh_ {O1:Own α}{O2:Own β}{x:α}{x2:β}(hL:Hold L σ F h) (hi:L[i]?=some (.ow O1 x)) (g:∀ v k,σ[i]?=some (some v)→Same k h→O1.O x v F k→O2.O x2 v F k):Hold (L.set i (.ow O2 x2)) σ F h:=by
 obtain ⟨o,k,hr,e1,j,⟨v,e2,ho⟩,f⟩:=hL.at i hi
 subst e2
 have:=f (.ow O2 x2) (some v) k h j ⟨v,rfl,g v k e1 j.l ho⟩
 rwa [zbT_ e1] at this
noncomputable def EvPw (K:Fgg) (te:TE) (E:XK) (L:List Sl) (i:Nat) (O:Own α) (O':Own β) (r:Mo (β×(β→α))):Prop :=
 ∀ F0 H0 σ F h H (Q:VK),Hold L σ F h→Okk F0 H0 F h H→After K r E (un F h) H (fun yp G1 H1=>∀ u,i<L.length→Hold (L.set i (.ow (owPn u O' yp.2 O) yp.1)) σ (less G1 h) h→Q u H1)→te σ H Q
theorem zec_ {O:Own α}{x:α}(hi:L[i]?=some (.ow O x)):EvPw K (mVar i) E L i O O (.ok (x,fun z=>z)):=by
 intro F0 H0 σ F h H Q hL ok q
 obtain ⟨o,hs,_⟩:=ok.back (Ext.refl ok.thaw)
 obtain ⟨_,k,hr,e1,j,⟨v,e2,ho⟩,f⟩:=(hL.mono hs).at i hi
 subst e2
 refine zdr_ e1 (q.ok ok.thaw v (List.getElem?_eq_some_iff.mp hi).1 (zdh_ (hL.mono hs) hi fun v' k ev kh ho=>?_))
 rw [e1] at ev; cases ev
 exact ⟨k,fun _=>none,zqJ_,ho,fun z' k1' k' F3 s o' j'=>by rw [zlu_ j']; exact o'⟩
theorem zmk_ {O:Own α}{O1:Own β}{O2:Own γ}{uu v w:V}{put:β→α}{y:β}{z:γ}{st:γ→β}{k:Hp}(pt:∀ ka,Same ka k→O1.O y uu F ka→∃ k1 k2,Jn k1 k2 ka∧O2.O z w F k1∧∀ z' k1' k' F3,Same F F3→O2.O z' w F3 k1'→Jn k1' k2 k'→O1.O (st z') uu F3 k')
  (h:(owPn uu O1 put O).O y v F k):(owPn w O2 (fun z'=>put (st z')) O).O z v F k:=by
 obtain ⟨ka,kb,jk,ho,wand⟩:=h
 obtain ⟨k1,k2,j1,o1,g⟩:=pt ka jk.l ho
 obtain ⟨mm,jm,jh⟩:=zdZ_ j1 jk
 refine ⟨k1,mm,jh,o1,fun z' k1' k' F3 s oz j'=>?_⟩
 obtain ⟨d,jg⟩:=zke_ jm j'
 exact wand (st z') _ k' F3 s (g z' k1' _ F3 s oz (zep_ d)) jg
theorem zmm_ {O:Own α}{P:Ps γ}{O':Own β}{pr:γ→β}{st:γ→β→γ}{r:Mo (γ×(γ→α))}(nd:ns.Nodup) (hf:ns[n]?=some f) (pa:PsAt P n O' pr st) (hp:EvPw K te E L i O (owI C ns P) r) :
  EvPw K (mFld C te f) E L i O O' (r.bind fun yp=>.ok (pr yp.1,fun z'=>yp.2 (st yp.1 z'))):=by
 intro F0 H0 σ F h H Q hL ok q
 refine hp F0 H0 σ F h H _ hL ok (q.bind.imp fun yp G1 H1 x1 k1 uu il hh=>?_)
 obtain ⟨o1,_,_⟩:=ok.back x1
 have hi:(L.set i (.ow (owPn uu (owI C ns P) yp.2 O) yp.1))[i]?=some (.ow (owPn uu (owI C ns P) yp.2 O) yp.1):=by rw [List.getElem?_set_self (by exact il)]
 obtain ⟨_,k,hr,e1,j,⟨v,e2,ka,kb,jk,⟨p,dx,vs,mm,rfl,ndx,jn,hl,ps⟩,wand⟩,_⟩:=hh.at i hi
 have hp1:h p=some (.ins C dx (ns.zip vs)):=j.l _ _ (jk.l _ _ (jn.l _ _ zjk_))
 obtain ⟨w,_,_,ew,_⟩:=pa ps
 refine ⟨dx,_,w,o1.2.2.1 _ _ hp1,zee_ nd hf ew,?_⟩
 have:=zdh_ (O2:=owPn w O' (fun z'=>yp.2 (st yp.1 z')) O) (x2:=pr yp.1) hh hi fun v k ev kh ho=>zmk_ (st:=st yp.1) (fun ka ks ho=>zof_ pa hp1 hl ew _ ka (ks.trans kh) ho) ho
 rw [List.set_set] at this
 exact k1.ok x1.2.1 w il this
theorem znr_ {O:Own α}{O':Own β}{r:Mo (List β×(List β→α))}{rj:Mo Int}(hp:EvPw K te E L i O (owLO O') r) (hj:EvF K ei E L rj tyInt) :
  EvPw K (tOp (mIx K) te ei) E L i O O' (r.bind fun yp=>rj.bind fun j=>(Mo.opt (ixN yp.1.length j)).bind fun n=>(Mo.opt (yp.1[n]?)).bind fun z=>.ok (z,fun z'=>yp.2 (yp.1.set n z'))):=by
 intro F0 H0 σ F h H Q hL ok q
 refine hp F0 H0 σ F h H _ hL ok (q.bind.imp fun yp G1 H1 x1 k1 uu il hh=>?_)
 refine hj σ G1 H1 _ ((hL.froz ok.2.1).mono x1.1) x1.2.1 (k1.bind.imp fun j G2 H2 x2 k2 v2 hv2=>?_)
 cases hv2
 obtain ⟨n,en,k3⟩:=k2.bind.opt
 obtain ⟨z,ez,k4⟩:=(k3.ok x2.2.1).bind.opt
 have k5:=(k4.ok x2.2.1).ok x2.2.1
 obtain ⟨o2,_,_⟩:=ok.back (x1.trans x2)
 have hh:=hh.mono (zik_ (h:=h) x2.1)
 have hi:(L.set i (.ow (owPn uu (owLO O') yp.2 O) yp.1))[i]?=some (.ow (owPn uu (owLO O') yp.2 O) yp.1):=by rw [List.getElem?_set_self (by exact il)]
 obtain ⟨_,k,hr,e1,jj,⟨v,e2,ka,kb,jk,⟨p,vs,mm,rfl,jn,all⟩,wand⟩,_⟩:=hh.at i hi
 have hp1:h p=some (.lst vs):=jj.l _ _ (jk.l _ _ (jn.l _ _ zbU_))
 refine ⟨vs,.inl (.of (o2.2.2.1 _ _ hp1)),?_⟩
 have hl:=all.len
 have hn:=zmF_ en
 have hw:vs[n]?=some vs[n]:=List.getElem?_eq_getElem (by omega)
 have en':ixN vs.length j=some n:=by rw [← hl]; exact en
 have ea:atI vs j=some vs[n]:=by unfold atI; rw [en']; exact hw
 rw [ea]
 have:=zdh_ (O2:=owPn vs[n] O' (fun z'=>yp.2 (yp.1.set n z')) O) (x2:=z) hh hi fun v k ev kh ho=>zmk_ (st:=fun z'=>yp.1.set n z') (fun ka ks ho=>zmi_ hp1 hw ez _ ka (ks.trans kh) ho) ho
 rw [List.set_set] at this
 exact k5 _ il this
noncomputable abbrev tyIs (u:V):Ty Unit:=⟨fun _ v _=>v=u,fun _ q=>q⟩
theorem zoQ_ {O:Own α}{O':Own β}{r0:Mo (β×(β→α))}{k:β×(β→α)→Mo (Out ρ B S)}{s0:Sl}(hw:L[w]?=some s0) (hne:i≠w) (hp:EvPw K te E L i O O' r0)
  (hk:∀ uu yp,EvS K u E ((L.set i (.ow (owPn uu O' yp.2 O) yp.1)).set w (.fz (tyIs uu) ())) (k yp) LS LB Or):EvS K (tSeq (tAsg te (gName w)) u) E L (r0.bind k) LS LB Or:=by
 intro F0 H0 σ F h H D hL ok fin
 refine hp F0 H0 σ F h H _ hL ok (zcg_ (G:=F) ok _ (.inl rfl) fin fun yp G1 H1 hr0 x1 uu il hh=>?_)
 obtain ⟨o1,_,_⟩:=ok.back x1
 rw [hr0] at fin
 refine hk uu yp F0 H0 _ _ h H1 D (zei_ (T:=tyIs uu) (a:=()) (s:=s0) ?_ hh rfl) o1 fin
 rw [List.getElem?_set_ne hne]; exact hw
theorem zih_ {O:Own α}{O':Own β}{put:β→α}{uu:V}{z:β}(hi:L[i]?=some (.ow (owPn uu O' put O) z)) (hw:L[w]?=some (.fz (tyIs uu) ())):EvPt K (mVar w) E L i (owPn uu O' put O) O' (.ok (z,fun z'=>z')):=by
 intro F0 H0 σ F h H Q hL ok q
 obtain ⟨o,hs,_⟩:=ok.back (Ext.refl ok.thaw)
 obtain ⟨v,ev,fc⟩:=zjB_ (F0:=F0) (H0:=H0) (hL.mono hs) hi
 obtain ⟨_,_,_,e1,_,⟨v',e2,e3⟩,_⟩:=hL.at w hw
 subst e2
 obtain rfl:v'=uu:=e3
 refine zdr_ e1 (q.ok ok.thaw v' (Foc.part (put:=fun z'=>z') fc fun F2 k s kh hq_=>?_))
 obtain ⟨k1,k2,j,a,b⟩:=hq_
 exact ⟨k1,k2,j,a,fun z' k1' k' F3 s o' j'=>⟨k1',k2,j',o',fun z' k1' k' F3 s'=>b z' k1' k' F3 (s.trans s')⟩⟩
theorem zmZ_ {O:Own α}{O':Own β}{put:β→α}{uu:V}{z:β}(hi:L[i]?=some (.ow (owPn uu O' put O) z)) (hw:L[w]?=some (.fz (tyIs uu) ())):EvF K (mVar w) E L (.ok z) O'.fr:=by
 intro σ F H Q hL hs q
 obtain ⟨v,e1,a,b⟩:=hL i _ hi
 obtain ⟨v',e2,e3⟩:=hL w _ hw
 obtain rfl:v'=uu:=e3
 unfold mVar
 cases z:σ[w]? with
 | none=>rw [z] at e2; cases e2
 | some o=>rw [z] at e2; cases e2; exact q.ok hs v' b
theorem zoP_ {O:Own α}{O':Own β}{put:β→α}{uu:V}{z:β}{r:Mo (Out ρ B S)}(hi:L[i]?=some (.ow (owPn uu O' put O) z)) (hk:EvS K u E (L.set i (.ow O (put z))) r LS LB Or):EvS K u E L r LS LB Or:=by
 intro F0 H0 σ F h H D hL ok fin
 exact hk F0 H0 σ F h H D (zdh_ hL hi fun v k _ _ ho=>zhr_ ho) ok fin
theorem zl5_ {r:Mo α}{k:α→Mo ρ}{kk':ρ→Hp→Hp→Hp→Prop}{kk:α→Hp→Hp→Prop}(ok:Okk F0 H0 F h H) (fin:FinM K (r.bind k) E F0 H0 kk') (hk:∀ a F' H',r=.ok a→Ext (un F h) H F' H'→kk a F' H'):After K r E (un F h) H kk:=by
 cases r with
 | ok a=>exact fun F' H' x=>hk a F' H' rfl x
 | no=>exact fin
 | ex c=>exact fun F' H' x=>fin _ _ _ (ok.back x).1
noncomputable def EvM (K:Fgg) (t:TE) (E:XK) (L:List Sl) (i:Nat) (O:Own α) (Or':Own ρ') (r:Mo (ρ'×α)):Prop :=
 ∀ F0 H0 σ F h H (Q:VK),Hold L σ F h→Okk F0 H0 F h H→FinM K r E F0 H0 (fun q F' h' H'=>∀ v h1 h2,Jn h1 h2 h'→Hold (L.set i (.ow O q.2)) σ F' h1→Or'.O q.1 v F' h2→Q v H')→t σ H Q
theorem znu_ {G2 H2 ka kb hrest hs' hr F' h' H' k:Hp}(o2:Okk F0 H0 (less G2 h) h H2) (j:Jn k hrest h) (jk:Jn ka kb k) (okc:Okk (un (less G2 h) (less h ka)) (less H2 ka) F' h' H') (j':Jn hr hs' h') :
  Same (less G2 h) (less F' (less h ka))∧Tups F' (less F' (less h ka))∧Dj hs' kb∧Dj (un hs' kb) hrest∧Dj (un (un hs' kb) hrest) hr∧Okk F0 H0 (less F' (less h ka)) (un (un (un hs' kb) hrest) hr) H':=by
 have kah:Same ka h:=jk.l.trans j.l
 have kab:∀ q,kb q≠none→h q=kb q∧ka q=none:=fun q z=>by
  cases y:kb q with
  | none=>exact absurd y z
  | some o =>
   refine ⟨j.l _ _ (jk.r _ _ y),?_⟩
   rcases jk.dj q with x | x
   ·exact x
   ·rw [x] at y; cases y
 have rst:∀ q,hrest q≠none→h q=hrest q∧ka q=none:=fun q z=>by
  cases y:hrest q with
  | none=>exact absurd y z
  | some o =>
   refine ⟨j.r _ _ y,?_⟩
   rcases j.dj q with x | x
   ·exact jk.l.free x
   ·rw [x] at y; cases y
 have key:∀ q,h' q≠none→h q≠none→ka q=none→False:=fun q z1 z2 z3=>by
  have:=okc.2.2.2.1 q z1
  rw [zV_ z3] at this
  exact z2 (o2.2.2.1.free this)
 have h0:∀ q,less H2 ka q=none→H0 q=none:=fun q z=>by
  by_cases y:ka q=none
  ·rw [zV_ y] at z; exact o2.1.2.2.1.free z
  ·exact o2.2.2.2.1 q fun x=>y (kah.free x)
 have old:∀ q o,h q=some o→ka q=none→H' q=some o:=fun q o z1 z2=>okc.1.2.2.1 q o (by rw [zV_ z2]; exact o2.2.2.1 _ _ z1)
 have d1:Dj hs' kb:=fun q=>by
  by_cases z:hs' q=none
  ·exact .inl z
  ·by_cases y:kb q=none
   ·exact .inr y
   ·obtain ⟨a,b⟩:=kab q y
    exact (key q (fun x=>z (j'.r.free x)) (by rw [a]; exact y) b).elim
 have d2:Dj (un hs' kb) hrest:=fun q=>by
  by_cases y:hrest q=none
  ·exact .inr y
  ·left
   obtain ⟨a,b⟩:=rst q y
   have z1:hs' q=none:=by
    by_cases z:hs' q=none
    ·exact z
    ·exact (key q (fun x=>z (j'.r.free x)) (by rw [a]; exact y) b).elim
   have z2:kb q=none:=by
    rcases j.dj q with x | x
    ·exact jk.r.free x
    ·exact absurd x y
   unfold un; rw [z1]; exact z2
 have d3:Dj (un (un hs' kb) hrest) hr:=fun q=>by
  by_cases y:hr q=none
  ·exact .inr y
  ·left
   have hq:h' q≠none:=fun x=>y (j'.l.free x)
   have z1:hs' q=none:=by
    rcases j'.dj q with x | x
    ·exact absurd x y
    ·exact x
   have z2:kb q=none:=by
    by_cases z:kb q=none
    ·exact z
    ·obtain ⟨a,b⟩:=kab q z
     exact (key q hq (by rw [a]; exact z) b).elim
   have z3:hrest q=none:=by
    by_cases z:hrest q=none
    ·exact z
    ·obtain ⟨a,b⟩:=rst q z
     exact (key q hq (by rw [a]; exact z) b).elim
   unfold un; rw [z1]; simp only; rw [z2]; exact z3
 have parts:∀ q o,un (un (un hs' kb) hrest) hr q=some o→h' q=some o∨(h q=some o∧ka q=none):=fun q o z=>by
  unfold un at z
  cases z1:hs' q with
  | some a=>rw [z1] at z; left; rw [← z]; exact j'.r _ _ z1
  | none =>
   rw [z1] at z; simp only at z
   cases z2:kb q with
   | some a=>rw [z2] at z; right; obtain ⟨x,y⟩:=kab q (by rw [z2]; exact Option.some_ne_none _); exact ⟨by rw [x,z2]; exact z,y⟩
   | none =>
    rw [z2] at z; simp only at z
    cases z3:hrest q with
    | some a=>rw [z3] at z; right; obtain ⟨x,y⟩:=rst q (by rw [z3]; exact Option.some_ne_none _); exact ⟨by rw [x,z3]; exact z,y⟩
    | none=>rw [z3] at z; left; exact j'.l _ _ z
 have ff:Same (less G2 h) (less F' (less h ka)):=fun b o z=>by
  have hb:h b=none:=by
   cases y:h b with
   | none=>rfl
   | some s=>rw [zaM_ b (by rw [y]; exact Option.some_ne_none _)] at z; cases z
  have:less h ka b=none:=zcJ_.free hb
  rw [zV_ this]
  exact okc.1.1 _ _ (zbW_ _ _ z)
 have lo:∀ q',less h ka q'≠none→h q'≠none:=fun q' z y=>z (by unfold less; split; exact y; rfl)
 have tp:Tups F' (less F' (less h ka)):=fun b xs z=>by
  cases y:less h ka b with
  | none=>rw [zV_ y]; exact z
  | some s =>
   exfalso
   have y2:un (less G2 h) (less h ka) b=some s:=by
    unfold un
    have:less G2 h b=none:=zaM_ b (lo b (by rw [y]; exact Option.some_ne_none _))
    rw [this]; exact y
   have:=okc.1.1 _ _ y2
   rw [z] at this
   injection this with this
   exact o2.2.2.2.2 b xs (by rw [this]; exact zcJ_ _ _ y)
 refine ⟨ff,tp,d1,d2,d3,⟨o2.1.1.trans ff,fun b o z=>okc.1.2.1 _ _ (zcJ_ _ _ z),fun b o z=>?_,fun b a1 a2=>?_⟩,fun b=>?_,fun b o z=>?_,fun b z=>?_,fun b xs z=>?_⟩
 ·have kb0:ka b=none:=by
   by_cases y:ka b=none
   ·exact y
   ·have:=o2.2.2.2.1 b fun x=>y (kah.free x)
    rw [z] at this; cases this
  exact okc.1.2.2.1 b o (by rw [zV_ kb0]; exact o2.1.2.2.1 _ _ z)
 ·by_cases y0:less G2 h b=none
  ·have y:less h ka b=none:=by
    cases y:less h ka b with
    | none=>rfl
    | some s=>exact absurd (zaM_ b (by rw [y]; exact Option.some_ne_none _)) a2
   rw [zV_ y] at a2
   exact h0 b (okc.1.2.2.2 b (by unfold un; rw [y0]; exact y) a2)
  ·exact o2.1.2.2.2 b a1 y0
 ·cases z:un (un (un hs' kb) hrest) hr b with
  | none=>exact .inr rfl
  | some o =>
   left
   rcases parts b o z with y | ⟨y1,y2⟩
   ·rcases okc.2.1 b with x | x
    ·exact zcJ_.free x
    ·rw [x] at y; cases y
   ·exact zaM_ b (by rw [zV_ y2,y1]; exact Option.some_ne_none _)
 ·rcases parts b o z with y | ⟨y1,y2⟩
  ·exact okc.2.2.1 _ _ y
  ·exact old b o y1 y2
 ·cases y:un (un (un hs' kb) hrest) hr b with
  | none=>exact absurd y z
  | some o =>
   rcases parts b o y with x | ⟨x,_⟩
   ·exact h0 b (okc.2.2.2.1 b (by rw [x]; exact Option.some_ne_none _))
   ·exact o2.2.2.2.1 b (by rw [x]; exact Option.some_ne_none _)
 ·rcases parts b _ z with y | ⟨y,_⟩
  ·exact okc.2.2.2.2 b xs y
  ·exact o2.2.2.2.2 b xs y
end
end L2
namespace L2
open PySem PySem.Spec PyProof.Rows
section
variable {K:Fgg}{E:XK}{α β γ δ ρ ρ' S B:Type}{F0 H0 F h H:Hp}{L:List Sl}{e te ei tc:TE}{T:Ty α}{r:Mo α}{Or:Own ρ}{Or':Own ρ'}{t u:TS}{LS:S→List Sl}{LB:B→List Sl}{σ:St}{C:Addr}{ns:List Str}{f m:Str}{i n w j:Nat}
theorem zhj_ {r:Mo ρ'}{k:ρ'→Mo (Out ρ B S)}{D:Ends}{kk:ρ'→Hp→Hp→Hp→Prop}(fin:Fin K (r.bind k) E LS LB Or F0 H0 D) (hk:∀ q F' h' H',r=.ok q→Okk F0 H0 F' h' H'→kk q F' h' H'):FinM K r E F0 H0 kk:=by
 cases r with
 | ok q=>exact fun F h H o=>hk q F h H rfl o
 | ex c=>exact fin
 | no=>exact fin
theorem zgM_ {O:Own α}{O':Own β}{w:V}{r:Mo (β×(β→α))}(hp:EvPw K te E L i O (owAt w O') r):EvPw K te E L i O O' r:=by
 intro F0 H0 σ F h H Q hL ok q
 refine hp F0 H0 σ F h H _ hL ok (q.imp fun yp G1 H1 x1 k1 uu il hh=>k1 uu il ?_)
 have hi:(L.set i (.ow (owPn uu (owAt w O') yp.2 O) yp.1))[i]?=some (.ow (owPn uu (owAt w O') yp.2 O) yp.1):=by rw [List.getElem?_set_self (by exact il)]
 have:=zdh_ (O2:=owPn uu O' yp.2 O) (x2:=yp.1) hh hi fun v k ev kh ⟨ka,kb,jk,⟨e,ho⟩,wand⟩=>⟨ka,kb,jk,ho,fun z' k1' k' F3 s oz j'=>wand z' k1' k' F3 s ⟨e,oz⟩ j'⟩
 rwa [List.set_set] at this
theorem zog_ {O:Own α}{r:Mo (ρ'×α)}{s0:Sl}{k:ρ'×α→Mo (Out ρ B S)}(hw:L[w]?=some s0) (hne:i≠w) (hm:EvM K tc E L i O Or' r) (hk:∀ q,EvS K u E ((L.set i (.ow O q.2)).set w (.ow Or' q.1)) (k q) LS LB Or) :
  EvS K (tSeq (tAsg tc (gName w)) u) E L (r.bind k) LS LB Or:=by
 intro F0 H0 σ F h H D hL ok fin
 refine hm F0 H0 σ F h H _ hL ok (zhj_ fin fun q F' h' H' hr o v h1 h2 j hold res=>?_)
 rw [hr] at fin
 have hw':(L.set i (.ow O q.2))[w]?=some s0:=by rw [List.getElem?_set_ne hne]; exact hw
 obtain ⟨_,kw,hrest,e1,jw,_,f⟩:=hold.atM w hw'
 have d:Dj h2 hrest:=fun p=>by
  rcases j.dj p with z | z
  ·exact .inr (jw.r.free z)
  ·exact .inl z
 refine hk q F0 H0 (σ.set w (some v)) F' (un h2 hrest) H' D (f F' (.ow Or' q.1) (some v) h2 _ (Same.refl _) (zep_ d) ⟨v,rfl,res⟩) (zeF_ o fun p s z=>?_) fin
 unfold un at z
 cases y:h2 p with
 | some w=>rw [y] at z; rw [← z]; exact j.r _ _ y
 | none=>rw [y] at z; exact j.l _ _ (jw.r _ _ z)
theorem zpS_ {O:Own α}{T:Ty β}{r:Mo (β×α)}{xs:List β}{k:β×α→Mo (Out ρ B S)}(hw:L[w]?=some (.ow (owL T) xs)) (hne:i≠w) (hm:EvM K tc E L i O (owF T) r) (hk:∀ q,EvS K u E ((L.set i (.ow O q.2)).set w (.ow (owL T) (xs++[q.1]))) (k q) LS LB Or) :
  EvS K (tSeq (tDrop (tBM K "list" rAppend (mVar w) (tCons tc tNil))) u) E L (r.bind fun q=>.lim (xs.length+1) (k q)) LS LB Or:=by
 intro F0 H0 σ F h H D hL ok fin
 obtain ⟨p,vs,e1,hp,hr,_⟩:=zdB_ hL hw ok
 show mVar w σ H fun x H1=>tyV K "list" x H1∧tCons tc tNil σ H1 fun xs H2=>rAppend x xs H2 (fun _ H3=>u D σ H3)
 refine zdr_ e1 ⟨.inl ⟨rfl,vs,.of hp⟩,?_⟩
 refine hm F0 H0 σ F h H _ hL ok (zhj_ fin fun q F' h' H' hra o v h1 h2 j hold res=>?_)
 rw [hra] at fin
 obtain ⟨hz,fin⟩:=zix_ (show Fin K (Mo.lim (xs.length+1) (k q)) E LS LB Or F0 H0 D from fin)
 have hw':(L.set i (.ow O q.2))[w]?=some (.ow (owL T) xs):=by rw [List.getElem?_set_ne hne]; exact hw
 obtain ⟨p',vs',e1',hp',hr',mm⟩:=zdB_ hold hw' (zeF_ o j.l)
 rw [e1] at e1'; cases e1'
 obtain ⟨h',a1,a2⟩:=mm (xs++[q.1]) (vs'++[v]) (hr'.append (.cons res.2 .nil))
 exact ⟨p,vs',v,rfl,rfl,hp',by rw [← hr'.len]; lia,hk q F0 H0 σ _ h' _ D a1 a2 fin⟩
theorem zkO_ {O:Own α}{x:α}{v0:V}(hi:i<L.length) (hL:Hold (L.set i (.ow (owAt v0 O) x)) σ F h):∃ k,Same k h∧O.O x v0 F k:=by
 obtain ⟨_,k,_,_,j,⟨v',_,e3,ho⟩,_⟩:=hL.at i (by rw [List.getElem?_set_self (by exact hi)])
 subst e3
 exact ⟨k,j.l,ho⟩
theorem zoF_ {O2:Own α}{v0:V}{r:Mo (ρ×α)}(hi:i<L.length) (hm:EvM K tc E L i (owAt v0 O2) Or r):EvS K (tRet tc) E L (r.bind fun q=>.ok (.rt q)) LS LB (owRM v0 O2 Or):=by
 intro F0 H0 σ F h H D hL ok fin
 refine hm F0 H0 σ F h H _ hL ok (zhj_ fin fun q F' h' H' hr o v h1 h2 j hold res=>?_)
 rw [hr] at fin
 obtain ⟨k,kh,ho⟩:=zkO_ hi hold
 have d:Dj h2 k:=fun p=>by
  rcases j.dj p with z | z
  ·exact .inr (kh.free z)
  ·exact .inl z
 refine fin v F' (un h2 k) H' (zeF_ o fun p s z=>?_) ⟨h2,k,zep_ d,res,ho⟩
 unfold un at z
 cases y:h2 p with
 | some w=>rw [y] at z; rw [← z]; exact j.r _ _ y
 | none=>rw [y] at z; exact j.l _ _ (kh _ _ z)
theorem znN_ {O2:Own α}{T:Ty β}{v0:V}{r:Mo (β×α)}(hi:i<L.length) (hm:EvM K tc E L i (owAt v0 O2) (owF T) r):EvS K (tRet (tLst (tCons tc tNil))) E L (r.bind fun q=>.ok (.rt ([q.1],q.2))) LS LB (owRM v0 O2 (owL T)):=by
 intro F0 H0 σ F h H D hL ok fin
 show tc σ H fun v H1=>[v].length≤sizeLine∧∀ p,H1 p=none→D.rt (.ref p) (upd H1 p (.lst [v]))
 refine hm F0 H0 σ F h H _ hL ok (zhj_ fin fun q F' h' H' hr o v h1 h2 j hold res=>⟨zfG_ (by simp),fun p hp=>?_⟩)
 rw [hr] at fin
 obtain ⟨k,kh,ho⟩:=zkO_ hi hold
 have o1:=zeF_ o (kh.trans j.l)
 have hp0:k p=none:=o1.2.2.1.free hp
 have Fp:F' p=none:=o1.1.2.1.free hp
 have H0p:H0 p=none:=o1.1.2.2.1.free hp
 have d:Dj (one p (.lst [v])) k:=fun q=>by
  by_cases z:q=p
  ·rw [z]; exact .inr hp0
  ·left; unfold one; rw [if_neg z]
 have up:∀ b (s:HO) (X:Hp),X p=none→X b=some s→b≠p:=fun b s X z1 z2 z3=>by rw [z3,z1] at z2; cases z2
 refine fin (.ref p) F' (un (one p (.lst [v])) k) _ ⟨⟨o1.1.1,fun b s z=>by rw [zbk_ (up b s F' Fp z)]; exact o1.1.2.1 _ _ z,fun b s z=>by rw [zbk_ (up b s H0 H0p z)]; exact o1.1.2.2.1 _ _ z,o1.1.2.2.2⟩,fun b=>?_,fun b s z=>?_,fun b z=>?_,fun b xs z=>?_⟩ ⟨_,k,zep_ d,⟨p,[v],rfl,rfl,.cons res.2 .nil⟩,ho⟩
 ·by_cases z:b=p
  ·rw [z]; exact .inl Fp
  ·unfold un one; rw [if_neg z]; exact o1.2.1 b
 ·unfold un one at z
  by_cases y:b=p
  ·rw [y,zbu_]; rw [if_pos y] at z; exact z
  ·rw [if_neg y] at z; rw [zbk_ y]; exact o1.2.2.1 _ _ z
 ·unfold un one at z
  by_cases y:b=p
  ·rw [y]; exact H0p
  ·rw [if_neg y] at z; exact o1.2.2.2.1 b z
 ·unfold un one at z
  by_cases y:b=p
  ·rw [if_pos y] at z; cases z
  ·rw [if_neg y] at z; exact o1.2.2.2.2 b xs z
theorem zl4_ {O2:Own α}{v0:V}{x:α}{a:ρ}(hij:i≠j) (hi:L[i]?=some (.ow (owAt v0 O2) x)) (hj:L[j]?=some (.ow Or a)):EvS K (tRet (mVar j)) E L (.ok (.rt (a,x))) LS LB (owRM v0 O2 Or):=by
 intro F0 H0 σ F h H D hL ok fin
 obtain ⟨_,kj,hr,ej,jj,⟨v,e2,ha⟩,f⟩:=hL.at j hj
 subst e2
 have hd:=f .dead (some v) (fun _=>none) hr (fun p=>.inl ⟨rfl,rfl⟩) trivial
 obtain ⟨_,ki,_,_,ji,⟨v',_,e3,hx⟩,_⟩:=hd.at i (by rw [List.getElem?_set_ne (Ne.symm hij)]; exact hi)
 subst e3
 have d:Dj kj ki:=fun p=>by
  rcases jj.dj p with z | z
  ·exact .inl z
  ·exact .inr (ji.l.free z)
 refine zdr_ ej (fin v F (un kj ki) H (zeF_ ok fun p s z=>?_) ⟨kj,ki,zep_ d,ha,hx⟩)
 unfold un at z
 cases y:kj p with
 | some w=>rw [y] at z; rw [← z]; exact jj.l _ _ y
 | none=>rw [y] at z; exact jj.r _ _ (ji.l _ _ z)
end
end L2
namespace L2
open PySem PySem.Spec PyProof.Rows
section
variable {K:Fgg}{E:XK}{α β γ δ ρ ρ' S B:Type}{F0 H0 F h H:Hp}{L:List Sl}{e te ei tc:TE}{T:Ty α}{r:Mo α}{Or:Own ρ}{Or':Own ρ'}{t u:TS}{LS:S→List Sl}{LB:B→List Sl}{σ:St}{C:Addr}{ns:List Str}{f m:Str}{i n w j:Nat}
theorem zhN_ {lv:List Str}{fr:List (Str×Nat)}{wi:TI}{g:TG}{tt:TT}{te:TE}{r:Mo (List α)}{ss:α→List (Nat×Sl)}{c:α→Mo Bool}{f:α→Mo β}{O':Own β}
  (hi:EvI K wi E L r T) (hg:TgR K g T ss) (hd:∀ a,DeadAt (cL lv fr L) ((ss a).map (·.1))) (ht:∀ a,EvT K tt E0 (setL (cL lv fr L) (ss a)) (c a)) (he:∀ a,EvO K te E0 (setL (cL lv fr L) (ss a)) (f a) O') :
  EvO K (tComp lv fr wi g tt te) E L (r.bind fun xs=>compM (fun x=>cond1 (c x) (f x)) xs []) (owLO O'):=by
 intro σ F0 H0 Q hL hs q
 refine hi σ F0 H0 _ hL hs (q.bind.imp fun xs F1 H1 x1 k1 J Y D hD=>?_)
 have hL1:=hL.mono x1.1
 refine ⟨fun i m ys σ' H'=>m=xs.length-i∧i≤xs.length∧∃ acc Fi hh,Ext F1 H1 Fi H'∧Fi D=none∧hh D=none∧H' D=some (.lst ys)∧OwAll O' Fi acc ys hh∧Dj Fi hh∧Same hh H'∧(∀ p,hh p≠none→H1 p=none)∧HoldF (cL lv fr L) σ' F1∧σ'.length=(cL lv fr L).length∧After K (compM (fun x=>cond1 (c x) (f x)) (xs.drop i) acc) E F1 H1 (OwnK (owLO O') H0 Q),
  ⟨_,rfl,Nat.zero_le _,[],F1,fun _=>none,.heap x1.2.1 (zfC_ hD _),x1.2.1.free hD,rfl,zbu_,fun _=>rfl,fun _=>.inr rfl,(fun p o z=>by cases z),fun p z=>absurd rfl z,zkv_ hL1,zmX_.symm,k1⟩,?_⟩
 rintro i m ys σ' H' ⟨rfl,hi,acc,Fi,hh,xi,hDi,hDh,hy,hp,dj,sh,fresh,hσ,hln,A⟩
 by_cases hlt:i<xs.length
 ·right
  have ex:xs[i]?=some xs[i]:=List.getElem?_eq_getElem hlt
  obtain ⟨g1,g2⟩:=Y.go i H' xs[i] (xi.1.trans xi.2.1) ex
  refine ⟨g1,fun ys' σ'' H''=>i+1≤xs.length∧∃ acc Fi hh,Ext F1 H1 Fi H''∧Fi D=none∧hh D=none∧H'' D=some (.lst ys')∧OwAll O' Fi acc ys' hh∧Dj Fi hh∧Same hh H''∧(∀ p,hh p≠none→H1 p=none)∧HoldF (cL lv fr L) σ'' F1∧σ''.length=(cL lv fr L).length∧After K (compM (fun x=>cond1 (c x) (f x)) (xs.drop (i+1)) acc) E F1 H1 (OwnK (owLO O') H0 Q),fun ys' σ'' H'' z=>⟨xs.length-(i+1),by omega,rfl,z⟩,fun v H2 hyl=>?_⟩
  obtain ⟨F2,x2,hv⟩:=g2 v H2 hyl Fi xi.1 xi.2.1
  have keep:∀ {Fa Ha Fb Hb:Hp},Ext Fa Ha Fb Hb→Fa D=none→Ha D=some (.lst ys)→Dj Fa hh→Same hh Ha→(Fb D=none∧Hb D=some (.lst ys))∧Dj Fb hh∧Same hh Hb:=by
   intro Fa Ha Fb Hb x h1 h2 h3 h4
   refine ⟨⟨?_,x.2.2.1 _ _ h2⟩,fun p=>?_,h4.trans x.2.2.1⟩
   ·cases z:Fb D with
    | none=>rfl
    | some o=>have:=x.2.2.2 D h1 (by rw [z]; exact Option.some_ne_none _); rw [h2] at this; cases this
   ·cases y:hh p with
    | none=>exact .inr rfl
    | some w =>
     left
     rcases h3 p with z | z
     ·cases zz:Fb p with
      | none=>rfl
      | some o=>have:=x.2.2.2 p z (by rw [zz]; exact Option.some_ne_none _); rw [h4 _ _ y] at this; cases this
     ·rw [z] at y; cases y
  obtain ⟨⟨hD2,hy2⟩,dj2,sh2⟩:=keep x2 hDi hy dj sh
  refine hg xs[i] v σ' F2 H2 _ x2.2.1 hv fun vs hpl=>?_
  have hσ2:HoldF (cL lv fr L) σ' F2:=hσ.mono (xi.1.trans x2.1)
  obtain ⟨a1,a2,a3⟩:=ziX_ hpl hln.symm hσ2
  have hσd:HoldF (cL lv fr L) (setS σ' vs) F1:=by
   have hdead:=hd xs[i]
   refine fun j s e=>?_
   by_cases hj:∃ q∈(ss xs[i]).map (·.1),q=j
   ·obtain ⟨q,hq,rfl⟩:=hj
    rw [hdead q hq s e]; trivial
   ·have:((setS σ' vs)[j]?)=σ'[j]?:=znn_ hpl (fun hq=>hj ⟨j,hq,rfl⟩)
    rw [this]; exact hσ j s e
  have hdrop:xs.drop i=xs[i]::xs.drop (i+1):=List.drop_eq_getElem_cons hlt
  rw [hdrop] at A
  unfold compM at A
  cases ec:c xs[i] with
  | no=>unfold cond1 at A; rw [ec] at A; exact A.elim
  | ex cc=>unfold cond1 at A; rw [ec] at A; exact A.elim
  | ok bb =>
   refine ht xs[i] _ F2 H2 _ a1 x2.2.1 ?_
   rw [ec]
   intro F3 H3 x3
   obtain ⟨⟨hD3,hy3⟩,dj3,sh3⟩:=keep x3 hD2 hy2 dj2 sh2
   have x13:=(xi.trans x2).trans x3
   cases bb with
   | false =>
    rw [if_neg (by decide)]
    refine ⟨hlt,acc,F3,hh,x13,hD3,hDh,hy3,hp.mono (x2.1.trans x3.1),dj3,sh3,fresh,hσd,by rw [a2]; exact hln,?_⟩
    unfold cond1 at A; rw [ec] at A
    exact A
   | true =>
    rw [if_pos rfl]
    cases ef:f xs[i] with
    | no=>unfold cond1 at A; rw [ec,ef] at A; exact A.elim
    | ex cc=>unfold cond1 at A; rw [ec,ef] at A; exact A.elim
    | ok y =>
     unfold cond1 at A; rw [ec,ef] at A
     have A':After K (Mo.lim (acc.length+1) (compM (fun x=>cond1 (c x) (f x)) (xs.drop (i+1)) (acc++[y]))) E F1 H1 (OwnK (owLO O') H0 Q):=A
     obtain ⟨hz,A'⟩:=A'.lim
     refine he xs[i] _ F3 H3 _ (a1.mono x3.1) x3.2.1 ?_
     rw [ef]
     intro F4 H4 x4 v4 hn fr4 dj4n sn4 hv4
     obtain ⟨⟨hD4,hy4⟩,dj4,sh4⟩:=keep x4 hD3 hy3 dj3 sh3
     have hlen:=hp.len
     have hnD:hn D=none:=by
      cases z:hn D with
      | none=>rfl
      | some w=>have:=fr4 D (by rw [z]; exact Option.some_ne_none _); rw [hy3] at this; cases this
     have djn:Dj hh hn:=fun p=>by
      cases z:hn p with
      | none=>exact .inr rfl
      | some w=>exact .inl (sh3.free (fr4 p (by rw [z]; exact Option.some_ne_none _)))
     have x14:=x13.trans x4
     refine ⟨hy4,by omega,hlt,acc++[y],F4,un hh hn,?_,hD4,by unfold un; rw [hDh]; exact hnD,zbu_,(hp.mono ((x2.1.trans x3.1).trans x4.1)).snoc hv4 djn,fun p=>?_,fun p o z=>?_,fun p z=>?_,hσd,by rw [a2]; exact hln,A'⟩
     ·refine ⟨x14.1,fun b o z=>?_,fun b o z=>?_,x14.2.2.2⟩
      ·unfold upd; split
       ·rename_i w; rw [w,hD4] at z; cases z
       ·exact x14.2.1 _ _ z
      ·unfold upd; split
       ·rename_i w; rw [w,hD] at z; cases z
       ·exact x14.2.2.1 _ _ z
     ·unfold un
      cases z:hh p with
      | some w =>
       rcases dj4 p with y | y
       ·exact .inl y
       ·rw [y] at z; cases z
      | none=>exact dj4n p
     ·have hpD:p≠D:=fun w=>by
       unfold un at z; rw [w,hDh,hnD] at z; cases z
      unfold upd; rw [if_neg hpD]
      unfold un at z
      cases w:hh p with
      | some o'=>rw [w] at z; cases z; exact sh4 _ _ w
      | none=>rw [w] at z; exact sn4 _ _ z
     ·unfold un at z
      cases w:hh p with
      | some o'=>exact fresh p (by rw [w]; exact Option.some_ne_none _)
      | none=>rw [w] at z; exact x13.2.2.1.free (fr4 p z)
 ·left
  have e:i=xs.length:=by omega
  subst e
  refine ⟨Y.stop H' (xi.1.trans xi.2.1),?_⟩
  rw [List.drop_length] at A
  have A':OwnK (owLO O') H0 Q acc Fi H':=A Fi H' xi
  have dD:Dj (one D (.lst ys)) hh:=fun p=>by
   unfold one; split
   ·rename_i w; rw [w]; exact .inr hDh
   ·exact .inl rfl
  refine A' (.ref D) (un (one D (.lst ys)) hh) (fun p z=>?_) (fun p=>?_) (fun p o z=>?_) ⟨D,ys,hh,rfl,zep_ dD,hp⟩
  ·unfold un one at z
   by_cases w:p=D
   ·rw [w]; exact x1.2.2.1.free hD
   ·simp only [if_neg w] at z; exact x1.2.2.1.free (fresh p z)
  ·by_cases w:p=D
   ·rw [w]; exact .inl hDi
   ·unfold un one; simp only [if_neg w]; exact dj p
  ·unfold un one at z
   by_cases w:p=D
   ·simp only [if_pos w] at z; rw [w]; cases z; exact hy
   ·simp only [if_neg w] at z; exact sh _ _ z
theorem EvO.weak {O O2:Own α}{e:TE}{r:Mo α}(h:∀ {a v F h},O.O a v F h→O2.O a v F h) (he:EvO K e E L r O):EvO K e E L r O2:=by
 intro σ F H Q hL hs q
 exact he σ F H Q hL hs (q.imp fun a F1 H1 x1 k1 v hp fresh d s o=>k1 v hp fresh d s (h o))
theorem jn_no {h1 h2 h:Hp}(j:Jn h1 h2 h) (n:∀ p,h2 p=none):h=h1:=funext fun p=>by
 rcases j p with ⟨a,b⟩ | ⟨_,b⟩
 ·rw [b,n,a]
 ·exact b
theorem OwAll.plain {T':Ty β}:∀ {xs:List β}{vs:List V}{F h:Hp},OwAll (owF T') F xs vs h→(∀ p,h p=none)∧Prs T' F xs vs
 | [],[],_,_,q=>⟨q,.nil⟩
 | x::xs,v::vs,_,_,⟨h1,h2,j,⟨e,r⟩,q⟩=>have z:=OwAll.plain q; ⟨fun p=>by rw [jn_no j z.1]; exact e p,.cons r z.2⟩
 | [],_::_,_,_,q=>q.elim
 | _::_,[],_,_,q=>q.elim
theorem zck_ {lv:List Str}{fr:List (Str×Nat)}{wi:TI}{g:TG}{tt:TT}{te:TE}{r:Mo (List α)}{ss:α→List (Nat×Sl)}{c:α→Mo Bool}{f:α→Mo β}{T':Ty β}
  (hi:EvI K wi E L r T) (hg:TgR K g T ss) (hd:∀ a,DeadAt (cL lv fr L) ((ss a).map (·.1))) (ht:∀ a,EvT K tt E0 (setL (cL lv fr L) (ss a)) (c a)) (he:∀ a,EvF K te E0 (setL (cL lv fr L) (ss a)) (f a) T') :
  EvO K (tComp lv fr wi g tt te) E L (r.bind fun xs=>compM (fun x=>cond1 (c x) (f x)) xs []) (owL T') :=
 EvO.weak (O:=owLO (owF T')) (O2:=owL T') (fun ⟨p,vs,k,e,j,q⟩=>have z:=OwAll.plain q; ⟨p,vs,e,jn_no j z.1,z.2⟩) (zhN_ hi hg hd ht fun a=>EvF.ow (he a))
section
open PySem PySem.Spec PyProof.Rows PySem.W
variable {κ:Type}
noncomputable def mSortDk (_:Fgg):List V→Hp→VK→Prop:=fun xs H Q=>match xs with
 | [.ref p]=>∃ (kvs:List (Key×V)) (k:Nat) (lt:Nat→Nat→Bool),H p=some (.dK kvs)∧kvs.length<64∧WOr lt∧k≠0∧(∀ q∈kvs,knd (kV q.1)=k)∧(∀ i j x y,(kvs.map fun q:Key×V=>kV q.1)[i]?=some x→(kvs.map fun q=>kV q.1)[j]?=some y→lt i j=ltF x y) ∧
   ∀ idx,Srtd lt kvs.length idx→∀ l,H l=none→Q (.ref l) (upd H l (.lst (idx.map fun i=>(kvs.map fun q=>kV q.1).getD i .non)))
 | _=>False
theorem zg6_ {X:Cx}(hc:X.calm=true):CallR X (.builtin "sorted") (mSortDk X.K):=by
 intro pins s σ H xs us Q I r h
 have hv:∃ p,xs=[.ref p]:=by
  rcases xs with _ | ⟨y,_ | ⟨z,t⟩⟩
  ·exact False.elim h
  ·cases y with
   | ref p=>exact ⟨p,rfl⟩
   | _=>exact False.elim h
  ·cases y<;>exact False.elim h
 obtain ⟨p,rfl⟩:=hv
 ·
  ·
   obtain ⟨kvs,k,lt,hp,h64,wo,hk,hall,hlt,q⟩:=h
   obtain ⟨u,rfl,rx⟩:=vals1 r
   cases rx
   obtain ⟨z,hd,vs,rel,dd⟩:=zpv_ I.hok (.inl hp)
   obtain ⟨ep,hat⟩:=dd.dictAt
   have hln:kvs.length=vs.length:=rel.length
   have hpv:∀ us:List Value,Vals (kvs.map fun q=>kV q.1) us→us.length=kvs.length:=fun us hv=>by rw [← Vals.length hv,List.length_map]
   refine zlx_ (n:=kvs.length) (PV:=fun us=>Vals (kvs.map fun q=>kV q.1) us) h64 wo hpv (fun R hR=>?_) (fun us hv h2 h' tk _=>?_) fun us l h' tk c idx hv hl kp hi ho=>?_
   ·refine znD_ (kdl_dict (knd:=mixKind X.prog X.w) (kvs:=vs) (ep:=ep) hd) ?_ hat (by rw [← hln,sizeLine_eq]; lia) fun h' tk acc hsz hkp hacc=>hR _ h' tk ?_ (Nat.le_of_lt hsz) hkp
    ·exact I.ok.hd hc
    ·have hl:acc.toList.length=kvs.length:=by rw [Array.length_toList,hln]; exact hacc.1
     have e:∀ (ks:List (Key×V)) (us:List Value),ks.length=us.length→(∀ (i:Nat) (q:Key×V) (u:Value),ks[i]?=some q→us[i]?=some u→RelV (kV q.1) u)→Vals (ks.map fun q=>kV q.1) us:=by
      intro ks
      induction ks with
      | nil=>intro us hl _; cases us with | nil=>exact .nil | cons _ _=>simp at hl
      | cons q ks ih =>
       intro us hl hh
       cases us with
       | nil=>simp at hl
       | cons u us=>exact .cons (hh 0 q u rfl rfl) (ih us (by simpa using hl) fun i q' u' e1 e2=>hh (i+1) q' u' (by simpa using e1) (by simpa using e2))
     refine e kvs acc.toList hl.symm fun i q u e1 e2=>?_
     obtain ⟨k',x,ek,hk'⟩:=hacc.2 i u (by rw [← Array.getElem?_toList]; exact e2)
     have:∀ (a:List (Key×V)) (b:List (Key×Value)) (i:Nat) q k' x,KV a b→a[i]?=some q→b[i]?=some (k',x)→q.1=k':=by
      intro a b i q k' x hab
      unfold KV at hab
      induction hab generalizing i with
      | nil=>intro e; simp at e
      | cons r t ih =>
       intro e1 e2
       cases i with
       | zero=>simp at e1 e2; subst e1; have:=r.1; rw [e2] at this; exact this
       | succ i=>exact ih i (by simpa using e1) (by simpa using e2)
     rw [this kvs vs i q k' x rel e1 ek]
     exact is_kV hk'
   ·refine zmD_ hv hk (fun y hy=>?_) hlt h2
    obtain ⟨q,hq,rfl⟩:=List.mem_map.mp hy
    exact hall q hq
   ·have hlu:=hpv us hv
    refine ⟨.ref l,_,I.laid (o:=.lst (idx.map fun i=>(kvs.map fun q=>kV q.1).getD i .non)) (t':=tk) kp hl ?_,rfl,q idx (by rwa [← hlu]) _ (I.hok.fresh hl)⟩
    have hi1:∀ i∈idx,i<us.length:=fun i hi'=>List.mem_range.mp (hi.1.mem_iff.mp hi')
    refine ⟨?_,_,c,zkb_ hv idx hi1,ho⟩
    rw [List.length_map,hi.1.length_eq,List.length_range,sizeLine_eq]
    lia
theorem ziV_ [DecidableEq κ] {KY:KyT κ}{T:Ty α}{k:Nat}{lt:κ→κ→Bool}(f:FlT KY.T k lt) (o:LOr lt) (hk:∀ x F,KY.T.R x (kV (KY.key x)) F) :
  BlO K (mSortDk K) E (csLast (tyD KY T)) (fun m=>.grd (m.length<64) (.ok (srtL lt (m.map (·.1))))) (owL KY.T):=by
 rintro m vs F H Q hs ⟨v,rfl,p,kvs,rfl,h,r⟩ q
 have hl:m.length=kvs.length:=Paired.length r
 have pr:Prs KY.T F (m.map (·.1)) (kvs.map fun q=>kV q.1):=by
  clear h hl q
  induction r with
  | nil=>exact .nil
  | cons a t ih=>rename_i q w m kvs; rw [List.map_cons,List.map_cons,a.1]; exact .cons (hk _ _) ih
 obtain ⟨h64,q⟩:=q.grd
 have all:∀ q∈kvs,knd (kV q.1)=k:=fun q hq=>by
  obtain ⟨i,e⟩:=List.mem_iff_getElem?.mp (List.mem_map_of_mem (f:=fun q:Key×V=>kV q.1) hq)
  obtain ⟨x,_,rx⟩:=zjf_ pr i _ e
  exact (f.2 x _ F rx).1
 cases m with
 | nil =>
  cases r
  refine ⟨[],1,fun _ _=>false,hs _ _ h,by decide,⟨(fun h=>by cases h),(fun _ _=>rfl)⟩,by decide,(fun y hy=>by cases hy),(fun i j x y e=>by simp at e),fun idx hi l hl=>?_⟩
  have:idx=[]:=by have:=hi.1.length_eq; simpa using this
  subst this
  rw [show srtL lt (([]:List (κ×α)).map (·.1))=[] by simp [srtL]] at q
  exact zeC_ hs hl (xs:=[]) .nil q
 | cons x xs =>
  refine ⟨kvs,k,fun i j=>lt (((x::xs).map (·.1)).getD i x.1) (((x::xs).map (·.1)).getD j x.1),hs _ _ h,by lia,zp7_ o _,f.1,all,fun i j a b ea eb=>?_,fun idx hi l hl2=>?_⟩
  ·obtain ⟨a',ea',ra⟩:=zjf_ pr i a ea
   obtain ⟨b',eb',rb⟩:=zjf_ pr j b eb
   show lt (((x::xs).map (·.1)).getD i x.1) (((x::xs).map (·.1)).getD j x.1)=_
   rw [List.getD_eq_getElem?_getD,List.getD_eq_getElem?_getD,ea',eb']
   exact ((f.2 a' a F ra).2 b' b F rb).1.symm
  ·rw [← hl,← List.length_map (f:=(·.1))] at hi
   have e:=zjy_ o hi
   rw [← e] at q
   refine zeC_ hs hl2 (zmt_ pr x.1 idx fun i hi'=>?_) q
   have:=List.mem_range.mp (hi.1.mem_iff.mp hi')
   rw [List.length_map] at this ⊢
   lia
end
theorem zmj_:Op2 K mEq E tyInt tyInt (fun a b=>.ok (decide (a=b))) tyBl:=by
 rintro a b x y F H Q hs rfl rfl k
 exact k.ok hs _ rfl
theorem zpa_:Op2 K mEq E tyBl tyBl (fun a b=>.ok (decide (a=b))) tyBl:=by
 rintro a b x y F H Q hs rfl rfl k
 exact k.ok hs _ rfl
theorem zme_:Op2 K mNe E tyStr tyStr (fun a b=>.ok (!decide (a=b))) tyBl:=by
 rintro a b x y F H Q hs rfl rfl k
 exact k.ok hs _ rfl
theorem zic_ {r:Mo (List α)}{ta:TA}(h:EvA K ta E L r (csLast (tyL T))):EvI K (iEnumL K ta) E L (r.bind fun l=>.ok (enumL l)) (tyTup (csCons tyInt (csLast T))):=by
 intro σ F H R hL hs q
 refine h σ F H _ hL hs (q.bind.imp fun l F1 H1 x1 k1 vs hv=>?_)
 obtain ⟨v,rfl,p,us,rfl,hp,hr⟩:=hv
 refine ⟨p,rfl,⟨us,.of (x1.2.1 _ _ hp)⟩,k1.ok x1.2.1 _ ⟨fun i H x hH hx=>?_,fun H hH=>?_⟩⟩
 ·rw [zgx_] at hx
  rcases hr.get i with ⟨a,_⟩ | ⟨y,u,a,b,c⟩
  ·rw [a] at hx; cases hx
  ·rw [a] at hx; cases hx
   refine ⟨⟨us,u,.of (hH _ _ hp),b⟩,?_⟩
   rintro v H' ⟨p2,w,z,hp2,rfl,rfl⟩ F hF hF'
   have e:=z us (.of (hH _ _ hp))
   rw [b] at e; cases e
   have x:=Ext.new (o:=.tup [.int i,u]) hF' hp2
   exact ⟨_,x,p2,_,rfl,zbu_,_,_,rfl,rfl,u,rfl,T.mono (hF.trans x.1) c⟩
 ·exact ⟨us,.of (hH _ _ hp),by rw [zdG_,hr.len]; exact Nat.le_refl _⟩
noncomputable def mListL (K:Fgg):List V→Hp→VK→Prop:=fun xs H Q=>∃ p ys,xs=[.ref p]∧(SqL K H p ys∨SqT K H p ys)∧∀ l,H l=none→Q (.ref l) (upd H l (.lst ys))
theorem zfj_ {X:Cx}:CallR X (.type "list") (mListL X.K):=zhE_
theorem zhH_:BlO K (mListL K) E (csLast (tyL T)) (fun l=>.ok l) (owL T):=by
 rintro c vs F H Q hs ⟨v,rfl,p,us,rfl,h,r⟩ q
 exact ⟨p,us,rfl,.inl (.of (hs _ _ h)),fun l hl=>zeC_ hs hl r q⟩
theorem zbq_ {α:Type}{us:List α}{n:Nat}(h:us.length=n+1):∃ a t,us=a::t∧t.length=n:=by
 cases us with
 | nil=>cases h
 | cons a t=>exact ⟨a,t,rfl,Nat.succ.inj h⟩
theorem Fun.binds1 {x qual:Str}{st:Stmt}{f:Addr}{fd:FuncData}{ps:List Str}(hp:ps.length=1) (F:Fun K x qual st f fd) (h:∀ (kV doc pm:Value) (an:Option Addr) (cdv ct:Value) (ua:Value),bindArgs (PySem.W.fnOf x qual (defArgs st) (defBody st) (defScope st) .none kV doc pm an cdv ct) ⟨[ua],[]⟩=pure (ps.zip [ua])):Binds K fd ps []:=by
 refine F.binds fun kV doc pm an cdv ct us hl=>?_
 have h0:=hl.trans hp
 obtain ⟨ua,t1,rfl,h1⟩:=zbq_ h0
 cases List.length_eq_zero_iff.mp h1
 exact h kV doc pm an cdv ct ua
theorem Fun.binds2 {x qual:Str}{st:Stmt}{f:Addr}{fd:FuncData}{ps:List Str}(hp:ps.length=2) (F:Fun K x qual st f fd) (h:∀ (kV doc pm:Value) (an:Option Addr) (cdv ct:Value) (ua ub:Value),bindArgs (PySem.W.fnOf x qual (defArgs st) (defBody st) (defScope st) .none kV doc pm an cdv ct) ⟨[ua,ub],[]⟩=pure (ps.zip [ua,ub])):Binds K fd ps []:=by
 refine F.binds fun kV doc pm an cdv ct us hl=>?_
 have h0:=hl.trans hp
 obtain ⟨ua,t1,rfl,h1⟩:=zbq_ h0
 obtain ⟨ub,t2,rfl,h2⟩:=zbq_ h1
 cases List.length_eq_zero_iff.mp h2
 exact h kV doc pm an cdv ct ua ub
theorem Fun.binds3 {x qual:Str}{st:Stmt}{f:Addr}{fd:FuncData}{ps:List Str}(hp:ps.length=3) (F:Fun K x qual st f fd) (h:∀ (kV doc pm:Value) (an:Option Addr) (cdv ct:Value) (ua ub uc:Value),bindArgs (PySem.W.fnOf x qual (defArgs st) (defBody st) (defScope st) .none kV doc pm an cdv ct) ⟨[ua,ub,uc],[]⟩=pure (ps.zip [ua,ub,uc])):Binds K fd ps []:=by
 refine F.binds fun kV doc pm an cdv ct us hl=>?_
 have h0:=hl.trans hp
 obtain ⟨ua,t1,rfl,h1⟩:=zbq_ h0
 obtain ⟨ub,t2,rfl,h2⟩:=zbq_ h1
 obtain ⟨uc,t3,rfl,h3⟩:=zbq_ h2
 cases List.length_eq_zero_iff.mp h3
 exact h kV doc pm an cdv ct ua ub uc
theorem Fun.binds4 {x qual:Str}{st:Stmt}{f:Addr}{fd:FuncData}{ps:List Str}(hp:ps.length=4) (F:Fun K x qual st f fd) (h:∀ (kV doc pm:Value) (an:Option Addr) (cdv ct:Value) (ua ub uc ud:Value),bindArgs (PySem.W.fnOf x qual (defArgs st) (defBody st) (defScope st) .none kV doc pm an cdv ct) ⟨[ua,ub,uc,ud],[]⟩=pure (ps.zip [ua,ub,uc,ud])):Binds K fd ps []:=by
 refine F.binds fun kV doc pm an cdv ct us hl=>?_
 have h0:=hl.trans hp
 obtain ⟨ua,t1,rfl,h1⟩:=zbq_ h0
 obtain ⟨ub,t2,rfl,h2⟩:=zbq_ h1
 obtain ⟨uc,t3,rfl,h3⟩:=zbq_ h2
 obtain ⟨ud,t4,rfl,h4⟩:=zbq_ h3
 cases List.length_eq_zero_iff.mp h4
 exact h kV doc pm an cdv ct ua ub uc ud
theorem Fun.binds5 {x qual:Str}{st:Stmt}{f:Addr}{fd:FuncData}{ps:List Str}(hp:ps.length=5) (F:Fun K x qual st f fd) (h:∀ (kV doc pm:Value) (an:Option Addr) (cdv ct:Value) (ua ub uc ud ue:Value),bindArgs (PySem.W.fnOf x qual (defArgs st) (defBody st) (defScope st) .none kV doc pm an cdv ct) ⟨[ua,ub,uc,ud,ue],[]⟩=pure (ps.zip [ua,ub,uc,ud,ue])):Binds K fd ps []:=by
 refine F.binds fun kV doc pm an cdv ct us hl=>?_
 have h0:=hl.trans hp
 obtain ⟨ua,t1,rfl,h1⟩:=zbq_ h0
 obtain ⟨ub,t2,rfl,h2⟩:=zbq_ h1
 obtain ⟨uc,t3,rfl,h3⟩:=zbq_ h2
 obtain ⟨ud,t4,rfl,h4⟩:=zbq_ h3
 obtain ⟨ue,t5,rfl,h5⟩:=zbq_ h4
 cases List.length_eq_zero_iff.mp h5
 exact h kV doc pm an cdv ct ua ub uc ud ue
theorem zg8_ {P:Ps γ}{P':Ps δ}{O1:Own α}{ad:γ→α→δ}{x:γ}{w:V}{k:δ→Mo (Out ρ B S)}(hi:L[i]?=some (.ow (owAt w (owI C ns P)) x)) (hf:f∉ns) (hsm:ns.length<900) (pp:PsAdd P O1 P' ad) (hO:ImmO O1) (he:EvO K e E L r O1) (hk:∀ x',EvS K u E (L.set i (.ow (owAt w (owI C (ns++[f]) P')) x')) (k x') LS LB Or) :
  EvS K (tSeq (mSFld C (mVar i) e f) u) E L (r.bind fun a=>(Mo.ok (ad x a)).bind k) LS LB Or:=by
 intro F0 H0 σ F h H D hL ok fin
 refine he σ (un F h) H _ (hL.froz ok.2.1) ok.thaw (zcg_ (G:=F) ok _ (.inl rfl) fin fun a F' H' hra x1 v hn fresh dj hsn hv=>?_)
 obtain ⟨o,hs,ht⟩:=ok.back x1
 rw [hra] at fin
 obtain ⟨v0,k0,e1,⟨ew,p,dx,vs,m,rfl,ndx,jn,hl,ps⟩,kH,kh,_,g⟩:=zhG_ (hL.mono hs) hi o
 have hp1:H' p=some (.ins C dx (ns.zip vs)):=kH _ _ (jn.l _ _ zjk_)
 refine zdr_ e1 ⟨dx,_,hp1,by rw [List.length_zip]; lia,?_⟩
 rw [zh0_ v hf hl]
 have fr:∀ q,hn q≠none→less F' h q=none∧h q=none∧H0 q=none:=fun q z=>⟨by
  rcases dj q with y | y
  ·exact zcJ_.free y
  ·exact absurd y z,ok.2.2.1.free (fresh q z),ok.1.2.2.1.free (fresh q z)⟩
 have dn:Dj hn m:=fun q=>by
  by_cases z:hn q=none
  ·exact .inl z
  ·exact .inr (jn.r.free (kh.free (fr q z).2.1))
 obtain ⟨j',PC⟩:=zku_ (o':=.ins C dx ((ns++[f]).zip (vs++[v]))) (hn:=hn) o kh ndx jn (Same.refl m) fr hsn dn
 obtain ⟨h',a1,a2⟩:=g (owAt w (owI C (ns++[f]) P')) (ad x a) (.ref p) _ _ _ PC ⟨ew,p,dx,vs++[v],un hn m,rfl,ndx,j',by rw [List.length_append,List.length_append,hl]; rfl,pp ps a v hn _ _ (Same.refl _) (hO ht hv) (zep_ dn)⟩
 rw [zbT_ e1] at a1
 exact hk _ F0 H0 σ _ h' _ D a1 a2 fin
theorem zot_ {κ:Type} [DecidableEq κ] {KY:KyT κ}{O:Own β}{mm:Mo (List (κ×α)×(List (κ×α)→β))}{r2:Mo κ}{e2:TE}{k:β→Mo (Out ρ B S)}(hp:EvPt K te E L i O (owD KY T) mm) (hT:Imm T) (hKT:Imm KY.T) (he:EvF K e E L r T) (he2:EvF K e2 E L r2 KY.T) (hk:∀ x',EvS K u E (L.set i (.ow O x')) (k x') LS LB Or) :
  EvS K (tSeq (mDPut te e2 e) u) E L (r.bind fun a=>mm.bind fun yp=>r2.bind fun y=>.lim (yp.1.length+1) ((Mo.ok (yp.2 (putA yp.1 y a))).bind k)) LS LB Or:=by
 intro F0 H0 σ F h H D hL ok fin
 show e σ H fun v H1=>te σ H1 fun x H2=>e2 σ H2 fun y H3=>atD x y H3 fun a kvs k=>kvs.length<sizeLine∧u D σ (upd H3 a (.dK (putK kvs k v)))
 refine he σ (un F h) H _ (hL.froz ok.2.1) ok.thaw (zcg_ (G:=F) ok _ (.inl rfl) fin fun a F1 H1 hra x1 v hv=>?_)
 obtain ⟨o,hs,ht⟩:=ok.back x1
 rw [hra] at fin
 have hL':=hL.mono hs
 have hv':=hT ht hv
 refine hp F0 H0 σ _ h H1 _ hL' o (zcg_ (G:=F) o _ (.inl rfl) fin fun yp G1 H2 hr0 x2 u0 fc=>?_)
 obtain ⟨o1,hs1,_⟩:=o.back x2
 rw [hr0] at fin
 refine he2 σ (un (less G1 h) h) H2 _ ((hL'.mono hs1).froz o1.2.1) o1.thaw (zcg_ (G:=F) o1 _ (.inl rfl) fin fun y F2 H3 hry x3 v2 hv2=>?_)
 obtain ⟨o2,hs2,ht2⟩:=o1.back x3
 rw [hry] at fin
 obtain ⟨hz,fin⟩:=zix_ (show Fin K (Mo.lim (yp.1.length+1) (k (yp.2 (putA yp.1 y a)))) E LS LB Or F0 H0 D from fin)
 obtain ⟨k1,⟨p,kvs,rfl,rfl,pr⟩,kh',g⟩:=fc _ H3 hs2 o2
 obtain ⟨h',a1,a2⟩:=g (putA yp.1 y a) (one p (.dK (putK kvs (KY.key y) v))) _ (upd H3 p (.dK (putK kvs (KY.key y) v))) (PutC.one o2 kh') ⟨p,_,rfl,rfl,zoV_ pr y (T.mono (hs1.trans hs2) hv')⟩
 unfold atD
 simp only
 rw [KY.of hv2]
 refine ⟨kvs,o2.2.2.1 _ _ (kh' _ _ zbU_),?_,hk _ F0 H0 σ _ h' _ D a1 a2 fin⟩
 have:=Paired.length pr
 omega
end
end L2
namespace L2
open PySem PySem.Spec PyProof.Rows
section
variable {K:Fgg}{E:XK}{L:List Sl}
noncomputable def rngD (hi:Int) (n:Nat):List Int:=(List.range n).map fun (i:Nat)=>hi+i*(-1)
theorem zpg_ {hi:Int}{n:Nat}{F1:Hp}:Yl K (Itp n fun k=>.int (hi+k*(-1))) (rngD hi n) tyInt F1:=by
 refine ⟨fun i H x hH hx=>?_,fun H hH=>?_⟩
 ·unfold rngD at hx
  rw [List.getElem?_map] at hx
  cases e:(List.range n)[i]? with
  | none=>rw [e] at hx; cases hx
  | some c =>
   rw [e] at hx; cases hx
   obtain ⟨hi,e⟩:=List.getElem?_eq_some_iff.mp e
   rw [List.getElem_range] at e; subst e
   rw [List.length_range] at hi
   refine ⟨hi,?_⟩
   rintro v H' ⟨rfl,rfl⟩ F _ hF
   exact ⟨F,.refl hF,rfl⟩
 ·show n≤_
  unfold rngD; rw [List.length_map,List.length_range]; exact Nat.le_refl _
end
section
variable {K:Fgg}{E:XK}{α β ρ B:Type}{F0 H0 F h H:Hp}{L:List Sl}{te:TE}{Or:Own ρ}{tb:TS}{LB:B→List Sl}{i w:Nat}
noncomputable def mapX (step:β→Mo β):List β→Mo (List β)
 | []=>.ok []
 | x::xs=>(step x).bind fun y=>(mapX step xs).bind fun ys=>.ok (y::ys)
theorem zpQ_ {O:Own α}{O':Own β}{r0:Mo (List β×(List β→α))}{step:β→Mo β}{s0:Sl}(hw:L[w]?=some s0) (hne:i≠w) (hp:EvPw K te E L i O (owLO O') r0)
  (hb:∀ (uu v:V) (put:List β→α) (xs:List β) (k:Nat) (z:β),EvS K tb E ((L.set i (.ow (owPn v O' (fun z'=>xs.set k z') (owPn uu (owLO O') put O)) z)).set w (.fz (tyIs v) ())) ((step z).bind fun z'=>.ok (.nx z'))
   (fun z'=>(L.set i (.ow (owPn v O' (fun z'=>xs.set k z') (owPn uu (owLO O') put O)) z')).set w .dead) (fun z':β=>(L.set i (.ow (owPn v O' (fun z'=>xs.set k z') (owPn uu (owLO O') put O)) z')).set w .dead) Or) :
  EvS K (tFor (iAny K te) (gName w) tb) E L (r0.bind fun yp=>(mapX step yp.1).bind fun xs=>.ok (.nx (yp.2 xs))) (fun x'=>(L.set i (.ow O x')).set w .dead) LB Or:=by
 intro F0 H0 σ F h H D hL ok fin
 have dd:∀ {s:Sl}{σ F h},Hold (L.set i s) σ F h→Hold ((L.set i s).set w .dead) σ F h:=fun {s σ F h} hL=>by
  have hw':(L.set i s)[w]?=some s0:=by rw [List.getElem?_set_ne hne]; exact hw
  obtain ⟨o,k,hr,e1,j,_,f⟩:=hL.at w hw'
  have:=f .dead o k h j trivial
  rwa [zbT_ e1] at this
 unfold tFor iAny
 refine hp F0 H0 σ F h H _ hL ok (zcg_ (G:=F) ok _ (.inl rfl) fin fun yp G1 H1 hr0 x1 uu il hh=>?_)
 obtain ⟨o1,_,_⟩:=ok.back x1
 rw [hr0] at fin
 have hi:∀ {xs},((L.set i (.ow (owPn uu (owLO O') yp.2 O) xs)).set w .dead)[i]?=some (.ow (owPn uu (owLO O') yp.2 O) xs):=fun {xs}=>by rw [List.getElem?_set_ne (Ne.symm hne),List.getElem?_set_self (by exact il)]
 have ss:∀ {s1 s2:Sl},((L.set i s1).set w .dead).set i s2=(L.set i s2).set w .dead:=fun {s1 s2}=>by rw [List.set_comm _ _ (Ne.symm hne),List.set_set]
 have at0:∀ {xs σ F h H},Hold ((L.set i (.ow (owPn uu (owLO O') yp.2 O) xs)).set w .dead) σ F h→Okk F0 H0 F h H→∃ p vs,uu=.ref p∧h p=some (.lst vs)∧H p=some (.lst vs)∧vs.length=xs.length:=fun {xs σ F h H} hL ok=>by
  obtain ⟨_,_,_,_,j,⟨_,_,ka,kb,jk,⟨p,vs,m,e,jn,all⟩,_⟩,_⟩:=hL.at i hi
  have hp:=j.l _ _ (jk.l _ _ (jn.l _ _ zbU_))
  exact ⟨p,vs,e,hp,ok.2.2.1 _ _ hp,all.len.symm⟩
 obtain ⟨p,vs0,rfl,_,hp0,_⟩:=at0 (dd hh) o1
 refine .inl ⟨⟨vs0,.of hp0⟩,?_⟩
 refine ⟨fun k m σ H=>∃ (ys rest:List β) (F h:Hp),m=rest.length∧ys.length=k∧Hold ((L.set i (.ow (owPn (.ref p) (owLO O') yp.2 O) (ys++rest))).set w .dead) σ F h∧Okk F0 H0 F h H∧Fin K ((mapX step rest).bind fun zs=>.ok (.nx (yp.2 (ys++zs)))) E (fun x'=>(L.set i (.ow O x')).set w .dead) LB Or F0 H0 D,⟨_,[],yp.1,_,h,rfl,rfl,dd hh,o1,fin⟩,?_⟩
 rintro k m σ H ⟨ys,rest,F,h,rfl,rfl,hL,ok,fin⟩
 obtain ⟨p',vs,e,hv,hH,hlen⟩:=at0 hL ok
 cases e
 cases rest with
 | nil =>
  left
  refine ⟨⟨vs,.of hH,by rw [hlen]; simp⟩,fin σ F h H ?_ ok⟩
  have:=zdh_ (O2:=O) (x2:=yp.2 (ys++[])) hL hi fun v k _ _ ho=>zhr_ ho
  rwa [ss] at this
 | cons z rest =>
  right
  have hlt:ys.length<vs.length:=by rw [hlen]; simp
  have ek:vs[ys.length]?=some vs[ys.length]:=List.getElem?_eq_getElem hlt
  refine ⟨⟨vs,vs[ys.length],.of hH,ek⟩,fun σ' H'=>∃ (ys' rest':List β) (F h:Hp),rest'.length=rest.length∧ys'.length=ys.length+1∧Hold ((L.set i (.ow (owPn (.ref p) (owLO O') yp.2 O) (ys'++rest'))).set w .dead) σ' F h∧Okk F0 H0 F h H'∧Fin K ((mapX step rest').bind fun zs=>.ok (.nx (yp.2 (ys'++zs)))) E (fun x'=>(L.set i (.ow O x')).set w .dead) LB Or F0 H0 D,
   fun σ' H' ⟨ys',rest',F,h,a,b,c⟩=>⟨rest'.length,by rw [List.length_cons,a]; exact Nat.lt_succ_self _,ys',rest',F,h,rfl,b,c⟩,fun v H2 hy=>?_⟩
  obtain ⟨rfl,zz⟩:=hy
  have ev:=zz vs (.of hH)
  rw [ek] at ev
  injection ev with ev
  subst ev
  have ez:(ys++z::rest)[ys.length]?=some z:=by simp
  have hin:=zdh_ (O2:=owPn vs[ys.length] O' (fun z'=>(ys++z::rest).set ys.length z') (owPn (.ref p) (owLO O') yp.2 O)) (x2:=z) hL hi fun v0 k ev kh ⟨ka,kb,jk,hlo,wand⟩=>by
   obtain ⟨k1,k2,j1,o1,g⟩:=zmi_ hv ek ez F ka (jk.l.trans kh) hlo
   obtain ⟨mm,jm,jh⟩:=zdZ_ j1 jk
   refine ⟨k1,mm,jh,o1,fun z' k1' k' F3 s oz j'=>?_⟩
   obtain ⟨d,jg⟩:=zke_ jm j'
   exact ⟨un k1' k2,kb,jg,g z' k1' _ F3 s oz (zep_ d),fun z'' k1'' k'' F4 s'=>wand z'' k1'' k'' F4 (s.trans s')⟩
  rw [ss] at hin
  have hw2:∀ {s:Sl},((L.set i s).set w .dead)[w]?=some .dead:=fun {s}=>by rw [List.getElem?_set_self]; rw [List.length_set]; exact (List.getElem?_eq_some_iff.mp hw).1
  have hin2:=zei_ (T:=tyIs vs[ys.length]) (a:=()) (v:=vs[ys.length]) hw2 hin rfl
  rw [List.set_set] at hin2
  refine hb (.ref p) vs[ys.length] yp.2 (ys++z::rest) ys.length z F0 H0 (σ.set w (some vs[ys.length])) F h H2 _ hin2 ok ?_
  have em:∀ z',step z=.ok z'→((mapX step (z::rest)).bind fun zs=>(.ok (.nx (yp.2 (ys++zs))):Mo (Out ρ B α)))=(mapX step rest).bind fun zs=>.ok (.nx (yp.2 (ys++[z']++zs))):=fun z' e=>by
   show ((step z).bind fun y=>(mapX step rest).bind fun ys=>.ok (y::ys)).bind _=_
   rw [e]
   cases mapX step rest with
   | ok zs=>show Mo.ok (Out.nx (yp.2 (ys++(z'::zs))))=Mo.ok (Out.nx (yp.2 (ys++[z']++zs))); rw [List.append_assoc]; rfl
   | ex c=>rfl
   | no=>rfl
  cases e:step z with
  | no=>unfold mapX at fin; rw [e] at fin; exact fin
  | ex c=>unfold mapX at fin; rw [e] at fin; exact fin
  | ok z' =>
   rw [em z' e] at fin
   intro σ' F' h' H' hL' ok'
   refine ⟨ys++[z'],rest,F',h',rfl,by simp,?_,ok',fin⟩
   have hi2:((L.set i (.ow (owPn vs[ys.length] O' (fun z'=>(ys++z::rest).set ys.length z') (owPn (.ref p) (owLO O') yp.2 O)) z')).set w .dead)[i]?=some (.ow (owPn vs[ys.length] O' (fun z'=>(ys++z::rest).set ys.length z') (owPn (.ref p) (owLO O') yp.2 O)) z'):=by rw [List.getElem?_set_ne (Ne.symm hne),List.getElem?_set_self (by exact il)]
   have:=zdh_ (O2:=owPn (.ref p) (owLO O') yp.2 O) (x2:=ys++[z']++rest) hL' hi2 fun v k _ _ ho=>by
    have:=zhr_ ho
    rwa [show (ys++z::rest).set ys.length z'=ys++[z']++rest by simp] at this
   rwa [ss] at this
end
end L2
namespace L2
open PySem PySem.Spec PyProof.Rows
section
variable {K:Fgg}{E:XK}{α β γ δ ρ ρ' S B:Type}{F0 H0 F h H:Hp}{L:List Sl}{e te ei tc:TE}{ta:TA}{T:Ty α}{r:Mo α}{Or:Own ρ}{Or':Own ρ'}{t u:TS}{LS:S→List Sl}{LB:B→List Sl}{σ:St}{C:Addr}{ns:List Str}{f m:Str}{i n w j:Nat}
noncomputable def EvN (K:Fgg) (e:TE) (E:XK) (L:List Sl) (r:Mo α) (T:Ty α):Prop :=
 ∀ σ F H (Q:VK),HoldF L σ F→Same F H→After K r E F H (fun a G H'=>∀ v,(∀ h,Same h F→(∀ p xs,h p≠some (.tup xs))→T.R a v (less G h))→Q v H')→e σ H Q
noncomputable def EvAN (K:Fgg) (t:TA) (E:XK) (L:List Sl) (r:Mo γ) (C:Cs γ):Prop :=
 ∀ σ F H (Q:List V→Hp→Prop),HoldF L σ F→Same F H→After K r E F H (fun c G H'=>∀ vs,(∀ h,Same h F→(∀ p xs,h p≠some (.tup xs))→C.R c vs (less G h))→Q vs H')→t σ H Q
theorem ziG_ {G:Hp}(s:Same h G) (nt:∀ p xs,h p≠some (.tup xs)):Tups G (less G h):=fun p xs z=>by
 cases y:h p with
 | none=>rw [zV_ y]; exact z
 | some o=>have:=s _ _ y; rw [z] at this; cases this; exact absurd y (nt p xs)
theorem zf9_ (hT:Imm T) (he:EvF K e E L r T):EvN K e E L r T:=by
 intro σ F H Q hL hs q
 exact he σ F H Q hL hs (q.imp fun a G H' x k v hv=>k v fun h sh nt=>hT (ziG_ (sh.trans x.1) nt) hv)
theorem zms_ {O1:Own α}(hO:ImmO O1) (he:EvO K e E L r O1):EvN K e E L r O1.fr:=by
 intro σ F H Q hL hs q
 refine he σ F H Q hL hs ?_
 cases r with
 | no=>exact q
 | ex c=>exact q
 | ok a =>
  intro F' H' x v hn fresh dj sn ho
  refine q (un F' hn) H' ⟨x.1.trans zbW_,fun p o z=>?_,x.2.2.1,fun p a b=>?_⟩ v fun h sh nt=>?_
  ·unfold un at z
   cases y:F' p with
   | some w=>rw [y] at z; rw [← z]; exact x.2.1 _ _ y
   | none=>rw [y] at z; exact sn _ _ z
  ·unfold un at b
   cases y:F' p with
   | some w=>exact x.2.2.2 p a (by rw [y]; exact Option.some_ne_none _)
   | none=>rw [y] at b; exact fresh p b
  ·have d2:Dj (less F' h) hn:=fun p=>by
    rcases dj p with z | z
    ·exact .inl (zcJ_.free z)
    ·exact .inr z
   refine O1.fr.mono (fun p o z=>?_) (O1.frz d2 (hO (ziG_ (sh.trans x.1) nt) ho))
   unfold un at z
   cases y:less F' h p with
   | some w =>
    rw [y] at z
    have hp:h p=none:=by
     cases y2:h p with
     | none=>rfl
     | some s=>rw [zaM_ p (by rw [y2]; exact Option.some_ne_none _)] at y; cases y
    rw [zV_ hp] at y ⊢
    unfold un; rw [y]; exact z
   | none =>
    rw [y] at z
    have hp:h p=none:=by
     cases y2:h p with
     | none=>rfl
     | some s =>
      have z':hn p=some o:=z
      have:=fresh p (by rw [z']; exact Option.some_ne_none _)
      rw [hs _ _ (sh _ _ y2)] at this; cases this
    rw [zV_ hp] at y ⊢
    unfold un; rw [y]; exact z
theorem zon_:EvAN K tNil E L (.ok ()) csNil:=fun σ F H Q hL hs q=>q.ok hs [] fun _ _ _=>rfl
theorem zew_ (h:EvN K e E L r T):EvAN K (tCons e tNil) E L r (csLast T):=by
 intro σ F H Q hL hs q
 exact h σ F H _ hL hs (q.imp fun a G H' x k v hv=>k [v] fun h sh nt=>⟨v,rfl,hv h sh nt⟩)
theorem zkt_ {r2:Mo γ}{C:Cs γ}(h:EvN K e E L r T) (h2:EvAN K ta E L r2 C):EvAN K (tCons e ta) E L (r.bind fun a=>r2.bind fun c=>.ok (a,c)) (csCons T C):=by
 intro σ F H Q hL hs q
 refine h σ F H _ hL hs (q.bind.imp fun a G1 H1 x1 k1 v hv=>?_)
 refine h2 σ G1 H1 _ (hL.mono x1.1) x1.2.1 (k1.bind.imp fun c G2 H2 x2 k2 vs hvs=>?_)
 exact k2.ok x2.2.1 (v::vs) fun h sh nt=>⟨v,vs,rfl,T.mono (zik_ x2.1) (hv h sh nt),hvs h (sh.trans x1.1) nt⟩
theorem zc3_ {O:Own α}{P:Ps β}{r0:Mo (β×(β→α))}{Q:Cs γ}{ta:TA}{ra:Mo γ}{g:β→γ→Mo (ρ'×β)}{Or':Own ρ'}(hno:m∉ns) (hI:ImmO (owI C ns P)) (hR:ImmO Or') (hp:EvPw K te E L i O (owI C ns P) r0) (ha:EvAN K ta E L ra Q) :
  EvM K (tMeth C m (CtM K (owI C ns P) (owI C ns P) Q g Or') [] E0 te ta) E L i O Or' (r0.bind fun yp=>ra.bind fun c=>(g yp.1 c).noex.bind fun q=>.ok (q.1,yp.2 q.2)):=by
 intro F0 H0 σ F h H R hL ok fin
 show te σ H fun x H1=>∃ a dx fs,x=.ref a∧H1 a=some (.ins C dx fs)∧fs.lookup m=none∧ta σ H1 fun vs H2=>CtM K (owI C ns P) (owI C ns P) Q g Or' (x::(vs++[])) H2 R E0
 refine hp F0 H0 σ F h H _ hL ok (zl5_ ok fin fun yp G1 H1 hr0 x1 uu il hh=>?_)
 obtain ⟨o1,hs1,_⟩:=ok.back x1
 rw [hr0] at fin
 have hi:(L.set i (.ow (owPn uu (owI C ns P) yp.2 O) yp.1))[i]?=some (.ow (owPn uu (owI C ns P) yp.2 O) yp.1):=by rw [List.getElem?_set_self (by exact il)]
 obtain ⟨_,_,_,_,j0,⟨_,_,ka0,kb0,jk0,⟨p,dx,vs0,m0,rfl,ndx,jn,hl,ps⟩,_⟩,_⟩:=hh.at i hi
 refine ⟨p,dx,_,rfl,o1.2.2.1 _ _ (j0.l _ _ (jk0.l _ _ (jn.l _ _ zjk_))),zbs_ hno,?_⟩
 refine ha σ (un (less G1 h) h) H1 _ ((hL.mono hs1).froz o1.2.1) o1.thaw (zl5_ o1 fin fun c G2 H2 hra x2 vs hvs=>?_)
 obtain ⟨o2,hs2,ht2⟩:=o1.back x2
 rw [hra] at fin
 rw [List.append_nil]
 obtain ⟨_,k,hrest,e1,j,⟨v0,rfl,ka,kb,jk,hO,wand⟩,f⟩:=(hh.mono hs2).atM i hi
 have kh1:Same ka h:=jk.l.trans j.l
 have sFc:Same (un (less G2 h) (less h ka)) H2:=fun q o z=>by
  unfold un at z
  cases y:less G2 h q with
  | some s=>rw [y] at z; rw [← z]; exact o2.1.2.1 _ _ y
  | none=>rw [y] at z; exact o2.2.2.1 _ _ (zcJ_ _ _ z)
 have djc:Dj (un (less G2 h) (less h ka)) ka:=fun q=>by
  by_cases z:ka q=none
  ·exact .inr z
  ·left
   unfold un
   have:less G2 h q=none:=zaM_ q fun y=>z (kh1.free y)
   rw [this]; exact zaM_ q z
 refine ⟨un (less G2 h) (less h ka),ka,yp.1,c,.ref p,vs,rfl,sFc,djc,kh1.trans o2.2.2.1,(owI C ns P).mono zbW_ hO,Q.mono zbW_ (hvs h (zhb_ o1.2.1) o1.2.2.2.2),?_⟩
 have fin:FinM K ((g yp.1 c).noex.bind fun q=>.ok (q.1,yp.2 q.2)) E F0 H0 _:=fin
 cases e:g yp.1 c with
 | no=>rw [e] at fin; exact fin
 | ex cc=>rw [e] at fin; exact fin.elim
 | ok q =>
  rw [e] at fin
  rintro F' h' H' okc v ⟨hr,hs',j',hRes,hO2⟩
  obtain ⟨ff,tp,d1,d2,d3,okk⟩:=znu_ o2 j jk okc j'
  have hold:=f (less F' (less h ka)) (.ow O (yp.2 q.2)) (some v0) (un hs' kb) _ ff (zep_ d2) ⟨v0,rfl,wand q.2 hs' _ _ ff (hI tp hO2) (zep_ d1)⟩
  rw [zbT_ e1,List.set_set] at hold
  exact fin _ _ H' okk v _ hr (zep_ d3) hold (hR tp hRes)
theorem zmn_ {O:Own α}{r:Mo (ρ'×α)}{k:ρ'×α→Mo (Out ρ B S)}(hm:EvM K tc E L i O Or' r) (hk:∀ q,EvS K u E (L.set i (.ow O q.2)) (k q) LS LB Or):EvS K (tSeq (tDrop tc) u) E L (r.bind k) LS LB Or:=by
 intro F0 H0 σ F h H D hL ok fin
 show tc σ H fun _ H3=>u D σ H3
 refine hm F0 H0 σ F h H _ hL ok (zhj_ fin fun q F' h' H' hr o v h1 h2 j hold res=>?_)
 rw [hr] at fin
 exact hk q F0 H0 σ F' h1 H' D hold (zeF_ o j.l) fin
noncomputable def EvIr (K:Fgg) (wi:TI) (E:XK) (L:List Sl) (r:Mo (List Int)):Prop :=
 ∀ σ F H (R:It→Hp→Prop),HoldF L σ F→Same F H→After K r E F H (fun xs F' H'=>∀ J,(∀ F1,Yl K J xs tyInt F1)→R J H')→wi σ H R
theorem eir_3 {r:Mo (Int×Int×Int)}(h:EvA K ta E L r (csCons tyInt (csCons tyInt (csLast tyInt)))):EvIr K (mRng3 ta) E L (r.bind fun c=>.grd (c.2.2 = -1 ∧ -(2 ^ 61)≤c.1∧c.1<2 ^ 61 ∧ -(2 ^ 61)≤c.2.1∧c.2.1<2 ^ 61) (.ok (rngD c.1 (c.1-c.2.1).toNat))):=by
 intro σ F H R hL hs q
 refine h σ F H _ hL hs (q.bind.imp fun l F1 H1 x1 k1 v hv=>?_)
 obtain ⟨u,us,rfl,rfl,u2,us2,rfl,rfl,w,rfl,rfl⟩:=hv
 obtain ⟨z,k1⟩:=k1.grd
 exact ⟨z.1,z.2,k1.ok x1.2.1 _ fun _=>zpg_⟩
theorem zqF_ {wi:TI}{g:TG}{tb:TS}{s0:S}{r:Mo (List Int)}{ss:Int→List (Nat×Sl)}{step:S→Int→Mo (Out ρ S S)}(hi:EvIr K wi E (LS s0) r) (hg:TgR K g tyInt ss)
  (hb:∀ s a,EvS K tb E (setL (LS s) (ss a)) (step s a) LS LS Or):EvS K (tFor wi g tb) E (LS s0) (r.bind fun xs=>forO step xs s0) LS LB Or:=by
 intro F0 H0 σ F h H D hL ok fin
 refine hi σ (un F h) H _ (hL.froz ok.2.1) ok.thaw (zcg_ (G:=F) ok _ (.inl rfl) fin fun xs G1 H1 hr x1 J Y=>?_)
 rw [hr] at fin
 obtain ⟨o1,hs1,_⟩:=ok.back x1
 refine ⟨fun i m σ H=>m=xs.length-i∧i≤xs.length∧∃ s F h,Hold (LS s) σ F h∧Okk F0 H0 F h H∧Fin K (forO (B:=B) step (xs.drop i) s) E LS LB Or F0 H0 D,
  ⟨_,rfl,Nat.zero_le _,s0,_,h,hL.mono hs1,o1,fin⟩,?_⟩
 rintro i m σ H ⟨rfl,hi,s,F,h,hL,ok,fin⟩
 by_cases hlt:i<xs.length
 ·right
  obtain ⟨g1,g2⟩:=(Y F).go i H xs[i] ok.1.2.1 (List.getElem?_eq_getElem hlt)
  refine ⟨g1,fun σ' H'=>i+1≤xs.length∧∃ s F h,Hold (LS s) σ' F h∧Okk F0 H0 F h H'∧Fin K (forO (B:=B) step (xs.drop (i+1)) s) E LS LB Or F0 H0 D,fun σ' H' z=>⟨xs.length-(i+1),by omega,rfl,z⟩,fun v H2 hy=>?_⟩
  obtain ⟨F2,x2,hv⟩:=g2 v H2 hy F (Same.refl _) ok.1.2.1
  refine hg xs[i] v σ F2 H2 _ x2.2.1 hv fun vs hp=>?_
  refine hb s xs[i] F0 H0 _ F2 h H2 _ (zfH_ hp (hL.mono x2.1)) (ok.cold x2) ?_
  rw [List.drop_eq_getElem_cons hlt] at fin
  unfold forO at fin
  cases e:step s xs[i] with
  | no=>rw [e] at fin; exact fin
  | ex c=>rw [e] at fin; exact fin
  | ok o =>
   rw [e] at fin
   cases o with
   | nx s'=>exact fun σ' F' h' H' hL' ok'=>⟨hlt,s',F',h',hL',ok',fin⟩
   | ct s'=>exact fun σ' F' h' H' hL' ok'=>⟨hlt,s',F',h',hL',ok',fin⟩
   | bk s'=>exact fin
   | rt a=>exact fin
 ·left
  have e:i=xs.length:=by omega
  subst e
  rw [List.drop_length] at fin
  exact ⟨(Y F).stop H ok.1.2.1,fin σ F h H hL ok⟩
end
end L2
namespace L2
open PySem PySem.Spec PyProof.Rows
section
variable {K:Fgg}{E:XK}{α κ:Type} [DecidableEq κ] {KY:KyT κ}{L:List Sl}{e1 e2 e3:TE}{T:Ty α}
end
section
variable {K:Fgg}{E:XK}{α β ρ ρ' B:Type}{L:List Sl}{te:TE}{Or:Own ρ}{Or':Own ρ'}{LB:B→List Sl}{C:Addr}{ns:List Str}{m:Str}{i w:Nat}
theorem zqi_ {O:Own α}{P:Ps β}{g:β→Unit→Mo (ρ'×β)}{r0:Mo (List β×(List β→α))}{s0:Sl}(hi:i<L.length) (hw:L[w]?=some s0) (hne:i≠w) (hno:m∉ns) (hI:ImmO (owI C ns P)) (hp:EvPw K te E L i O (owLO (owI C ns P)) r0) :
  EvS K (tFor (iAny K te) (gName w) (tDrop (tMeth C m (CtM K (owI C ns P) (owI C ns P) csNil g Or') [] E0 (mVar w) tNil))) E L (r0.bind fun yp=>(mapX (fun z=>(g z ()).noex.bind fun q=>.ok q.2) yp.1).bind fun xs=>.ok (.nx (yp.2 xs))) (fun x'=>(L.set i (.ow O x')).set w .dead) LB Or:=by
 refine zpQ_ hw hne hp fun uu v put xs k z=>?_
 have h1:∀ s1 s2:Sl,((L.set i s1).set w s2)[i]?=some s1:=fun s1 s2=>by rw [List.getElem?_set_ne (Ne.symm hne),List.getElem?_set_self (by exact hi)]
 have h2:∀ s1 s2:Sl,((L.set i s1).set w s2)[w]?=some s2:=fun s1 s2=>by rw [List.getElem?_set_self]; rw [List.length_set]; exact (List.getElem?_eq_some_iff.mp hw).1
 have e:((((g z ()).noex.bind fun q=>Mo.ok q.2).bind fun z'=>.ok (.nx z')):Mo (Out ρ β β))=(Mo.ok (z,fun z':β=>z')).bind fun yp=>(Mo.ok ()).bind fun c=>(g yp.1 c).noex.bind fun q=>.ok (.nx (yp.2 q.2)):=by
  cases e0:g z () with
  | ok q=>simp only [Mo.bind,Mo.noex,e0]
  | ex c=>simp only [Mo.bind,Mo.noex,e0]
  | no=>simp only [Mo.bind,Mo.noex,e0]
 rw [e]
 refine ze4_ (zma_ (k:=fun x=>.ok (.nx x)) (P:=P) hno hI (zih_ (h1 _ _) (h2 _ _)) znG_ zp1_ fun x'=>?_)
 intro F0 H0 σ F h H D hL ok fin
 have:=fin σ F h H
 refine fin σ F h H ?_ ok
 rw [List.set_comm _ _ (Ne.symm hne),List.set_set] at hL
 obtain ⟨o,k,hr,e1,j,_,f⟩:=hL.at w (h2 _ _)
 have:=f .dead o k h j trivial
 rw [zbT_ e1,List.set_set] at this
 exact this
end
end L2
namespace L2
open PySem PySem.Spec PyProof.Rows
section
variable {K:Fgg}{E:XK}{α β γ δ ρ ρ' S B:Type}{F0 H0 F h H:Hp}{L:List Sl}{e te te2 tc:TE}{ta:TA}{T:Ty α}{r:Mo α}{Or:Own ρ}{Or':Own ρ'}{t u:TS}{LS:S→List Sl}{LB:B→List Sl}{σ:St}{C:Addr}{ns:List Str}{f m:Str}{i n w j:Nat}
theorem zij_ {Q:Cs γ}{r0:Mo γ}{g:γ→Mo α}{O:Own α}(hno:m∉ns) (he:EvF K te E L r0 (tyI C ns Q)) :
  EvO K (tMeth C m (Ct K (csLast (tyI C ns Q)) g O) [] E0 te tNil) E L (r0.bind fun x=>(g x).noex) O:=by
 intro σ F H R hL hs q
 refine he σ F H _ hL hs (q.bind.imp fun x F1 H1 x1 k1 v hv=>?_)
 obtain ⟨p,dx,vs,rfl,hp,hl,hc⟩:=id hv
 refine ⟨p,dx,_,rfl,x1.2.1 _ _ hp,zbs_ hno,?_⟩
 exact ⟨F1,x,x1.2.1,⟨_,rfl,hv⟩,k1.noex.imp fun a F3 H3 x3 k3 w h fresh d s o=>k3 w h (fun p z=>x1.2.2.1.free (fresh p z)) d s o⟩
end
end L2
namespace K36
open PySem PySem.Spec PyProof.Rows L2
theorem S4 {a b c d:Sl}{L L':List Sl}(h:Sub L L'):Sub (a::b::c::d::L) (a::b::c::d::L'):=.same (.same (.same (.same h)))
noncomputable abbrev Qn0:List Str:=["breaks", "sums", "board", "levels", "before", "run_over"]
noncomputable abbrev Qn1:List Str:=["_law_script", "_law_kinds_here", "_law_many", "_law_breaks", "_law_cell", "_law_most", "_law_sums", "_law_first", "_law_nines", "_law_deck", "_law_k", "_law_one", "_law_card_here", "_law_tail", "_law_figures_here", "_law_ahead", "_law_counter", "_law_totals", "_law_lines", "_law_overs"]
noncomputable abbrev Qn2:List Str:=["_law_cell", "_law_k", "_law_kinds_here", "_law_signs", "_law_numbers", "_law_text", "_law_at", "_law_step", "_law_low", "_law_two", "_law_some", "_law_mark"]
noncomputable abbrev Qn3:List Str:=["self"]
noncomputable abbrev Qn4:List Str:=["self", "breaks", "sums", "figures", "board"]
noncomputable abbrev Qn5:List Str:=["_law_cell", "_law_field_here", "_law_many", "_law_greatest", "_law_column", "_law_figures_here"]
noncomputable abbrev Qn6:List Str:=["_law_line", "_law_totals", "_law_ahead", "_law_figures_here", "_law_k", "_law_end", "_law_tail"]
noncomputable abbrev Qn7:List Str:=["figures", "power", "kept", "over"]
noncomputable abbrev Qn8:List Str:=["_law_line", "_law_totals", "_law_ahead", "_law_figures_here"]
noncomputable abbrev Qn9:List Str:=["card", "field"]
noncomputable abbrev Qn10:List Str:=["_law_cell", "_law_many", "_law_found", "_law_number_here", "_law_k"]
noncomputable abbrev Qn11:List Str:=["_law_number_here", "_law_figures_here", "_law_found", "_law_k"]
noncomputable abbrev Qn12:List Str:=["_law_card_here", "_law_field_here", "_law_total", "_law_sign"]
noncomputable abbrev Qn13:List Str:=["sums", "figures", "many"]
noncomputable abbrev Qn14:List Str:=["self", "level", "numbers", "place", "number", "wheel"]
noncomputable abbrev Qn15:List Str:=["_law_script", "_law_k"]
noncomputable abbrev Qn16:List Str:=["_law_cell", "_law_field_here", "_law_many"]
noncomputable abbrev Qn17:List Str:=["_law_cell", "_law_many"]
noncomputable abbrev Qn18:List Str:=["_law_cell", "_law_k", "_law_kinds_here"]
noncomputable abbrev Qn19:List Str:=["_law_number_here", "_law_figures_here"]
noncomputable abbrev Qn20:List Str:=["self", "level"]
noncomputable abbrev Qn21:List Str:=["_law_number_here", "_law_most", "_law_first"]
noncomputable abbrev Qn22:List Str:=["_law_number_here", "_law_most"]
noncomputable abbrev Qn23:List Str:=["self", "level", "numbers"]
noncomputable abbrev Qn24:List Str:=["_law_card_here", "_law_field_here"]
noncomputable abbrev Qn25:List Str:=["_law_overs", "_law_ahead", "_law_place"]
noncomputable abbrev Qn26:List Str:=["self", "figures"]
noncomputable abbrev Qn27:List Str:=["self", "card", "lines", "mark", "laid"]
noncomputable abbrev Qn28:List Str:=["card", "column"]
noncomputable abbrev Qn29:List Str:=["self", "outermost", "lines", "level"]
noncomputable abbrev Qn30:List Str:=["self", "card"]
noncomputable abbrev Qn31:List Str:=["self", "outermost"]
noncomputable abbrev Qn32:List Str:=["_law_overs", "_law_ahead"]
noncomputable abbrev Qn33:List Str:=["_law_number_here"]
noncomputable abbrev Qq0 (K:Fgg):=(owI (gA K "Counter") Qn0 (psO (owL (tyTup (csCons tyInt (csLast tyInt)))) (psO (owL (tyTup (csCons tyInt (csLast tyInt)))) (psO (owL (tyTup (csCons tyInt (csLast tyInt)))) (psO (owLO (owLO (owI (gA K "Wheel") Qn7 (psO (owF tyInt) (psO (owF tyInt) (psO (owF tyInt) (psO (owF tyBl) psNil))))))) (psO (owF (tyOpt tyStr)) (psO (owD kInt tyBl) psNil)))))))
noncomputable abbrev Qq1:=((List (Int×Int))×((List (Int×Int))×((List (Int×Int))×((List (List (Int×(Int×(Int×(Bool×Unit))))))×((Option (List Nat))×((List (Int×Bool))×Unit))))))
noncomputable abbrev Qq2:=(tyTup (csCons tyInt (csLast tyInt)))
noncomputable abbrev Qq3 (K:Fgg):=(tyI (gA K "Counter") Qn0 (csCons (tyL Qq2) (csCons (tyL Qq2) (csCons (tyL Qq2) (csCons (tyL (tyL (tyI (gA K "Wheel") Qn7 (csCons tyInt (csCons tyInt (csCons tyInt (csCons tyBl csNil))))))) (csCons (tyOpt tyStr) (csCons (tyD kInt tyBl) csNil)))))))
noncomputable abbrev Qq4 (K:Fgg):=(owI (gA K "Wheel") Qn7 (psO (owF tyInt) (psO (owF tyInt) (psO (owF tyInt) (psO (owF tyBl) psNil)))))
noncomputable abbrev Qq5 (K:Fgg):=(tyI (gA K "Wheel") Qn7 (csCons tyInt (csCons tyInt (csCons tyInt (csCons tyBl csNil)))))
noncomputable abbrev Qq6:=(Int×(Int×(Int×(Bool×Unit))))
noncomputable abbrev Qq7 (K:Fgg):=(psO (owL Qq2) (psO (owL Qq2) (psO (owL Qq2) (psO (owLO (owLO (Qq4 K))) (psO (owF (tyOpt tyStr)) (psO (owD kInt tyBl) psNil))))))
noncomputable def zgl_ (p_power:Int):Mo (Out Int Unit Unit) :=
 (Mo.bind (Mo.ok (1:Int)) fun value_1=>(thenO (S:=Int) (Mo.bind (Mo.bind (Mo.ok p_power) fun c_3=>Mo.grd (-(2 ^ 62)≤c_3∧c_3<2 ^ 62) (Mo.ok (rngI 0 c_3.toNat))) fun xs_8=>forO (fun (s_2:Int) x_4=>(Mo.bind (Mo.bind (Mo.ok s_2) fun a_6=>Mo.bind (Mo.ok (10:Int)) fun b_7=>Mo.grd (IntMulOk a_6 b_7) (Mo.ok (a_6*b_7))) fun value_5=>(Mo.ok (.nx value_5)))) xs_8 value_1) fun s_2=>(Mo.bind (Mo.ok s_2) fun r_9=>Mo.ok (.rt r_9))))
noncomputable def zeu_ (p_power:Int):Mo Int:=fnO (zgl_ p_power)
noncomputable def zbx_ (p_self:Unit) (p_figures:Int):Mo (Out (Unit×Qq6) Unit Qq6) :=
 (Mo.bind (Mo.ok p_figures) fun a_1=>Mo.bind (Mo.ok (a_1,())) fun x_2=>(Mo.bind (Mo.bind (Mo.ok p_figures) fun c_9=>Mo.noex (zeu_ c_9)) fun a_3=>Mo.bind (Mo.ok (x_2.1,(a_3,()))) fun x_4=>(Mo.bind (Mo.ok (0:Int)) fun a_5=>Mo.bind (Mo.ok (x_4.1,(x_4.2.1,(a_5,())))) fun x_6=>(Mo.bind (Mo.ok false) fun a_7=>Mo.bind (Mo.ok (x_6.1,(x_6.2.1,(x_6.2.2.1,(a_7,()))))) fun x_8=>(Mo.ok (.nx x_8))))))
noncomputable def z7_ (p_self:Unit) (p_figures:Int):Mo (Unit×Qq6):=fnMU (zbx_ p_self p_figures)
noncomputable def zbc_ (p_self:Unit) (p_breaks:(List (Int×Int))) (p_sums:(List (Int×Int))) (p_figures:Int) (p_board:(List (Int×Int))):Mo (Out (Unit×Qq1) Unit Qq1) :=
 (Mo.bind (Mo.bind (Mo.ok p_breaks) fun c_25=>Mo.ok c_25) fun a_1=>Mo.bind (Mo.ok (a_1,())) fun x_2=>(Mo.bind (Mo.bind (Mo.ok p_sums) fun c_24=>Mo.ok c_24) fun a_3=>Mo.bind (Mo.ok (x_2.1,(a_3,()))) fun x_4=>(Mo.bind (Mo.bind (Mo.ok p_board) fun c_23=>Mo.ok c_23) fun a_5=>Mo.bind (Mo.ok (x_4.1,(x_4.2.1,(a_5,())))) fun x_6=>(Mo.bind (Mo.bind (Mo.bind (Mo.bind (Mo.bind (Mo.ok p_breaks) fun c_13=>Mo.ok (c_13.length:Int)) fun a_14=>Mo.bind (Mo.ok (1:Int)) fun b_15=>Mo.ok (a_14+b_15)) fun c_16=>Mo.grd (-(2 ^ 62)≤c_16∧c_16<2 ^ 62) (Mo.ok (rngI 0 c_16.toNat))) fun xs_22=>compM (fun x_17=>cond1 (Mo.ok true) (Mo.bind (Mo.ok p_sums) fun xs_21=>compM (fun x_18=>cond1 (Mo.ok true) (Mo.bind (Mo.ok p_figures) fun c_19=>Mo.bind (Mo.noex (z7_ () c_19)) fun q_20=>Mo.ok q_20.2)) xs_21 [])) xs_22 []) fun a_7=>Mo.bind (Mo.ok (x_6.1,(x_6.2.1,(x_6.2.2.1,(a_7,()))))) fun x_8=>(Mo.bind (Mo.ok (none:(Option (List Nat)))) fun a_9=>Mo.bind (Mo.ok (x_8.1,(x_8.2.1,(x_8.2.2.1,(x_8.2.2.2.1,(a_9,())))))) fun x_10=>(Mo.bind (Mo.ok ([]:(List (Int×Bool)))) fun a_11=>Mo.bind (Mo.ok (x_10.1,(x_10.2.1,(x_10.2.2.1,(x_10.2.2.2.1,(x_10.2.2.2.2.1,(a_11,()))))))) fun x_12=>(Mo.ok (.nx x_12))))))))
noncomputable def za9_ (p_self:Unit) (p_breaks:(List (Int×Int))) (p_sums:(List (Int×Int))) (p_figures:Int) (p_board:(List (Int×Int))):Mo (Unit×Qq1):=fnMU (zbc_ p_self p_breaks p_sums p_figures p_board)
noncomputable def zct_ (p_self:Qq6):Mo (Out (List Nat) Unit Unit) :=
 (Mo.bind (Mo.bind (Mo.bind (Mo.bind (Mo.ok p_self) fun a_1=>Mo.ok a_1.2.2.1) fun c_2=>Mo.grd (c_2.natAbs.log2<1920) (Mo.ok (strI c_2))) fun a_4=>Mo.bind (Mo.bind (Mo.ok p_self) fun a_3=>Mo.ok a_3.1) fun b_5=>Mo.grd (PadOk b_5=true) (Mo.ok (zfL a_4 b_5))) fun r_6=>Mo.ok (.rt r_6))
noncomputable def zaI_ (p_self:Qq6):Mo (List Nat):=fnO (zct_ p_self)
noncomputable def ze2_ (p_card:(List Nat)) (p_field:(Int×Int)):Mo (Out (List Nat) Unit Unit) :=
 (Mo.bind (Mo.bind (Mo.ok p_card) fun a_7=>Mo.bind (Mo.bind (Mo.bind (Mo.bind (Mo.ok p_field) fun a_1=>Mo.ok a_1.1) fun a_2=>Mo.bind (Mo.ok (1:Int)) fun b_3=>Mo.ok (a_2-b_3)) fun i_4=>Mo.ok (some i_4)) fun b_8=>Mo.bind (Mo.bind (Mo.bind (Mo.ok p_field) fun a_5=>Mo.ok a_5.2) fun i_6=>Mo.ok (some i_6)) fun d_9=>Mo.lim a_7.length (Mo.ok (cutG a_7 b_8 d_9))) fun r_10=>Mo.ok (.rt r_10))
noncomputable def zcq_ (p_card:(List Nat)) (p_field:(Int×Int)):Mo (List Nat):=fnO (ze2_ p_card p_field)
noncomputable def zaS_ (p_self:Qq1) (p_level:Int):Mo (Out (List Nat) Unit Unit) :=
 (Mo.bind (Mo.bind (Mo.bind (Mo.ok ([42]:List Nat)) fun a_8=>Mo.bind (Mo.bind (Mo.bind (Mo.ok (1:Int)) fun a_4=>Mo.bind (Mo.bind (Mo.bind (Mo.ok p_self) fun a_2=>Mo.ok a_2.1) fun c_3=>Mo.ok (c_3.length:Int)) fun b_5=>Mo.ok (a_4+b_5)) fun a_6=>Mo.bind (Mo.ok p_level) fun b_7=>Mo.ok (a_6-b_7)) fun b_9=>Mo.grd (CRep a_8.length b_9) (Mo.ok (repL a_8 b_9))) fun c_10=>Mo.ok [c_10]) fun words_1=>(Mo.bind (Mo.bind (Mo.bind (Mo.bind (Mo.ok p_self) fun a_11=>Mo.ok a_11.1) fun a_13=>Mo.bind (Mo.ok none) fun b_14=>Mo.bind (Mo.bind (Mo.ok p_level) fun i_12=>Mo.ok (some i_12)) fun d_15=>Mo.ok (cutG a_13 b_14 d_15)) fun xs_22=>compM (fun x_16=>cond1 (Mo.ok true) (Mo.bind (Mo.bind (Mo.bind (Mo.bind (Mo.ok p_self) fun a_17=>Mo.ok a_17.2.2.2.2.1) fun a_18=>Mo.opt a_18) fun a_19=>Mo.bind (Mo.ok x_16) fun c_20=>Mo.ok (a_19,c_20)) fun c_21=>Mo.noex (zcq_ c_21.1 c_21.2))) xs_22 []) fun a_23=>Mo.lim (words_1.length+a_23.length) (Mo.bind (Mo.bind (Mo.bind (Mo.bind (Mo.ok p_self) fun a_24=>Mo.ok a_24.2.2.2.1) fun a_25=>Mo.bind (Mo.ok p_level) fun b_26=>Mo.opt (atI a_25 b_26)) fun xs_29=>compM (fun x_27=>cond1 (Mo.ok true) (Mo.bind (Mo.ok x_27) fun o_28=>Mo.noex (zaI_ o_28))) xs_29 []) fun a_30=>Mo.lim ((words_1++a_23).length+a_30.length) (Mo.bind (Mo.bind (Mo.ok ([32]:List Nat)) fun a_31=>Mo.bind (Mo.ok ((words_1++a_23)++a_30)) fun b_32=>Mo.grd (JoinOk ⟨a_31.toArray⟩ (strsL b_32)=true) (Mo.ok (joinS a_31 (strsL b_32)))) fun r_33=>Mo.ok (.rt r_33)))))
noncomputable def zan_ (p_self:Qq1) (p_level:Int):Mo (List Nat):=fnO (zaS_ p_self p_level)
noncomputable def zcV_ (p_self:Qq6) (p_value:Int):Mo (Out (Unit×Qq6) Unit Qq6) :=
 (Mo.bind (Mo.bind (Mo.bind (Mo.ok p_self) fun a_2=>Mo.ok a_2.2.2.1) fun a_3=>Mo.bind (Mo.ok p_value) fun b_4=>Mo.ok (a_3+b_4)) fun risen_1=>(thenO (S:=Qq6) (Mo.bind (Mo.bind (Mo.ok risen_1) fun a_6=>Mo.bind (Mo.bind (Mo.ok p_self) fun a_5=>Mo.ok a_5.2.1) fun b_7=>Mo.ok (decide (b_7≤a_6))) fun c_8=>if c_8 then (Mo.bind (Mo.ok true) fun a_10=>Mo.bind (Mo.ok (p_self,fun (z:Qq6)=>z)) fun y_12=>Mo.bind (Mo.ok (y_12.2 (y_12.1.1,(y_12.1.2.1,(y_12.1.2.2.1,(a_10,y_12.1.2.2.2.2)))))) fun x_11=>(Mo.ok (.nx x_11))) else (Mo.ok (.nx p_self))) fun s_9=>(Mo.bind (Mo.bind (Mo.ok risen_1) fun a_17=>Mo.bind (Mo.bind (Mo.ok s_9) fun a_16=>Mo.ok a_16.2.1) fun b_18=>Mo.grd (0<b_18) (Mo.ok (a_17 % b_18))) fun a_13=>Mo.bind (Mo.ok (s_9,fun (z:Qq6)=>z)) fun y_15=>Mo.bind (Mo.ok (y_15.2 (y_15.1.1,(y_15.1.2.1,(a_13,y_15.1.2.2.2))))) fun x_14=>(Mo.ok (.nx x_14)))))
noncomputable def zcR_ (p_self:Qq6) (p_value:Int):Mo (Unit×Qq6):=fnMU (zcV_ p_self p_value)
noncomputable def zcl_ (p_self:Qq6):Mo (Out Bool Unit Unit) :=
 (Mo.bind (Mo.bind (Mo.ok p_self) fun a_1=>Mo.ok a_1.2.2.2.1) fun r_2=>Mo.ok (.rt r_2))
noncomputable def zcc_ (p_self:Qq6):Mo Bool:=fnO (zcl_ p_self)
noncomputable def zaE_ (p_self:Qq1) (p_level:Int) (p_numbers:(List Int)):Mo (Out (Unit×Qq1) Unit Qq1) :=
 (thenO (S:=Qq1) (Mo.bind (Mo.bind (Mo.ok p_numbers) fun c_2=>Mo.ok (enumL c_2)) fun xs_27=>forO (fun (s_1:Qq1) x_3=>(Mo.bind (Mo.bind (Mo.bind (Mo.bind (Mo.ok (s_1,fun (z:Qq1)=>z)) fun y_4=>Mo.ok (y_4.1.2.2.2.1,fun (z':(List (List Qq6)))=>y_4.2 (y_4.1.1,(y_4.1.2.1,(y_4.1.2.2.1,(z',y_4.1.2.2.2.2)))))) fun y_5=>Mo.bind (Mo.ok p_level) fun j_6=>Mo.bind (Mo.opt (ixN y_5.1.length j_6)) fun n_7=>Mo.bind (Mo.opt (y_5.1[n_7]?)) fun z_8=>Mo.ok (z_8,fun (z':(List Qq6))=>y_5.2 (y_5.1.set n_7 z'))) fun y_9=>Mo.bind (Mo.ok x_3.1) fun j_10=>Mo.bind (Mo.opt (ixN y_9.1.length j_10)) fun n_11=>Mo.bind (Mo.opt (y_9.1[n_11]?)) fun z_12=>Mo.ok (z_12,fun (z':Qq6)=>y_9.2 (y_9.1.set n_11 z'))) fun y_13=>(Mo.bind (Mo.ok (y_13.1,fun (z:Qq6)=>z)) fun y_15=>Mo.bind (Mo.ok x_3.2) fun c_16=>Mo.bind (Mo.noex (zcR_ y_15.1 c_16)) fun q_17=>Mo.bind (Mo.ok (y_15.2 q_17.2)) fun x_18=>(thenO (S:=Qq1) (Mo.bind (Mo.bind (Mo.ok x_18) fun o_19=>Mo.noex (zcc_ o_19)) fun c_20=>if c_20 then (Mo.bind (Mo.ok true) fun a_23=>Mo.bind (Mo.bind (Mo.ok ((y_13.2 x_18),fun (z:Qq1)=>z)) fun y_22=>Mo.ok (y_22.1.2.2.2.2.2.1,fun (z':(List (Int×Bool)))=>y_22.2 (y_22.1.1,(y_22.1.2.1,(y_22.1.2.2.1,(y_22.1.2.2.2.1,(y_22.1.2.2.2.2.1,(z',y_22.1.2.2.2.2.2.2)))))))) fun y_24=>Mo.bind (Mo.ok x_3.1) fun z_25=>Mo.lim (y_24.1.length+1) (Mo.bind (Mo.ok (y_24.2 (putA y_24.1 z_25 a_23))) fun x_26=>(Mo.ok (.nx x_26)))) else (Mo.ok (.nx (y_13.2 x_18)))) fun s_21=>(Mo.ok (.nx s_21)))))) xs_27 p_self) fun s_1=>(Mo.ok (.nx s_1)))
noncomputable def zaa_ (p_self:Qq1) (p_level:Int) (p_numbers:(List Int)):Mo (Unit×Qq1):=fnMU (zaE_ p_self p_level p_numbers)
noncomputable def zdg_ (p_self:Qq6):Mo (Out (Unit×Qq6) Unit Qq6) :=
 (Mo.bind (Mo.ok (0:Int)) fun a_1=>Mo.bind (Mo.ok (p_self,fun (z:Qq6)=>z)) fun y_3=>Mo.bind (Mo.ok (y_3.2 (y_3.1.1,(y_3.1.2.1,(a_1,y_3.1.2.2.2))))) fun x_2=>(Mo.bind (Mo.ok false) fun a_4=>Mo.bind (Mo.ok (x_2,fun (z:Qq6)=>z)) fun y_6=>Mo.bind (Mo.ok (y_6.2 (y_6.1.1,(y_6.1.2.1,(y_6.1.2.2.1,(a_4,y_6.1.2.2.2.2)))))) fun x_5=>(Mo.ok (.nx x_5))))
noncomputable def zaH_ (p_self:Qq6):Mo (Unit×Qq6):=fnMU (zdg_ p_self)
noncomputable def zcQ_ (p_self:Qq6):Mo (Out Int Unit Unit) :=
 (Mo.bind (Mo.bind (Mo.ok p_self) fun a_1=>Mo.ok a_1.2.2.1) fun r_2=>Mo.ok (.rt r_2))
noncomputable def zb0_ (p_self:Qq6):Mo Int:=fnO (zcQ_ p_self)
noncomputable def zab_ (p_self:Qq1) (p_level:Int):Mo (Out ((List Nat)×Qq1) Unit Unit) :=
 (Mo.bind (Mo.bind (Mo.ok p_self) fun o_2=>Mo.bind (Mo.ok p_level) fun c_3=>Mo.noex (zan_ o_2 c_3)) fun line_1=>(thenO (S:=Qq1) (Mo.bind (Mo.bind (Mo.ok p_level) fun a_4=>Mo.bind (Mo.ok (0:Int)) fun b_5=>Mo.ok (decide (b_5<a_4))) fun c_6=>if c_6 then (Mo.bind (Mo.bind (Mo.ok (p_self,fun (z:Qq1)=>z)) fun y_18=>Mo.bind (Mo.bind (Mo.bind (Mo.ok p_level) fun a_8=>Mo.bind (Mo.ok (1:Int)) fun b_9=>Mo.ok (a_8-b_9)) fun a_16=>Mo.bind (Mo.bind (Mo.bind (Mo.bind (Mo.ok p_self) fun a_10=>Mo.ok a_10.2.2.2.1) fun a_11=>Mo.bind (Mo.ok p_level) fun b_12=>Mo.opt (atI a_11 b_12)) fun xs_15=>compM (fun x_13=>cond1 (Mo.ok true) (Mo.bind (Mo.ok x_13) fun o_14=>Mo.noex (zb0_ o_14))) xs_15 []) fun c_17=>Mo.ok (a_16,c_17)) fun c_19=>Mo.bind (Mo.noex (zaa_ y_18.1 c_19.1 c_19.2)) fun q_20=>Mo.ok (q_20.1,y_18.2 q_20.2)) fun q_21=>(Mo.ok (.nx q_21.2))) else (Mo.ok (.nx p_self))) fun s_7=>(thenO (S:=Qq1) (Mo.bind (Mo.bind (Mo.bind (Mo.ok (s_7,fun (z:Qq1)=>z)) fun y_22=>Mo.ok (y_22.1.2.2.2.1,fun (z':(List (List Qq6)))=>y_22.2 (y_22.1.1,(y_22.1.2.1,(y_22.1.2.2.1,(z',y_22.1.2.2.2.2)))))) fun y_23=>Mo.bind (Mo.ok p_level) fun j_24=>Mo.bind (Mo.opt (ixN y_23.1.length j_24)) fun n_25=>Mo.bind (Mo.opt (y_23.1[n_25]?)) fun z_26=>Mo.ok (z_26,fun (z':(List Qq6))=>y_23.2 (y_23.1.set n_25 z'))) fun y_27=>Mo.bind (mapX (fun z_28=>Mo.bind (Mo.noex (zaH_ z_28)) fun q_29=>Mo.ok q_29.2) y_27.1) fun xs_30=>Mo.ok (.nx (y_27.2 xs_30))) fun s_31=>(Mo.bind (Mo.ok line_1) fun r_32=>Mo.ok (.rt (r_32,s_31))))))
noncomputable def zK_ (p_self:Qq1) (p_level:Int):Mo ((List Nat)×Qq1):=fnMR (zab_ p_self p_level)
noncomputable def zat_ (p_self:Qq1) (p_outermost:Int):Mo (Out ((List (List Nat))×Qq1) Unit Unit) :=
 (Mo.bind (Mo.ok ([]:List (List Nat))) fun lines_1=>(thenO (S:=((List (List Nat))×Qq1)) (Mo.bind (Mo.bind (Mo.bind (Mo.bind (Mo.bind (Mo.ok p_self) fun a_3=>Mo.ok a_3.1) fun c_4=>Mo.ok (c_4.length:Int)) fun a_10=>Mo.bind (Mo.bind (Mo.bind (Mo.ok p_outermost) fun a_5=>Mo.bind (Mo.ok (1:Int)) fun b_6=>Mo.ok (a_5-b_6)) fun a_8=>Mo.bind (Mo.bind (Mo.ok (1:Int)) fun a_7=>Mo.ok (-a_7)) fun c_9=>Mo.ok (a_8,c_9)) fun c_11=>Mo.ok (a_10,c_11)) fun c_12=>Mo.grd (c_12.2.2 = -1 ∧ -(2 ^ 61)≤c_12.1∧c_12.1<2 ^ 61 ∧ -(2 ^ 61)≤c_12.2.1∧c_12.2.1<2 ^ 61) (Mo.ok (rngD c_12.1 (c_12.1-c_12.2.1).toNat))) fun xs_18=>forO (fun (s_2:((List (List Nat))×Qq1)) x_13=>(Mo.bind (Mo.bind (Mo.ok (s_2.2,fun (z:Qq1)=>z)) fun y_14=>Mo.bind (Mo.ok x_13) fun c_15=>Mo.bind (Mo.noex (zK_ y_14.1 c_15)) fun q_16=>Mo.ok (q_16.1,y_14.2 q_16.2)) fun q_17=>Mo.lim (s_2.1.length+1) (Mo.ok (.nx ((s_2.1++[q_17.1]),q_17.2))))) xs_18 (lines_1,p_self)) fun s_2=>(Mo.ok (.rt (s_2.1,s_2.2)))))
noncomputable def zG_ (p_self:Qq1) (p_outermost:Int):Mo ((List (List Nat))×Qq1):=fnMR (zat_ p_self p_outermost)
noncomputable def zbE_ (p_self:Qq1):Mo (Out ((List (List Nat))×Qq1) Unit Unit) :=
 (thenO (S:=Unit) (Mo.bind (Mo.bind (Mo.bind (Mo.ok p_self) fun a_1=>Mo.ok a_1.2.2.2.2.1) fun a_2=>Mo.bind (Mo.ok ()) fun b_3=>Mo.ok a_2.isNone) fun c_4=>if c_4 then (Mo.bind (Mo.bind (Mo.ok (p_self,fun (z:Qq1)=>z)) fun y_6=>Mo.bind (Mo.ok (0:Int)) fun c_7=>Mo.bind (Mo.noex (zK_ y_6.1 c_7)) fun q_8=>Mo.ok (q_8.1,y_6.2 q_8.2)) fun q_9=>Mo.ok (.rt ([q_9.1],q_9.2))) else (Mo.ok (.nx ()))) fun _=>(Mo.bind (Mo.bind (Mo.ok (p_self,fun (z:Qq1)=>z)) fun y_10=>Mo.bind (Mo.ok (0:Int)) fun c_11=>Mo.bind (Mo.noex (zG_ y_10.1 c_11)) fun q_12=>Mo.ok (q_12.1,y_10.2 q_12.2)) fun q_13=>Mo.ok (.rt q_13)))
noncomputable def zbF_ (p_self:Qq1):Mo ((List (List Nat))×Qq1):=fnMR (zbE_ p_self)
noncomputable def zbK_ (p_self:Qq1):Mo (Out (List Int) Unit Unit) :=
 (Mo.bind (Mo.bind (Mo.bind (Mo.ok p_self) fun a_1=>Mo.ok a_1.2.2.2.2.2.1) fun c_2=>Mo.grd (c_2.length<64) (Mo.ok (srtL ltI (c_2.map (·.1))))) fun r_3=>Mo.ok (.rt r_3))
noncomputable def zbo_ (p_self:Qq1):Mo (List Int):=fnO (zbK_ p_self)
noncomputable def zcX_ (p_cell:Int) (p_many:Int):Mo (Out (List Int) Unit Unit) :=
 (Mo.bind (Mo.ok ([]:List Int)) fun found_1=>(Mo.bind (Mo.bind (Mo.bind (Mo.ok p_cell) fun a_3=>Mo.bind (Mo.ok (2147483647:Int)) fun b_4=>Mo.grd (0<b_4) (Mo.ok (a_3 % b_4))) fun a_5=>Mo.bind (Mo.ok (48271:Int)) fun b_6=>Mo.ok (a_5+b_6)) fun number_here_2=>(thenO (S:=(Int×(List Int))) (Mo.bind (Mo.bind (Mo.ok p_many) fun c_8=>Mo.grd (-(2 ^ 62)≤c_8∧c_8<2 ^ 62) (Mo.ok (rngI 0 c_8.toNat))) fun xs_22=>forO (fun (s_7:(Int×(List Int))) x_9=>(Mo.bind (Mo.bind (Mo.bind (Mo.bind (Mo.bind (Mo.ok s_7.1) fun a_11=>Mo.bind (Mo.ok s_7.1) fun b_12=>Mo.grd (IntMulOk a_11 b_12) (Mo.ok (a_11*b_12))) fun a_15=>Mo.bind (Mo.bind (Mo.ok (48271:Int)) fun a_13=>Mo.bind (Mo.ok s_7.1) fun b_14=>Mo.grd (IntMulOk a_13 b_14) (Mo.ok (a_13*b_14))) fun b_16=>Mo.ok (a_15+b_16)) fun a_17=>Mo.bind (Mo.ok x_9) fun b_18=>Mo.ok (a_17+b_18)) fun a_19=>Mo.bind (Mo.ok (2147483647:Int)) fun b_20=>Mo.grd (0<b_20) (Mo.ok (a_19 % b_20))) fun number_here_10=>(Mo.bind (Mo.ok number_here_10) fun a_21=>Mo.lim (s_7.2.length+1) (Mo.ok (.nx (number_here_10,(s_7.2++[a_21]))))))) xs_22 (number_here_2,found_1)) fun s_7=>(Mo.ok (.rt s_7.2)))))
noncomputable def zbr_ (p_cell:Int) (p_many:Int):Mo (List Int):=fnO (zcX_ p_cell p_many)
noncomputable def zdF_ (p_cell:Int):Mo (Out (List Int) Unit Unit) :=
 (Mo.bind (Mo.bind (Mo.bind (Mo.bind (Mo.ok p_cell) fun a_1=>Mo.bind (Mo.ok (36:Int)) fun c_2=>Mo.ok (a_1,c_2)) fun c_3=>Mo.noex (zbr_ c_3.1 c_3.2)) fun xs_7=>compM (fun x_4=>cond1 (Mo.ok true) (Mo.bind (Mo.ok x_4) fun a_5=>Mo.bind (Mo.ok (11:Int)) fun b_6=>Mo.grd (CDivG a_5 b_6) (Mo.ok (a_5 / b_6)))) xs_7 []) fun r_8=>Mo.ok (.rt r_8))
noncomputable def zdH_ (p_cell:Int):Mo (List Int):=fnO (zdF_ p_cell)
noncomputable def zcu_ (p_script:(List Int)) (p_k:Int):Mo (Out Int Unit Unit) :=
 (thenO (S:=Unit) (Mo.bind (Mo.bind (Mo.ok p_k) fun a_2=>Mo.bind (Mo.bind (Mo.ok p_script) fun c_1=>Mo.ok (c_1.length:Int)) fun b_3=>Mo.ok (decide (a_2<b_3))) fun c_4=>if c_4 then (Mo.bind (Mo.bind (Mo.ok p_script) fun a_6=>Mo.bind (Mo.ok p_k) fun b_7=>Mo.opt (atI a_6 b_7)) fun r_8=>Mo.ok (.rt r_8)) else (Mo.ok (.nx ()))) fun _=>(Mo.bind (Mo.ok (0:Int)) fun r_9=>Mo.ok (.rt r_9)))
noncomputable def zax_ (p_script:(List Int)) (p_k:Int):Mo Int:=fnO (zcu_ p_script p_k)
noncomputable def zcs_ (p_cell:Int) (p_field_here:(Int×Int)) (p_many:Int):Mo (Out Int Unit Unit) :=
 (thenO (S:=Unit) (Mo.bind (Mo.bind (Mo.bind (Mo.ok p_cell) fun a_1=>Mo.bind (Mo.ok (3:Int)) fun b_2=>Mo.grd (0<b_2) (Mo.ok (a_1 % b_2))) fun a_3=>Mo.bind (Mo.ok (2:Int)) fun b_4=>Mo.ok (decide (a_3=b_4))) fun c_5=>if c_5 then (Mo.bind (Mo.bind (Mo.ok (1:Int)) fun a_11=>Mo.bind (Mo.bind (Mo.bind (Mo.ok p_cell) fun a_7=>Mo.bind (Mo.ok (3:Int)) fun b_8=>Mo.grd (CDivG a_7 b_8) (Mo.ok (a_7 / b_8))) fun a_9=>Mo.bind (Mo.ok (12:Int)) fun b_10=>Mo.grd (0<b_10) (Mo.ok (a_9 % b_10))) fun b_12=>Mo.ok (a_11+b_12)) fun r_13=>Mo.ok (.rt r_13)) else (Mo.ok (.nx ()))) fun _=>(Mo.bind (Mo.ok p_many) fun greatest_14=>(thenO (S:=Int) (Mo.bind (Mo.bind (Mo.bind (Mo.bind (Mo.ok p_field_here) fun a_16=>Mo.ok a_16.1) fun a_20=>Mo.bind (Mo.bind (Mo.bind (Mo.ok p_field_here) fun a_17=>Mo.ok a_17.2) fun a_18=>Mo.bind (Mo.ok (1:Int)) fun b_19=>Mo.ok (a_18+b_19)) fun c_21=>Mo.ok (a_20,c_21)) fun c_22=>Mo.grd (-(2 ^ 62)≤c_22.1∧c_22.1<2 ^ 62 ∧ -(2 ^ 62)≤c_22.2∧c_22.2<2 ^ 62) (Mo.ok (rngI c_22.1 (c_22.2-c_22.1).toNat))) fun xs_27=>forO (fun (s_15:Int) x_23=>(Mo.bind (Mo.bind (Mo.ok (10:Int)) fun a_25=>Mo.bind (Mo.ok s_15) fun b_26=>Mo.grd (IntMulOk a_25 b_26) (Mo.ok (a_25*b_26))) fun greatest_24=>(Mo.ok (.nx greatest_24)))) xs_27 greatest_14) fun s_15=>(Mo.bind (Mo.bind (Mo.ok s_15) fun a_29=>Mo.bind (Mo.ok p_many) fun b_30=>Mo.ok (a_29-b_30)) fun greatest_28=>(Mo.bind (Mo.ok (0:Int)) fun figures_here_31=>(thenO (S:=(Int×Int)) (whileO (fun (s_32:(Int×Int))=>(Mo.bind (Mo.ok s_32.1) fun a_33=>Mo.bind (Mo.ok (0:Int)) fun b_34=>Mo.ok (decide (b_34<a_33)))) (fun (s_32:(Int×Int))=>(Mo.bind (Mo.bind (Mo.ok s_32.1) fun a_36=>Mo.bind (Mo.ok (10:Int)) fun b_37=>Mo.grd (CDivG a_36 b_37) (Mo.ok (a_36 / b_37))) fun greatest_35=>(Mo.bind (Mo.bind (Mo.ok s_32.2) fun a_39=>Mo.bind (Mo.ok (1:Int)) fun b_40=>Mo.ok (a_39+b_40)) fun figures_here_38=>(Mo.ok (.nx (greatest_35,figures_here_38)))))) fuelW (greatest_28,figures_here_31)) fun s_32=>(Mo.bind (Mo.bind (Mo.bind (Mo.ok (12:Int)) fun a_48=>Mo.bind (Mo.bind (Mo.bind (Mo.ok (1:Int)) fun a_45=>Mo.bind (Mo.bind (Mo.ok s_32.2) fun a_43=>Mo.bind (Mo.bind (Mo.ok p_cell) fun a_41=>Mo.bind (Mo.ok (3:Int)) fun b_42=>Mo.grd (0<b_42) (Mo.ok (a_41 % b_42))) fun b_44=>Mo.ok (a_43-b_44)) fun c_46=>Mo.ok (a_45,c_46)) fun c_47=>Mo.ok (max c_47.1 c_47.2)) fun c_49=>Mo.ok (a_48,c_49)) fun c_50=>Mo.ok (min c_50.1 c_50.2)) fun r_51=>Mo.ok (.rt r_51))))))))
noncomputable def zcw_ (p_cell:Int) (p_field_here:(Int×Int)) (p_many:Int):Mo Int:=fnO (zcs_ p_cell p_field_here p_many)
noncomputable def zfs_ (p_field:(Int×Int)):Mo (Out Int Unit Unit) :=
 (Mo.bind (Mo.bind (Mo.bind (Mo.bind (Mo.ok p_field) fun a_1=>Mo.ok a_1.2) fun a_3=>Mo.bind (Mo.bind (Mo.ok p_field) fun a_2=>Mo.ok a_2.1) fun b_4=>Mo.ok (a_3-b_4)) fun a_5=>Mo.bind (Mo.ok (1:Int)) fun b_6=>Mo.ok (a_5+b_6)) fun r_7=>Mo.ok (.rt r_7))
noncomputable def zfh_ (p_field:(Int×Int)):Mo Int:=fnO (zfs_ p_field)
noncomputable def zbZ_ (p_sums:(List (Int×Int))) (p_figures:Int) (p_many:Int):Mo (Out (List Bool) Unit Unit) :=
 (Mo.bind (Mo.bind (Mo.ok p_sums) fun xs_11=>compM (fun x_1=>cond1 (Mo.ok true) (Mo.bind (Mo.bind (Mo.ok p_many) fun a_6=>Mo.bind (Mo.bind (Mo.bind (Mo.bind (Mo.ok x_1) fun c_2=>Mo.noex (zfh_ c_2)) fun c_3=>Mo.noex (zeu_ c_3)) fun a_4=>Mo.bind (Mo.ok (1:Int)) fun b_5=>Mo.ok (a_4-b_5)) fun b_7=>Mo.grd (IntMulOk a_6 b_7) (Mo.ok (a_6*b_7))) fun a_9=>Mo.bind (Mo.bind (Mo.ok p_figures) fun c_8=>Mo.noex (zeu_ c_8)) fun b_10=>Mo.ok (decide (b_10≤a_9)))) xs_11 []) fun r_12=>Mo.ok (.rt r_12))
noncomputable def zb2_ (p_sums:(List (Int×Int))) (p_figures:Int) (p_many:Int):Mo (List Bool):=fnO (zbZ_ p_sums p_figures p_many)
noncomputable def ze8_ (p_card:(List Nat)):Mo (Out (List Nat) Unit Unit) :=
 (Mo.bind (Mo.bind (Mo.ok p_card) fun a_2=>Mo.bind (Mo.bind (Mo.ok (36:Int)) fun i_1=>Mo.ok (some i_1)) fun b_3=>Mo.bind (Mo.ok none) fun d_4=>Mo.lim a_2.length (Mo.ok (cutG a_2 b_3 d_4))) fun r_5=>Mo.ok (.rt r_5))
noncomputable def ze5_ (p_card:(List Nat)):Mo (List Nat):=fnO (ze8_ p_card)
noncomputable def ze3_ (p_card:(List Nat)) (p_column:Int):Mo (Out (List Nat) Unit Unit) :=
 (Mo.bind (Mo.bind (Mo.ok p_card) fun a_3=>Mo.bind (Mo.bind (Mo.ok p_column) fun a_1=>Mo.bind (Mo.ok (1:Int)) fun b_2=>Mo.ok (a_1-b_2)) fun b_4=>Mo.lim a_3.length (Mo.opt ((atI a_3 b_4).map fun c=>[c]))) fun r_5=>Mo.ok (.rt r_5))
noncomputable def ze0_ (p_card:(List Nat)) (p_column:Int):Mo (List Nat):=fnO (ze3_ p_card p_column)
noncomputable def ze1_ (p_card:(List Nat)) (p_board:(List (Int×Int))):Mo (Out (List Nat) Unit Unit) :=
 (Mo.bind (Mo.bind (Mo.bind (Mo.ok (36:Int)) fun c_2=>Mo.grd (-(2 ^ 62)≤c_2∧c_2<2 ^ 62) (Mo.ok (rngI 0 c_2.toNat))) fun xs_4=>compM (fun x_3=>cond1 (Mo.ok true) (Mo.ok ([32]:List Nat))) xs_4 []) fun signs_1=>(thenO (S:=(List (List Nat))) (Mo.bind (Mo.ok p_board) fun xs_21=>forO (fun (s_5:(List (List Nat))) x_6=>(Mo.bind (Mo.bind (Mo.bind (Mo.ok p_card) fun a_12=>Mo.bind (Mo.bind (Mo.ok x_6) fun a_11=>Mo.ok a_11.1) fun c_13=>Mo.ok (a_12,c_13)) fun c_14=>Mo.noex (ze0_ c_14.1 c_14.2)) fun a_18=>Mo.bind (Mo.bind (Mo.bind (Mo.ok x_6) fun a_15=>Mo.ok a_15.2) fun a_16=>Mo.bind (Mo.ok (1:Int)) fun b_17=>Mo.ok (a_16-b_17)) fun j_19=>Mo.bind (Mo.opt ((ixN (s_5).length j_19).map fun n=>(s_5).set n a_18)) fun signs_20=>(Mo.ok (.nx signs_20)))) xs_21 signs_1) fun s_5=>(Mo.bind (Mo.bind (Mo.ok ([]:List Nat)) fun a_22=>Mo.bind (Mo.ok s_5) fun b_23=>Mo.grd (JoinOk ⟨a_22.toArray⟩ (strsL b_23)=true) (Mo.ok (joinS a_22 (strsL b_23)))) fun r_24=>Mo.ok (.rt r_24))))
noncomputable def ze6_ (p_card:(List Nat)) (p_board:(List (Int×Int))):Mo (List Nat):=fnO (ze1_ p_card p_board)
noncomputable def zaq_ (p_self:Qq1) (p_card:(List Nat)):Mo (Out Int Unit Unit) :=
 (thenO (S:=Unit) (Mo.bind (Mo.bind (Mo.bind (Mo.ok p_self) fun a_2=>Mo.ok a_2.1) fun c_3=>Mo.ok (enumL c_3)) fun xs_19=>forO (fun (_:Unit) x_4=>(Mo.bind (Mo.bind (Mo.bind (Mo.bind (Mo.ok p_card) fun a_5=>Mo.bind (Mo.ok x_4.2) fun c_6=>Mo.ok (a_5,c_6)) fun c_7=>Mo.noex (zcq_ c_7.1 c_7.2)) fun a_13=>Mo.bind (Mo.bind (Mo.bind (Mo.bind (Mo.bind (Mo.ok p_self) fun a_8=>Mo.ok a_8.2.2.2.2.1) fun a_9=>Mo.opt a_9) fun a_10=>Mo.bind (Mo.ok x_4.2) fun c_11=>Mo.ok (a_10,c_11)) fun c_12=>Mo.noex (zcq_ c_12.1 c_12.2)) fun b_14=>Mo.ok (!decide (a_13=b_14))) fun c_15=>if c_15 then (Mo.bind (Mo.bind (Mo.ok x_4.1) fun a_16=>Mo.bind (Mo.ok (1:Int)) fun b_17=>Mo.ok (a_16+b_17)) fun r_18=>Mo.ok (.rt r_18)) else (Mo.ok (.nx ())))) xs_19 ()) fun _=>(Mo.bind (Mo.bind (Mo.bind (Mo.bind (Mo.ok p_self) fun a_20=>Mo.ok a_20.1) fun c_21=>Mo.ok (c_21.length:Int)) fun a_22=>Mo.bind (Mo.ok (1:Int)) fun b_23=>Mo.ok (a_22+b_23)) fun r_24=>Mo.ok (.rt r_24)))
noncomputable def zX_ (p_self:Qq1) (p_card:(List Nat)):Mo Int:=fnO (zaq_ p_self p_card)
noncomputable def zdE_ (p_figures:(List Nat)):Mo (Out Int Unit Unit) :=
 (Mo.bind (Mo.ok (0:Int)) fun value_1=>(thenO (S:=Int) (Mo.bind (Mo.bind (Mo.ok p_figures) fun a_3=>Mo.ok (a_3.map fun c=>[c])) fun xs_12=>forO (fun (s_2:Int) x_4=>(Mo.bind (Mo.bind (Mo.bind (Mo.ok s_2) fun a_6=>Mo.bind (Mo.ok (10:Int)) fun b_7=>Mo.grd (IntMulOk a_6 b_7) (Mo.ok (a_6*b_7))) fun a_10=>Mo.bind (Mo.bind (Mo.ok ([48,49,50,51,52,53,54,55,56,57]:List Nat)) fun a_8=>Mo.bind (Mo.ok x_4) fun b_9=>Mo.grd (findS a_8 b_9 ≠ -1) (Mo.ok (findS a_8 b_9))) fun b_11=>Mo.ok (a_10+b_11)) fun value_5=>(Mo.ok (.nx value_5)))) xs_12 value_1) fun s_2=>(Mo.bind (Mo.ok s_2) fun r_13=>Mo.ok (.rt r_13))))
noncomputable def zdI_ (p_figures:(List Nat)):Mo Int:=fnO (zdE_ p_figures)
noncomputable def zdJ_ (p_card:(List Nat)) (p_field:(Int×Int)):Mo (Out Int Unit Unit) :=
 (Mo.bind (Mo.bind (Mo.bind (Mo.bind (Mo.bind (Mo.ok p_card) fun a_2=>Mo.bind (Mo.ok p_field) fun c_3=>Mo.ok (a_2,c_3)) fun c_4=>Mo.noex (zcq_ c_4.1 c_4.2)) fun a_5=>Mo.ok (a_5.map fun c=>[c])) fun xs_10=>compM (fun x_6=>cond1 (Mo.ok true) (Mo.bind (Mo.bind (Mo.ok x_6) fun a_7=>Mo.bind (Mo.ok ([48,49,50,51,52,53,54,55,56,57]:List Nat)) fun b_8=>Mo.ok (inS a_7 b_8)) fun c_9=>if c_9 then (Mo.ok x_6) else (Mo.ok ([48]:List Nat)))) xs_10 []) fun figures_1=>(Mo.bind (Mo.bind (Mo.bind (Mo.ok ([]:List Nat)) fun a_11=>Mo.bind (Mo.ok figures_1) fun b_12=>Mo.grd (JoinOk ⟨a_11.toArray⟩ (strsL b_12)=true) (Mo.ok (joinS a_11 (strsL b_12)))) fun c_13=>Mo.noex (zdI_ c_13)) fun r_14=>Mo.ok (.rt r_14)))
noncomputable def zcD_ (p_card:(List Nat)) (p_field:(Int×Int)):Mo Int:=fnO (zdJ_ p_card p_field)
noncomputable def zb5_ (p_self:Qq1) (p_card:(List Nat)):Mo (Out ((List (List Nat))×Qq1) Unit Unit) :=
 (Mo.bind (Mo.ok ([]:List (List Nat))) fun lines_1=>(thenO (S:=((List (List Nat))×Qq1)) (Mo.bind (Mo.bind (Mo.bind (Mo.ok p_self) fun a_2=>Mo.ok a_2.2.2.2.2.1) fun a_3=>Mo.bind (Mo.ok ()) fun b_4=>Mo.ok a_3.isSome) fun c_5=>if c_5 then (Mo.bind (Mo.bind (Mo.ok (p_self,fun (z:Qq1)=>z)) fun y_9=>Mo.bind (Mo.bind (Mo.ok p_self) fun o_7=>Mo.bind (Mo.ok p_card) fun c_8=>Mo.noex (zX_ o_7 c_8)) fun c_10=>Mo.bind (Mo.noex (zG_ y_9.1 c_10)) fun q_11=>Mo.ok (q_11.1,y_9.2 q_11.2)) fun q_12=>(Mo.ok (.nx (q_12.1,q_12.2)))) else (Mo.ok (.nx (lines_1,p_self)))) fun s_6=>(Mo.bind (Mo.bind (Mo.ok p_card) fun c_14=>Mo.noex (ze5_ c_14)) fun mark_13=>(Mo.bind (Mo.bind (Mo.bind (Mo.ok p_card) fun a_17=>Mo.bind (Mo.bind (Mo.ok s_6.2) fun a_16=>Mo.ok a_16.2.2.1) fun c_18=>Mo.ok (a_17,c_18)) fun c_19=>Mo.noex (ze6_ c_19.1 c_19.2)) fun laid_15=>(Mo.bind (Mo.bind (Mo.bind (Mo.ok mark_13) fun a_25=>Mo.lim a_25.length (Mo.ok a_25)) fun a_26=>Mo.grd (a_26.length≤1000) (Mo.bind (Mo.bind (Mo.ok ([32]:List Nat)) fun a_23=>Mo.grd (a_23.length≤1000) (Mo.bind (Mo.bind (Mo.bind (Mo.ok laid_15) fun a_20=>Mo.lim a_20.length (Mo.ok a_20)) fun a_21=>Mo.grd (a_21.length≤1000) (Mo.bind (Mo.ok ([]:List Nat)) fun l_22=>Mo.ok (a_21++l_22))) fun l_24=>Mo.ok (a_23++l_24))) fun l_27=>Mo.ok (a_26++l_27))) fun a_28=>Mo.lim (s_6.1.length+1) (Mo.bind (Mo.bind (Mo.ok (s_6.2,fun (z:Qq1)=>z)) fun y_39=>Mo.bind (Mo.bind (Mo.bind (Mo.bind (Mo.ok s_6.2) fun a_29=>Mo.ok a_29.1) fun c_30=>Mo.ok (c_30.length:Int)) fun a_37=>Mo.bind (Mo.bind (Mo.bind (Mo.ok s_6.2) fun a_31=>Mo.ok a_31.2.1) fun xs_36=>compM (fun x_32=>cond1 (Mo.ok true) (Mo.bind (Mo.bind (Mo.ok p_card) fun a_33=>Mo.bind (Mo.ok x_32) fun c_34=>Mo.ok (a_33,c_34)) fun c_35=>Mo.noex (zcD_ c_35.1 c_35.2))) xs_36 []) fun c_38=>Mo.ok (a_37,c_38)) fun c_40=>Mo.bind (Mo.noex (zaa_ y_39.1 c_40.1 c_40.2)) fun q_41=>Mo.ok (q_41.1,y_39.2 q_41.2)) fun q_42=>(Mo.bind (Mo.bind (Mo.ok p_card) fun a_46=>Mo.ok (some a_46)) fun a_43=>Mo.bind (Mo.ok (q_42.2,fun (z:Qq1)=>z)) fun y_45=>Mo.bind (Mo.ok (y_45.2 (y_45.1.1,(y_45.1.2.1,(y_45.1.2.2.1,(y_45.1.2.2.2.1,(a_43,y_45.1.2.2.2.2.2))))))) fun x_44=>(Mo.ok (.rt ((s_6.1++[a_28]),x_44))))))))))
noncomputable def zb7_ (p_self:Qq1) (p_card:(List Nat)):Mo ((List (List Nat))×Qq1):=fnMR (zb5_ p_self p_card)
noncomputable def zdK_ (p_number_here:Int) (p_most:Int):Mo (Out (Int×Int) Unit Unit) :=
 (Mo.bind (Mo.bind (Mo.ok (1:Int)) fun a_6=>Mo.bind (Mo.bind (Mo.bind (Mo.ok p_number_here) fun a_2=>Mo.bind (Mo.ok (5:Int)) fun b_3=>Mo.grd (CDivG a_2 b_3) (Mo.ok (a_2 / b_3))) fun a_4=>Mo.bind (Mo.ok (36:Int)) fun b_5=>Mo.grd (0<b_5) (Mo.ok (a_4 % b_5))) fun b_7=>Mo.ok (a_6+b_7)) fun first_1=>(Mo.bind (Mo.bind (Mo.ok first_1) fun a_17=>Mo.bind (Mo.bind (Mo.bind (Mo.ok (36:Int)) fun a_14=>Mo.bind (Mo.bind (Mo.ok first_1) fun a_12=>Mo.bind (Mo.bind (Mo.bind (Mo.ok p_number_here) fun a_8=>Mo.bind (Mo.ok (180:Int)) fun b_9=>Mo.grd (CDivG a_8 b_9) (Mo.ok (a_8 / b_9))) fun a_10=>Mo.bind (Mo.ok p_most) fun b_11=>Mo.grd (0<b_11) (Mo.ok (a_10 % b_11))) fun b_13=>Mo.ok (a_12+b_13)) fun c_15=>Mo.ok (a_14,c_15)) fun c_16=>Mo.ok (min c_16.1 c_16.2)) fun c_18=>Mo.ok (a_17,c_18)) fun r_19=>Mo.ok (.rt r_19)))
noncomputable def zbe_ (p_number_here:Int) (p_most:Int):Mo (Int×Int):=fnO (zdK_ p_number_here p_most)
noncomputable def zen_ (p_cell:Int) (p_k:Int) (p_kinds_here:(List Int)):Mo (Out (List Nat) Unit Unit) :=
 (Mo.bind (Mo.ok (SG:List Nat)) fun signs_1=>(Mo.bind (Mo.bind (Mo.bind (Mo.ok p_cell) fun a_3=>Mo.bind (Mo.ok (36:Int)) fun c_4=>Mo.ok (a_3,c_4)) fun c_5=>Mo.noex (zbr_ c_5.1 c_5.2)) fun numbers_2=>(Mo.bind (Mo.ok ([]:List Nat)) fun text_6=>(thenO (S:=(List Nat)) (Mo.bind (Mo.bind (Mo.ok (36:Int)) fun c_8=>Mo.grd (-(2 ^ 62)≤c_8∧c_8<2 ^ 62) (Mo.ok (rngI 0 c_8.toNat))) fun xs_62=>forO (fun (s_7:(List Nat)) x_9=>(Mo.bind (Mo.bind (Mo.bind (Mo.ok numbers_2) fun a_11=>Mo.bind (Mo.ok x_9) fun b_12=>Mo.opt (atI a_11 b_12)) fun a_13=>Mo.bind (Mo.ok (7:Int)) fun b_14=>Mo.grd (CDivG a_13 b_14) (Mo.ok (a_13 / b_14))) fun step_10=>(Mo.bind (Mo.bind (Mo.bind (Mo.ok p_kinds_here) fun a_16=>Mo.bind (Mo.ok x_9) fun b_17=>Mo.opt (atI a_16 b_17)) fun a_18=>Mo.bind (Mo.ok (5:Int)) fun b_19=>Mo.grd (CDivG a_18 b_19) (Mo.ok (a_18 / b_19))) fun low_15=>(Mo.bind (Mo.bind (Mo.ok low_15) fun a_23=>Mo.bind (Mo.bind (Mo.ok step_10) fun a_21=>Mo.bind (Mo.ok (2:Int)) fun b_22=>Mo.grd (0<b_22) (Mo.ok (a_21 % b_22))) fun b_24=>Mo.ok (a_23+b_24)) fun two_20=>(Mo.bind (Mo.bind (Mo.bind (Mo.bind (Mo.ok (1:Int)) fun a_28=>Mo.bind (Mo.bind (Mo.ok low_15) fun a_26=>Mo.bind (Mo.ok (10:Int)) fun b_27=>Mo.grd (0<b_27) (Mo.ok (a_26 % b_27))) fun b_29=>Mo.ok (a_28+b_29)) fun a_48=>Mo.bind (Mo.bind (Mo.bind (Mo.ok (1:Int)) fun a_32=>Mo.bind (Mo.bind (Mo.ok step_10) fun a_30=>Mo.bind (Mo.ok (10:Int)) fun b_31=>Mo.grd (0<b_31) (Mo.ok (a_30 % b_31))) fun b_33=>Mo.ok (a_32+b_33)) fun a_46=>Mo.bind (Mo.bind (Mo.bind (Mo.ok two_20) fun a_34=>Mo.bind (Mo.ok (37:Int)) fun b_35=>Mo.grd (0<b_35) (Mo.ok (a_34 % b_35))) fun a_44=>Mo.bind (Mo.bind (Mo.bind (Mo.ok step_10) fun a_36=>Mo.bind (Mo.ok (37:Int)) fun b_37=>Mo.grd (0<b_37) (Mo.ok (a_36 % b_37))) fun a_42=>Mo.bind (Mo.bind (Mo.ok (1:Int)) fun a_40=>Mo.bind (Mo.bind (Mo.ok two_20) fun a_38=>Mo.bind (Mo.ok (10:Int)) fun b_39=>Mo.grd (0<b_39) (Mo.ok (a_38 % b_39))) fun b_41=>Mo.ok (a_40+b_41)) fun c_43=>Mo.ok (a_42,c_43)) fun c_45=>Mo.ok (a_44,c_45)) fun c_47=>Mo.ok (a_46,c_47)) fun c_49=>Mo.ok (a_48,c_49)) fun c_50=>Mo.ok [c_50.1,c_50.2.1,c_50.2.2.1,c_50.2.2.2.1,c_50.2.2.2.2]) fun some_25=>(Mo.bind (Mo.bind (Mo.ok s_7) fun a_60=>Mo.bind (Mo.bind (Mo.ok signs_1) fun a_58=>Mo.bind (Mo.bind (Mo.ok some_25) fun a_56=>Mo.bind (Mo.bind (Mo.bind (Mo.ok p_kinds_here) fun a_52=>Mo.bind (Mo.ok x_9) fun b_53=>Mo.opt (atI a_52 b_53)) fun a_54=>Mo.bind (Mo.ok (5:Int)) fun b_55=>Mo.grd (0<b_55) (Mo.ok (a_54 % b_55))) fun b_57=>Mo.opt (atI a_56 b_57)) fun b_59=>Mo.lim a_58.length (Mo.opt ((atI a_58 b_59).map fun c=>[c]))) fun b_61=>Mo.lim (a_60.length+b_61.length) (Mo.ok (a_60++b_61))) fun text_51=>(Mo.ok (.nx text_51)))))))) xs_62 text_6) fun s_7=>(Mo.bind (Mo.bind (Mo.bind (Mo.bind (Mo.ok signs_1) fun a_66=>Mo.bind (Mo.bind (Mo.ok p_cell) fun a_64=>Mo.bind (Mo.ok (37:Int)) fun b_65=>Mo.grd (0<b_65) (Mo.ok (a_64 % b_65))) fun b_67=>Mo.lim a_66.length (Mo.opt ((atI a_66 b_67).map fun c=>[c]))) fun a_72=>Mo.bind (Mo.bind (Mo.ok signs_1) fun a_70=>Mo.bind (Mo.bind (Mo.ok p_k) fun a_68=>Mo.bind (Mo.ok (37:Int)) fun b_69=>Mo.grd (0<b_69) (Mo.ok (a_68 % b_69))) fun b_71=>Mo.lim a_70.length (Mo.opt ((atI a_70 b_71).map fun c=>[c]))) fun b_73=>Mo.lim (a_72.length+b_73.length) (Mo.ok (a_72++b_73))) fun a_80=>Mo.bind (Mo.bind (Mo.ok signs_1) fun a_78=>Mo.bind (Mo.bind (Mo.bind (Mo.ok numbers_2) fun a_74=>Mo.bind (Mo.ok (0:Int)) fun b_75=>Mo.opt (atI a_74 b_75)) fun a_76=>Mo.bind (Mo.ok (37:Int)) fun b_77=>Mo.grd (0<b_77) (Mo.ok (a_76 % b_77))) fun b_79=>Mo.lim a_78.length (Mo.opt ((atI a_78 b_79).map fun c=>[c]))) fun b_81=>Mo.lim (a_80.length+b_81.length) (Mo.ok (a_80++b_81))) fun mark_63=>(Mo.bind (Mo.bind (Mo.bind (Mo.ok s_7) fun a_82=>Mo.bind (Mo.ok mark_63) fun b_83=>Mo.lim (a_82.length+b_83.length) (Mo.ok (a_82++b_83))) fun a_90=>Mo.bind (Mo.bind (Mo.ok signs_1) fun a_88=>Mo.bind (Mo.bind (Mo.bind (Mo.ok p_cell) fun a_84=>Mo.bind (Mo.ok (37:Int)) fun b_85=>Mo.grd (CDivG a_84 b_85) (Mo.ok (a_84 / b_85))) fun a_86=>Mo.bind (Mo.ok (37:Int)) fun b_87=>Mo.grd (0<b_87) (Mo.ok (a_86 % b_87))) fun b_89=>Mo.lim a_88.length (Mo.opt ((atI a_88 b_89).map fun c=>[c]))) fun b_91=>Mo.lim (a_90.length+b_91.length) (Mo.ok (a_90++b_91))) fun r_92=>Mo.ok (.rt r_92)))))))
noncomputable def zd3_ (p_cell:Int) (p_k:Int) (p_kinds_here:(List Int)):Mo (List Nat):=fnO (zen_ p_cell p_k p_kinds_here)
noncomputable def zcP_ (p_overs:(List Int)) (p_ahead:(List Bool)):Mo (Out Bool Unit Unit) :=
 (thenO (S:=Unit) (Mo.bind (Mo.ok p_overs) fun xs_8=>forO (fun (_:Unit) x_2=>(Mo.bind (Mo.bind (Mo.bind (Mo.ok p_ahead) fun a_3=>Mo.bind (Mo.ok x_2) fun b_4=>Mo.opt (atI a_3 b_4)) fun a_5=>Mo.ok (!a_5)) fun c_6=>if c_6 then (Mo.bind (Mo.ok false) fun r_7=>Mo.ok (.rt r_7)) else (Mo.ok (.nx ())))) xs_8 ()) fun _=>(Mo.bind (Mo.ok true) fun r_9=>Mo.ok (.rt r_9)))
noncomputable def zbH_ (p_overs:(List Int)) (p_ahead:(List Bool)):Mo Bool:=fnO (zcP_ p_overs p_ahead)
noncomputable def zcK_ (p_number_here:Int) (p_figures_here:Int):Mo (Out (List Nat) Unit Unit) :=
 (Mo.bind (Mo.ok ([]:List Nat)) fun found_1=>(thenO (S:=((List Nat)×Int)) (Mo.bind (Mo.bind (Mo.ok p_figures_here) fun c_3=>Mo.grd (-(2 ^ 62)≤c_3∧c_3<2 ^ 62) (Mo.ok (rngI 0 c_3.toNat))) fun xs_15=>forO (fun (s_2:((List Nat)×Int)) x_4=>(Mo.bind (Mo.bind (Mo.bind (Mo.ok ([48,49,50,51,52,53,54,55,56,57]:List Nat)) fun a_8=>Mo.bind (Mo.bind (Mo.ok s_2.2) fun a_6=>Mo.bind (Mo.ok (10:Int)) fun b_7=>Mo.grd (0<b_7) (Mo.ok (a_6 % b_7))) fun b_9=>Mo.lim a_8.length (Mo.opt ((atI a_8 b_9).map fun c=>[c]))) fun a_10=>Mo.bind (Mo.ok s_2.1) fun b_11=>Mo.lim (a_10.length+b_11.length) (Mo.ok (a_10++b_11))) fun found_5=>(Mo.bind (Mo.bind (Mo.ok s_2.2) fun a_13=>Mo.bind (Mo.ok (10:Int)) fun b_14=>Mo.grd (CDivG a_13 b_14) (Mo.ok (a_13 / b_14))) fun number_here_12=>(Mo.ok (.nx (found_5,number_here_12)))))) xs_15 (found_1,p_number_here)) fun s_2=>(Mo.bind (Mo.ok s_2.1) fun r_16=>Mo.ok (.rt r_16))))
noncomputable def zca_ (p_number_here:Int) (p_figures_here:Int):Mo (List Nat):=fnO (zcK_ p_number_here p_figures_here)
noncomputable def zbL_ (p_line:(List Nat)) (p_totals:(List Int)) (p_ahead:(List Bool)) (p_figures_here:Int):Mo (Out Bool Unit Unit) :=
 (thenO (S:=Unit) (Mo.bind (Mo.bind (Mo.bind (Mo.ok p_totals) fun c_2=>Mo.ok (c_2.length:Int)) fun c_3=>Mo.grd (-(2 ^ 62)≤c_3∧c_3<2 ^ 62) (Mo.ok (rngI 0 c_3.toNat))) fun xs_43=>forO (fun (_:Unit) x_4=>(Mo.bind (Mo.bind (Mo.bind (Mo.ok p_line) fun c_6=>Mo.lim c_6.length (Mo.ok (c_6.length:Int))) fun a_16=>Mo.bind (Mo.bind (Mo.bind (Mo.ok p_figures_here) fun a_7=>Mo.bind (Mo.ok (1:Int)) fun b_8=>Mo.ok (a_7+b_8)) fun a_14=>Mo.bind (Mo.bind (Mo.bind (Mo.bind (Mo.ok p_totals) fun c_9=>Mo.ok (c_9.length:Int)) fun a_10=>Mo.bind (Mo.ok (1:Int)) fun b_11=>Mo.ok (a_10-b_11)) fun a_12=>Mo.bind (Mo.ok x_4) fun b_13=>Mo.ok (a_12-b_13)) fun b_15=>Mo.grd (IntMulOk a_14 b_15) (Mo.ok (a_14*b_15))) fun b_17=>Mo.ok (a_16-b_17)) fun end_5=>(Mo.bind (Mo.bind (Mo.ok ([32]:List Nat)) fun a_24=>Mo.bind (Mo.bind (Mo.bind (Mo.bind (Mo.ok p_totals) fun a_19=>Mo.bind (Mo.ok x_4) fun b_20=>Mo.opt (atI a_19 b_20)) fun a_21=>Mo.bind (Mo.ok p_figures_here) fun c_22=>Mo.ok (a_21,c_22)) fun c_23=>Mo.noex (zca_ c_23.1 c_23.2)) fun b_25=>Mo.lim (a_24.length+b_25.length) (Mo.ok (a_24++b_25))) fun tail_18=>(Mo.bind (Mo.bind (Mo.bind (Mo.bind (Mo.ok p_ahead) fun a_26=>Mo.bind (Mo.ok x_4) fun b_27=>Mo.opt (atI a_26 b_27)) fun a_28=>Mo.ok (!a_28)) fun c_40=>if c_40 then (Mo.bind (Mo.bind (Mo.ok p_line) fun a_35=>Mo.bind (Mo.bind (Mo.bind (Mo.bind (Mo.ok end_5) fun a_29=>Mo.bind (Mo.ok p_figures_here) fun b_30=>Mo.ok (a_29-b_30)) fun a_31=>Mo.bind (Mo.ok (1:Int)) fun b_32=>Mo.ok (a_31-b_32)) fun i_33=>Mo.ok (some i_33)) fun b_36=>Mo.bind (Mo.bind (Mo.ok end_5) fun i_34=>Mo.ok (some i_34)) fun d_37=>Mo.lim a_35.length (Mo.ok (cutG a_35 b_36 d_37))) fun a_38=>Mo.bind (Mo.ok tail_18) fun b_39=>Mo.ok (!decide (a_38=b_39))) else Mo.ok false) fun c_41=>if c_41 then (Mo.bind (Mo.ok false) fun r_42=>Mo.ok (.rt r_42)) else (Mo.ok (.nx ())))))) xs_43 ()) fun _=>(Mo.bind (Mo.ok true) fun r_44=>Mo.ok (.rt r_44)))
noncomputable def zbI_ (p_line:(List Nat)) (p_totals:(List Int)) (p_ahead:(List Bool)) (p_figures_here:Int):Mo Bool:=fnO (zbL_ p_line p_totals p_ahead p_figures_here)
noncomputable def zc4_ (p_card_here:(List Nat)) (p_field_here:(Int×Int)):Mo (Out Int Unit Unit) :=
 (Mo.bind (Mo.ok (0:Int)) fun total_1=>(thenO (S:=Int) (Mo.bind (Mo.bind (Mo.bind (Mo.ok p_card_here) fun a_9=>Mo.bind (Mo.bind (Mo.bind (Mo.bind (Mo.ok p_field_here) fun a_3=>Mo.ok a_3.1) fun a_4=>Mo.bind (Mo.ok (1:Int)) fun b_5=>Mo.ok (a_4-b_5)) fun i_6=>Mo.ok (some i_6)) fun b_10=>Mo.bind (Mo.bind (Mo.bind (Mo.ok p_field_here) fun a_7=>Mo.ok a_7.2) fun i_8=>Mo.ok (some i_8)) fun d_11=>Mo.lim a_9.length (Mo.ok (cutG a_9 b_10 d_11))) fun a_12=>Mo.ok (a_12.map fun c=>[c])) fun xs_24=>forO (fun (s_2:Int) x_13=>(Mo.bind (Mo.bind (Mo.bind (Mo.ok (10:Int)) fun a_15=>Mo.bind (Mo.ok s_2) fun b_16=>Mo.grd (IntMulOk a_15 b_16) (Mo.ok (a_15*b_16))) fun a_22=>Mo.bind (Mo.bind (Mo.bind (Mo.ok (0:Int)) fun a_19=>Mo.bind (Mo.bind (Mo.ok ([48,49,50,51,52,53,54,55,56,57]:List Nat)) fun a_17=>Mo.bind (Mo.ok x_13) fun b_18=>Mo.ok (findS a_17 b_18)) fun c_20=>Mo.ok (a_19,c_20)) fun c_21=>Mo.ok (max c_21.1 c_21.2)) fun b_23=>Mo.ok (a_22+b_23)) fun total_14=>(Mo.ok (.nx total_14)))) xs_24 total_1) fun s_2=>(Mo.bind (Mo.ok s_2) fun r_25=>Mo.ok (.rt r_25))))
noncomputable def zcf_ (p_card_here:(List Nat)) (p_field_here:(Int×Int)):Mo Int:=fnO (zc4_ p_card_here p_field_here)
noncomputable def zpy_ (p_script:(List Int)):Mo (Out Bool Unit Unit) :=
 (Mo.bind (Mo.bind (Mo.bind (Mo.bind (Mo.ok p_script) fun a_2=>Mo.bind (Mo.ok (0:Int)) fun c_3=>Mo.ok (a_2,c_3)) fun c_4=>Mo.noex (zax_ c_4.1 c_4.2)) fun c_5=>Mo.noex (zdH_ c_5)) fun kinds_here_1=>(Mo.bind (Mo.bind (Mo.bind (Mo.bind (Mo.ok p_script) fun a_7=>Mo.bind (Mo.ok (1:Int)) fun c_8=>Mo.ok (a_7,c_8)) fun c_9=>Mo.noex (zax_ c_9.1 c_9.2)) fun a_10=>Mo.bind (Mo.ok (4:Int)) fun b_11=>Mo.grd (0<b_11) (Mo.ok (a_10 % b_11))) fun many_6=>(Mo.bind (Mo.bind (Mo.bind (Mo.bind (Mo.bind (Mo.bind (Mo.ok p_script) fun a_13=>Mo.bind (Mo.ok (1:Int)) fun c_14=>Mo.ok (a_13,c_14)) fun c_15=>Mo.noex (zax_ c_15.1 c_15.2)) fun a_16=>Mo.bind (Mo.ok many_6) fun c_17=>Mo.ok (a_16,c_17)) fun c_18=>Mo.noex (zbr_ c_18.1 c_18.2)) fun xs_23=>compM (fun x_19=>cond1 (Mo.ok true) (Mo.bind (Mo.bind (Mo.ok x_19) fun a_20=>Mo.bind (Mo.ok (2:Int)) fun c_21=>Mo.ok (a_20,c_21)) fun c_22=>Mo.noex (zbe_ c_22.1 c_22.2))) xs_23 []) fun breaks_12=>(Mo.bind (Mo.bind (Mo.bind (Mo.ok p_script) fun a_25=>Mo.bind (Mo.ok (2:Int)) fun c_26=>Mo.ok (a_25,c_26)) fun c_27=>Mo.noex (zax_ c_27.1 c_27.2)) fun cell_24=>(Mo.bind (Mo.bind (Mo.bind (Mo.bind (Mo.ok (3:Int)) fun a_29=>Mo.bind (Mo.ok (12:Int)) fun c_30=>Mo.ok (a_29,c_30)) fun c_31=>Mo.ok [c_31.1,c_31.2]) fun a_36=>Mo.bind (Mo.bind (Mo.bind (Mo.ok cell_24) fun a_32=>Mo.bind (Mo.ok (4:Int)) fun b_33=>Mo.grd (CDivG a_32 b_33) (Mo.ok (a_32 / b_33))) fun a_34=>Mo.bind (Mo.ok (2:Int)) fun b_35=>Mo.grd (0<b_35) (Mo.ok (a_34 % b_35))) fun b_37=>Mo.opt (atI a_36 b_37)) fun most_28=>(Mo.bind (Mo.bind (Mo.bind (Mo.bind (Mo.ok cell_24) fun a_43=>Mo.bind (Mo.bind (Mo.ok (1:Int)) fun a_41=>Mo.bind (Mo.bind (Mo.ok cell_24) fun a_39=>Mo.bind (Mo.ok (4:Int)) fun b_40=>Mo.grd (0<b_40) (Mo.ok (a_39 % b_40))) fun b_42=>Mo.ok (a_41+b_42)) fun c_44=>Mo.ok (a_43,c_44)) fun c_45=>Mo.noex (zbr_ c_45.1 c_45.2)) fun xs_50=>compM (fun x_46=>cond1 (Mo.ok true) (Mo.bind (Mo.bind (Mo.ok x_46) fun a_47=>Mo.bind (Mo.ok most_28) fun c_48=>Mo.ok (a_47,c_48)) fun c_49=>Mo.noex (zbe_ c_49.1 c_49.2))) xs_50 []) fun sums_38=>(Mo.bind (Mo.bind (Mo.ok sums_38) fun a_52=>Mo.bind (Mo.ok (0:Int)) fun b_53=>Mo.opt (atI a_52 b_53)) fun first_51=>(Mo.bind (Mo.bind (Mo.bind (Mo.bind (Mo.bind (Mo.bind (Mo.ok p_script) fun a_55=>Mo.bind (Mo.ok (3:Int)) fun c_56=>Mo.ok (a_55,c_56)) fun c_57=>Mo.noex (zax_ c_57.1 c_57.2)) fun a_58=>Mo.bind (Mo.ok (3:Int)) fun b_59=>Mo.grd (CDivG a_58 b_59) (Mo.ok (a_58 / b_59))) fun a_60=>Mo.bind (Mo.ok (2:Int)) fun b_61=>Mo.grd (0<b_61) (Mo.ok (a_60 % b_61))) fun a_62=>Mo.bind (Mo.ok (0:Int)) fun b_63=>Mo.ok (decide (a_62=b_63))) fun nines_54=>(Mo.bind (Mo.ok ([]:List (List Nat))) fun deck_64=>(thenO (S:=(List (List Nat))) (Mo.bind (Mo.bind (Mo.bind (Mo.ok p_script) fun a_68=>Mo.bind (Mo.bind (Mo.ok (4:Int)) fun i_66=>Mo.ok (some i_66)) fun b_69=>Mo.bind (Mo.bind (Mo.ok (64:Int)) fun i_67=>Mo.ok (some i_67)) fun d_70=>Mo.ok (cutG a_68 b_69 d_70)) fun c_71=>Mo.ok (enumL c_71)) fun xs_107=>forO (fun (s_65:(List (List Nat))) x_72=>(Mo.bind (Mo.bind (Mo.bind (Mo.ok x_72.2) fun a_76=>Mo.bind (Mo.bind (Mo.ok x_72.1) fun a_74=>Mo.bind (Mo.ok kinds_here_1) fun c_75=>Mo.ok (a_74,c_75)) fun c_77=>Mo.ok (a_76,c_77)) fun c_78=>Mo.noex (zd3_ c_78.1 c_78.2.1 c_78.2.2)) fun card_here_73=>(thenO (S:=(List Nat)) (Mo.bind (Mo.ok nines_54) fun c_79=>if c_79 then (Mo.bind (Mo.bind (Mo.ok card_here_73) fun a_84=>Mo.bind (Mo.bind (Mo.bind (Mo.ok first_51) fun a_82=>Mo.ok a_82.2) fun i_83=>Mo.ok (some i_83)) fun b_85=>Mo.bind (Mo.ok none) fun d_86=>Mo.lim a_84.length (Mo.ok (cutG a_84 b_85 d_86))) fun tail_81=>(Mo.bind (Mo.bind (Mo.bind (Mo.bind (Mo.bind (Mo.ok card_here_73) fun a_92=>Mo.bind (Mo.ok none) fun b_93=>Mo.bind (Mo.bind (Mo.bind (Mo.bind (Mo.ok first_51) fun a_88=>Mo.ok a_88.1) fun a_89=>Mo.bind (Mo.ok (1:Int)) fun b_90=>Mo.ok (a_89-b_90)) fun i_91=>Mo.ok (some i_91)) fun d_94=>Mo.lim a_92.length (Mo.ok (cutG a_92 b_93 d_94))) fun a_97=>Mo.bind (Mo.bind (Mo.ok ([57]:List Nat)) fun a_95=>Mo.bind (Mo.ok (12:Int)) fun b_96=>Mo.grd (CRep a_95.length b_96) (Mo.ok (repL a_95 b_96))) fun b_98=>Mo.lim (a_97.length+b_98.length) (Mo.ok (a_97++b_98))) fun a_101=>Mo.bind (Mo.ok none) fun b_102=>Mo.bind (Mo.bind (Mo.bind (Mo.ok first_51) fun a_99=>Mo.ok a_99.2) fun i_100=>Mo.ok (some i_100)) fun d_103=>Mo.lim a_101.length (Mo.ok (cutG a_101 b_102 d_103))) fun a_104=>Mo.bind (Mo.ok tail_81) fun b_105=>Mo.lim (a_104.length+b_105.length) (Mo.ok (a_104++b_105))) fun card_here_87=>(Mo.ok (.nx card_here_87)))) else (Mo.ok (.nx card_here_73))) fun s_80=>(Mo.bind (Mo.ok s_80) fun a_106=>Mo.lim (s_65.length+1) (Mo.ok (.nx (s_65++[a_106]))))))) xs_107 deck_64) fun s_65=>(Mo.bind (Mo.bind (Mo.bind (Mo.bind (Mo.bind (Mo.ok p_script) fun a_109=>Mo.bind (Mo.ok (3:Int)) fun c_110=>Mo.ok (a_109,c_110)) fun c_111=>Mo.noex (zax_ c_111.1 c_111.2)) fun a_115=>Mo.bind (Mo.bind (Mo.ok first_51) fun a_113=>Mo.bind (Mo.bind (Mo.ok s_65) fun c_112=>Mo.ok (c_112.length:Int)) fun c_114=>Mo.ok (a_113,c_114)) fun c_116=>Mo.ok (a_115,c_116)) fun c_117=>Mo.noex (zcw_ c_117.1 c_117.2.1 c_117.2.2)) fun figures_here_108=>(Mo.bind (Mo.bind (Mo.bind (Mo.ok sums_38) fun a_122=>Mo.bind (Mo.bind (Mo.ok figures_here_108) fun a_120=>Mo.bind (Mo.bind (Mo.ok s_65) fun c_119=>Mo.ok (c_119.length:Int)) fun c_121=>Mo.ok (a_120,c_121)) fun c_123=>Mo.ok (a_122,c_123)) fun c_124=>Mo.noex (zb2_ c_124.1 c_124.2.1 c_124.2.2)) fun ahead_118=>(Mo.bind (Mo.bind (Mo.bind (Mo.ok breaks_12) fun a_130=>Mo.bind (Mo.bind (Mo.ok sums_38) fun a_128=>Mo.bind (Mo.bind (Mo.ok figures_here_108) fun a_126=>Mo.bind (Mo.ok ([]:List (Int×Int))) fun c_127=>Mo.ok (a_126,c_127)) fun c_129=>Mo.ok (a_128,c_129)) fun c_131=>Mo.ok (a_130,c_131)) fun c_132=>Mo.bind (Mo.noex (za9_ () c_132.1 c_132.2.1 c_132.2.2.1 c_132.2.2.2)) fun q_133=>Mo.ok q_133.2) fun counter_125=>(Mo.bind (Mo.bind (Mo.bind (Mo.ok (0:Int)) fun c_135=>Mo.ok [c_135]) fun a_137=>Mo.bind (Mo.bind (Mo.ok sums_38) fun c_136=>Mo.ok (c_136.length:Int)) fun b_138=>Mo.grd (CRep a_137.length b_138) (Mo.ok (repL a_137 b_138))) fun totals_134=>(thenO (S:=(Qq1×(List Int))) (forO (fun (s_139:(Qq1×(List Int))) x_141=>(Mo.bind (Mo.ok (s_139.1,fun (z:Qq1)=>z)) fun y_142=>Mo.bind (Mo.ok x_141) fun c_143=>Mo.bind (Mo.noex (zb7_ y_142.1 c_143)) fun q_144=>Mo.bind (Mo.ok (y_142.2 q_144.2)) fun x_145=>(Mo.bind (Mo.bind (Mo.bind (Mo.bind (Mo.ok s_139.2) fun a_147=>Mo.bind (Mo.ok sums_38) fun c_148=>Mo.ok (a_147,c_148)) fun c_149=>Mo.ok (c_149.1.zip c_149.2)) fun xs_156=>compM (fun x_150=>cond1 (Mo.ok true) (Mo.bind (Mo.ok x_150.1) fun a_154=>Mo.bind (Mo.bind (Mo.bind (Mo.ok x_141) fun a_151=>Mo.bind (Mo.ok x_150.2) fun c_152=>Mo.ok (a_151,c_152)) fun c_153=>Mo.noex (zcf_ c_153.1 c_153.2)) fun b_155=>Mo.ok (a_154+b_155))) xs_156 []) fun totals_146=>(Mo.ok (.nx (x_145,totals_146)))))) s_65 (counter_125,totals_134)) fun s_139=>(thenO (S:=Unit) (Mo.bind (Mo.bind (Mo.bind (Mo.bind (Mo.bind (Mo.ok s_139.1) fun o_157=>Mo.noex (zbo_ o_157)) fun a_158=>Mo.bind (Mo.ok ahead_118) fun c_159=>Mo.ok (a_158,c_159)) fun c_160=>Mo.noex (zbH_ c_160.1 c_160.2)) fun a_161=>Mo.ok (!a_161)) fun c_162=>if c_162 then (Mo.bind (Mo.ok false) fun r_164=>Mo.ok (.rt r_164)) else (Mo.ok (.nx ()))) fun _=>(Mo.bind (Mo.bind (Mo.ok (s_139.1,fun (z:Qq1)=>z)) fun y_165=>Mo.bind (Mo.ok ()) fun c_166=>Mo.bind (Mo.noex (zbF_ y_165.1)) fun q_167=>Mo.ok (q_167.1,y_165.2 q_167.2)) fun q_168=>(Mo.bind (Mo.bind (Mo.ok q_168.2) fun o_170=>Mo.noex (zbo_ o_170)) fun overs_169=>(thenO (S:=Unit) (Mo.bind (Mo.bind (Mo.bind (Mo.bind (Mo.bind (Mo.ok overs_169) fun a_171=>Mo.bind (Mo.ok ahead_118) fun c_172=>Mo.ok (a_171,c_172)) fun c_173=>Mo.noex (zbH_ c_173.1 c_173.2)) fun a_174=>Mo.ok (!a_174)) fun c_186=>if c_186 then Mo.ok true else (Mo.bind (Mo.bind (Mo.bind (Mo.bind (Mo.ok q_168.1) fun a_176=>Mo.bind (Mo.bind (Mo.ok (1:Int)) fun a_175=>Mo.ok (-a_175)) fun b_177=>Mo.opt (atI a_176 b_177)) fun a_182=>Mo.bind (Mo.bind (Mo.ok s_139.2) fun a_180=>Mo.bind (Mo.bind (Mo.ok ahead_118) fun a_178=>Mo.bind (Mo.ok figures_here_108) fun c_179=>Mo.ok (a_178,c_179)) fun c_181=>Mo.ok (a_180,c_181)) fun c_183=>Mo.ok (a_182,c_183)) fun c_184=>Mo.noex (zbI_ c_184.1 c_184.2.1 c_184.2.2.1 c_184.2.2.2)) fun a_185=>Mo.ok (!a_185))) fun c_187=>if c_187 then (Mo.bind (Mo.ok false) fun r_189=>Mo.ok (.rt r_189)) else (Mo.ok (.nx ()))) fun _=>(Mo.bind (Mo.bind (Mo.bind (Mo.ok nines_54) fun a_190=>Mo.ok (!a_190)) fun c_197=>if c_197 then Mo.ok true else (Mo.bind (Mo.bind (Mo.ok ahead_118) fun a_191=>Mo.bind (Mo.ok (0:Int)) fun b_192=>Mo.opt (atI a_191 b_192)) fun a_195=>Mo.bind (Mo.bind (Mo.ok (0:Int)) fun a_193=>Mo.bind (Mo.ok overs_169) fun b_194=>Mo.ok ((b_194.any fun y=>decide (y=a_193)))) fun b_196=>Mo.ok (decide (a_195=b_196)))) fun r_198=>Mo.ok (.rt r_198)))))))))))))))))))))
noncomputable def zpC_ (p_script:(List Int)):Mo Bool:=fnO (zpy_ p_script)
end K36
namespace K36
open PySem PySem.Spec PyProof.Rows L2
noncomputable def top (i:Nat):Stmt:=PySem.Challenge.pw_cardshop_k36_whole_none_over_untold.main.body.getD i (.Pass ⟨0,0,0,0⟩)
noncomputable abbrev zcT_:Stmt:=top 6
noncomputable abbrev zR_:Stmt:=inClass (top 15) 0
noncomputable abbrev zI_:Stmt:=inClass (top 17) 0
noncomputable abbrev zau_:Stmt:=inClass (top 15) 5
noncomputable abbrev zb1_:Stmt:=top 12
noncomputable abbrev zz_:Stmt:=inClass (top 17) 7
noncomputable abbrev zaT_:Stmt:=inClass (top 15) 1
noncomputable abbrev zQ_:Stmt:=inClass (top 15) 3
noncomputable abbrev zx_:Stmt:=inClass (top 17) 8
noncomputable abbrev zay_:Stmt:=inClass (top 15) 4
noncomputable abbrev zai_:Stmt:=inClass (top 15) 2
noncomputable abbrev zy_:Stmt:=inClass (top 17) 6
noncomputable abbrev zu_:Stmt:=inClass (top 17) 5
noncomputable abbrev zT_:Stmt:=inClass (top 17) 2
noncomputable abbrev z4_:Stmt:=inClass (top 17) 3
noncomputable abbrev zaQ_:Stmt:=top 21
noncomputable abbrev zbi_:Stmt:=top 22
noncomputable abbrev zaz_:Stmt:=top 20
noncomputable abbrev zav_:Stmt:=top 28
noncomputable abbrev zbv_:Stmt:=top 11
noncomputable abbrev zaf_:Stmt:=top 18
noncomputable abbrev zb3_:Stmt:=top 2
noncomputable abbrev zb4_:Stmt:=top 3
noncomputable abbrev zb8_:Stmt:=top 9
noncomputable abbrev zr_:Stmt:=inClass (top 17) 4
noncomputable abbrev zbb_:Stmt:=top 7
noncomputable abbrev zba_:Stmt:=top 13
noncomputable abbrev zah_:Stmt:=inClass (top 17) 1
noncomputable abbrev zbg_:Stmt:=top 24
noncomputable abbrev zbB_:Stmt:=top 23
noncomputable abbrev zaJ_:Stmt:=top 30
noncomputable abbrev zbf_:Stmt:=top 27
noncomputable abbrev z1_:Stmt:=top 29
noncomputable abbrev zaN_:Stmt:=top 26
noncomputable abbrev zjm_:Stmt:=top 31
noncomputable def zbd_ (K:Fgg):Sp:=Ct K (csLast tyInt) (fun c=>zeu_ c) (owF tyInt)
noncomputable def zO_ (K:Fgg):Sp:=CtM K (owI (gA K "Wheel") [] psNil) (Qq4 K) (csLast tyInt) (fun x c=>z7_ x c) (owF tyNon)
noncomputable def zD_ (K:Fgg):Sp:=CtM K (owI (gA K "Counter") [] psNil) (Qq0 K) (csCons (tyL Qq2) (csCons (tyL Qq2) (csCons tyInt (csLast (tyL Qq2))))) (fun x c=>za9_ x c.1 c.2.1 c.2.2.1 c.2.2.2) (owF tyNon)
noncomputable def zak_ (K:Fgg):Sp:=Ct K (csLast (Qq5 K)) (fun c=>zaI_ c) (owF tyStr)
noncomputable def zac_ (K:Fgg):Sp:=Ct K (csCons tyStr (csLast Qq2)) (fun c=>zcq_ c.1 c.2) (owF tyStr)
noncomputable def zw_ (K:Fgg):Sp:=Ct K (csCons (Qq3 K) (csLast tyInt)) (fun c=>zan_ c.1 c.2) (owF tyStr)
noncomputable def zaw_ (K:Fgg):Sp:=CtM K (Qq4 K) (Qq4 K) (csLast tyInt) (fun x c=>zcR_ x c) (owF tyNon)
noncomputable def zP_ (K:Fgg):Sp:=Ct K (csLast (Qq5 K)) (fun c=>zcc_ c) (owF tyBl)
noncomputable def zk_ (K:Fgg):Sp:=CtM K (Qq0 K) (Qq0 K) (csCons tyInt (csLast (tyL tyInt))) (fun x c=>zaa_ x c.1 c.2) (owF tyNon)
noncomputable def zag_ (K:Fgg):Sp:=CtM K (Qq4 K) (Qq4 K) csNil (fun x c=>zaH_ x) (owF tyNon)
noncomputable def z5_ (K:Fgg):Sp:=Ct K (csLast (Qq5 K)) (fun c=>zb0_ c) (owF tyInt)
noncomputable def zj_ (K:Fgg):Sp:=CtM K (Qq0 K) (Qq0 K) (csLast tyInt) (fun x c=>zK_ x c) (owF tyStr)
noncomputable def zh_ (K:Fgg):Sp:=CtM K (Qq0 K) (Qq0 K) (csLast tyInt) (fun x c=>zG_ x c) (owL tyStr)
noncomputable def zN_ (K:Fgg):Sp:=CtM K (Qq0 K) (Qq0 K) csNil (fun x c=>zbF_ x) (owL tyStr)
noncomputable def zL_ (K:Fgg):Sp:=Ct K (csLast (Qq3 K)) (fun c=>zbo_ c) (owL tyInt)
noncomputable def zA_ (K:Fgg):Sp:=Ct K (csCons tyInt (csLast tyInt)) (fun c=>zbr_ c.1 c.2) (owL tyInt)
noncomputable def zaK_ (K:Fgg):Sp:=Ct K (csLast tyInt) (fun c=>zdH_ c) (owL tyInt)
noncomputable def zC_ (K:Fgg):Sp:=Ct K (csCons (tySc K) (csLast tyInt)) (fun c=>zax_ c.1 c.2) (owF tyInt)
noncomputable def zaj_ (K:Fgg):Sp:=Ct K (csCons tyInt (csCons Qq2 (csLast tyInt))) (fun c=>zcw_ c.1 c.2.1 c.2.2) (owF tyInt)
noncomputable def zbh_ (K:Fgg):Sp:=Ct K (csLast Qq2) (fun c=>zfh_ c) (owF tyInt)
noncomputable def z3_ (K:Fgg):Sp:=Ct K (csCons (tyL Qq2) (csCons tyInt (csLast tyInt))) (fun c=>zb2_ c.1 c.2.1 c.2.2) (owL tyBl)
noncomputable def zbD_ (K:Fgg):Sp:=Ct K (csLast tyStr) (fun c=>ze5_ c) (owF tyStr)
noncomputable def zbC_ (K:Fgg):Sp:=Ct K (csCons tyStr (csLast tyInt)) (fun c=>ze0_ c.1 c.2) (owF tyStr)
noncomputable def zbA_ (K:Fgg):Sp:=Ct K (csCons tyStr (csLast (tyL Qq2))) (fun c=>ze6_ c.1 c.2) (owF tyStr)
noncomputable def zp_ (K:Fgg):Sp:=Ct K (csCons (Qq3 K) (csLast tyStr)) (fun c=>zX_ c.1 c.2) (owF tyInt)
noncomputable def zaO_ (K:Fgg):Sp:=Ct K (csLast tyStr) (fun c=>zdI_ c) (owF tyInt)
noncomputable def zaR_ (K:Fgg):Sp:=Ct K (csCons tyStr (csLast Qq2)) (fun c=>zcD_ c.1 c.2) (owF tyInt)
noncomputable def z0_ (K:Fgg):Sp:=CtM K (Qq0 K) (Qq0 K) (csLast tyStr) (fun x c=>zb7_ x c) (owL tyStr)
noncomputable def zaB_ (K:Fgg):Sp:=Ct K (csCons tyInt (csLast tyInt)) (fun c=>zbe_ c.1 c.2) (owF Qq2)
noncomputable def za7_ (K:Fgg):Sp:=Ct K (csCons tyInt (csCons tyInt (csLast (tyL tyInt)))) (fun c=>zd3_ c.1 c.2.1 c.2.2) (owF tyStr)
noncomputable def zam_ (K:Fgg):Sp:=Ct K (csCons (tyL tyInt) (csLast (tyL tyBl))) (fun c=>zbH_ c.1 c.2) (owF tyBl)
noncomputable def zaP_ (K:Fgg):Sp:=Ct K (csCons tyInt (csLast tyInt)) (fun c=>zca_ c.1 c.2) (owF tyStr)
noncomputable def zS_ (K:Fgg):Sp:=Ct K (csCons tyStr (csCons (tyL tyInt) (csCons (tyL tyBl) (csLast tyInt)))) (fun c=>zbI_ c.1 c.2.1 c.2.2.1 c.2.2.2) (owF tyBl)
noncomputable def zar_ (K:Fgg):Sp:=Ct K (csCons tyStr (csLast Qq2)) (fun c=>zcf_ c.1 c.2) (owF tyInt)
noncomputable def zhg_ (K:Fgg):Sp:=fun vs H Q _=>∃ (a:Addr) (ns:List Int),vs=[.ref a]∧SqL K H a (ns.map V.int)∧ns.length≤63∧BitsOk ns∧∀ H',Q (.bl true) H'
noncomputable def zfx_ (K:Fgg):TS:=(tSeq (tAsg (tC (.int 1)) (gName 1)) (tSeq (tFor (mRng1 (tCons (mVar 0) tNil)) (gName 2) (tAsg (tOp mMulX (mVar 1) (tC (.int 10))) (gName 1))) (tRet (mVar 1))))
noncomputable abbrev RD_ten_to (K:Fgg):Prop:=∀ vs H Q E,zbd_ K vs H Q E→zfx_ K { nx:=fun _ H'=>Q .non H',rt:=Q } (start ["power", "value", "step"] vs) H
theorem zkT_ {K:Fgg}:∀ vs H Q E,zbd_ K vs H Q E→vs.length=1:=by
 rintro vs H Q E ⟨F,c,_,hc,_⟩; exact (zf_:CsN (csLast tyInt) 1) hc
noncomputable def za5_ (K:Fgg):TS:=(tSeq (mSFld (gA K "Wheel") (mVar 0) (mVar 1) "figures") (tSeq (mSFld (gA K "Wheel") (mVar 0) (tCall (zbd_ K) [] E0 (tCons (mVar 1) tNil)) "power") (tSeq (mSFld (gA K "Wheel") (mVar 0) (tC (.int 0)) "kept") (mSFld (gA K "Wheel") (mVar 0) (tC (.bl false)) "over"))))
noncomputable abbrev RD_Wheel___init__ (K:Fgg):Prop:=∀ vs H Q E,zO_ K vs H Q E→za5_ K { nx:=fun _ H'=>Q .non H',rt:=Q } (start Qn26 vs) H
theorem zey_ {K:Fgg}:∀ vs H Q E,zO_ K vs H Q E→vs.length=2:=by
 rintro vs H Q E ⟨F,h,x,c,w,ws,rfl,_,_,_,_,hc,_⟩; rw [List.length_cons,(zf_:CsN (csLast tyInt) 1) hc]
noncomputable def zaF_ (K:Fgg):TS:=(tSeq (mSFld (gA K "Counter") (mVar 0) (tCB (mListL K) (tCons (mVar 1) tNil)) "breaks") (tSeq (mSFld (gA K "Counter") (mVar 0) (tCB (mListL K) (tCons (mVar 2) tNil)) "sums") (tSeq (mSFld (gA K "Counter") (mVar 0) (tCB (mListL K) (tCons (mVar 4) tNil)) "board") (tSeq (mSFld (gA K "Counter") (mVar 0) (tComp ["level"] [("figures",3),("sums",2)] (mRng1 (tCons (tOp mAdd (tCB (mLen K) (tCons (mVar 1) tNil)) (tC (.int 1))) tNil)) (gName 0) tTrue (tComp ["field"] [("figures",1)] (iAny K (mVar 2)) (gName 0) tTrue (tMake (gA K "Wheel") (zO_ K) [] E0 (tCons (mVar 1) tNil)))) "levels") (tSeq (mSFld (gA K "Counter") (mVar 0) (tC .non) "before") (mSFld (gA K "Counter") (mVar 0) tDNewK "run_over"))))))
noncomputable abbrev RD_Counter___init__ (K:Fgg):Prop:=∀ vs H Q E,zD_ K vs H Q E→zaF_ K { nx:=fun _ H'=>Q .non H',rt:=Q } (start Qn4 vs) H
theorem zdX_ {K:Fgg}:∀ vs H Q E,zD_ K vs H Q E→vs.length=5:=by
 rintro vs H Q E ⟨F,h,x,c,w,ws,rfl,_,_,_,_,hc,_⟩; rw [List.length_cons,((zi_ (zi_ (zi_ zf_))):CsN (csCons (tyL Qq2) (csCons (tyL Qq2) (csCons tyInt (csLast (tyL Qq2))))) 4) hc]
noncomputable def zbQ_ (K:Fgg):TS:=(tRet (tBM K "str" mZfill (tCB (mStr) (tCons (mFld (gA K "Wheel") (mVar 0) "kept") tNil)) (tCons (mFld (gA K "Wheel") (mVar 0) "figures") tNil)))
noncomputable abbrev RD_Wheel_shown (K:Fgg):Prop:=∀ vs H Q E,zak_ K vs H Q E→zbQ_ K { nx:=fun _ H'=>Q .non H',rt:=Q } (start Qn3 vs) H
theorem zf2_ {K:Fgg}:∀ vs H Q E,zak_ K vs H Q E→vs.length=1:=by
 rintro vs H Q E ⟨F,c,_,hc,_⟩; exact (zf_:CsN (csLast (Qq5 K)) 1) hc
noncomputable def zd2_ (K:Fgg):TS:=(tRet (tSl (mSl K) (mVar 0) (mPart (tOp mSub (tOp (mIx K) (mVar 1) (tC (.int 0))) (tC (.int 1)))) (mPart (tOp (mIx K) (mVar 1) (tC (.int 1))))))
noncomputable abbrev RD_part_of (K:Fgg):Prop:=∀ vs H Q E,zac_ K vs H Q E→zd2_ K { nx:=fun _ H'=>Q .non H',rt:=Q } (start Qn9 vs) H
theorem ziY_ {K:Fgg}:∀ vs H Q E,zac_ K vs H Q E→vs.length=2:=by
 rintro vs H Q E ⟨F,c,_,hc,_⟩; exact ((zi_ zf_):CsN (csCons tyStr (csLast Qq2)) 2) hc
noncomputable def zao_ (K:Fgg):TS:=(tSeq (tAsg (tLst (tCons (tOp mMulX (tC (tx [42])) (tOp mSub (tOp mAdd (tC (.int 1)) (tCB (mLen K) (tCons (mFld (gA K "Counter") (mVar 0) "breaks") tNil))) (mVar 1))) tNil)) (gName 2)) (tSeq (tDrop (tBM K "list" rExtend (mVar 2) (tCons (tComp ["field"] [("self",0)] (iAny K (tSl (mSl K) (mFld (gA K "Counter") (mVar 0) "breaks") tNoPart (mPart (mVar 1)))) (gName 0) tTrue (tCall (zac_ K) [] E0 (tCons (mFld (gA K "Counter") (mVar 1) "before") (tCons (mVar 0) tNil)))) tNil))) (tSeq (tDrop (tBM K "list" rExtend (mVar 2) (tCons (tComp ["wheel"] [] (iAny K (tOp (mIx K) (mFld (gA K "Counter") (mVar 0) "levels") (mVar 1))) (gName 0) tTrue (tMeth (gA K "Wheel") "shown" (zak_ K) [] E0 (mVar 0) tNil)) tNil))) (tRet (tBM K "str" (mJoin K) (tC (tx [32])) (tCons (mVar 2) tNil))))))
noncomputable abbrev RD_Counter_total_line (K:Fgg):Prop:=∀ vs H Q E,zw_ K vs H Q E→zao_ K { nx:=fun _ H'=>Q .non H',rt:=Q } (start ["self", "level", "words"] vs) H
theorem zdd_ {K:Fgg}:∀ vs H Q E,zw_ K vs H Q E→vs.length=2:=by
 rintro vs H Q E ⟨F,c,_,hc,_⟩; exact ((zi_ zf_):CsN (csCons (Qq3 K) (csLast tyInt)) 2) hc
noncomputable def zch_ (K:Fgg):TS:=(tSeq (tAsg (tOp mAdd (mFld (gA K "Wheel") (mVar 0) "kept") (mVar 1)) (gName 2)) (tSeq (mIfS (mTest (tOp mGe (mVar 2) (mFld (gA K "Wheel") (mVar 0) "power"))) (mSFld (gA K "Wheel") (mVar 0) (tC (.bl true)) "over") tNext) (mSFld (gA K "Wheel") (mVar 0) (tOp mMod (mVar 2) (mFld (gA K "Wheel") (mVar 0) "power")) "kept")))
noncomputable abbrev RD_Wheel_rise (K:Fgg):Prop:=∀ vs H Q E,zaw_ K vs H Q E→zch_ K { nx:=fun _ H'=>Q .non H',rt:=Q } (start ["self", "value", "risen"] vs) H
theorem zgG_ {K:Fgg}:∀ vs H Q E,zaw_ K vs H Q E→vs.length=2:=by
 rintro vs H Q E ⟨F,h,x,c,w,ws,rfl,_,_,_,_,hc,_⟩; rw [List.length_cons,(zf_:CsN (csLast tyInt) 1) hc]
noncomputable def za2_ (K:Fgg):TS:=(tRet (mFld (gA K "Wheel") (mVar 0) "over"))
noncomputable abbrev RD_Wheel_ran_over (K:Fgg):Prop:=∀ vs H Q E,zP_ K vs H Q E→za2_ K { nx:=fun _ H'=>Q .non H',rt:=Q } (start Qn3 vs) H
theorem zeq_ {K:Fgg}:∀ vs H Q E,zP_ K vs H Q E→vs.length=1:=by
 rintro vs H Q E ⟨F,c,_,hc,_⟩; exact (zf_:CsN (csLast (Qq5 K)) 1) hc
noncomputable def zae_ (K:Fgg):TS:=(tFor (iEnumL K (tCons (mVar 2) tNil)) (gTupM K 2 (gConsM (gName 3) (gConsM (gName 4) gNilM))) (tSeq (tAsg (tOp (mIx K) (tOp (mIx K) (mFld (gA K "Counter") (mVar 0) "levels") (mVar 1)) (mVar 3)) (gName 5)) (tSeq (tDrop (tMeth (gA K "Wheel") "rise" (zaw_ K) [] E0 (mVar 5) (tCons (mVar 4) tNil))) (mIfS (mTest (tMeth (gA K "Wheel") "ran_over" (zP_ K) [] E0 (mVar 5) tNil)) (mDPut (mFld (gA K "Counter") (mVar 0) "run_over") (mVar 3) (tC (.bl true))) tNext))))
noncomputable abbrev RD_Counter_raise_level (K:Fgg):Prop:=∀ vs H Q E,zk_ K vs H Q E→zae_ K { nx:=fun _ H'=>Q .non H',rt:=Q } (start Qn14 vs) H
theorem zc8_ {K:Fgg}:∀ vs H Q E,zk_ K vs H Q E→vs.length=3:=by
 rintro vs H Q E ⟨F,h,x,c,w,ws,rfl,_,_,_,_,hc,_⟩; rw [List.length_cons,((zi_ zf_):CsN (csCons tyInt (csLast (tyL tyInt))) 2) hc]
noncomputable def zbN_ (K:Fgg):TS:=(tSeq (mSFld (gA K "Wheel") (mVar 0) (tC (.int 0)) "kept") (mSFld (gA K "Wheel") (mVar 0) (tC (.bl false)) "over"))
noncomputable abbrev RD_Wheel_reset (K:Fgg):Prop:=∀ vs H Q E,zag_ K vs H Q E→zbN_ K { nx:=fun _ H'=>Q .non H',rt:=Q } (start Qn3 vs) H
theorem zfT_ {K:Fgg}:∀ vs H Q E,zag_ K vs H Q E→vs.length=1:=by
 rintro vs H Q E ⟨F,h,x,c,w,ws,rfl,_,_,_,_,hc,_⟩; rw [List.length_cons,(ziq_:CsN csNil 0) hc]
noncomputable def zbz_ (K:Fgg):TS:=(tRet (mFld (gA K "Wheel") (mVar 0) "kept"))
noncomputable abbrev RD_Wheel_amount (K:Fgg):Prop:=∀ vs H Q E,z5_ K vs H Q E→zbz_ K { nx:=fun _ H'=>Q .non H',rt:=Q } (start Qn3 vs) H
theorem zfu_ {K:Fgg}:∀ vs H Q E,z5_ K vs H Q E→vs.length=1:=by
 rintro vs H Q E ⟨F,c,_,hc,_⟩; exact (zf_:CsN (csLast (Qq5 K)) 1) hc
noncomputable def zad_ (K:Fgg):TS:=(tSeq (tAsg (tMeth (gA K "Counter") "total_line" (zw_ K) [] E0 (mVar 0) (tCons (mVar 1) tNil)) (gName 2)) (tSeq (mIfS (mTest (tOp mGt (mVar 1) (tC (.int 0)))) (tDrop (tMeth (gA K "Counter") "raise_level" (zk_ K) [] E0 (mVar 0) (tCons (tOp mSub (mVar 1) (tC (.int 1))) (tCons (tComp ["wheel"] [] (iAny K (tOp (mIx K) (mFld (gA K "Counter") (mVar 0) "levels") (mVar 1))) (gName 0) tTrue (tMeth (gA K "Wheel") "amount" (z5_ K) [] E0 (mVar 0) tNil)) tNil)))) tNext) (tSeq (tFor (iAny K (tOp (mIx K) (mFld (gA K "Counter") (mVar 0) "levels") (mVar 1))) (gName 3) (tDrop (tMeth (gA K "Wheel") "reset" (zag_ K) [] E0 (mVar 3) tNil))) (tRet (mVar 2)))))
noncomputable abbrev RD_Counter_close_level (K:Fgg):Prop:=∀ vs H Q E,zj_ K vs H Q E→zad_ K { nx:=fun _ H'=>Q .non H',rt:=Q } (start ["self", "level", "line", "wheel"] vs) H
theorem zc7_ {K:Fgg}:∀ vs H Q E,zj_ K vs H Q E→vs.length=2:=by
 rintro vs H Q E ⟨F,h,x,c,w,ws,rfl,_,_,_,_,hc,_⟩; rw [List.length_cons,(zf_:CsN (csLast tyInt) 1) hc]
noncomputable def z6_ (K:Fgg):TS:=(tSeq (tAsg (tLst tNil) (gName 2)) (tSeq (tFor (mRng3 (tCons (tCB (mLen K) (tCons (mFld (gA K "Counter") (mVar 0) "breaks") tNil)) (tCons (tOp mSub (mVar 1) (tC (.int 1))) (tCons (mNeg (tC (.int 1))) tNil)))) (gName 3) (tDrop (tBM K "list" rAppend (mVar 2) (tCons (tMeth (gA K "Counter") "close_level" (zj_ K) [] E0 (mVar 0) (tCons (mVar 3) tNil)) tNil)))) (tRet (mVar 2))))
noncomputable abbrev RD_Counter_close_levels (K:Fgg):Prop:=∀ vs H Q E,zh_ K vs H Q E→z6_ K { nx:=fun _ H'=>Q .non H',rt:=Q } (start Qn29 vs) H
theorem zcU_ {K:Fgg}:∀ vs H Q E,zh_ K vs H Q E→vs.length=2:=by
 rintro vs H Q E ⟨F,h,x,c,w,ws,rfl,_,_,_,_,hc,_⟩; rw [List.length_cons,(zf_:CsN (csLast tyInt) 1) hc]
noncomputable def za6_ (K:Fgg):TS:=(tSeq (mIfS (mTest (tOp mIs (mFld (gA K "Counter") (mVar 0) "before") (tC .non))) (tRet (tLst (tCons (tMeth (gA K "Counter") "close_level" (zj_ K) [] E0 (mVar 0) (tCons (tC (.int 0)) tNil)) tNil))) tNext) (tRet (tMeth (gA K "Counter") "close_levels" (zh_ K) [] E0 (mVar 0) (tCons (tC (.int 0)) tNil))))
noncomputable abbrev RD_Counter_finish (K:Fgg):Prop:=∀ vs H Q E,zN_ K vs H Q E→za6_ K { nx:=fun _ H'=>Q .non H',rt:=Q } (start Qn3 vs) H
theorem zes_ {K:Fgg}:∀ vs H Q E,zN_ K vs H Q E→vs.length=1:=by
 rintro vs H Q E ⟨F,h,x,c,w,ws,rfl,_,_,_,_,hc,_⟩; rw [List.length_cons,(ziq_:CsN csNil 0) hc]
noncomputable def zbl_ (K:Fgg):TS:=(tRet (tCB (mSortDk K) (tCons (mFld (gA K "Counter") (mVar 0) "run_over") tNil)))
noncomputable abbrev RD_Counter_overs (K:Fgg):Prop:=∀ vs H Q E,zL_ K vs H Q E→zbl_ K { nx:=fun _ H'=>Q .non H',rt:=Q } (start Qn3 vs) H
theorem zeM_ {K:Fgg}:∀ vs H Q E,zL_ K vs H Q E→vs.length=1:=by
 rintro vs H Q E ⟨F,c,_,hc,_⟩; exact (zf_:CsN (csLast (Qq3 K)) 1) hc
noncomputable def zcd_ (K:Fgg):TS:=(tSeq (tAsg (tLst tNil) (gName 2)) (tSeq (tAsg (tOp mAdd (tOp mMod (mVar 0) (tC (.int 2147483647))) (tC (.int 48271))) (gName 3)) (tSeq (tFor (mRng1 (tCons (mVar 1) tNil)) (gName 4) (tSeq (tAsg (tOp mMod (tOp mAdd (tOp mAdd (tOp mMulX (mVar 3) (mVar 3)) (tOp mMulX (tC (.int 48271)) (mVar 3))) (mVar 4)) (tC (.int 2147483647))) (gName 3)) (tDrop (tBM K "list" rAppend (mVar 2) (tCons (mVar 3) tNil))))) (tRet (mVar 2)))))
noncomputable abbrev RD_law_stream (K:Fgg):Prop:=∀ vs H Q E,zA_ K vs H Q E→zcd_ K { nx:=fun _ H'=>Q .non H',rt:=Q } (start Qn10 vs) H
theorem zgs_ {K:Fgg}:∀ vs H Q E,zA_ K vs H Q E→vs.length=2:=by
 rintro vs H Q E ⟨F,c,_,hc,_⟩; exact ((zi_ zf_):CsN (csCons tyInt (csLast tyInt)) 2) hc
noncomputable def zcI_ (K:Fgg):TS:=(tRet (tComp Qn33 [] (iAny K (tCall (zA_ K) [] E0 (tCons (mVar 0) (tCons (tC (.int 36)) tNil)))) (gName 0) tTrue (tOp mDivG (mVar 0) (tC (.int 11)))))
noncomputable abbrev RD_law_kinds (K:Fgg):Prop:=∀ vs H Q E,zaK_ K vs H Q E→zcI_ K { nx:=fun _ H'=>Q .non H',rt:=Q } (start ["_law_cell"] vs) H
theorem zhh_ {K:Fgg}:∀ vs H Q E,zaK_ K vs H Q E→vs.length=1:=by
 rintro vs H Q E ⟨F,c,_,hc,_⟩; exact (zf_:CsN (csLast tyInt) 1) hc
noncomputable def zbS_ (K:Fgg):TS:=(tSeq (mIfS (mTest (tOp mLt (mVar 1) (tCB (mLen K) (tCons (mVar 0) tNil)))) (tRet (tOp (mIx K) (mVar 0) (mVar 1))) tNext) (tRet (tC (.int 0))))
noncomputable abbrev RD_law_cell_at (K:Fgg):Prop:=∀ vs H Q E,zC_ K vs H Q E→zbS_ K { nx:=fun _ H'=>Q .non H',rt:=Q } (start Qn15 vs) H
theorem zfN_ {K:Fgg}:∀ vs H Q E,zC_ K vs H Q E→vs.length=2:=by
 rintro vs H Q E ⟨F,c,_,hc,_⟩; exact ((zi_ zf_):CsN (csCons (tySc K) (csLast tyInt)) 2) hc
noncomputable def zbP_ (K:Fgg):TS:=(tSeq (mIfS (mTest (tOp mEq (tOp mMod (mVar 0) (tC (.int 3))) (tC (.int 2)))) (tRet (tOp mAdd (tC (.int 1)) (tOp mMod (tOp mDivG (mVar 0) (tC (.int 3))) (tC (.int 12))))) tNext) (tSeq (tAsg (mVar 2) (gName 3)) (tSeq (tFor (mRng2 (tCons (tOp (mIx K) (mVar 1) (tC (.int 0))) (tCons (tOp mAdd (tOp (mIx K) (mVar 1) (tC (.int 1))) (tC (.int 1))) tNil))) (gName 4) (tAsg (tOp mMulX (tC (.int 10)) (mVar 3)) (gName 3))) (tSeq (tAsg (tOp mSub (mVar 3) (mVar 2)) (gName 3)) (tSeq (tAsg (tC (.int 0)) (gName 5)) (tSeq (tWhile (mTest (tOp mGt (mVar 3) (tC (.int 0)))) (tSeq (tAsg (tOp mDivG (mVar 3) (tC (.int 10))) (gName 3)) (tAsg (tOp mAdd (mVar 5) (tC (.int 1))) (gName 5)))) (tRet (tCB (mTwo min) (tCons (tC (.int 12)) (tCons (tCB (mTwo max) (tCons (tC (.int 1)) (tCons (tOp mSub (mVar 5) (tOp mMod (mVar 0) (tC (.int 3)))) tNil))) tNil))))))))))
noncomputable abbrev RD_law_figures (K:Fgg):Prop:=∀ vs H Q E,zaj_ K vs H Q E→zbP_ K { nx:=fun _ H'=>Q .non H',rt:=Q } (start Qn5 vs) H
theorem zfL_ {K:Fgg}:∀ vs H Q E,zaj_ K vs H Q E→vs.length=3:=by
 rintro vs H Q E ⟨F,c,_,hc,_⟩; exact ((zi_ (zi_ zf_)):CsN (csCons tyInt (csCons Qq2 (csLast tyInt))) 3) hc
noncomputable def zdq_ (K:Fgg):TS:=(tRet (tOp mAdd (tOp mSub (tOp (mIx K) (mVar 0) (tC (.int 1))) (tOp (mIx K) (mVar 0) (tC (.int 0)))) (tC (.int 1))))
noncomputable abbrev RD_width_of (K:Fgg):Prop:=∀ vs H Q E,zbh_ K vs H Q E→zdq_ K { nx:=fun _ H'=>Q .non H',rt:=Q } (start ["field"] vs) H
theorem zie_ {K:Fgg}:∀ vs H Q E,zbh_ K vs H Q E→vs.length=1:=by
 rintro vs H Q E ⟨F,c,_,hc,_⟩; exact (zf_:CsN (csLast Qq2) 1) hc
noncomputable def zby_ (K:Fgg):TS:=(tRet (tComp ["field"] [("many",2),("figures",1)] (iAny K (mVar 0)) (gName 0) tTrue (tOp mGe (tOp mMulX (mVar 1) (tOp mSub (tCall (zbd_ K) [] E0 (tCons (tCall (zbh_ K) [] E0 (tCons (mVar 0) tNil)) tNil)) (tC (.int 1)))) (tCall (zbd_ K) [] E0 (tCons (mVar 2) tNil)))))
noncomputable abbrev RD_may_run_over (K:Fgg):Prop:=∀ vs H Q E,z3_ K vs H Q E→zby_ K { nx:=fun _ H'=>Q .non H',rt:=Q } (start Qn13 vs) H
theorem zfl_ {K:Fgg}:∀ vs H Q E,z3_ K vs H Q E→vs.length=3:=by
 rintro vs H Q E ⟨F,c,_,hc,_⟩; exact ((zi_ (zi_ zf_)):CsN (csCons (tyL Qq2) (csCons tyInt (csLast tyInt))) 3) hc
noncomputable def zem_ (K:Fgg):TS:=(tRet (tSl (mSl K) (mVar 0) (mPart (tC (.int 36))) tNoPart))
noncomputable abbrev RD_mark_of (K:Fgg):Prop:=∀ vs H Q E,zbD_ K vs H Q E→zem_ K { nx:=fun _ H'=>Q .non H',rt:=Q } (start ["card"] vs) H
theorem zjb_ {K:Fgg}:∀ vs H Q E,zbD_ K vs H Q E→vs.length=1:=by
 rintro vs H Q E ⟨F,c,_,hc,_⟩; exact (zf_:CsN (csLast tyStr) 1) hc
noncomputable def zd5_ (K:Fgg):TS:=(tRet (tOp (mIx K) (mVar 0) (tOp mSub (mVar 1) (tC (.int 1)))))
noncomputable abbrev RD_sign_at (K:Fgg):Prop:=∀ vs H Q E,zbC_ K vs H Q E→zd5_ K { nx:=fun _ H'=>Q .non H',rt:=Q } (start Qn28 vs) H
theorem ziU_ {K:Fgg}:∀ vs H Q E,zbC_ K vs H Q E→vs.length=2:=by
 rintro vs H Q E ⟨F,c,_,hc,_⟩; exact ((zi_ zf_):CsN (csCons tyStr (csLast tyInt)) 2) hc
noncomputable def zej_ (K:Fgg):TS:=(tSeq (tAsg (tComp ["column"] [] (mRng1 (tCons (tC (.int 36)) tNil)) (gName 0) tTrue (tC (tx [32]))) (gName 2)) (tSeq (tFor (iAny K (mVar 1)) (gName 3) (tAsg (tCall (zbC_ K) [] E0 (tCons (mVar 0) (tCons (tOp (mIx K) (mVar 3) (tC (.int 0))) tNil))) (gSub (mVar 2) (tOp mSub (tOp (mIx K) (mVar 3) (tC (.int 1))) (tC (.int 1))) mSet))) (tRet (tBM K "str" (mJoin K) (tC (tx [])) (tCons (mVar 2) tNil)))))
noncomputable abbrev RD_lay_out (K:Fgg):Prop:=∀ vs H Q E,zbA_ K vs H Q E→zej_ K { nx:=fun _ H'=>Q .non H',rt:=Q } (start ["card", "board", "signs", "wire"] vs) H
theorem zjl_ {K:Fgg}:∀ vs H Q E,zbA_ K vs H Q E→vs.length=2:=by
 rintro vs H Q E ⟨F,c,_,hc,_⟩; exact ((zi_ zf_):CsN (csCons tyStr (csLast (tyL Qq2))) 2) hc
noncomputable def zW_ (K:Fgg):TS:=(tSeq (tFor (iEnumL K (tCons (mFld (gA K "Counter") (mVar 0) "breaks") tNil)) (gTupM K 2 (gConsM (gName 2) (gConsM (gName 3) gNilM))) (mIfS (mTest (tOp mNe (tCall (zac_ K) [] E0 (tCons (mVar 1) (tCons (mVar 3) tNil))) (tCall (zac_ K) [] E0 (tCons (mFld (gA K "Counter") (mVar 0) "before") (tCons (mVar 3) tNil))))) (tRet (tOp mAdd (mVar 2) (tC (.int 1)))) tNext)) (tRet (tOp mAdd (tCB (mLen K) (tCons (mFld (gA K "Counter") (mVar 0) "breaks") tNil)) (tC (.int 1)))))
noncomputable abbrev RD_Counter_changed_level (K:Fgg):Prop:=∀ vs H Q E,zp_ K vs H Q E→zW_ K { nx:=fun _ H'=>Q .non H',rt:=Q } (start ["self", "card", "place", "field"] vs) H
theorem zcL_ {K:Fgg}:∀ vs H Q E,zp_ K vs H Q E→vs.length=2:=by
 rintro vs H Q E ⟨F,c,_,hc,_⟩; exact ((zi_ zf_):CsN (csCons (Qq3 K) (csLast tyStr)) 2) hc
noncomputable def zcH_ (K:Fgg):TS:=(tSeq (tAsg (tC (.int 0)) (gName 1)) (tSeq (tFor (iAny K (mVar 0)) (gName 2) (tAsg (tOp mAdd (tOp mMulX (mVar 1) (tC (.int 10))) (tBM K "str" mIndex (tC (tx [48,49,50,51,52,53,54,55,56,57])) (tCons (mVar 2) tNil))) (gName 1))) (tRet (mVar 1))))
noncomputable abbrev RD_number_by (K:Fgg):Prop:=∀ vs H Q E,zaO_ K vs H Q E→zcH_ K { nx:=fun _ H'=>Q .non H',rt:=Q } (start ["figures", "value", "figure"] vs) H
theorem zha_ {K:Fgg}:∀ vs H Q E,zaO_ K vs H Q E→vs.length=1:=by
 rintro vs H Q E ⟨F,c,_,hc,_⟩; exact (zf_:CsN (csLast tyStr) 1) hc
noncomputable def zcB_ (K:Fgg):TS:=(tSeq (tAsg (tComp ["sign"] [] (iAny K (tCall (zac_ K) [] E0 (tCons (mVar 0) (tCons (mVar 1) tNil)))) (gName 0) tTrue (mIf (mTest (tOp (mIn K false) (mVar 0) (tC (tx [48,49,50,51,52,53,54,55,56,57])))) (mVar 0) (tC (tx [48])))) (gName 2)) (tRet (tCall (zaO_ K) [] E0 (tCons (tBM K "str" (mJoin K) (tC (tx [])) (tCons (mVar 2) tNil)) tNil))))
noncomputable abbrev RD_number_of (K:Fgg):Prop:=∀ vs H Q E,zaR_ K vs H Q E→zcB_ K { nx:=fun _ H'=>Q .non H',rt:=Q } (start ["card", "field", "figures"] vs) H
theorem zgP_ {K:Fgg}:∀ vs H Q E,zaR_ K vs H Q E→vs.length=2:=by
 rintro vs H Q E ⟨F,c,_,hc,_⟩; exact ((zi_ zf_):CsN (csCons tyStr (csLast Qq2)) 2) hc
noncomputable def zbw_ (K:Fgg):TS:=(tSeq (tAsg (tLst tNil) (gName 2)) (tSeq (mIfS (mTest (tOp mIsNot (mFld (gA K "Counter") (mVar 0) "before") (tC .non))) (tAsg (tMeth (gA K "Counter") "close_levels" (zh_ K) [] E0 (mVar 0) (tCons (tMeth (gA K "Counter") "changed_level" (zp_ K) [] E0 (mVar 0) (tCons (mVar 1) tNil)) tNil)) (gName 2)) tNext) (tSeq (tAsg (tCall (zbD_ K) [] E0 (tCons (mVar 1) tNil)) (gName 3)) (tSeq (tAsg (tCall (zbA_ K) [] E0 (tCons (mVar 1) (tCons (mFld (gA K "Counter") (mVar 0) "board") tNil))) (gName 4)) (tSeq (tDrop (tBM K "list" rAppend (mVar 2) (tCons (tJoin (tJ1 (tUn mFmt (mVar 3)) (tJ1 (tC (tx [32])) (tJ1 (tUn mFmt (mVar 4)) tJ0)))) tNil))) (tSeq (tDrop (tMeth (gA K "Counter") "raise_level" (zk_ K) [] E0 (mVar 0) (tCons (tCB (mLen K) (tCons (mFld (gA K "Counter") (mVar 0) "breaks") tNil)) (tCons (tComp ["field"] [("card",1)] (iAny K (mFld (gA K "Counter") (mVar 0) "sums")) (gName 0) tTrue (tCall (zaR_ K) [] E0 (tCons (mVar 1) (tCons (mVar 0) tNil)))) tNil)))) (tSeq (mSFld (gA K "Counter") (mVar 0) (mVar 1) "before") (tRet (mVar 2)))))))))
noncomputable abbrev RD_Counter_feed (K:Fgg):Prop:=∀ vs H Q E,z0_ K vs H Q E→zbw_ K { nx:=fun _ H'=>Q .non H',rt:=Q } (start Qn27 vs) H
theorem zfo_ {K:Fgg}:∀ vs H Q E,z0_ K vs H Q E→vs.length=2:=by
 rintro vs H Q E ⟨F,h,x,c,w,ws,rfl,_,_,_,_,hc,_⟩; rw [List.length_cons,(zf_:CsN (csLast tyStr) 1) hc]
noncomputable def zcM_ (K:Fgg):TS:=(tSeq (tAsg (tOp mAdd (tC (.int 1)) (tOp mMod (tOp mDivG (mVar 0) (tC (.int 5))) (tC (.int 36)))) (gName 2)) (tRet (tTup (tCons (mVar 2) (tCons (tCB (mTwo min) (tCons (tC (.int 36)) (tCons (tOp mAdd (mVar 2) (tOp mMod (tOp mDivG (mVar 0) (tC (.int 180))) (mVar 1))) tNil))) tNil)))))
noncomputable abbrev RD_law_field (K:Fgg):Prop:=∀ vs H Q E,zaB_ K vs H Q E→zcM_ K { nx:=fun _ H'=>Q .non H',rt:=Q } (start Qn21 vs) H
theorem zgN_ {K:Fgg}:∀ vs H Q E,zaB_ K vs H Q E→vs.length=2:=by
 rintro vs H Q E ⟨F,c,_,hc,_⟩; exact ((zi_ zf_):CsN (csCons tyInt (csLast tyInt)) 2) hc
noncomputable def zdz_ (K:Fgg):TS:=(tSeq (tAsg (tC (tx SG)) (gName 3)) (tSeq (tAsg (tCall (zA_ K) [] E0 (tCons (mVar 0) (tCons (tC (.int 36)) tNil))) (gName 4)) (tSeq (tAsg (tC (tx [])) (gName 5)) (tSeq (tFor (mRng1 (tCons (tC (.int 36)) tNil)) (gName 6) (tSeq (tAsg (tOp mDivG (tOp (mIx K) (mVar 4) (mVar 6)) (tC (.int 7))) (gName 7)) (tSeq (tAsg (tOp mDivG (tOp (mIx K) (mVar 2) (mVar 6)) (tC (.int 5))) (gName 8)) (tSeq (tAsg (tOp mAdd (mVar 8) (tOp mMod (mVar 7) (tC (.int 2)))) (gName 9)) (tSeq (tAsg (tLst (tCons (tOp mAdd (tC (.int 1)) (tOp mMod (mVar 8) (tC (.int 10)))) (tCons (tOp mAdd (tC (.int 1)) (tOp mMod (mVar 7) (tC (.int 10)))) (tCons (tOp mMod (mVar 9) (tC (.int 37))) (tCons (tOp mMod (mVar 7) (tC (.int 37))) (tCons (tOp mAdd (tC (.int 1)) (tOp mMod (mVar 9) (tC (.int 10)))) tNil)))))) (gName 10)) (tAsg (tOp mAdd (mVar 5) (tOp (mIx K) (mVar 3) (tOp (mIx K) (mVar 10) (tOp mMod (tOp (mIx K) (mVar 2) (mVar 6)) (tC (.int 5)))))) (gName 5))))))) (tSeq (tAsg (tOp mAdd (tOp mAdd (tOp (mIx K) (mVar 3) (tOp mMod (mVar 0) (tC (.int 37)))) (tOp (mIx K) (mVar 3) (tOp mMod (mVar 1) (tC (.int 37))))) (tOp (mIx K) (mVar 3) (tOp mMod (tOp (mIx K) (mVar 4) (tC (.int 0))) (tC (.int 37))))) (gName 11)) (tRet (tOp mAdd (tOp mAdd (mVar 5) (mVar 11)) (tOp (mIx K) (mVar 3) (tOp mMod (tOp mDivG (mVar 0) (tC (.int 37))) (tC (.int 37)))))))))))
noncomputable abbrev RD_law_card (K:Fgg):Prop:=∀ vs H Q E,za7_ K vs H Q E→zdz_ K { nx:=fun _ H'=>Q .non H',rt:=Q } (start Qn2 vs) H
theorem zh5_ {K:Fgg}:∀ vs H Q E,za7_ K vs H Q E→vs.length=3:=by
 rintro vs H Q E ⟨F,c,_,hc,_⟩; exact ((zi_ (zi_ zf_)):CsN (csCons tyInt (csCons tyInt (csLast (tyL tyInt)))) 3) hc
noncomputable def zco_ (K:Fgg):TS:=(tSeq (tFor (iAny K (mVar 0)) (gName 2) (mIfS (tNot (mTest (tOp (mIx K) (mVar 1) (mVar 2)))) (tRet (tC (.bl false))) tNext)) (tRet (tC (.bl true))))
noncomputable abbrev RD_law_untold (K:Fgg):Prop:=∀ vs H Q E,zam_ K vs H Q E→zco_ K { nx:=fun _ H'=>Q .non H',rt:=Q } (start Qn25 vs) H
theorem zgh_ {K:Fgg}:∀ vs H Q E,zam_ K vs H Q E→vs.length=2:=by
 rintro vs H Q E ⟨F,c,_,hc,_⟩; exact ((zi_ zf_):CsN (csCons (tyL tyInt) (csLast (tyL tyBl))) 2) hc
noncomputable def zcF_ (K:Fgg):TS:=(tSeq (tAsg (tC (tx [])) (gName 2)) (tSeq (tFor (mRng1 (tCons (mVar 1) tNil)) (gName 3) (tSeq (tAsg (tOp mAdd (tOp (mIx K) (tC (tx [48,49,50,51,52,53,54,55,56,57])) (tOp mMod (mVar 0) (tC (.int 10)))) (mVar 2)) (gName 2)) (tAsg (tOp mDivG (mVar 0) (tC (.int 10))) (gName 0)))) (tRet (mVar 2))))
noncomputable abbrev RD_law_shown (K:Fgg):Prop:=∀ vs H Q E,zaP_ K vs H Q E→zcF_ K { nx:=fun _ H'=>Q .non H',rt:=Q } (start Qn11 vs) H
theorem zgQ_ {K:Fgg}:∀ vs H Q E,zaP_ K vs H Q E→vs.length=2:=by
 rintro vs H Q E ⟨F,c,_,hc,_⟩; exact ((zi_ zf_):CsN (csCons tyInt (csLast tyInt)) 2) hc
noncomputable def zbm_ (K:Fgg):TS:=(tSeq (tFor (mRng1 (tCons (tCB (mLen K) (tCons (mVar 1) tNil)) tNil)) (gName 4) (tSeq (tAsg (tOp mSub (tCB (mLen K) (tCons (mVar 0) tNil)) (tOp mMulX (tOp mAdd (mVar 3) (tC (.int 1))) (tOp mSub (tOp mSub (tCB (mLen K) (tCons (mVar 1) tNil)) (tC (.int 1))) (mVar 4)))) (gName 5)) (tSeq (tAsg (tOp mAdd (tC (tx [32])) (tCall (zaP_ K) [] E0 (tCons (tOp (mIx K) (mVar 1) (mVar 4)) (tCons (mVar 3) tNil)))) (gName 6)) (mIfS (mAnd (tNot (mTest (tOp (mIx K) (mVar 2) (mVar 4)))) (mTest (tOp mNe (tSl (mSl K) (mVar 0) (mPart (tOp mSub (tOp mSub (mVar 5) (mVar 3)) (tC (.int 1)))) (mPart (mVar 5))) (mVar 6)))) (tRet (tC (.bl false))) tNext)))) (tRet (tC (.bl true))))
noncomputable abbrev RD_law_last_line (K:Fgg):Prop:=∀ vs H Q E,zS_ K vs H Q E→zbm_ K { nx:=fun _ H'=>Q .non H',rt:=Q } (start Qn6 vs) H
theorem zeR_ {K:Fgg}:∀ vs H Q E,zS_ K vs H Q E→vs.length=4:=by
 rintro vs H Q E ⟨F,c,_,hc,_⟩; exact ((zi_ (zi_ (zi_ zf_))):CsN (csCons tyStr (csCons (tyL tyInt) (csCons (tyL tyBl) (csLast tyInt)))) 4) hc
noncomputable def zcm_ (K:Fgg):TS:=(tSeq (tAsg (tC (.int 0)) (gName 2)) (tSeq (tFor (iAny K (tSl (mSl K) (mVar 0) (mPart (tOp mSub (tOp (mIx K) (mVar 1) (tC (.int 0))) (tC (.int 1)))) (mPart (tOp (mIx K) (mVar 1) (tC (.int 1)))))) (gName 3) (tAsg (tOp mAdd (tOp mMulX (tC (.int 10)) (mVar 2)) (tCB (mTwo max) (tCons (tC (.int 0)) (tCons (tBM K "str" mFind (tC (tx [48,49,50,51,52,53,54,55,56,57])) (tCons (mVar 3) tNil)) tNil)))) (gName 2))) (tRet (mVar 2))))
noncomputable abbrev RD_law_number (K:Fgg):Prop:=∀ vs H Q E,zar_ K vs H Q E→zcm_ K { nx:=fun _ H'=>Q .non H',rt:=Q } (start Qn12 vs) H
theorem zgC_ {K:Fgg}:∀ vs H Q E,zar_ K vs H Q E→vs.length=2:=by
 rintro vs H Q E ⟨F,c,_,hc,_⟩; exact ((zi_ zf_):CsN (csCons tyStr (csLast Qq2)) 2) hc
noncomputable def zoL_ (K:Fgg):TS:=(tSeq (tAsg (tCall (zaK_ K) [] E0 (tCons (tCall (zC_ K) [] E0 (tCons (mVar 0) (tCons (tC (.int 0)) tNil))) tNil)) (gName 1)) (tSeq (tAsg (tOp mMod (tCall (zC_ K) [] E0 (tCons (mVar 0) (tCons (tC (.int 1)) tNil))) (tC (.int 4))) (gName 2)) (tSeq (tAsg (tComp Qn33 [] (iAny K (tCall (zA_ K) [] E0 (tCons (tCall (zC_ K) [] E0 (tCons (mVar 0) (tCons (tC (.int 1)) tNil))) (tCons (mVar 2) tNil)))) (gName 0) tTrue (tCall (zaB_ K) [] E0 (tCons (mVar 0) (tCons (tC (.int 2)) tNil)))) (gName 3)) (tSeq (tAsg (tCall (zC_ K) [] E0 (tCons (mVar 0) (tCons (tC (.int 2)) tNil))) (gName 4)) (tSeq (tAsg (tOp (mIx K) (tLst (tCons (tC (.int 3)) (tCons (tC (.int 12)) tNil))) (tOp mMod (tOp mDivG (mVar 4) (tC (.int 4))) (tC (.int 2)))) (gName 5)) (tSeq (tAsg (tComp Qn33 [("_law_most",5)] (iAny K (tCall (zA_ K) [] E0 (tCons (mVar 4) (tCons (tOp mAdd (tC (.int 1)) (tOp mMod (mVar 4) (tC (.int 4)))) tNil)))) (gName 0) tTrue (tCall (zaB_ K) [] E0 (tCons (mVar 0) (tCons (mVar 1) tNil)))) (gName 6)) (tSeq (tAsg (tOp (mIx K) (mVar 6) (tC (.int 0))) (gName 7)) (tSeq (tAsg (tOp mEq (tOp mMod (tOp mDivG (tCall (zC_ K) [] E0 (tCons (mVar 0) (tCons (tC (.int 3)) tNil))) (tC (.int 3))) (tC (.int 2))) (tC (.int 0))) (gName 8)) (tSeq (tAsg (tLst tNil) (gName 9)) (tSeq (tFor (iEnumL K (tCons (tSl (mSl K) (mVar 0) (mPart (tC (.int 4))) (mPart (tC (.int 64)))) tNil)) (gTupM K 2 (gConsM (gName 10) (gConsM (gName 11) gNilM))) (tSeq (tAsg (tCall (za7_ K) [] E0 (tCons (mVar 11) (tCons (mVar 10) (tCons (mVar 1) tNil)))) (gName 12)) (tSeq (mIfS (mTrL K (mVar 8)) (tSeq (tAsg (tSl (mSl K) (mVar 12) (mPart (tOp (mIx K) (mVar 7) (tC (.int 1)))) tNoPart) (gName 13)) (tAsg (tOp mAdd (tSl (mSl K) (tOp mAdd (tSl (mSl K) (mVar 12) tNoPart (mPart (tOp mSub (tOp (mIx K) (mVar 7) (tC (.int 0))) (tC (.int 1))))) (tOp mMulX (tC (tx [57])) (tC (.int 12)))) tNoPart (mPart (tOp (mIx K) (mVar 7) (tC (.int 1))))) (mVar 13)) (gName 12))) tNext) (tDrop (tBM K "list" rAppend (mVar 9) (tCons (mVar 12) tNil)))))) (tSeq (tAsg (tCall (zaj_ K) [] E0 (tCons (tCall (zC_ K) [] E0 (tCons (mVar 0) (tCons (tC (.int 3)) tNil))) (tCons (mVar 7) (tCons (tCB (mLen K) (tCons (mVar 9) tNil)) tNil)))) (gName 14)) (tSeq (tAsg (tCall (z3_ K) [] E0 (tCons (mVar 6) (tCons (mVar 14) (tCons (tCB (mLen K) (tCons (mVar 9) tNil)) tNil)))) (gName 15)) (tSeq (tAsg (tMake (gA K "Counter") (zD_ K) [] E0 (tCons (mVar 3) (tCons (mVar 6) (tCons (mVar 14) (tCons (tLst tNil) tNil))))) (gName 16)) (tSeq (tAsg (tOp mMulX (tLst (tCons (tC (.int 0)) tNil)) (tCB (mLen K) (tCons (mVar 6) tNil))) (gName 17)) (tSeq (tFor (iAny K (mVar 9)) (gName 12) (tSeq (tDrop (tMeth (gA K "Counter") "feed" (z0_ K) [] E0 (mVar 16) (tCons (mVar 12) tNil))) (tAsg (tComp ["_law_total", "_law_field_here"] [("_law_card_here",12)] (iZip K (tCons (mVar 17) (tCons (mVar 6) tNil))) (gTupM K 2 (gConsM (gName 0) (gConsM (gName 1) gNilM))) tTrue (tOp mAdd (mVar 0) (tCall (zar_ K) [] E0 (tCons (mVar 2) (tCons (mVar 1) tNil))))) (gName 17)))) (tSeq (mIfS (tNot (mTest (tCall (zam_ K) [] E0 (tCons (tMeth (gA K "Counter") "overs" (zL_ K) [] E0 (mVar 16) tNil) (tCons (mVar 15) tNil))))) (tRet (tC (.bl false))) tNext) (tSeq (tAsg (tMeth (gA K "Counter") "finish" (zN_ K) [] E0 (mVar 16) tNil) (gName 18)) (tSeq (tAsg (tMeth (gA K "Counter") "overs" (zL_ K) [] E0 (mVar 16) tNil) (gName 19)) (tSeq (mIfS (mOr (tNot (mTest (tCall (zam_ K) [] E0 (tCons (mVar 19) (tCons (mVar 15) tNil))))) (tNot (mTest (tCall (zS_ K) [] E0 (tCons (tOp (mIx K) (mVar 18) (mNeg (tC (.int 1)))) (tCons (mVar 17) (tCons (mVar 15) (tCons (mVar 14) tNil)))))))) (tRet (tC (.bl false))) tNext) (tRet (mOrV (mNotV (mVar 8)) (tOp mEq (tOp (mIx K) (mVar 15) (tC (.int 0))) (tOp (mIn K false) (tC (.int 0)) (mVar 19))))))))))))))))))))))))
noncomputable abbrev RD_law (K:Fgg):Prop:=∀ vs H Q E,zhg_ K vs H Q E→zoL_ K { nx:=fun _ H'=>Q .non H',rt:=Q } (start Qn1 vs) H
theorem zox_ {K:Fgg}:∀ vs H Q E,zhg_ K vs H Q E→vs.length=1:=by
 intro vs H Q E h; obtain ⟨a,ns,rfl,_⟩:=h; rfl
end K36
namespace K36
open PySem PySem.Spec PyProof.Rows L2
section
variable {P:Program}{w:World}{K:Fgg}{mg:Str→Option Value}{base:Heap}
theorem ze9_:FnScope ["power", "value", "step"] ["power"] (defScope zcT_):=⟨rfl,rfl,rfl,by decide +kernel,rfl,by decide +kernel,by decide +kernel⟩
theorem zlO_ (B_range:Gb mg "range") {cdv:Value}{A:Around}{outer:List Env}{s:Shared}{H:Hp}{E:XK}{f:Addr}(hr:Room 0 (A.deeper (envOfC "ten_to" (defScope zcT_) s.heap.objs.size f cdv))) :
  (PSs (cxOf CX0 P w K mg base ["power", "value", "step"] "ten_to" (defScope zcT_) f cdv A outer s H E).nox (defBody zcT_) (zfx_ K)) := 
 (ze_ (zY_ (i:=1) ze9_.nd rfl (by first | exact Or.inl rfl | exact Or.inr rfl) zl_) (ze_ (zdR_ PassesOwn.never rfl (zdY_ B_range (zc_ (za_ 0) zn_)) (zU_ (i:=2) ze9_.nd rfl (by first | exact Or.inl rfl | exact Or.inr rfl)) (zq_ (zY_ (i:=1) ze9_.nd rfl (by first | exact Or.inl rfl | exact Or.inr rfl) (zap_ zdA_ (za_ 1) zl_)))) (zq_ (zaV_ (za_ 1)))))
theorem zli_ (B_range:Gb mg "range") {f:Addr}{fd:FuncData}(F:Fun K "ten_to" "ten_to" zcT_ f fd) (len:∀ vs H Q E,zbd_ K vs H Q E→vs.length=1)
  (rd:∀ vs H Q E,zbd_ K vs H Q E→zfx_ K { nx:=fun _ H'=>Q .non H',rt:=Q } (start ["power", "value", "step"] vs) H):FnOk P w K mg base CX0 1 f fd ["power"] (zbd_ K):=by
 refine F.ok ze9_ len (fun cdv A outer s H vs Q E hr h=>⟨_,zlO_ B_range hr,rd vs H Q E h⟩)
theorem zeP_:FnScope Qn26 Qn26 (defScope zR_):=⟨rfl,rfl,rfl,by decide +kernel,rfl,by decide +kernel,by decide +kernel⟩
theorem zeQ_ (G_ten_to:Gd P w K mg base CX0 1 "ten_to" ["power"] (zbd_ K)) (CL_Wheel:Cls K (gA K "Wheel")) (NA_Wheel_figures:NoAttr K (gA K "Wheel") "figures") (NA_Wheel_power:NoAttr K (gA K "Wheel") "power") (NA_Wheel_kept:NoAttr K (gA K "Wheel") "kept") (NA_Wheel_over:NoAttr K (gA K "Wheel") "over") {cdv:Value}{A:Around}{outer:List Env}{s:Shared}{H:Hp}{E:XK}{f:Addr}(hr:Room 1 (A.deeper (envOfC "Wheel.__init__" (defScope zR_) s.heap.objs.size f cdv))) :
  (PSs (cxOf CX0 P w K mg base Qn26 "Wheel.__init__" (defScope zR_) f cdv A outer s H E).nox (defBody zR_) (za5_ K)) := 
 (ze_ (zcj_ CL_Wheel NA_Wheel_figures (za_ 0) (za_ 1)) (ze_ (zcj_ CL_Wheel NA_Wheel_power (za_ 0) (zH_ G_ten_to (hr.mono (j:=1) (by decide)) (zc_ (za_ 1) zn_))) (ze_ (zcj_ CL_Wheel NA_Wheel_kept (za_ 0) zl_) (zq_ (zcj_ CL_Wheel NA_Wheel_over (za_ 0) zlb_)))))
theorem zeV_ (G_ten_to:Gd P w K mg base CX0 1 "ten_to" ["power"] (zbd_ K)) (CL_Wheel:Cls K (gA K "Wheel")) (NA_Wheel_figures:NoAttr K (gA K "Wheel") "figures") (NA_Wheel_power:NoAttr K (gA K "Wheel") "power") (NA_Wheel_kept:NoAttr K (gA K "Wheel") "kept") (NA_Wheel_over:NoAttr K (gA K "Wheel") "over") {f:Addr}{fd:FuncData}(F:Fun K "__init__" "Wheel.__init__" zR_ f fd) (len:∀ vs H Q E,zO_ K vs H Q E→vs.length=2)
  (rd:∀ vs H Q E,zO_ K vs H Q E→za5_ K { nx:=fun _ H'=>Q .non H',rt:=Q } (start Qn26 vs) H):FnOk P w K mg base CX0 2 f fd Qn26 (zO_ K):=by
 refine F.ok zeP_ len (fun cdv A outer s H vs Q E hr h=>⟨_,zeQ_ G_ten_to CL_Wheel NA_Wheel_figures NA_Wheel_power NA_Wheel_kept NA_Wheel_over hr,rd vs H Q E h⟩)
theorem zeh_:FnScope Qn4 Qn4 (defScope zI_):=⟨rfl,rfl,rfl,by decide +kernel,rfl,by decide +kernel,by decide +kernel⟩
theorem zeo_ (G_Wheel___init__:Gk P w K mg base CX0 2 "Wheel" (gA K "Wheel") Qn26 (zO_ K)) (B_list:Gb mg "list") (B_range:Gb mg "range") (B_len:Gb mg "len") (CL_Counter:Cls K (gA K "Counter")) (NA_Counter_breaks:NoAttr K (gA K "Counter") "breaks") (NA_Counter_sums:NoAttr K (gA K "Counter") "sums") (NA_Counter_board:NoAttr K (gA K "Counter") "board") (NA_Counter_levels:NoAttr K (gA K "Counter") "levels") (NA_Counter_before:NoAttr K (gA K "Counter") "before") (NA_Counter_run_over:NoAttr K (gA K "Counter") "run_over") {cdv:Value}{A:Around}{outer:List Env}{s:Shared}{H:Hp}{E:XK}{f:Addr}(hr:Room 3 (A.deeper (envOfC "Counter.__init__" (defScope zI_) s.heap.objs.size f cdv))) :
  (PSs (cxOf CX0 P w K mg base Qn4 "Counter.__init__" (defScope zI_) f cdv A outer s H E).nox (defBody zI_) (zaF_ K)) := 
 (ze_ (zcj_ CL_Counter NA_Counter_breaks (za_ 0) (zpF_ "list" zfj_ B_list (zc_ (za_ 1) zn_))) (ze_ (zcj_ CL_Counter NA_Counter_sums (za_ 0) (zpF_ "list" zfj_ B_list (zc_ (za_ 2) zn_))) (ze_ (zcj_ CL_Counter NA_Counter_board (za_ 0) (zpF_ "list" zfj_ B_list (zc_ (za_ 4) zn_))) (ze_ (zcj_ CL_Counter NA_Counter_levels (za_ 0) (zeE_ (cl:=_) (lv:=["level"]) (fr:=[("figures",3),("sums",2)]) rfl ⟨rfl,by decide +kernel,rfl,by decide +kernel,(zed_ (by refine ⟨rfl,by decide +kernel,?_,?_⟩<;>first | exact Or.inl rfl | exact Or.inr rfl) (zed_ (by refine ⟨rfl,by decide +kernel,?_,?_⟩<;>first | exact Or.inl rfl | exact Or.inr rfl) zht_))⟩ (zdY_ B_range (zc_ (zap_ zal_ (zhd_ zbp_ B_len (zc_ (za_ 1) zn_)) zl_) zn_)) (fun _ _ _ _=>(zU_ (i:=0) (show List.Nodup (["level", "figures", "sums"]:List Str) from by decide +kernel) rfl (Or.inl rfl))) (fun _ _ _ _=>zcG_) (fun _ _ _ _=>(zeE_ (cl:=_) (lv:=["field"]) (fr:=[("figures",1)]) rfl ⟨rfl,by decide +kernel,rfl,by decide +kernel,(zed_ (by refine ⟨rfl,by decide +kernel,?_,?_⟩<;>first | exact Or.inl rfl | exact Or.inr rfl) zht_)⟩ (zdL_ (za_ 2)) (fun _ _ _ _=>(zU_ (i:=0) (show List.Nodup (["field", "figures"]:List Str) from by decide +kernel) rfl (Or.inl rfl))) (fun _ _ _ _=>zcG_) (fun _ _ _ _=>(zkx_ G_Wheel___init__ (hr.mono (j:=2+1) (by decide)) (zc_ (za_ 1) zn_))))))) (ze_ (zcj_ CL_Counter NA_Counter_before (za_ 0) zna_) (zq_ (zcj_ CL_Counter NA_Counter_run_over (za_ 0) znB_)))))))
theorem zel_ (G_Wheel___init__:Gk P w K mg base CX0 2 "Wheel" (gA K "Wheel") Qn26 (zO_ K)) (B_list:Gb mg "list") (B_range:Gb mg "range") (B_len:Gb mg "len") (CL_Counter:Cls K (gA K "Counter")) (NA_Counter_breaks:NoAttr K (gA K "Counter") "breaks") (NA_Counter_sums:NoAttr K (gA K "Counter") "sums") (NA_Counter_board:NoAttr K (gA K "Counter") "board") (NA_Counter_levels:NoAttr K (gA K "Counter") "levels") (NA_Counter_before:NoAttr K (gA K "Counter") "before") (NA_Counter_run_over:NoAttr K (gA K "Counter") "run_over") {f:Addr}{fd:FuncData}(F:Fun K "__init__" "Counter.__init__" zI_ f fd) (len:∀ vs H Q E,zD_ K vs H Q E→vs.length=5)
  (rd:∀ vs H Q E,zD_ K vs H Q E→zaF_ K { nx:=fun _ H'=>Q .non H',rt:=Q } (start Qn4 vs) H):FnOk P w K mg base CX0 4 f fd Qn4 (zD_ K):=by
 refine F.ok zeh_ len (fun cdv A outer s H vs Q E hr h=>⟨_,zeo_ G_Wheel___init__ B_list B_range B_len CL_Counter NA_Counter_breaks NA_Counter_sums NA_Counter_board NA_Counter_levels NA_Counter_before NA_Counter_run_over hr,rd vs H Q E h⟩)
theorem zgF_:FnScope Qn3 Qn3 (defScope zau_):=⟨rfl,rfl,rfl,by decide +kernel,rfl,by decide +kernel,by decide +kernel⟩
theorem zgt_ (B_str:Gb mg "str") (CL_Wheel:Cls K (gA K "Wheel")) (NA_Wheel_kept:NoAttr K (gA K "Wheel") "kept") (NA_Wheel_figures:NoAttr K (gA K "Wheel") "figures") {cdv:Value}{A:Around}{outer:List Env}{s:Shared}{H:Hp}{E:XK}{f:Addr}(hr:Room 0 (A.deeper (envOfC "Wheel.shown" (defScope zau_) s.heap.objs.size f cdv))) :
  (PSs (cxOf CX0 P w K mg base Qn3 "Wheel.shown" (defScope zau_) f cdv A outer s H E).nox (defBody zau_) (zbQ_ K)) := 
 (zq_ (zaV_ (znR_ PySem.F.slot_str_zfill PySem.F.type_str_zfill zmH_ (zpF_ "str" zlR_ B_str (zc_ (zaU_ CL_Wheel NA_Wheel_kept (za_ 0)) zn_)) (zc_ (zaU_ CL_Wheel NA_Wheel_figures (za_ 0)) zn_))))
theorem zgm_ (B_str:Gb mg "str") (CL_Wheel:Cls K (gA K "Wheel")) (NA_Wheel_kept:NoAttr K (gA K "Wheel") "kept") (NA_Wheel_figures:NoAttr K (gA K "Wheel") "figures") {f:Addr}{fd:FuncData}(F:Fun K "shown" "Wheel.shown" zau_ f fd) (len:∀ vs H Q E,zak_ K vs H Q E→vs.length=1)
  (rd:∀ vs H Q E,zak_ K vs H Q E→zbQ_ K { nx:=fun _ H'=>Q .non H',rt:=Q } (start Qn3 vs) H):FnOk P w K mg base CX0 1 f fd Qn3 (zak_ K):=by
 refine F.ok zgF_ len (fun cdv A outer s H vs Q E hr h=>⟨_,zgt_ B_str CL_Wheel NA_Wheel_kept NA_Wheel_figures hr,rd vs H Q E h⟩)
theorem zjP_:FnScope Qn9 Qn9 (defScope zb1_):=⟨rfl,rfl,rfl,by decide +kernel,rfl,by decide +kernel,by decide +kernel⟩
theorem zkm_  {cdv:Value}{A:Around}{outer:List Env}{s:Shared}{H:Hp}{E:XK}{f:Addr}(hr:Room 0 (A.deeper (envOfC "part_of" (defScope zb1_) s.heap.objs.size f cdv))) :
  (PSs (cxOf CX0 P w K mg base Qn9 "part_of" (defScope zb1_) f cdv A outer s H E).nox (defBody zb1_) (zd2_ K)) := 
 (zq_ (zaV_ (zc1_ sl_M (za_ 0) (po_M (zap_ zbO_ (zc5_ ix_M (za_ 1) zl_ (fun _ _=>rfl)) zl_)) (po_M (zc5_ ix_M (za_ 1) zl_ (fun _ _=>rfl))))))
theorem zjI_  {f:Addr}{fd:FuncData}(F:Fun K "part_of" "part_of" zb1_ f fd) (len:∀ vs H Q E,zac_ K vs H Q E→vs.length=2)
  (rd:∀ vs H Q E,zac_ K vs H Q E→zd2_ K { nx:=fun _ H'=>Q .non H',rt:=Q } (start Qn9 vs) H):FnOk P w K mg base CX0 1 f fd Qn9 (zac_ K):=by
 refine F.ok zjP_ len (fun cdv A outer s H vs Q E hr h=>⟨_,zkm_  hr,rd vs H Q E h⟩)
theorem zbX_:FnScope ["self", "level", "words"] Qn20 (defScope zz_):=⟨rfl,rfl,rfl,by decide +kernel,rfl,by decide +kernel,by decide +kernel⟩
theorem zdM_ (G_part_of:Gd P w K mg base CX0 1 "part_of" Qn9 (zac_ K)) (G_Wheel_shown:Gm P w K mg base CX0 1 (gA K "Wheel") "shown" Qn3 (zak_ K)) (B_len:Gb mg "len") (CL_Counter:Cls K (gA K "Counter")) (NA_Counter_breaks:NoAttr K (gA K "Counter") "breaks") (NA_Counter_before:NoAttr K (gA K "Counter") "before") (NA_Counter_levels:NoAttr K (gA K "Counter") "levels") {cdv:Value}{A:Around}{outer:List Env}{s:Shared}{H:Hp}{E:XK}{f:Addr}(hr:Room 1 (A.deeper (envOfC "Counter.total_line" (defScope zz_) s.heap.objs.size f cdv))) :
  (PSs (cxOf CX0 P w K mg base ["self", "level", "words"] "Counter.total_line" (defScope zz_) f cdv A outer s H E).nox (defBody zz_) (zao_ K)) := 
 (ze_ (zY_ (i:=2) zbX_.nd rfl (by first | exact Or.inl rfl | exact Or.inr rfl) (zfO_ (zc_ (zap_ zdA_ (zd8_ (l:=[42])) (zap_ zbO_ (zap_ zal_ zl_ (zhd_ zbp_ B_len (zc_ (zaU_ CL_Counter NA_Counter_breaks (za_ 0)) zn_))) (za_ 1))) zn_))) (ze_ (zdo_ (zm9_ PySem.F.plainAttrs_list PySem.F.slot_list_extend PySem.F.type_list_extend zii_ (za_ 2) (zc_ (zeE_ (cl:=_) (lv:=["field"]) (fr:=[("self",0)]) rfl ⟨rfl,by decide +kernel,rfl,by decide +kernel,(zed_ (by refine ⟨rfl,by decide +kernel,?_,?_⟩<;>first | exact Or.inl rfl | exact Or.inr rfl) zht_)⟩ (zdL_ (zc1_ sl_M (zaU_ CL_Counter NA_Counter_breaks (za_ 0)) zgK_ (po_M (za_ 1)))) (fun _ _ _ _=>(zU_ (i:=0) (show List.Nodup (["field", "self"]:List Str) from by decide +kernel) rfl (Or.inl rfl))) (fun _ _ _ _=>zcG_) (fun _ _ _ _=>(zH_ G_part_of (hr.mono (j:=1) (by decide)) (zc_ (zaU_ CL_Counter NA_Counter_before (za_ 1)) (zc_ (za_ 0) zn_))))) zn_))) (ze_ (zdo_ (zm9_ PySem.F.plainAttrs_list PySem.F.slot_list_extend PySem.F.type_list_extend zii_ (za_ 2) (zc_ (zeE_ (cl:=[]) (lv:=["wheel"]) (fr:=[]) rfl ⟨rfl,by decide +kernel,rfl,by decide +kernel,(by intro q hq; cases hq)⟩ (zdL_ (zc5_ ix_M (zaU_ CL_Counter NA_Counter_levels (za_ 0)) (za_ 1) (fun _ _=>rfl))) (fun _ _ _ _=>(zU_ (i:=0) (show List.Nodup (["wheel"]:List Str) from by decide +kernel) rfl (Or.inl rfl))) (fun _ _ _ _=>zcG_) (fun _ _ _ _=>(zc2_ G_Wheel_shown (hr.mono (j:=1) (by decide)) (za_ 0)))) zn_))) (zq_ (zaV_ (znR_ PySem.F.slot_str_join PySem.F.type_str_join zjY_ (zd8_ (l:=[32])) (zc_ (za_ 2) zn_)))))))
theorem zdQ_ (G_part_of:Gd P w K mg base CX0 1 "part_of" Qn9 (zac_ K)) (G_Wheel_shown:Gm P w K mg base CX0 1 (gA K "Wheel") "shown" Qn3 (zak_ K)) (B_len:Gb mg "len") (CL_Counter:Cls K (gA K "Counter")) (NA_Counter_breaks:NoAttr K (gA K "Counter") "breaks") (NA_Counter_before:NoAttr K (gA K "Counter") "before") (NA_Counter_levels:NoAttr K (gA K "Counter") "levels") {f:Addr}{fd:FuncData}(F:Fun K "total_line" "Counter.total_line" zz_ f fd) (len:∀ vs H Q E,zw_ K vs H Q E→vs.length=2)
  (rd:∀ vs H Q E,zw_ K vs H Q E→zao_ K { nx:=fun _ H'=>Q .non H',rt:=Q } (start ["self", "level", "words"] vs) H):FnOk P w K mg base CX0 2 f fd Qn20 (zw_ K):=by
 refine F.ok zbX_ len (fun cdv A outer s H vs Q E hr h=>⟨_,zdM_ G_part_of G_Wheel_shown B_len CL_Counter NA_Counter_breaks NA_Counter_before NA_Counter_levels hr,rd vs H Q E h⟩)
theorem zeA_:FnScope ["self", "value", "risen"] ["self", "value"] (defScope zaT_):=⟨rfl,rfl,rfl,by decide +kernel,rfl,by decide +kernel,by decide +kernel⟩
theorem zho_ (CL_Wheel:Cls K (gA K "Wheel")) (NA_Wheel_kept:NoAttr K (gA K "Wheel") "kept") (NA_Wheel_power:NoAttr K (gA K "Wheel") "power") (NA_Wheel_over:NoAttr K (gA K "Wheel") "over") {cdv:Value}{A:Around}{outer:List Env}{s:Shared}{H:Hp}{E:XK}{f:Addr}(hr:Room 0 (A.deeper (envOfC "Wheel.rise" (defScope zaT_) s.heap.objs.size f cdv))) :
  (PSs (cxOf CX0 P w K mg base ["self", "value", "risen"] "Wheel.rise" (defScope zaT_) f cdv A outer s H E).nox (defBody zaT_) (zch_ K)) := 
 (ze_ (zY_ (i:=2) zeA_.nd rfl (by first | exact Or.inl rfl | exact Or.inr rfl) (zap_ zal_ (zaU_ CL_Wheel NA_Wheel_kept (za_ 0)) (za_ 1))) (ze_ (zev_ (zdU_ zo3_ (za_ 2) (zaU_ CL_Wheel NA_Wheel_power (za_ 0))) (zq_ (zcj_ CL_Wheel NA_Wheel_over (za_ 0) zlb_)) zcA_) (zq_ (zcj_ CL_Wheel NA_Wheel_kept (za_ 0) (zap_ za0_ (za_ 2) (zaU_ CL_Wheel NA_Wheel_power (za_ 0)))))))
theorem zhp_ (CL_Wheel:Cls K (gA K "Wheel")) (NA_Wheel_kept:NoAttr K (gA K "Wheel") "kept") (NA_Wheel_power:NoAttr K (gA K "Wheel") "power") (NA_Wheel_over:NoAttr K (gA K "Wheel") "over") {f:Addr}{fd:FuncData}(F:Fun K "rise" "Wheel.rise" zaT_ f fd) (len:∀ vs H Q E,zaw_ K vs H Q E→vs.length=2)
  (rd:∀ vs H Q E,zaw_ K vs H Q E→zch_ K { nx:=fun _ H'=>Q .non H',rt:=Q } (start ["self", "value", "risen"] vs) H):FnOk P w K mg base CX0 1 f fd ["self", "value"] (zaw_ K):=by
 refine F.ok zeA_ len (fun cdv A outer s H vs Q E hr h=>⟨_,zho_ CL_Wheel NA_Wheel_kept NA_Wheel_power NA_Wheel_over hr,rd vs H Q E h⟩)
theorem zeI_:FnScope Qn3 Qn3 (defScope zQ_):=⟨rfl,rfl,rfl,by decide +kernel,rfl,by decide +kernel,by decide +kernel⟩
theorem zeN_ (CL_Wheel:Cls K (gA K "Wheel")) (NA_Wheel_over:NoAttr K (gA K "Wheel") "over") {cdv:Value}{A:Around}{outer:List Env}{s:Shared}{H:Hp}{E:XK}{f:Addr}(hr:Room 0 (A.deeper (envOfC "Wheel.ran_over" (defScope zQ_) s.heap.objs.size f cdv))) :
  (PSs (cxOf CX0 P w K mg base Qn3 "Wheel.ran_over" (defScope zQ_) f cdv A outer s H E).nox (defBody zQ_) (za2_ K)) := 
 (zq_ (zaV_ (zaU_ CL_Wheel NA_Wheel_over (za_ 0))))
theorem zeU_ (CL_Wheel:Cls K (gA K "Wheel")) (NA_Wheel_over:NoAttr K (gA K "Wheel") "over") {f:Addr}{fd:FuncData}(F:Fun K "ran_over" "Wheel.ran_over" zQ_ f fd) (len:∀ vs H Q E,zP_ K vs H Q E→vs.length=1)
  (rd:∀ vs H Q E,zP_ K vs H Q E→za2_ K { nx:=fun _ H'=>Q .non H',rt:=Q } (start Qn3 vs) H):FnOk P w K mg base CX0 1 f fd Qn3 (zP_ K):=by
 refine F.ok zeI_ len (fun cdv A outer s H vs Q E hr h=>⟨_,zeN_ CL_Wheel NA_Wheel_over hr,rd vs H Q E h⟩)
theorem zas_:FnScope Qn14 Qn23 (defScope zx_):=⟨rfl,rfl,rfl,by decide +kernel,rfl,by decide +kernel,by decide +kernel⟩
theorem zds_ (G_Wheel_rise:Gm P w K mg base CX0 1 (gA K "Wheel") "rise" ["self", "value"] (zaw_ K)) (G_Wheel_ran_over:Gm P w K mg base CX0 1 (gA K "Wheel") "ran_over" Qn3 (zP_ K)) (B_enumerate:Gb mg "enumerate") (CL_Counter:Cls K (gA K "Counter")) (NA_Counter_levels:NoAttr K (gA K "Counter") "levels") (NA_Counter_run_over:NoAttr K (gA K "Counter") "run_over") {cdv:Value}{A:Around}{outer:List Env}{s:Shared}{H:Hp}{E:XK}{f:Addr}(hr:Room 1 (A.deeper (envOfC "Counter.raise_level" (defScope zx_) s.heap.objs.size f cdv))) :
  (PSs (cxOf CX0 P w K mg base Qn14 "Counter.raise_level" (defScope zx_) f cdv A outer s H E).nox (defBody zx_) (zae_ K)) := 
 (zq_ (zdR_ PassesOwn.never rfl (zhM_ (by rfl) B_enumerate (zc_ (za_ 2) zn_)) (ziP_ (n:=2) rfl (zcv_ (zU_ (i:=3) zas_.nd rfl (by first | exact Or.inl rfl | exact Or.inr rfl)) (zcv_ (zU_ (i:=4) zas_.nd rfl (by first | exact Or.inl rfl | exact Or.inr rfl)) zgA_))) (ze_ (zY_ (i:=5) zas_.nd rfl (by first | exact Or.inl rfl | exact Or.inr rfl) (zc5_ ix_M (zc5_ ix_M (zaU_ CL_Counter NA_Counter_levels (za_ 0)) (za_ 1) (fun _ _=>rfl)) (za_ 3) (fun _ _=>rfl))) (ze_ (zdo_ (zcx_ G_Wheel_rise (hr.mono (j:=1) (by decide)) (za_ 5) (zc_ (za_ 4) zn_))) (zq_ (zev_ (zf7_ (zc2_ G_Wheel_ran_over (hr.mono (j:=1) (by decide)) (za_ 5))) (zq_ (zmx_ hr.u60 (zaU_ CL_Counter NA_Counter_run_over (za_ 0)) (za_ 3) zlb_)) zcA_))))))
theorem zdm_ (G_Wheel_rise:Gm P w K mg base CX0 1 (gA K "Wheel") "rise" ["self", "value"] (zaw_ K)) (G_Wheel_ran_over:Gm P w K mg base CX0 1 (gA K "Wheel") "ran_over" Qn3 (zP_ K)) (B_enumerate:Gb mg "enumerate") (CL_Counter:Cls K (gA K "Counter")) (NA_Counter_levels:NoAttr K (gA K "Counter") "levels") (NA_Counter_run_over:NoAttr K (gA K "Counter") "run_over") {f:Addr}{fd:FuncData}(F:Fun K "raise_level" "Counter.raise_level" zx_ f fd) (len:∀ vs H Q E,zk_ K vs H Q E→vs.length=3)
  (rd:∀ vs H Q E,zk_ K vs H Q E→zae_ K { nx:=fun _ H'=>Q .non H',rt:=Q } (start Qn14 vs) H):FnOk P w K mg base CX0 2 f fd Qn23 (zk_ K):=by
 refine F.ok zas_ len (fun cdv A outer s H vs Q E hr h=>⟨_,zds_ G_Wheel_rise G_Wheel_ran_over B_enumerate CL_Counter NA_Counter_levels NA_Counter_run_over hr,rd vs H Q E h⟩)
theorem zgp_:FnScope Qn3 Qn3 (defScope zay_):=⟨rfl,rfl,rfl,by decide +kernel,rfl,by decide +kernel,by decide +kernel⟩
theorem zgD_ (CL_Wheel:Cls K (gA K "Wheel")) (NA_Wheel_kept:NoAttr K (gA K "Wheel") "kept") (NA_Wheel_over:NoAttr K (gA K "Wheel") "over") {cdv:Value}{A:Around}{outer:List Env}{s:Shared}{H:Hp}{E:XK}{f:Addr}(hr:Room 0 (A.deeper (envOfC "Wheel.reset" (defScope zay_) s.heap.objs.size f cdv))) :
  (PSs (cxOf CX0 P w K mg base Qn3 "Wheel.reset" (defScope zay_) f cdv A outer s H E).nox (defBody zay_) (zbN_ K)) := 
 (ze_ (zcj_ CL_Wheel NA_Wheel_kept (za_ 0) zl_) (zq_ (zcj_ CL_Wheel NA_Wheel_over (za_ 0) zlb_)))
theorem zgn_ (CL_Wheel:Cls K (gA K "Wheel")) (NA_Wheel_kept:NoAttr K (gA K "Wheel") "kept") (NA_Wheel_over:NoAttr K (gA K "Wheel") "over") {f:Addr}{fd:FuncData}(F:Fun K "reset" "Wheel.reset" zay_ f fd) (len:∀ vs H Q E,zag_ K vs H Q E→vs.length=1)
  (rd:∀ vs H Q E,zag_ K vs H Q E→zbN_ K { nx:=fun _ H'=>Q .non H',rt:=Q } (start Qn3 vs) H):FnOk P w K mg base CX0 1 f fd Qn3 (zag_ K):=by
 refine F.ok zgp_ len (fun cdv A outer s H vs Q E hr h=>⟨_,zgD_ CL_Wheel NA_Wheel_kept NA_Wheel_over hr,rd vs H Q E h⟩)
theorem zfM_:FnScope Qn3 Qn3 (defScope zai_):=⟨rfl,rfl,rfl,by decide +kernel,rfl,by decide +kernel,by decide +kernel⟩
theorem zfZ_ (CL_Wheel:Cls K (gA K "Wheel")) (NA_Wheel_kept:NoAttr K (gA K "Wheel") "kept") {cdv:Value}{A:Around}{outer:List Env}{s:Shared}{H:Hp}{E:XK}{f:Addr}(hr:Room 0 (A.deeper (envOfC "Wheel.amount" (defScope zai_) s.heap.objs.size f cdv))) :
  (PSs (cxOf CX0 P w K mg base Qn3 "Wheel.amount" (defScope zai_) f cdv A outer s H E).nox (defBody zai_) (zbz_ K)) := 
 (zq_ (zaV_ (zaU_ CL_Wheel NA_Wheel_kept (za_ 0))))
theorem zfP_ (CL_Wheel:Cls K (gA K "Wheel")) (NA_Wheel_kept:NoAttr K (gA K "Wheel") "kept") {f:Addr}{fd:FuncData}(F:Fun K "amount" "Wheel.amount" zai_ f fd) (len:∀ vs H Q E,z5_ K vs H Q E→vs.length=1)
  (rd:∀ vs H Q E,z5_ K vs H Q E→zbz_ K { nx:=fun _ H'=>Q .non H',rt:=Q } (start Qn3 vs) H):FnOk P w K mg base CX0 1 f fd Qn3 (z5_ K):=by
 refine F.ok zfM_ len (fun cdv A outer s H vs Q E hr h=>⟨_,zfZ_ CL_Wheel NA_Wheel_kept hr,rd vs H Q E h⟩)
theorem za3_:FnScope ["self", "level", "line", "wheel"] Qn20 (defScope zy_):=⟨rfl,rfl,rfl,by decide +kernel,rfl,by decide +kernel,by decide +kernel⟩
theorem zdx_ (G_Counter_total_line:Gm P w K mg base CX0 2 (gA K "Counter") "total_line" Qn20 (zw_ K)) (G_Counter_raise_level:Gm P w K mg base CX0 2 (gA K "Counter") "raise_level" Qn23 (zk_ K)) (G_Wheel_amount:Gm P w K mg base CX0 1 (gA K "Wheel") "amount" Qn3 (z5_ K)) (G_Wheel_reset:Gm P w K mg base CX0 1 (gA K "Wheel") "reset" Qn3 (zag_ K)) (CL_Counter:Cls K (gA K "Counter")) (NA_Counter_levels:NoAttr K (gA K "Counter") "levels") {cdv:Value}{A:Around}{outer:List Env}{s:Shared}{H:Hp}{E:XK}{f:Addr}(hr:Room 2 (A.deeper (envOfC "Counter.close_level" (defScope zy_) s.heap.objs.size f cdv))) :
  (PSs (cxOf CX0 P w K mg base ["self", "level", "line", "wheel"] "Counter.close_level" (defScope zy_) f cdv A outer s H E).nox (defBody zy_) (zad_ K)) := 
 (ze_ (zY_ (i:=2) za3_.nd rfl (by first | exact Or.inl rfl | exact Or.inr rfl) (zcx_ G_Counter_total_line (hr.mono (j:=2) (by decide)) (za_ 0) (zc_ (za_ 1) zn_))) (ze_ (zev_ (zdU_ znZ_ (za_ 1) zl_) (zq_ (zdo_ (zcx_ G_Counter_raise_level (hr.mono (j:=2) (by decide)) (za_ 0) (zc_ (zap_ zbO_ (za_ 1) zl_) (zc_ (zeE_ (cl:=[]) (lv:=["wheel"]) (fr:=[]) rfl ⟨rfl,by decide +kernel,rfl,by decide +kernel,(by intro q hq; cases hq)⟩ (zdL_ (zc5_ ix_M (zaU_ CL_Counter NA_Counter_levels (za_ 0)) (za_ 1) (fun _ _=>rfl))) (fun _ _ _ _=>(zU_ (i:=0) (show List.Nodup (["wheel"]:List Str) from by decide +kernel) rfl (Or.inl rfl))) (fun _ _ _ _=>zcG_) (fun _ _ _ _=>(zc2_ G_Wheel_amount (hr.mono (j:=1) (by decide)) (za_ 0)))) zn_))))) zcA_) (ze_ (zdR_ PassesOwn.never rfl (zdL_ (zc5_ ix_M (zaU_ CL_Counter NA_Counter_levels (za_ 0)) (za_ 1) (fun _ _=>rfl))) (zU_ (i:=3) za3_.nd rfl (by first | exact Or.inl rfl | exact Or.inr rfl)) (zq_ (zdo_ (zc2_ G_Wheel_reset (hr.mono (j:=1) (by decide)) (za_ 3))))) (zq_ (zaV_ (za_ 2))))))
theorem zdC_ (G_Counter_total_line:Gm P w K mg base CX0 2 (gA K "Counter") "total_line" Qn20 (zw_ K)) (G_Counter_raise_level:Gm P w K mg base CX0 2 (gA K "Counter") "raise_level" Qn23 (zk_ K)) (G_Wheel_amount:Gm P w K mg base CX0 1 (gA K "Wheel") "amount" Qn3 (z5_ K)) (G_Wheel_reset:Gm P w K mg base CX0 1 (gA K "Wheel") "reset" Qn3 (zag_ K)) (CL_Counter:Cls K (gA K "Counter")) (NA_Counter_levels:NoAttr K (gA K "Counter") "levels") {f:Addr}{fd:FuncData}(F:Fun K "close_level" "Counter.close_level" zy_ f fd) (len:∀ vs H Q E,zj_ K vs H Q E→vs.length=2)
  (rd:∀ vs H Q E,zj_ K vs H Q E→zad_ K { nx:=fun _ H'=>Q .non H',rt:=Q } (start ["self", "level", "line", "wheel"] vs) H):FnOk P w K mg base CX0 3 f fd Qn20 (zj_ K):=by
 refine F.ok za3_ len (fun cdv A outer s H vs Q E hr h=>⟨_,zdx_ G_Counter_total_line G_Counter_raise_level G_Wheel_amount G_Wheel_reset CL_Counter NA_Counter_levels hr,rd vs H Q E h⟩)
theorem zaX_:FnScope Qn29 Qn31 (defScope zu_):=⟨rfl,rfl,rfl,by decide +kernel,rfl,by decide +kernel,by decide +kernel⟩
theorem zda_ (G_Counter_close_level:Gm P w K mg base CX0 3 (gA K "Counter") "close_level" Qn20 (zj_ K)) (B_range:Gb mg "range") (B_len:Gb mg "len") (CL_Counter:Cls K (gA K "Counter")) (NA_Counter_breaks:NoAttr K (gA K "Counter") "breaks") {cdv:Value}{A:Around}{outer:List Env}{s:Shared}{H:Hp}{E:XK}{f:Addr}(hr:Room 3 (A.deeper (envOfC "Counter.close_levels" (defScope zu_) s.heap.objs.size f cdv))) :
  (PSs (cxOf CX0 P w K mg base Qn29 "Counter.close_levels" (defScope zu_) f cdv A outer s H E).nox (defBody zu_) (z6_ K)) := 
 (ze_ (zY_ (i:=2) zaX_.nd rfl (by first | exact Or.inl rfl | exact Or.inr rfl) (zfO_ zn_)) (ze_ (zdR_ PassesOwn.never rfl (znH_ B_range (zc_ (zhd_ zbp_ B_len (zc_ (zaU_ CL_Counter NA_Counter_breaks (za_ 0)) zn_)) (zc_ (zap_ zbO_ (za_ 1) zl_) (zc_ (zpq_ zl_) zn_)))) (zU_ (i:=3) zaX_.nd rfl (by first | exact Or.inl rfl | exact Or.inr rfl)) (zq_ (zdo_ (zm9_ PySem.F.plainAttrs_list PySem.F.slot_list_append PySem.F.type_list_append zef_ (za_ 2) (zc_ (zcx_ G_Counter_close_level (hr.mono (j:=3) (by decide)) (za_ 0) (zc_ (za_ 3) zn_)) zn_))))) (zq_ (zaV_ (za_ 2)))))
theorem zc9_ (G_Counter_close_level:Gm P w K mg base CX0 3 (gA K "Counter") "close_level" Qn20 (zj_ K)) (B_range:Gb mg "range") (B_len:Gb mg "len") (CL_Counter:Cls K (gA K "Counter")) (NA_Counter_breaks:NoAttr K (gA K "Counter") "breaks") {f:Addr}{fd:FuncData}(F:Fun K "close_levels" "Counter.close_levels" zu_ f fd) (len:∀ vs H Q E,zh_ K vs H Q E→vs.length=2)
  (rd:∀ vs H Q E,zh_ K vs H Q E→z6_ K { nx:=fun _ H'=>Q .non H',rt:=Q } (start Qn29 vs) H):FnOk P w K mg base CX0 4 f fd Qn31 (zh_ K):=by
 refine F.ok zaX_ len (fun cdv A outer s H vs Q E hr h=>⟨_,zda_ G_Counter_close_level B_range B_len CL_Counter NA_Counter_breaks hr,rd vs H Q E h⟩)
theorem zeW_:FnScope Qn3 Qn3 (defScope zT_):=⟨rfl,rfl,rfl,by decide +kernel,rfl,by decide +kernel,by decide +kernel⟩
theorem zeO_ (G_Counter_close_level:Gm P w K mg base CX0 3 (gA K "Counter") "close_level" Qn20 (zj_ K)) (G_Counter_close_levels:Gm P w K mg base CX0 4 (gA K "Counter") "close_levels" Qn31 (zh_ K)) (CL_Counter:Cls K (gA K "Counter")) (NA_Counter_before:NoAttr K (gA K "Counter") "before") {cdv:Value}{A:Around}{outer:List Env}{s:Shared}{H:Hp}{E:XK}{f:Addr}(hr:Room 4 (A.deeper (envOfC "Counter.finish" (defScope zT_) s.heap.objs.size f cdv))) :
  (PSs (cxOf CX0 P w K mg base Qn3 "Counter.finish" (defScope zT_) f cdv A outer s H E).nox (defBody zT_) (za6_ K)) := 
 (ze_ (zev_ (zdU_ zpV_ (zaU_ CL_Counter NA_Counter_before (za_ 0)) zna_) (zq_ (zaV_ (zfO_ (zc_ (zcx_ G_Counter_close_level (hr.mono (j:=3) (by decide)) (za_ 0) (zc_ zl_ zn_)) zn_)))) zcA_) (zq_ (zaV_ (zcx_ G_Counter_close_levels (hr.mono (j:=4) (by decide)) (za_ 0) (zc_ zl_ zn_)))))
theorem zeL_ (G_Counter_close_level:Gm P w K mg base CX0 3 (gA K "Counter") "close_level" Qn20 (zj_ K)) (G_Counter_close_levels:Gm P w K mg base CX0 4 (gA K "Counter") "close_levels" Qn31 (zh_ K)) (CL_Counter:Cls K (gA K "Counter")) (NA_Counter_before:NoAttr K (gA K "Counter") "before") {f:Addr}{fd:FuncData}(F:Fun K "finish" "Counter.finish" zT_ f fd) (len:∀ vs H Q E,zN_ K vs H Q E→vs.length=1)
  (rd:∀ vs H Q E,zN_ K vs H Q E→za6_ K { nx:=fun _ H'=>Q .non H',rt:=Q } (start Qn3 vs) H):FnOk P w K mg base CX0 5 f fd Qn3 (zN_ K):=by
 refine F.ok zeW_ len (fun cdv A outer s H vs Q E hr h=>⟨_,zeO_ G_Counter_close_level G_Counter_close_levels CL_Counter NA_Counter_before hr,rd vs H Q E h⟩)
theorem zfk_:FnScope Qn3 Qn3 (defScope z4_):=⟨rfl,rfl,rfl,by decide +kernel,rfl,by decide +kernel,by decide +kernel⟩
theorem zfr_ (B_sorted:Gb mg "sorted") (CL_Counter:Cls K (gA K "Counter")) (NA_Counter_run_over:NoAttr K (gA K "Counter") "run_over") {cdv:Value}{A:Around}{outer:List Env}{s:Shared}{H:Hp}{E:XK}{f:Addr}(hr:Room 0 (A.deeper (envOfC "Counter.overs" (defScope z4_) s.heap.objs.size f cdv))) :
  (PSs (cxOf CX0 P w K mg base Qn3 "Counter.overs" (defScope z4_) f cdv A outer s H E).nox (defBody z4_) (zbl_ K)) := 
 (zq_ (zaV_ (zhd_ (zg6_ rfl) B_sorted (zc_ (zaU_ CL_Counter NA_Counter_run_over (za_ 0)) zn_))))
theorem zfn_ (B_sorted:Gb mg "sorted") (CL_Counter:Cls K (gA K "Counter")) (NA_Counter_run_over:NoAttr K (gA K "Counter") "run_over") {f:Addr}{fd:FuncData}(F:Fun K "overs" "Counter.overs" z4_ f fd) (len:∀ vs H Q E,zL_ K vs H Q E→vs.length=1)
  (rd:∀ vs H Q E,zL_ K vs H Q E→zbl_ K { nx:=fun _ H'=>Q .non H',rt:=Q } (start Qn3 vs) H):FnOk P w K mg base CX0 1 f fd Qn3 (zL_ K):=by
 refine F.ok zfk_ len (fun cdv A outer s H vs Q E hr h=>⟨_,zfr_ B_sorted CL_Counter NA_Counter_run_over hr,rd vs H Q E h⟩)
theorem zbM_:FnScope Qn10 Qn17 (defScope zaQ_):=⟨rfl,rfl,rfl,by decide +kernel,rfl,by decide +kernel,by decide +kernel⟩
theorem zg3_ (B_range:Gb mg "range") {cdv:Value}{A:Around}{outer:List Env}{s:Shared}{H:Hp}{E:XK}{f:Addr}(hr:Room 0 (A.deeper (envOfC "_law_stream" (defScope zaQ_) s.heap.objs.size f cdv))) :
  (PSs (cxOf CX0 P w K mg base Qn10 "_law_stream" (defScope zaQ_) f cdv A outer s H E).nox (defBody zaQ_) (zcd_ K)) := 
 (ze_ (zY_ (i:=2) zbM_.nd rfl (by first | exact Or.inl rfl | exact Or.inr rfl) (zfO_ zn_)) (ze_ (zY_ (i:=3) zbM_.nd rfl (by first | exact Or.inl rfl | exact Or.inr rfl) (zap_ zal_ (zap_ za0_ (za_ 0) zl_) zl_)) (ze_ (zdR_ PassesOwn.never rfl (zdY_ B_range (zc_ (za_ 1) zn_)) (zU_ (i:=4) zbM_.nd rfl (by first | exact Or.inl rfl | exact Or.inr rfl)) (ze_ (zY_ (i:=3) zbM_.nd rfl (by first | exact Or.inl rfl | exact Or.inr rfl) (zap_ za0_ (zap_ zal_ (zap_ zal_ (zap_ zdA_ (za_ 3) (za_ 3)) (zap_ zdA_ zl_ (za_ 3))) (za_ 4)) zl_)) (zq_ (zdo_ (zm9_ PySem.F.plainAttrs_list PySem.F.slot_list_append PySem.F.type_list_append zef_ (za_ 2) (zc_ (za_ 3) zn_)))))) (zq_ (zaV_ (za_ 2))))))
theorem zgJ_ (B_range:Gb mg "range") {f:Addr}{fd:FuncData}(F:Fun K "_law_stream" "_law_stream" zaQ_ f fd) (len:∀ vs H Q E,zA_ K vs H Q E→vs.length=2)
  (rd:∀ vs H Q E,zA_ K vs H Q E→zcd_ K { nx:=fun _ H'=>Q .non H',rt:=Q } (start Qn10 vs) H):FnOk P w K mg base CX0 1 f fd Qn17 (zA_ K):=by
 refine F.ok zbM_ len (fun cdv A outer s H vs Q E hr h=>⟨_,zg3_ B_range hr,rd vs H Q E h⟩)
theorem zhC_:FnScope ["_law_cell"] ["_law_cell"] (defScope zbi_):=⟨rfl,rfl,rfl,by decide +kernel,rfl,by decide +kernel,by decide +kernel⟩
theorem zh8_ (G_law_stream:Gd P w K mg base CX0 1 "_law_stream" Qn17 (zA_ K)) {cdv:Value}{A:Around}{outer:List Env}{s:Shared}{H:Hp}{E:XK}{f:Addr}(hr:Room 1 (A.deeper (envOfC "_law_kinds" (defScope zbi_) s.heap.objs.size f cdv))) :
  (PSs (cxOf CX0 P w K mg base ["_law_cell"] "_law_kinds" (defScope zbi_) f cdv A outer s H E).nox (defBody zbi_) (zcI_ K)) := 
 (zq_ (zaV_ (zeE_ (cl:=[]) (lv:=Qn33) (fr:=[]) rfl ⟨rfl,by decide +kernel,rfl,by decide +kernel,(by intro q hq; cases hq)⟩ (zdL_ (zH_ G_law_stream (hr.mono (j:=1) (by decide)) (zc_ (za_ 0) (zc_ zl_ zn_)))) (fun _ _ _ _=>(zU_ (i:=0) (show List.Nodup (Qn33:List Str) from by decide +kernel) rfl (Or.inl rfl))) (fun _ _ _ _=>zcG_) (fun _ _ _ _=>(zap_ zdj_ (za_ 0) zl_)))))
theorem zhW_ (G_law_stream:Gd P w K mg base CX0 1 "_law_stream" Qn17 (zA_ K)) {f:Addr}{fd:FuncData}(F:Fun K "_law_kinds" "_law_kinds" zbi_ f fd) (len:∀ vs H Q E,zaK_ K vs H Q E→vs.length=1)
  (rd:∀ vs H Q E,zaK_ K vs H Q E→zcI_ K { nx:=fun _ H'=>Q .non H',rt:=Q } (start ["_law_cell"] vs) H):FnOk P w K mg base CX0 2 f fd ["_law_cell"] (zaK_ K):=by
 refine F.ok zhC_ len (fun cdv A outer s H vs Q E hr h=>⟨_,zh8_ G_law_stream hr,rd vs H Q E h⟩)
theorem zgE_:FnScope Qn15 Qn15 (defScope zaz_):=⟨rfl,rfl,rfl,by decide +kernel,rfl,by decide +kernel,by decide +kernel⟩
theorem zgf_ (B_len:Gb mg "len") {cdv:Value}{A:Around}{outer:List Env}{s:Shared}{H:Hp}{E:XK}{f:Addr}(hr:Room 0 (A.deeper (envOfC "_law_cell_at" (defScope zaz_) s.heap.objs.size f cdv))) :
  (PSs (cxOf CX0 P w K mg base Qn15 "_law_cell_at" (defScope zaz_) f cdv A outer s H E).nox (defBody zaz_) (zbS_ K)) := 
 (ze_ (zev_ (zdU_ zpU_ (za_ 1) (zhd_ zbp_ B_len (zc_ (za_ 0) zn_))) (zq_ (zaV_ (zc5_ ix_M (za_ 0) (za_ 1) (fun _ _=>rfl)))) zcA_) (zq_ (zaV_ zl_)))
theorem zgi_ (B_len:Gb mg "len") {f:Addr}{fd:FuncData}(F:Fun K "_law_cell_at" "_law_cell_at" zaz_ f fd) (len:∀ vs H Q E,zC_ K vs H Q E→vs.length=2)
  (rd:∀ vs H Q E,zC_ K vs H Q E→zbS_ K { nx:=fun _ H'=>Q .non H',rt:=Q } (start Qn15 vs) H):FnOk P w K mg base CX0 1 f fd Qn15 (zC_ K):=by
 refine F.ok zgE_ len (fun cdv A outer s H vs Q E hr h=>⟨_,zgf_ B_len hr,rd vs H Q E h⟩)
theorem zaA_:FnScope Qn5 Qn16 (defScope zav_):=⟨rfl,rfl,rfl,by decide +kernel,rfl,by decide +kernel,by decide +kernel⟩
theorem zgc_ (B_range:Gb mg "range") (B_min:Gb mg "min") (B_max:Gb mg "max") {cdv:Value}{A:Around}{outer:List Env}{s:Shared}{H:Hp}{E:XK}{f:Addr}(hr:Room 0 (A.deeper (envOfC "_law_figures" (defScope zav_) s.heap.objs.size f cdv))) :
  (PSs (cxOf CX0 P w K mg base Qn5 "_law_figures" (defScope zav_) f cdv A outer s H E).nox (defBody zav_) (zbP_ K)) := 
 (ze_ (zev_ (zdU_ znk_ (zap_ za0_ (za_ 0) zl_) zl_) (zq_ (zaV_ (zap_ zal_ zl_ (zap_ za0_ (zap_ zdj_ (za_ 0) zl_) zl_)))) zcA_) (ze_ (zY_ (i:=3) zaA_.nd rfl (by first | exact Or.inl rfl | exact Or.inr rfl) (za_ 2)) (ze_ (zdR_ PassesOwn.never rfl (zmS_ B_range (zc_ (zc5_ ix_M (za_ 1) zl_ (fun _ _=>rfl)) (zc_ (zap_ zal_ (zc5_ ix_M (za_ 1) zl_ (fun _ _=>rfl)) zl_) zn_))) (zU_ (i:=4) zaA_.nd rfl (by first | exact Or.inl rfl | exact Or.inr rfl)) (zq_ (zY_ (i:=3) zaA_.nd rfl (by first | exact Or.inl rfl | exact Or.inr rfl) (zap_ zdA_ zl_ (za_ 3))))) (ze_ (zY_ (i:=3) zaA_.nd rfl (by first | exact Or.inl rfl | exact Or.inr rfl) (zap_ zbO_ (za_ 3) (za_ 2))) (ze_ (zY_ (i:=5) zaA_.nd rfl (by first | exact Or.inl rfl | exact Or.inr rfl) zl_) (ze_ (zmY_ PassesOwn.never (zdU_ znZ_ (za_ 3) zl_) (ze_ (zY_ (i:=3) zaA_.nd rfl (by first | exact Or.inl rfl | exact Or.inr rfl) (zap_ zdj_ (za_ 3) zl_)) (zq_ (zY_ (i:=5) zaA_.nd rfl (by first | exact Or.inl rfl | exact Or.inr rfl) (zap_ zal_ (za_ 5) zl_))))) (zq_ (zaV_ (zhd_ (ziB_ rfl) B_min (zc_ zl_ (zc_ (zhd_ (zif_ rfl) B_max (zc_ zl_ (zc_ (zap_ zbO_ (za_ 5) (zap_ za0_ (za_ 0) zl_)) zn_))) zn_)))))))))))
theorem zgq_ (B_range:Gb mg "range") (B_min:Gb mg "min") (B_max:Gb mg "max") {f:Addr}{fd:FuncData}(F:Fun K "_law_figures" "_law_figures" zav_ f fd) (len:∀ vs H Q E,zaj_ K vs H Q E→vs.length=3)
  (rd:∀ vs H Q E,zaj_ K vs H Q E→zbP_ K { nx:=fun _ H'=>Q .non H',rt:=Q } (start Qn5 vs) H):FnOk P w K mg base CX0 1 f fd Qn16 (zaj_ K):=by
 refine F.ok zaA_ len (fun cdv A outer s H vs Q E hr h=>⟨_,zgc_ B_range B_min B_max hr,rd vs H Q E h⟩)
theorem zjd_:FnScope ["field"] ["field"] (defScope zbv_):=⟨rfl,rfl,rfl,by decide +kernel,rfl,by decide +kernel,by decide +kernel⟩
theorem zi2_  {cdv:Value}{A:Around}{outer:List Env}{s:Shared}{H:Hp}{E:XK}{f:Addr}(hr:Room 0 (A.deeper (envOfC "width_of" (defScope zbv_) s.heap.objs.size f cdv))) :
  (PSs (cxOf CX0 P w K mg base ["field"] "width_of" (defScope zbv_) f cdv A outer s H E).nox (defBody zbv_) (zdq_ K)) := 
 (zq_ (zaV_ (zap_ zal_ (zap_ zbO_ (zc5_ ix_M (za_ 0) zl_ (fun _ _=>rfl)) (zc5_ ix_M (za_ 0) zl_ (fun _ _=>rfl))) zl_)))
theorem zi6_  {f:Addr}{fd:FuncData}(F:Fun K "width_of" "width_of" zbv_ f fd) (len:∀ vs H Q E,zbh_ K vs H Q E→vs.length=1)
  (rd:∀ vs H Q E,zbh_ K vs H Q E→zdq_ K { nx:=fun _ H'=>Q .non H',rt:=Q } (start ["field"] vs) H):FnOk P w K mg base CX0 1 f fd ["field"] (zbh_ K):=by
 refine F.ok zjd_ len (fun cdv A outer s H vs Q E hr h=>⟨_,zi2_  hr,rd vs H Q E h⟩)
theorem zfX_:FnScope Qn13 Qn13 (defScope zaf_):=⟨rfl,rfl,rfl,by decide +kernel,rfl,by decide +kernel,by decide +kernel⟩
theorem zf1_ (G_ten_to:Gd P w K mg base CX0 1 "ten_to" ["power"] (zbd_ K)) (G_width_of:Gd P w K mg base CX0 1 "width_of" ["field"] (zbh_ K)) {cdv:Value}{A:Around}{outer:List Env}{s:Shared}{H:Hp}{E:XK}{f:Addr}(hr:Room 1 (A.deeper (envOfC "may_run_over" (defScope zaf_) s.heap.objs.size f cdv))) :
  (PSs (cxOf CX0 P w K mg base Qn13 "may_run_over" (defScope zaf_) f cdv A outer s H E).nox (defBody zaf_) (zby_ K)) := 
 (zq_ (zaV_ (zeE_ (cl:=_) (lv:=["field"]) (fr:=[("many",2),("figures",1)]) rfl ⟨rfl,by decide +kernel,rfl,by decide +kernel,(zed_ (by refine ⟨rfl,by decide +kernel,?_,?_⟩<;>first | exact Or.inl rfl | exact Or.inr rfl) (zed_ (by refine ⟨rfl,by decide +kernel,?_,?_⟩<;>first | exact Or.inl rfl | exact Or.inr rfl) zht_))⟩ (zdL_ (za_ 0)) (fun _ _ _ _=>(zU_ (i:=0) (show List.Nodup (["field", "many", "figures"]:List Str) from by decide +kernel) rfl (Or.inl rfl))) (fun _ _ _ _=>zcG_) (fun _ _ _ _=>(ziC_ zo3_ (zap_ zdA_ (za_ 1) (zap_ zbO_ (zH_ G_ten_to (hr.mono (j:=1) (by decide)) (zc_ (zH_ G_width_of (hr.mono (j:=1) (by decide)) (zc_ (za_ 0) zn_)) zn_)) zl_)) (zH_ G_ten_to (hr.mono (j:=1) (by decide)) (zc_ (za_ 2) zn_)))))))
theorem zfQ_ (G_ten_to:Gd P w K mg base CX0 1 "ten_to" ["power"] (zbd_ K)) (G_width_of:Gd P w K mg base CX0 1 "width_of" ["field"] (zbh_ K)) {f:Addr}{fd:FuncData}(F:Fun K "may_run_over" "may_run_over" zaf_ f fd) (len:∀ vs H Q E,z3_ K vs H Q E→vs.length=3)
  (rd:∀ vs H Q E,z3_ K vs H Q E→zby_ K { nx:=fun _ H'=>Q .non H',rt:=Q } (start Qn13 vs) H):FnOk P w K mg base CX0 2 f fd Qn13 (z3_ K):=by
 refine F.ok zfX_ len (fun cdv A outer s H vs Q E hr h=>⟨_,zf1_ G_ten_to G_width_of hr,rd vs H Q E h⟩)
theorem zkY_:FnScope ["card"] ["card"] (defScope zb3_):=⟨rfl,rfl,rfl,by decide +kernel,rfl,by decide +kernel,by decide +kernel⟩
theorem zkK_ (C_BODY_WIDTH:Gc mg "BODY_WIDTH" (.int 36)) {cdv:Value}{A:Around}{outer:List Env}{s:Shared}{H:Hp}{E:XK}{f:Addr}(hr:Room 0 (A.deeper (envOfC "mark_of" (defScope zb3_) s.heap.objs.size f cdv))) :
  (PSs (cxOf CX0 P w K mg base ["card"] "mark_of" (defScope zb3_) f cdv A outer s H E).nox (defBody zb3_) (zem_ K)) := 
 (zq_ (zaV_ (zc1_ sl_M (za_ 0) (po_M (zpB_ C_BODY_WIDTH)) zgK_)))
theorem zkM_ (C_BODY_WIDTH:Gc mg "BODY_WIDTH" (.int 36)) {f:Addr}{fd:FuncData}(F:Fun K "mark_of" "mark_of" zb3_ f fd) (len:∀ vs H Q E,zbD_ K vs H Q E→vs.length=1)
  (rd:∀ vs H Q E,zbD_ K vs H Q E→zem_ K { nx:=fun _ H'=>Q .non H',rt:=Q } (start ["card"] vs) H):FnOk P w K mg base CX0 1 f fd ["card"] (zbD_ K):=by
 refine F.ok zkY_ len (fun cdv A outer s H vs Q E hr h=>⟨_,zkK_ C_BODY_WIDTH hr,rd vs H Q E h⟩)
theorem zjL_:FnScope Qn28 Qn28 (defScope zb4_):=⟨rfl,rfl,rfl,by decide +kernel,rfl,by decide +kernel,by decide +kernel⟩
theorem zkR_  {cdv:Value}{A:Around}{outer:List Env}{s:Shared}{H:Hp}{E:XK}{f:Addr}(hr:Room 0 (A.deeper (envOfC "sign_at" (defScope zb4_) s.heap.objs.size f cdv))) :
  (PSs (cxOf CX0 P w K mg base Qn28 "sign_at" (defScope zb4_) f cdv A outer s H E).nox (defBody zb4_) (zd5_ K)) := 
 (zq_ (zaV_ (zc5_ ix_M (za_ 0) (zap_ zbO_ (za_ 1) zl_) (fun _ _=>rfl))))
theorem zj9_  {f:Addr}{fd:FuncData}(F:Fun K "sign_at" "sign_at" zb4_ f fd) (len:∀ vs H Q E,zbC_ K vs H Q E→vs.length=2)
  (rd:∀ vs H Q E,zbC_ K vs H Q E→zd5_ K { nx:=fun _ H'=>Q .non H',rt:=Q } (start Qn28 vs) H):FnOk P w K mg base CX0 1 f fd Qn28 (zbC_ K):=by
 refine F.ok zjL_ len (fun cdv A outer s H vs Q E hr h=>⟨_,zkR_  hr,rd vs H Q E h⟩)
theorem zfv_:FnScope ["card", "board", "signs", "wire"] ["card", "board"] (defScope zb8_):=⟨rfl,rfl,rfl,by decide +kernel,rfl,by decide +kernel,by decide +kernel⟩
theorem zjp_ (G_sign_at:Gd P w K mg base CX0 1 "sign_at" Qn28 (zbC_ K)) (C_BODY_WIDTH:Gc mg "BODY_WIDTH" (.int 36)) (B_range:Gb mg "range") {cdv:Value}{A:Around}{outer:List Env}{s:Shared}{H:Hp}{E:XK}{f:Addr}(hr:Room 1 (A.deeper (envOfC "lay_out" (defScope zb8_) s.heap.objs.size f cdv))) :
  (PSs (cxOf CX0 P w K mg base ["card", "board", "signs", "wire"] "lay_out" (defScope zb8_) f cdv A outer s H E).nox (defBody zb8_) (zej_ K)) := 
 (ze_ (zdu_ (cl:=[]) (lv:=["column"]) (fr:=[]) rfl ⟨rfl,by decide +kernel,rfl,by decide +kernel,(by intro q hq; cases hq)⟩ (zdY_ B_range (zc_ (zpB_ C_BODY_WIDTH) zn_)) (fun _ _ _ _=>(zU_ (i:=0) (show List.Nodup (["column"]:List Str) from by decide +kernel) rfl (Or.inl rfl))) (fun _ _ _ _=>zcG_) (fun _ _ _ _=>(zd8_ (l:=[32]))) (zU_ (i:=2) zfv_.nd rfl (by first | exact Or.inl rfl | exact Or.inr rfl))) (ze_ (zdR_ PassesOwn.never rfl (zdL_ (za_ 1)) (zU_ (i:=3) zfv_.nd rfl (by first | exact Or.inl rfl | exact Or.inr rfl)) (zq_ (zqp_ (zH_ G_sign_at (hr.mono (j:=1) (by decide)) (zc_ (za_ 0) (zc_ (zc5_ ix_M (za_ 3) zl_ (fun _ _=>rfl)) zn_))) (zpH_ (za_ 2) (zap_ zbO_ (zc5_ ix_M (za_ 3) zl_ (fun _ _=>rfl)) zl_) set_M)))) (zq_ (zaV_ (znR_ PySem.F.slot_str_join PySem.F.type_str_join zjY_ (zd8_ (l:=[])) (zc_ (za_ 2) zn_))))))
theorem zjv_ (G_sign_at:Gd P w K mg base CX0 1 "sign_at" Qn28 (zbC_ K)) (C_BODY_WIDTH:Gc mg "BODY_WIDTH" (.int 36)) (B_range:Gb mg "range") {f:Addr}{fd:FuncData}(F:Fun K "lay_out" "lay_out" zb8_ f fd) (len:∀ vs H Q E,zbA_ K vs H Q E→vs.length=2)
  (rd:∀ vs H Q E,zbA_ K vs H Q E→zej_ K { nx:=fun _ H'=>Q .non H',rt:=Q } (start ["card", "board", "signs", "wire"] vs) H):FnOk P w K mg base CX0 2 f fd ["card", "board"] (zbA_ K):=by
 refine F.ok zfv_ len (fun cdv A outer s H vs Q E hr h=>⟨_,zjp_ G_sign_at C_BODY_WIDTH B_range hr,rd vs H Q E h⟩)
theorem zaL_:FnScope ["self", "card", "place", "field"] Qn30 (defScope zr_):=⟨rfl,rfl,rfl,by decide +kernel,rfl,by decide +kernel,by decide +kernel⟩
theorem zcZ_ (G_part_of:Gd P w K mg base CX0 1 "part_of" Qn9 (zac_ K)) (B_enumerate:Gb mg "enumerate") (B_len:Gb mg "len") (CL_Counter:Cls K (gA K "Counter")) (NA_Counter_breaks:NoAttr K (gA K "Counter") "breaks") (NA_Counter_before:NoAttr K (gA K "Counter") "before") {cdv:Value}{A:Around}{outer:List Env}{s:Shared}{H:Hp}{E:XK}{f:Addr}(hr:Room 1 (A.deeper (envOfC "Counter.changed_level" (defScope zr_) s.heap.objs.size f cdv))) :
  (PSs (cxOf CX0 P w K mg base ["self", "card", "place", "field"] "Counter.changed_level" (defScope zr_) f cdv A outer s H E).nox (defBody zr_) (zW_ K)) := 
 (ze_ (zdR_ PassesOwn.never rfl (zhM_ (by rfl) B_enumerate (zc_ (zaU_ CL_Counter NA_Counter_breaks (za_ 0)) zn_)) (ziP_ (n:=2) rfl (zcv_ (zU_ (i:=2) zaL_.nd rfl (by first | exact Or.inl rfl | exact Or.inr rfl)) (zcv_ (zU_ (i:=3) zaL_.nd rfl (by first | exact Or.inl rfl | exact Or.inr rfl)) zgA_))) (zq_ (zev_ (zdU_ zo2_ (zH_ G_part_of (hr.mono (j:=1) (by decide)) (zc_ (za_ 1) (zc_ (za_ 3) zn_))) (zH_ G_part_of (hr.mono (j:=1) (by decide)) (zc_ (zaU_ CL_Counter NA_Counter_before (za_ 0)) (zc_ (za_ 3) zn_)))) (zq_ (zaV_ (zap_ zal_ (za_ 2) zl_))) zcA_))) (zq_ (zaV_ (zap_ zal_ (zhd_ zbp_ B_len (zc_ (zaU_ CL_Counter NA_Counter_breaks (za_ 0)) zn_)) zl_))))
theorem zcY_ (G_part_of:Gd P w K mg base CX0 1 "part_of" Qn9 (zac_ K)) (B_enumerate:Gb mg "enumerate") (B_len:Gb mg "len") (CL_Counter:Cls K (gA K "Counter")) (NA_Counter_breaks:NoAttr K (gA K "Counter") "breaks") (NA_Counter_before:NoAttr K (gA K "Counter") "before") {f:Addr}{fd:FuncData}(F:Fun K "changed_level" "Counter.changed_level" zr_ f fd) (len:∀ vs H Q E,zp_ K vs H Q E→vs.length=2)
  (rd:∀ vs H Q E,zp_ K vs H Q E→zW_ K { nx:=fun _ H'=>Q .non H',rt:=Q } (start ["self", "card", "place", "field"] vs) H):FnOk P w K mg base CX0 2 f fd Qn30 (zp_ K):=by
 refine F.ok zaL_ len (fun cdv A outer s H vs Q E hr h=>⟨_,zcZ_ G_part_of B_enumerate B_len CL_Counter NA_Counter_breaks NA_Counter_before hr,rd vs H Q E h⟩)
theorem zcO_:FnScope ["figures", "value", "figure"] ["figures"] (defScope zbb_):=⟨rfl,rfl,rfl,by decide +kernel,rfl,by decide +kernel,by decide +kernel⟩
theorem zhV_ (C_FIGURES:Gc mg "FIGURES" (tx [48,49,50,51,52,53,54,55,56,57])) {cdv:Value}{A:Around}{outer:List Env}{s:Shared}{H:Hp}{E:XK}{f:Addr}(hr:Room 0 (A.deeper (envOfC "number_by" (defScope zbb_) s.heap.objs.size f cdv))) :
  (PSs (cxOf CX0 P w K mg base ["figures", "value", "figure"] "number_by" (defScope zbb_) f cdv A outer s H E).nox (defBody zbb_) (zcH_ K)) := 
 (ze_ (zY_ (i:=1) zcO_.nd rfl (by first | exact Or.inl rfl | exact Or.inr rfl) zl_) (ze_ (zdR_ PassesOwn.never rfl (zdL_ (za_ 0)) (zU_ (i:=2) zcO_.nd rfl (by first | exact Or.inl rfl | exact Or.inr rfl)) (zq_ (zY_ (i:=1) zcO_.nd rfl (by first | exact Or.inl rfl | exact Or.inr rfl) (zap_ zal_ (zap_ zdA_ (za_ 1) zl_) (znR_ PySem.F.slot_str_index PySem.F.type_str_index zne_ (zpB_ C_FIGURES) (zc_ (za_ 2) zn_)))))) (zq_ (zaV_ (za_ 1)))))
theorem zhu_ (C_FIGURES:Gc mg "FIGURES" (tx [48,49,50,51,52,53,54,55,56,57])) {f:Addr}{fd:FuncData}(F:Fun K "number_by" "number_by" zbb_ f fd) (len:∀ vs H Q E,zaO_ K vs H Q E→vs.length=1)
  (rd:∀ vs H Q E,zaO_ K vs H Q E→zcH_ K { nx:=fun _ H'=>Q .non H',rt:=Q } (start ["figures", "value", "figure"] vs) H):FnOk P w K mg base CX0 1 f fd ["figures"] (zaO_ K):=by
 refine F.ok zcO_ len (fun cdv A outer s H vs Q E hr h=>⟨_,zhV_ C_FIGURES hr,rd vs H Q E h⟩)
theorem zfA_:FnScope ["card", "field", "figures"] Qn9 (defScope zba_):=⟨rfl,rfl,rfl,by decide +kernel,rfl,by decide +kernel,by decide +kernel⟩
theorem zhQ_ (G_part_of:Gd P w K mg base CX0 1 "part_of" Qn9 (zac_ K)) (G_number_by:Gd P w K mg base CX0 1 "number_by" ["figures"] (zaO_ K)) (C_FIGURES:Gc mg "FIGURES" (tx [48,49,50,51,52,53,54,55,56,57])) {cdv:Value}{A:Around}{outer:List Env}{s:Shared}{H:Hp}{E:XK}{f:Addr}(hr:Room 1 (A.deeper (envOfC "number_of" (defScope zba_) s.heap.objs.size f cdv))) :
  (PSs (cxOf CX0 P w K mg base ["card", "field", "figures"] "number_of" (defScope zba_) f cdv A outer s H E).nox (defBody zba_) (zcB_ K)) := 
 (ze_ (zdu_ (cl:=[]) (lv:=["sign"]) (fr:=[]) rfl ⟨rfl,by decide +kernel,rfl,by decide +kernel,(by intro q hq; cases hq)⟩ (zdL_ (zH_ G_part_of (hr.mono (j:=1) (by decide)) (zc_ (za_ 0) (zc_ (za_ 1) zn_)))) (fun _ _ _ _=>(zU_ (i:=0) (show List.Nodup (["sign"]:List Str) from by decide +kernel) rfl (Or.inl rfl))) (fun _ _ _ _=>zcG_) (fun _ _ _ _=>(zpO_ (zdU_ zoH_ (za_ 0) (zpB_ C_FIGURES)) (za_ 0) (zd8_ (l:=[48])))) (zU_ (i:=2) zfA_.nd rfl (by first | exact Or.inl rfl | exact Or.inr rfl))) (zq_ (zaV_ (zH_ G_number_by (hr.mono (j:=1) (by decide)) (zc_ (znR_ PySem.F.slot_str_join PySem.F.type_str_join zjY_ (zd8_ (l:=[])) (zc_ (za_ 2) zn_)) zn_)))))
theorem zh9_ (G_part_of:Gd P w K mg base CX0 1 "part_of" Qn9 (zac_ K)) (G_number_by:Gd P w K mg base CX0 1 "number_by" ["figures"] (zaO_ K)) (C_FIGURES:Gc mg "FIGURES" (tx [48,49,50,51,52,53,54,55,56,57])) {f:Addr}{fd:FuncData}(F:Fun K "number_of" "number_of" zba_ f fd) (len:∀ vs H Q E,zaR_ K vs H Q E→vs.length=2)
  (rd:∀ vs H Q E,zaR_ K vs H Q E→zcB_ K { nx:=fun _ H'=>Q .non H',rt:=Q } (start ["card", "field", "figures"] vs) H):FnOk P w K mg base CX0 2 f fd Qn9 (zaR_ K):=by
 refine F.ok zfA_ len (fun cdv A outer s H vs Q E hr h=>⟨_,zhQ_ G_part_of G_number_by C_FIGURES hr,rd vs H Q E h⟩)
theorem zbn_:FnScope Qn27 Qn30 (defScope zah_):=⟨rfl,rfl,rfl,by decide +kernel,rfl,by decide +kernel,by decide +kernel⟩
theorem zf3_ (G_Counter_close_levels:Gm P w K mg base CX0 4 (gA K "Counter") "close_levels" Qn31 (zh_ K)) (G_Counter_changed_level:Gm P w K mg base CX0 2 (gA K "Counter") "changed_level" Qn30 (zp_ K)) (G_mark_of:Gd P w K mg base CX0 1 "mark_of" ["card"] (zbD_ K)) (G_lay_out:Gd P w K mg base CX0 2 "lay_out" ["card", "board"] (zbA_ K)) (G_Counter_raise_level:Gm P w K mg base CX0 2 (gA K "Counter") "raise_level" Qn23 (zk_ K)) (G_number_of:Gd P w K mg base CX0 2 "number_of" Qn9 (zaR_ K)) (B_len:Gb mg "len") (CL_Counter:Cls K (gA K "Counter")) (NA_Counter_before:NoAttr K (gA K "Counter") "before") (NA_Counter_board:NoAttr K (gA K "Counter") "board") (NA_Counter_sums:NoAttr K (gA K "Counter") "sums") (NA_Counter_breaks:NoAttr K (gA K "Counter") "breaks") {cdv:Value}{A:Around}{outer:List Env}{s:Shared}{H:Hp}{E:XK}{f:Addr}(hr:Room 4 (A.deeper (envOfC "Counter.feed" (defScope zah_) s.heap.objs.size f cdv))) :
  (PSs (cxOf CX0 P w K mg base Qn27 "Counter.feed" (defScope zah_) f cdv A outer s H E).nox (defBody zah_) (zbw_ K)) := 
 (ze_ (zY_ (i:=2) zbn_.nd rfl (by first | exact Or.inl rfl | exact Or.inr rfl) (zfO_ zn_)) (ze_ (zev_ (zdU_ zl2_ (zaU_ CL_Counter NA_Counter_before (za_ 0)) zna_) (zq_ (zY_ (i:=2) zbn_.nd rfl (by first | exact Or.inl rfl | exact Or.inr rfl) (zcx_ G_Counter_close_levels (hr.mono (j:=4) (by decide)) (za_ 0) (zc_ (zcx_ G_Counter_changed_level (hr.mono (j:=2) (by decide)) (za_ 0) (zc_ (za_ 1) zn_)) zn_)))) zcA_) (ze_ (zY_ (i:=3) zbn_.nd rfl (by first | exact Or.inl rfl | exact Or.inr rfl) (zH_ G_mark_of (hr.mono (j:=1) (by decide)) (zc_ (za_ 1) zn_))) (ze_ (zY_ (i:=4) zbn_.nd rfl (by first | exact Or.inl rfl | exact Or.inr rfl) (zH_ G_lay_out (hr.mono (j:=2) (by decide)) (zc_ (za_ 1) (zc_ (zaU_ CL_Counter NA_Counter_board (za_ 0)) zn_)))) (ze_ (zdo_ (zm9_ PySem.F.plainAttrs_list PySem.F.slot_list_append PySem.F.type_list_append zef_ (za_ 2) (zc_ (zlG_ (zkB_ (zoC_ (za_ 3)) (zkB_ (zd8_ (l:=[32])) (zkB_ (zoC_ (za_ 4)) zqh_)))) zn_))) (ze_ (zdo_ (zcx_ G_Counter_raise_level (hr.mono (j:=2) (by decide)) (za_ 0) (zc_ (zhd_ zbp_ B_len (zc_ (zaU_ CL_Counter NA_Counter_breaks (za_ 0)) zn_)) (zc_ (zeE_ (cl:=_) (lv:=["field"]) (fr:=[("card",1)]) rfl ⟨rfl,by decide +kernel,rfl,by decide +kernel,(zed_ (by refine ⟨rfl,by decide +kernel,?_,?_⟩<;>first | exact Or.inl rfl | exact Or.inr rfl) zht_)⟩ (zdL_ (zaU_ CL_Counter NA_Counter_sums (za_ 0))) (fun _ _ _ _=>(zU_ (i:=0) (show List.Nodup (["field", "card"]:List Str) from by decide +kernel) rfl (Or.inl rfl))) (fun _ _ _ _=>zcG_) (fun _ _ _ _=>(zH_ G_number_of (hr.mono (j:=2) (by decide)) (zc_ (za_ 1) (zc_ (za_ 0) zn_))))) zn_)))) (ze_ (zcj_ CL_Counter NA_Counter_before (za_ 0) (za_ 1)) (zq_ (zaV_ (za_ 2))))))))))
theorem zfS_ (G_Counter_close_levels:Gm P w K mg base CX0 4 (gA K "Counter") "close_levels" Qn31 (zh_ K)) (G_Counter_changed_level:Gm P w K mg base CX0 2 (gA K "Counter") "changed_level" Qn30 (zp_ K)) (G_mark_of:Gd P w K mg base CX0 1 "mark_of" ["card"] (zbD_ K)) (G_lay_out:Gd P w K mg base CX0 2 "lay_out" ["card", "board"] (zbA_ K)) (G_Counter_raise_level:Gm P w K mg base CX0 2 (gA K "Counter") "raise_level" Qn23 (zk_ K)) (G_number_of:Gd P w K mg base CX0 2 "number_of" Qn9 (zaR_ K)) (B_len:Gb mg "len") (CL_Counter:Cls K (gA K "Counter")) (NA_Counter_before:NoAttr K (gA K "Counter") "before") (NA_Counter_board:NoAttr K (gA K "Counter") "board") (NA_Counter_sums:NoAttr K (gA K "Counter") "sums") (NA_Counter_breaks:NoAttr K (gA K "Counter") "breaks") {f:Addr}{fd:FuncData}(F:Fun K "feed" "Counter.feed" zah_ f fd) (len:∀ vs H Q E,z0_ K vs H Q E→vs.length=2)
  (rd:∀ vs H Q E,z0_ K vs H Q E→zbw_ K { nx:=fun _ H'=>Q .non H',rt:=Q } (start Qn27 vs) H):FnOk P w K mg base CX0 5 f fd Qn30 (z0_ K):=by
 refine F.ok zbn_ len (fun cdv A outer s H vs Q E hr h=>⟨_,zf3_ G_Counter_close_levels G_Counter_changed_level G_mark_of G_lay_out G_Counter_raise_level G_number_of B_len CL_Counter NA_Counter_before NA_Counter_board NA_Counter_sums NA_Counter_breaks hr,rd vs H Q E h⟩)
theorem zfz_:FnScope Qn21 Qn22 (defScope zbg_):=⟨rfl,rfl,rfl,by decide +kernel,rfl,by decide +kernel,by decide +kernel⟩
theorem zhz_ (B_min:Gb mg "min") {cdv:Value}{A:Around}{outer:List Env}{s:Shared}{H:Hp}{E:XK}{f:Addr}(hr:Room 0 (A.deeper (envOfC "_law_field" (defScope zbg_) s.heap.objs.size f cdv))) :
  (PSs (cxOf CX0 P w K mg base Qn21 "_law_field" (defScope zbg_) f cdv A outer s H E).nox (defBody zbg_) (zcM_ K)) := 
 (ze_ (zY_ (i:=2) zfz_.nd rfl (by first | exact Or.inl rfl | exact Or.inr rfl) (zap_ zal_ zl_ (zap_ za0_ (zap_ zdj_ (za_ 0) zl_) zl_))) (zq_ (zaV_ (zqn_ (zc_ (za_ 2) (zc_ (zhd_ (ziB_ rfl) B_min (zc_ zl_ (zc_ (zap_ zal_ (za_ 2) (zap_ za0_ (zap_ zdj_ (za_ 0) zl_) (za_ 1))) zn_))) zn_))))))
theorem zhX_ (B_min:Gb mg "min") {f:Addr}{fd:FuncData}(F:Fun K "_law_field" "_law_field" zbg_ f fd) (len:∀ vs H Q E,zaB_ K vs H Q E→vs.length=2)
  (rd:∀ vs H Q E,zaB_ K vs H Q E→zcM_ K { nx:=fun _ H'=>Q .non H',rt:=Q } (start Qn21 vs) H):FnOk P w K mg base CX0 1 f fd Qn22 (zaB_ K):=by
 refine F.ok zfz_ len (fun cdv A outer s H vs Q E hr h=>⟨_,zhz_ B_min hr,rd vs H Q E h⟩)
theorem zaG_:FnScope Qn2 Qn18 (defScope zbB_):=⟨rfl,rfl,rfl,by decide +kernel,rfl,by decide +kernel,by decide +kernel⟩
theorem zje_ (G_law_stream:Gd P w K mg base CX0 1 "_law_stream" Qn17 (zA_ K)) (B_range:Gb mg "range") {cdv:Value}{A:Around}{outer:List Env}{s:Shared}{H:Hp}{E:XK}{f:Addr}(hr:Room 1 (A.deeper (envOfC "_law_card" (defScope zbB_) s.heap.objs.size f cdv))) :
  (PSs (cxOf CX0 P w K mg base Qn2 "_law_card" (defScope zbB_) f cdv A outer s H E).nox (defBody zbB_) (zdz_ K)) := 
 (ze_ (zY_ (i:=3) zaG_.nd rfl (by first | exact Or.inl rfl | exact Or.inr rfl) (zd8_ (l:=SG))) (ze_ (zY_ (i:=4) zaG_.nd rfl (by first | exact Or.inl rfl | exact Or.inr rfl) (zH_ G_law_stream (hr.mono (j:=1) (by decide)) (zc_ (za_ 0) (zc_ zl_ zn_)))) (ze_ (zY_ (i:=5) zaG_.nd rfl (by first | exact Or.inl rfl | exact Or.inr rfl) (zd8_ (l:=[]))) (ze_ (zdR_ PassesOwn.never rfl (zdY_ B_range (zc_ zl_ zn_)) (zU_ (i:=6) zaG_.nd rfl (by first | exact Or.inl rfl | exact Or.inr rfl)) (ze_ (zY_ (i:=7) zaG_.nd rfl (by first | exact Or.inl rfl | exact Or.inr rfl) (zap_ zdj_ (zc5_ ix_M (za_ 4) (za_ 6) (fun _ _=>rfl)) zl_)) (ze_ (zY_ (i:=8) zaG_.nd rfl (by first | exact Or.inl rfl | exact Or.inr rfl) (zap_ zdj_ (zc5_ ix_M (za_ 2) (za_ 6) (fun _ _=>rfl)) zl_)) (ze_ (zY_ (i:=9) zaG_.nd rfl (by first | exact Or.inl rfl | exact Or.inr rfl) (zap_ zal_ (za_ 8) (zap_ za0_ (za_ 7) zl_))) (ze_ (zY_ (i:=10) zaG_.nd rfl (by first | exact Or.inl rfl | exact Or.inr rfl) (zfO_ (zc_ (zap_ zal_ zl_ (zap_ za0_ (za_ 8) zl_)) (zc_ (zap_ zal_ zl_ (zap_ za0_ (za_ 7) zl_)) (zc_ (zap_ za0_ (za_ 9) zl_) (zc_ (zap_ za0_ (za_ 7) zl_) (zc_ (zap_ zal_ zl_ (zap_ za0_ (za_ 9) zl_)) zn_))))))) (zq_ (zY_ (i:=5) zaG_.nd rfl (by first | exact Or.inl rfl | exact Or.inr rfl) (zap_ zal_ (za_ 5) (zc5_ ix_M (za_ 3) (zc5_ ix_M (za_ 10) (zap_ za0_ (zc5_ ix_M (za_ 2) (za_ 6) (fun _ _=>rfl)) zl_) (fun _ _=>rfl)) (fun _ _=>rfl)))))))))) (ze_ (zY_ (i:=11) zaG_.nd rfl (by first | exact Or.inl rfl | exact Or.inr rfl) (zap_ zal_ (zap_ zal_ (zc5_ ix_M (za_ 3) (zap_ za0_ (za_ 0) zl_) (fun _ _=>rfl)) (zc5_ ix_M (za_ 3) (zap_ za0_ (za_ 1) zl_) (fun _ _=>rfl))) (zc5_ ix_M (za_ 3) (zap_ za0_ (zc5_ ix_M (za_ 4) zl_ (fun _ _=>rfl)) zl_) (fun _ _=>rfl)))) (zq_ (zaV_ (zap_ zal_ (zap_ zal_ (za_ 5) (za_ 11)) (zc5_ ix_M (za_ 3) (zap_ za0_ (zap_ zdj_ (za_ 0) zl_) zl_) (fun _ _=>rfl))))))))))
theorem zi7_ (G_law_stream:Gd P w K mg base CX0 1 "_law_stream" Qn17 (zA_ K)) (B_range:Gb mg "range") {f:Addr}{fd:FuncData}(F:Fun K "_law_card" "_law_card" zbB_ f fd) (len:∀ vs H Q E,za7_ K vs H Q E→vs.length=3)
  (rd:∀ vs H Q E,za7_ K vs H Q E→zdz_ K { nx:=fun _ H'=>Q .non H',rt:=Q } (start Qn2 vs) H):FnOk P w K mg base CX0 2 f fd Qn18 (za7_ K):=by
 refine F.ok zaG_ len (fun cdv A outer s H vs Q E hr h=>⟨_,zje_ G_law_stream B_range hr,rd vs H Q E h⟩)
theorem zeB_:FnScope Qn25 Qn32 (defScope zaJ_):=⟨rfl,rfl,rfl,by decide +kernel,rfl,by decide +kernel,by decide +kernel⟩
theorem zgR_  {cdv:Value}{A:Around}{outer:List Env}{s:Shared}{H:Hp}{E:XK}{f:Addr}(hr:Room 0 (A.deeper (envOfC "_law_untold" (defScope zaJ_) s.heap.objs.size f cdv))) :
  (PSs (cxOf CX0 P w K mg base Qn25 "_law_untold" (defScope zaJ_) f cdv A outer s H E).nox (defBody zaJ_) (zco_ K)) := 
 (ze_ (zdR_ PassesOwn.never rfl (zdL_ (za_ 0)) (zU_ (i:=2) zeB_.nd rfl (by first | exact Or.inl rfl | exact Or.inr rfl)) (zq_ (zev_ (zkP_ (zf7_ (zc5_ ix_M (za_ 1) (za_ 2) (fun _ _=>rfl)))) (zq_ (zaV_ zlb_)) zcA_))) (zq_ (zaV_ zlb_)))
theorem zgV_  {f:Addr}{fd:FuncData}(F:Fun K "_law_untold" "_law_untold" zaJ_ f fd) (len:∀ vs H Q E,zam_ K vs H Q E→vs.length=2)
  (rd:∀ vs H Q E,zam_ K vs H Q E→zco_ K { nx:=fun _ H'=>Q .non H',rt:=Q } (start Qn25 vs) H):FnOk P w K mg base CX0 1 f fd Qn32 (zam_ K):=by
 refine F.ok zeB_ len (fun cdv A outer s H vs Q E hr h=>⟨_,zgR_  hr,rd vs H Q E h⟩)
theorem zci_:FnScope Qn11 Qn19 (defScope zbf_):=⟨rfl,rfl,rfl,by decide +kernel,rfl,by decide +kernel,by decide +kernel⟩
theorem zh3_ (B_range:Gb mg "range") {cdv:Value}{A:Around}{outer:List Env}{s:Shared}{H:Hp}{E:XK}{f:Addr}(hr:Room 0 (A.deeper (envOfC "_law_shown" (defScope zbf_) s.heap.objs.size f cdv))) :
  (PSs (cxOf CX0 P w K mg base Qn11 "_law_shown" (defScope zbf_) f cdv A outer s H E).nox (defBody zbf_) (zcF_ K)) := 
 (ze_ (zY_ (i:=2) zci_.nd rfl (by first | exact Or.inl rfl | exact Or.inr rfl) (zd8_ (l:=[]))) (ze_ (zdR_ PassesOwn.never rfl (zdY_ B_range (zc_ (za_ 1) zn_)) (zU_ (i:=3) zci_.nd rfl (by first | exact Or.inl rfl | exact Or.inr rfl)) (ze_ (zY_ (i:=2) zci_.nd rfl (by first | exact Or.inl rfl | exact Or.inr rfl) (zap_ zal_ (zc5_ ix_M (zd8_ (l:=[48,49,50,51,52,53,54,55,56,57])) (zap_ za0_ (za_ 0) zl_) (fun _ _=>rfl)) (za_ 2))) (zq_ (zY_ (i:=0) zci_.nd rfl (by first | exact Or.inl rfl | exact Or.inr rfl) (zap_ zdj_ (za_ 0) zl_))))) (zq_ (zaV_ (za_ 2)))))
theorem zhY_ (B_range:Gb mg "range") {f:Addr}{fd:FuncData}(F:Fun K "_law_shown" "_law_shown" zbf_ f fd) (len:∀ vs H Q E,zaP_ K vs H Q E→vs.length=2)
  (rd:∀ vs H Q E,zaP_ K vs H Q E→zcF_ K { nx:=fun _ H'=>Q .non H',rt:=Q } (start Qn11 vs) H):FnOk P w K mg base CX0 1 f fd Qn19 (zaP_ K):=by
 refine F.ok zci_ len (fun cdv A outer s H vs Q E hr h=>⟨_,zh3_ B_range hr,rd vs H Q E h⟩)
theorem zbG_:FnScope Qn6 Qn8 (defScope z1_):=⟨rfl,rfl,rfl,by decide +kernel,rfl,by decide +kernel,by decide +kernel⟩
theorem zfw_ (G_law_shown:Gd P w K mg base CX0 1 "_law_shown" Qn19 (zaP_ K)) (B_range:Gb mg "range") (B_len:Gb mg "len") {cdv:Value}{A:Around}{outer:List Env}{s:Shared}{H:Hp}{E:XK}{f:Addr}(hr:Room 1 (A.deeper (envOfC "_law_last_line" (defScope z1_) s.heap.objs.size f cdv))) :
  (PSs (cxOf CX0 P w K mg base Qn6 "_law_last_line" (defScope z1_) f cdv A outer s H E).nox (defBody z1_) (zbm_ K)) := 
 (ze_ (zdR_ PassesOwn.never rfl (zdY_ B_range (zc_ (zhd_ zbp_ B_len (zc_ (za_ 1) zn_)) zn_)) (zU_ (i:=4) zbG_.nd rfl (by first | exact Or.inl rfl | exact Or.inr rfl)) (ze_ (zY_ (i:=5) zbG_.nd rfl (by first | exact Or.inl rfl | exact Or.inr rfl) (zap_ zbO_ (zhd_ zbp_ B_len (zc_ (za_ 0) zn_)) (zap_ zdA_ (zap_ zal_ (za_ 3) zl_) (zap_ zbO_ (zap_ zbO_ (zhd_ zbp_ B_len (zc_ (za_ 1) zn_)) zl_) (za_ 4))))) (ze_ (zY_ (i:=6) zbG_.nd rfl (by first | exact Or.inl rfl | exact Or.inr rfl) (zap_ zal_ (zd8_ (l:=[32])) (zH_ G_law_shown (hr.mono (j:=1) (by decide)) (zc_ (zc5_ ix_M (za_ 1) (za_ 4) (fun _ _=>rfl)) (zc_ (za_ 3) zn_))))) (zq_ (zev_ (PW.pt (zo5_ (zkP_ (zf7_ (zc5_ ix_M (za_ 2) (za_ 4) (fun _ _=>rfl)))) (zn1_ (zdU_ zo2_ (zc1_ sl_M (za_ 0) (po_M (zap_ zbO_ (zap_ zbO_ (za_ 5) (za_ 3)) zl_)) (po_M (za_ 5))) (za_ 6))))) (zq_ (zaV_ zlb_)) zcA_))))) (zq_ (zaV_ zlb_)))
theorem zfe_ (G_law_shown:Gd P w K mg base CX0 1 "_law_shown" Qn19 (zaP_ K)) (B_range:Gb mg "range") (B_len:Gb mg "len") {f:Addr}{fd:FuncData}(F:Fun K "_law_last_line" "_law_last_line" z1_ f fd) (len:∀ vs H Q E,zS_ K vs H Q E→vs.length=4)
  (rd:∀ vs H Q E,zS_ K vs H Q E→zbm_ K { nx:=fun _ H'=>Q .non H',rt:=Q } (start Qn6 vs) H):FnOk P w K mg base CX0 2 f fd Qn8 (zS_ K):=by
 refine F.ok zbG_ len (fun cdv A outer s H vs Q E hr h=>⟨_,zfw_ G_law_shown B_range B_len hr,rd vs H Q E h⟩)
theorem zcr_:FnScope Qn12 Qn24 (defScope zaN_):=⟨rfl,rfl,rfl,by decide +kernel,rfl,by decide +kernel,by decide +kernel⟩
theorem zhe_ (B_max:Gb mg "max") {cdv:Value}{A:Around}{outer:List Env}{s:Shared}{H:Hp}{E:XK}{f:Addr}(hr:Room 0 (A.deeper (envOfC "_law_number" (defScope zaN_) s.heap.objs.size f cdv))) :
  (PSs (cxOf CX0 P w K mg base Qn12 "_law_number" (defScope zaN_) f cdv A outer s H E).nox (defBody zaN_) (zcm_ K)) := 
 (ze_ (zY_ (i:=2) zcr_.nd rfl (by first | exact Or.inl rfl | exact Or.inr rfl) zl_) (ze_ (zdR_ PassesOwn.never rfl (zdL_ (zc1_ sl_M (za_ 0) (po_M (zap_ zbO_ (zc5_ ix_M (za_ 1) zl_ (fun _ _=>rfl)) zl_)) (po_M (zc5_ ix_M (za_ 1) zl_ (fun _ _=>rfl))))) (zU_ (i:=3) zcr_.nd rfl (by first | exact Or.inl rfl | exact Or.inr rfl)) (zq_ (zY_ (i:=2) zcr_.nd rfl (by first | exact Or.inl rfl | exact Or.inr rfl) (zap_ zal_ (zap_ zdA_ zl_ (za_ 2)) (zhd_ (zif_ rfl) B_max (zc_ zl_ (zc_ (znR_ PySem.F.slot_str_find PySem.F.type_str_find znY_ (zd8_ (l:=[48,49,50,51,52,53,54,55,56,57])) (zc_ (za_ 3) zn_)) zn_))))))) (zq_ (zaV_ (za_ 2)))))
theorem zgS_ (B_max:Gb mg "max") {f:Addr}{fd:FuncData}(F:Fun K "_law_number" "_law_number" zaN_ f fd) (len:∀ vs H Q E,zar_ K vs H Q E→vs.length=2)
  (rd:∀ vs H Q E,zar_ K vs H Q E→zcm_ K { nx:=fun _ H'=>Q .non H',rt:=Q } (start Qn12 vs) H):FnOk P w K mg base CX0 1 f fd Qn24 (zar_ K):=by
 refine F.ok zcr_ len (fun cdv A outer s H vs Q E hr h=>⟨_,zhe_ B_max hr,rd vs H Q E h⟩)
theorem zcb_:FnScope Qn1 ["_law_script"] (defScope zjm_):=⟨rfl,rfl,rfl,by decide +kernel,rfl,by decide +kernel,by decide +kernel⟩
theorem zqV_ (G_law_kinds:Gd P w K mg base CX0 2 "_law_kinds" ["_law_cell"] (zaK_ K)) (G_law_cell_at:Gd P w K mg base CX0 1 "_law_cell_at" Qn15 (zC_ K)) (G_law_stream:Gd P w K mg base CX0 1 "_law_stream" Qn17 (zA_ K)) (G_law_field:Gd P w K mg base CX0 1 "_law_field" Qn22 (zaB_ K)) (G_law_card:Gd P w K mg base CX0 2 "_law_card" Qn18 (za7_ K)) (G_law_figures:Gd P w K mg base CX0 1 "_law_figures" Qn16 (zaj_ K)) (G_may_run_over:Gd P w K mg base CX0 2 "may_run_over" Qn13 (z3_ K)) (G_Counter___init__:Gk P w K mg base CX0 4 "Counter" (gA K "Counter") Qn4 (zD_ K)) (G_Counter_feed:Gm P w K mg base CX0 5 (gA K "Counter") "feed" Qn30 (z0_ K)) (G_law_number:Gd P w K mg base CX0 1 "_law_number" Qn24 (zar_ K)) (G_law_untold:Gd P w K mg base CX0 1 "_law_untold" Qn32 (zam_ K)) (G_Counter_overs:Gm P w K mg base CX0 1 (gA K "Counter") "overs" Qn3 (zL_ K)) (G_Counter_finish:Gm P w K mg base CX0 5 (gA K "Counter") "finish" Qn3 (zN_ K)) (G_law_last_line:Gd P w K mg base CX0 2 "_law_last_line" Qn8 (zS_ K)) (B_enumerate:Gb mg "enumerate") (B_len:Gb mg "len") (B_zip:Gb mg "zip") {cdv:Value}{A:Around}{outer:List Env}{s:Shared}{H:Hp}{E:XK}{f:Addr}(hr:Room 5 (A.deeper (envOfC "law" (defScope zjm_) s.heap.objs.size f cdv))) :
  (PSs (cxOf CX0 P w K mg base Qn1 "law" (defScope zjm_) f cdv A outer s H E).nox (defBody zjm_) (zoL_ K)) := 
 (ze_ (zY_ (i:=1) zcb_.nd rfl (by first | exact Or.inl rfl | exact Or.inr rfl) (zH_ G_law_kinds (hr.mono (j:=2) (by decide)) (zc_ (zH_ G_law_cell_at (hr.mono (j:=1) (by decide)) (zc_ (za_ 0) (zc_ zl_ zn_))) zn_))) (ze_ (zY_ (i:=2) zcb_.nd rfl (by first | exact Or.inl rfl | exact Or.inr rfl) (zap_ za0_ (zH_ G_law_cell_at (hr.mono (j:=1) (by decide)) (zc_ (za_ 0) (zc_ zl_ zn_))) zl_)) (ze_ (zdu_ (cl:=[]) (lv:=Qn33) (fr:=[]) rfl ⟨rfl,by decide +kernel,rfl,by decide +kernel,(by intro q hq; cases hq)⟩ (zdL_ (zH_ G_law_stream (hr.mono (j:=1) (by decide)) (zc_ (zH_ G_law_cell_at (hr.mono (j:=1) (by decide)) (zc_ (za_ 0) (zc_ zl_ zn_))) (zc_ (za_ 2) zn_)))) (fun _ _ _ _=>(zU_ (i:=0) (show List.Nodup (Qn33:List Str) from by decide +kernel) rfl (Or.inl rfl))) (fun _ _ _ _=>zcG_) (fun _ _ _ _=>(zH_ G_law_field (hr.mono (j:=1) (by decide)) (zc_ (za_ 0) (zc_ zl_ zn_)))) (zU_ (i:=3) zcb_.nd rfl (by first | exact Or.inl rfl | exact Or.inr rfl))) (ze_ (zY_ (i:=4) zcb_.nd rfl (by first | exact Or.inl rfl | exact Or.inr rfl) (zH_ G_law_cell_at (hr.mono (j:=1) (by decide)) (zc_ (za_ 0) (zc_ zl_ zn_)))) (ze_ (zY_ (i:=5) zcb_.nd rfl (by first | exact Or.inl rfl | exact Or.inr rfl) (zc5_ ix_M (zfO_ (zc_ zl_ (zc_ zl_ zn_))) (zap_ za0_ (zap_ zdj_ (za_ 4) zl_) zl_) (fun _ _=>rfl))) (ze_ (zdu_ (cl:=_) (lv:=Qn33) (fr:=[("_law_most",5)]) rfl ⟨rfl,by decide +kernel,rfl,by decide +kernel,(zed_ (by refine ⟨rfl,by decide +kernel,?_,?_⟩<;>first | exact Or.inl rfl | exact Or.inr rfl) zht_)⟩ (zdL_ (zH_ G_law_stream (hr.mono (j:=1) (by decide)) (zc_ (za_ 4) (zc_ (zap_ zal_ zl_ (zap_ za0_ (za_ 4) zl_)) zn_)))) (fun _ _ _ _=>(zU_ (i:=0) (show List.Nodup (Qn22:List Str) from by decide +kernel) rfl (Or.inl rfl))) (fun _ _ _ _=>zcG_) (fun _ _ _ _=>(zH_ G_law_field (hr.mono (j:=1) (by decide)) (zc_ (za_ 0) (zc_ (za_ 1) zn_)))) (zU_ (i:=6) zcb_.nd rfl (by first | exact Or.inl rfl | exact Or.inr rfl))) (ze_ (zY_ (i:=7) zcb_.nd rfl (by first | exact Or.inl rfl | exact Or.inr rfl) (zc5_ ix_M (za_ 6) zl_ (fun _ _=>rfl))) (ze_ (zY_ (i:=8) zcb_.nd rfl (by first | exact Or.inl rfl | exact Or.inr rfl) (ziC_ znk_ (zap_ za0_ (zap_ zdj_ (zH_ G_law_cell_at (hr.mono (j:=1) (by decide)) (zc_ (za_ 0) (zc_ zl_ zn_))) zl_) zl_) zl_)) (ze_ (zY_ (i:=9) zcb_.nd rfl (by first | exact Or.inl rfl | exact Or.inr rfl) (zfO_ zn_)) (ze_ (zdR_ PassesOwn.never rfl (zhM_ (by rfl) B_enumerate (zc_ (zc1_ sl_M (za_ 0) (po_M zl_) (po_M zl_)) zn_)) (ziP_ (n:=2) rfl (zcv_ (zU_ (i:=10) zcb_.nd rfl (by first | exact Or.inl rfl | exact Or.inr rfl)) (zcv_ (zU_ (i:=11) zcb_.nd rfl (by first | exact Or.inl rfl | exact Or.inr rfl)) zgA_))) (ze_ (zY_ (i:=12) zcb_.nd rfl (by first | exact Or.inl rfl | exact Or.inr rfl) (zH_ G_law_card (hr.mono (j:=2) (by decide)) (zc_ (za_ 11) (zc_ (za_ 10) (zc_ (za_ 1) zn_))))) (ze_ (zev_ (zqU_ (za_ 8)) (ze_ (zY_ (i:=13) zcb_.nd rfl (by first | exact Or.inl rfl | exact Or.inr rfl) (zc1_ sl_M (za_ 12) (po_M (zc5_ ix_M (za_ 7) zl_ (fun _ _=>rfl))) zgK_)) (zq_ (zY_ (i:=12) zcb_.nd rfl (by first | exact Or.inl rfl | exact Or.inr rfl) (zap_ zal_ (zc1_ sl_M (zap_ zal_ (zc1_ sl_M (za_ 12) zgK_ (po_M (zap_ zbO_ (zc5_ ix_M (za_ 7) zl_ (fun _ _=>rfl)) zl_))) (zap_ zdA_ (zd8_ (l:=[57])) zl_)) zgK_ (po_M (zc5_ ix_M (za_ 7) zl_ (fun _ _=>rfl)))) (za_ 13))))) zcA_) (zq_ (zdo_ (zm9_ PySem.F.plainAttrs_list PySem.F.slot_list_append PySem.F.type_list_append zef_ (za_ 9) (zc_ (za_ 12) zn_))))))) (ze_ (zY_ (i:=14) zcb_.nd rfl (by first | exact Or.inl rfl | exact Or.inr rfl) (zH_ G_law_figures (hr.mono (j:=1) (by decide)) (zc_ (zH_ G_law_cell_at (hr.mono (j:=1) (by decide)) (zc_ (za_ 0) (zc_ zl_ zn_))) (zc_ (za_ 7) (zc_ (zhd_ zbp_ B_len (zc_ (za_ 9) zn_)) zn_))))) (ze_ (zY_ (i:=15) zcb_.nd rfl (by first | exact Or.inl rfl | exact Or.inr rfl) (zH_ G_may_run_over (hr.mono (j:=2) (by decide)) (zc_ (za_ 6) (zc_ (za_ 14) (zc_ (zhd_ zbp_ B_len (zc_ (za_ 9) zn_)) zn_))))) (ze_ (zY_ (i:=16) zcb_.nd rfl (by first | exact Or.inl rfl | exact Or.inr rfl) (zkx_ G_Counter___init__ (hr.mono (j:=4+1) (by decide)) (zc_ (za_ 3) (zc_ (za_ 6) (zc_ (za_ 14) (zc_ (zfO_ zn_) zn_)))))) (ze_ (zY_ (i:=17) zcb_.nd rfl (by first | exact Or.inl rfl | exact Or.inr rfl) (zap_ zdA_ (zfO_ (zc_ zl_ zn_)) (zhd_ zbp_ B_len (zc_ (za_ 6) zn_)))) (ze_ (zdR_ PassesOwn.never rfl (zdL_ (za_ 9)) (zU_ (i:=12) zcb_.nd rfl (by first | exact Or.inl rfl | exact Or.inr rfl)) (ze_ (zdo_ (zcx_ G_Counter_feed (hr.mono (j:=5) (by decide)) (za_ 16) (zc_ (za_ 12) zn_))) (zq_ (zdu_ (cl:=_) (lv:=["_law_total", "_law_field_here"]) (fr:=[("_law_card_here",12)]) rfl ⟨rfl,by decide +kernel,rfl,by decide +kernel,(zed_ (by refine ⟨rfl,by decide +kernel,?_,?_⟩<;>first | exact Or.inl rfl | exact Or.inr rfl) zht_)⟩ (zqg_ B_zip (zc_ (za_ 17) (zc_ (za_ 6) zn_))) (fun _ _ _ _=>(ziP_ (n:=2) rfl (zcv_ (zU_ (i:=0) (show List.Nodup (["_law_total", "_law_field_here", "_law_card_here"]:List Str) from by decide +kernel) rfl (Or.inl rfl)) (zcv_ (zU_ (i:=1) (show List.Nodup (["_law_total", "_law_field_here", "_law_card_here"]:List Str) from by decide +kernel) rfl (Or.inl rfl)) zgA_)))) (fun _ _ _ _=>zcG_) (fun _ _ _ _=>(zap_ zal_ (za_ 0) (zH_ G_law_number (hr.mono (j:=1) (by decide)) (zc_ (za_ 2) (zc_ (za_ 1) zn_))))) (zU_ (i:=17) zcb_.nd rfl (by first | exact Or.inl rfl | exact Or.inr rfl)))))) (ze_ (zev_ (zkP_ (zf7_ (zH_ G_law_untold (hr.mono (j:=1) (by decide)) (zc_ (zc2_ G_Counter_overs (hr.mono (j:=1) (by decide)) (za_ 16)) (zc_ (za_ 15) zn_))))) (zq_ (zaV_ zlb_)) zcA_) (ze_ (zY_ (i:=18) zcb_.nd rfl (by first | exact Or.inl rfl | exact Or.inr rfl) (zc2_ G_Counter_finish (hr.mono (j:=5) (by decide)) (za_ 16))) (ze_ (zY_ (i:=19) zcb_.nd rfl (by first | exact Or.inl rfl | exact Or.inr rfl) (zc2_ G_Counter_overs (hr.mono (j:=1) (by decide)) (za_ 16))) (ze_ (zev_ (PW.pt (zqX_ (zkP_ (zf7_ (zH_ G_law_untold (hr.mono (j:=1) (by decide)) (zc_ (za_ 19) (zc_ (za_ 15) zn_))))) (zpW_ (zkP_ (zf7_ (zH_ G_law_last_line (hr.mono (j:=2) (by decide)) (zc_ (zc5_ ix_M (za_ 18) (zpq_ zl_) (fun _ _=>rfl)) (zc_ (za_ 17) (zc_ (za_ 15) (zc_ (za_ 14) zn_)))))))))) (zq_ (zaV_ zlb_)) zcA_) (zq_ (zaV_ (zqz_ (zo6_ (za_ 8)) (zp5_ (ziC_ znk_ (zc5_ ix_M (za_ 15) zl_ (fun _ _=>rfl)) (ziC_ zoH_ zl_ (za_ 19))))))))))))))))))))))))))
theorem zqx_ (G_law_kinds:Gd P w K mg base CX0 2 "_law_kinds" ["_law_cell"] (zaK_ K)) (G_law_cell_at:Gd P w K mg base CX0 1 "_law_cell_at" Qn15 (zC_ K)) (G_law_stream:Gd P w K mg base CX0 1 "_law_stream" Qn17 (zA_ K)) (G_law_field:Gd P w K mg base CX0 1 "_law_field" Qn22 (zaB_ K)) (G_law_card:Gd P w K mg base CX0 2 "_law_card" Qn18 (za7_ K)) (G_law_figures:Gd P w K mg base CX0 1 "_law_figures" Qn16 (zaj_ K)) (G_may_run_over:Gd P w K mg base CX0 2 "may_run_over" Qn13 (z3_ K)) (G_Counter___init__:Gk P w K mg base CX0 4 "Counter" (gA K "Counter") Qn4 (zD_ K)) (G_Counter_feed:Gm P w K mg base CX0 5 (gA K "Counter") "feed" Qn30 (z0_ K)) (G_law_number:Gd P w K mg base CX0 1 "_law_number" Qn24 (zar_ K)) (G_law_untold:Gd P w K mg base CX0 1 "_law_untold" Qn32 (zam_ K)) (G_Counter_overs:Gm P w K mg base CX0 1 (gA K "Counter") "overs" Qn3 (zL_ K)) (G_Counter_finish:Gm P w K mg base CX0 5 (gA K "Counter") "finish" Qn3 (zN_ K)) (G_law_last_line:Gd P w K mg base CX0 2 "_law_last_line" Qn8 (zS_ K)) (B_enumerate:Gb mg "enumerate") (B_len:Gb mg "len") (B_zip:Gb mg "zip") {f:Addr}{fd:FuncData}(F:Fun K "law" "law" zjm_ f fd) (len:∀ vs H Q E,zhg_ K vs H Q E→vs.length=1)
  (rd:∀ vs H Q E,zhg_ K vs H Q E→zoL_ K { nx:=fun _ H'=>Q .non H',rt:=Q } (start Qn1 vs) H):FnOk P w K mg base CX0 6 f fd ["_law_script"] (zhg_ K):=by
 refine F.ok zcb_ len (fun cdv A outer s H vs Q E hr h=>⟨_,zqV_ G_law_kinds G_law_cell_at G_law_stream G_law_field G_law_card G_law_figures G_may_run_over G_Counter___init__ G_Counter_feed G_law_number G_law_untold G_Counter_overs G_Counter_finish G_law_last_line B_enumerate B_len B_zip hr,rd vs H Q E h⟩)
end
end K36
namespace K36
open PySem PySem.Spec PyProof.Rows L2
theorem zlF_ {K:Fgg}{E:XK}(c:Int):EvS K (zfx_ K) E [(Sl.fz tyInt c),Sl.dead,Sl.dead] (zgl_ c) (fun _:Unit=>[]) (fun _:Unit=>[]) (owF tyInt) :=
 (zcN_ (i:=1) rfl zb_ (zm_ 1) fun value_1=>(at_ [(Sl.fz tyInt c),(Sl.fz tyInt value_1),Sl.dead] (zex_ (LS:=(fun s_2:Int=>[(Sl.fz tyInt c),(Sl.fz tyInt s_2),Sl.dead])) (zdb_ (L':=[(Sl.fz tyInt c),(Sl.fz tyInt value_1),Sl.dead]) (.same (.same (.same .nil))) (zjg_ (LS:=(fun s_2:Int=>[(Sl.fz tyInt c),(Sl.fz tyInt s_2),Sl.dead])) (s0:=value_1) (zfD_ (zg_ (zd_ 0 rfl))) (zaD_ 2) fun s_2 x_4=>at_ [(Sl.fz tyInt c),(Sl.fz tyInt s_2),(Sl.fz tyInt x_4)] (ze4_ (zcN_ (i:=1) rfl zb_ (zM_ zdl_ (zd_ 1 rfl) (zm_ 10)) fun value_5=>(at_ [(Sl.fz tyInt c),(Sl.fz tyInt value_5),(Sl.fz tyInt x_4)] (zZ_ (.same (.same (.dead .nil))))))))) fun s_2=>(at_ [(Sl.fz tyInt c),(Sl.fz tyInt s_2),Sl.dead] (zdV_ (zt_ zb_) (EvF.ow (zd_ 1 rfl)))))))
theorem zlT_ {K:Fgg}:RD_ten_to K:=zez_ (K:=K) (N:=["power", "value", "step"]) (C:=(csLast tyInt)) (O:=(owF tyInt)) (t:=fun E=>zfx_ K) (ss:=fun c=>[(Sl.fz tyInt c)]) (f:=fun c=>zgl_ c) 1 2 zf_ rfl zJ_ fun c E=>zlF_ c
theorem zeJ_ {K:Fgg}{E:XK}(w_:V) (x:Unit) (c:Int):EvS K (za5_ K) E [(Sl.ow (owAt w_ (owI (gA K "Wheel") [] psNil)) x),(Sl.fz tyInt c)] (zbx_ x c) (fun x':Qq6=>[(Sl.ow (owAt w_ (Qq4 K)) x'),Sl.dead]) (fun _:Unit=>[]) (owRM w_ (Qq4 K) (owF tyNon)) :=
 (zg9_ (P:=psNil) (P':=(psO (owF tyInt) psNil)) (ad:=fun c z=>(z,())) (ns:=[]) (i:=0) rfl (by decide +kernel) (by decide) zf0_ zb_ (zd_ 1 rfl) fun x_2=>(at_ [(Sl.ow (owAt w_ (owI (gA K "Wheel") ["figures"] (psO (owF tyInt) psNil))) x_2),(Sl.fz tyInt c)] (zg9_ (P:=(psO (owF tyInt) psNil)) (P':=(psO (owF tyInt) (psO (owF tyInt) psNil))) (ad:=fun c z=>(c.1,(z,()))) (ns:=["figures"]) (i:=0) rfl (by decide +kernel) (by decide) (zcz_ zf0_) zb_ (zF_ (zg_ (zd_ 1 rfl))) fun x_4=>(at_ [(Sl.ow (owAt w_ (owI (gA K "Wheel") ["figures", "power"] (psO (owF tyInt) (psO (owF tyInt) psNil)))) x_4),(Sl.fz tyInt c)] (zg9_ (P:=(psO (owF tyInt) (psO (owF tyInt) psNil))) (P':=(psO (owF tyInt) (psO (owF tyInt) (psO (owF tyInt) psNil)))) (ad:=fun c z=>(c.1,(c.2.1,(z,())))) (ns:=["figures", "power"]) (i:=0) rfl (by decide +kernel) (by decide) (zcz_ (zcz_ zf0_)) zb_ (zm_ 0) fun x_6=>(at_ [(Sl.ow (owAt w_ (owI (gA K "Wheel") ["figures", "power", "kept"] (psO (owF tyInt) (psO (owF tyInt) (psO (owF tyInt) psNil))))) x_6),(Sl.fz tyInt c)] (ze4_ (zg9_ (P:=(psO (owF tyInt) (psO (owF tyInt) (psO (owF tyInt) psNil)))) (P':=(psO (owF tyInt) (psO (owF tyInt) (psO (owF tyInt) (psO (owF tyBl) psNil))))) (ad:=fun c z=>(c.1,(c.2.1,(c.2.2.1,(z,()))))) (ns:=["figures", "power", "kept"]) (i:=0) rfl (by decide +kernel) (by decide) (zcz_ (zcz_ (zcz_ zf0_))) zaY_ (zla_ false) fun x_8=>(at_ [(Sl.ow (owAt w_ (Qq4 K)) x_8),(Sl.fz tyInt c)] (zZ_ (.same (.dead .nil))))))))))))
theorem zeG_ {K:Fgg}:RD_Wheel___init__ K:=zg5_ (K:=K) (N:=Qn26) (O:=(owI (gA K "Wheel") [] psNil)) (O2:=(Qq4 K)) (Q:=(csLast tyInt)) (t:=fun E=>za5_ K) (ss:=fun c=>[(Sl.fz tyInt c)]) (g:=fun x c=>zbx_ x c) (LS:=fun w_=>(fun x':Qq6=>[(Sl.ow (owAt w_ (Qq4 K)) x'),Sl.dead])) 1 0 zf_ rfl zJ_ (fun _ _=>rfl) fun w_ x c E=>zeJ_ w_ x c
theorem zd7_ {K:Fgg}{E:XK}(w_:V) (x:Unit) (c:((List (Int×Int))×((List (Int×Int))×(Int×(List (Int×Int)))))):EvS K (zaF_ K) E [(Sl.ow (owAt w_ (owI (gA K "Counter") [] psNil)) x),(Sl.fz (tyL Qq2) c.1),(Sl.fz (tyL Qq2) c.2.1),(Sl.fz tyInt c.2.2.1),(Sl.fz (tyL Qq2) c.2.2.2)] (zbc_ x c.1 c.2.1 c.2.2.1 c.2.2.2) (fun x':Qq1=>[(Sl.ow (owAt w_ (Qq0 K)) x'),Sl.dead,Sl.dead,Sl.dead,Sl.dead]) (fun _:Unit=>[]) (owRM w_ (Qq0 K) (owF tyNon)) :=
 (zg8_ (P:=psNil) (P':=(psO (owL Qq2) psNil)) (ad:=fun c z=>(z,())) (ns:=[]) (O1:=(owL Qq2)) (i:=0) rfl (by decide +kernel) (by decide) zf0_ (z2_ (z8_ (zv_ zb_ (zs_ zb_)))) (zlI_ zhH_ (zg_ (zd_ 1 rfl))) fun x_2=>(at_ [(Sl.ow (owAt w_ (owI (gA K "Counter") ["breaks"] (psO (owL Qq2) psNil))) x_2),(Sl.fz (tyL Qq2) c.1),(Sl.fz (tyL Qq2) c.2.1),(Sl.fz tyInt c.2.2.1),(Sl.fz (tyL Qq2) c.2.2.2)] (zg8_ (P:=(psO (owL Qq2) psNil)) (P':=(psO (owL Qq2) (psO (owL Qq2) psNil))) (ad:=fun c z=>(c.1,(z,()))) (ns:=["breaks"]) (O1:=(owL Qq2)) (i:=0) rfl (by decide +kernel) (by decide) (zcz_ zf0_) (z2_ (z8_ (zv_ zb_ (zs_ zb_)))) (zlI_ zhH_ (zg_ (zd_ 2 rfl))) fun x_4=>(at_ [(Sl.ow (owAt w_ (owI (gA K "Counter") ["breaks", "sums"] (psO (owL Qq2) (psO (owL Qq2) psNil)))) x_4),(Sl.fz (tyL Qq2) c.1),(Sl.fz (tyL Qq2) c.2.1),(Sl.fz tyInt c.2.2.1),(Sl.fz (tyL Qq2) c.2.2.2)] (zg8_ (P:=(psO (owL Qq2) (psO (owL Qq2) psNil))) (P':=(psO (owL Qq2) (psO (owL Qq2) (psO (owL Qq2) psNil)))) (ad:=fun c z=>(c.1,(c.2.1,(z,())))) (ns:=["breaks", "sums"]) (O1:=(owL Qq2)) (i:=0) rfl (by decide +kernel) (by decide) (zcz_ (zcz_ zf0_)) (z2_ (z8_ (zv_ zb_ (zs_ zb_)))) (zlI_ zhH_ (zg_ (zd_ 4 rfl))) fun x_6=>(at_ [(Sl.ow (owAt w_ (owI (gA K "Counter") ["breaks", "sums", "board"] (psO (owL Qq2) (psO (owL Qq2) (psO (owL Qq2) psNil))))) x_6),(Sl.fz (tyL Qq2) c.1),(Sl.fz (tyL Qq2) c.2.1),(Sl.fz tyInt c.2.2.1),(Sl.fz (tyL Qq2) c.2.2.2)] (zg8_ (P:=(psO (owL Qq2) (psO (owL Qq2) (psO (owL Qq2) psNil)))) (P':=(psO (owL Qq2) (psO (owL Qq2) (psO (owL Qq2) (psO (owLO (owLO (Qq4 K))) psNil))))) (ad:=fun c z=>(c.1,(c.2.1,(c.2.2.1,(z,()))))) (ns:=["breaks", "sums", "board"]) (O1:=(owLO (owLO (Qq4 K)))) (i:=0) rfl (by decide +kernel) (by decide) (zcz_ (zcz_ (zcz_ zf0_))) (zbt_ (zbt_ (zcy_ (zo_ (zt_ zb_) (zo_ (zt_ zb_) (zo_ (zt_ zb_) (zo_ (zt_ zaY_) zaC_))))))) (zhN_ (zfD_ (zg_ (zM_ za4_ (zg0_ zdT_ (zg_ (zd_ 1 rfl))) (zm_ 1)))) (zaD_ 0) (fun _=>dead1) (fun x_17=>zcC_) (fun x_17=>(zhN_ (ei_l (zd_ 2 rfl)) (zaD_ 0) (fun _=>dead1) (fun x_18=>zcC_) (fun x_18=>(zml_ (zg_ (zd_ 1 rfl))))))) fun x_8=>(at_ [(Sl.ow (owAt w_ (owI (gA K "Counter") ["breaks", "sums", "board", "levels"] (psO (owL Qq2) (psO (owL Qq2) (psO (owL Qq2) (psO (owLO (owLO (Qq4 K))) psNil)))))) x_8),(Sl.fz (tyL Qq2) c.1),(Sl.fz (tyL Qq2) c.2.1),(Sl.fz tyInt c.2.2.1),(Sl.fz (tyL Qq2) c.2.2.2)] (zg9_ (P:=(psO (owL Qq2) (psO (owL Qq2) (psO (owL Qq2) (psO (owLO (owLO (Qq4 K))) psNil))))) (P':=(psO (owL Qq2) (psO (owL Qq2) (psO (owL Qq2) (psO (owLO (owLO (Qq4 K))) (psO (owF (tyOpt tyStr)) psNil)))))) (ad:=fun c z=>(c.1,(c.2.1,(c.2.2.1,(c.2.2.2.1,(z,())))))) (ns:=["breaks", "sums", "board", "levels"]) (i:=0) rfl (by decide +kernel) (by decide) (zcz_ (zcz_ (zcz_ (zcz_ zf0_)))) (zdw_ zB_) zpc_ fun x_10=>(at_ [(Sl.ow (owAt w_ (owI (gA K "Counter") ["breaks", "sums", "board", "levels", "before"] (psO (owL Qq2) (psO (owL Qq2) (psO (owL Qq2) (psO (owLO (owLO (Qq4 K))) (psO (owF (tyOpt tyStr)) psNil))))))) x_10),(Sl.fz (tyL Qq2) c.1),(Sl.fz (tyL Qq2) c.2.1),(Sl.fz tyInt c.2.2.1),(Sl.fz (tyL Qq2) c.2.2.2)] (ze4_ (zg8_ (P:=(psO (owL Qq2) (psO (owL Qq2) (psO (owL Qq2) (psO (owLO (owLO (Qq4 K))) (psO (owF (tyOpt tyStr)) psNil)))))) (P':=(Qq7 K)) (ad:=fun c z=>(c.1,(c.2.1,(c.2.2.1,(c.2.2.2.1,(c.2.2.2.2.1,(z,()))))))) (ns:=["breaks", "sums", "board", "levels", "before"]) (O1:=(owD kInt tyBl)) (i:=0) rfl (by decide +kernel) (by decide) (zcz_ (zcz_ (zcz_ (zcz_ (zcz_ zf0_))))) (zfY_ zaY_) (zn6_ kInt tyBl) fun x_12=>(at_ [(Sl.ow (owAt w_ (Qq0 K)) x_12),(Sl.fz (tyL Qq2) c.1),(Sl.fz (tyL Qq2) c.2.1),(Sl.fz tyInt c.2.2.1),(Sl.fz (tyL Qq2) c.2.2.2)] (zZ_ (.same (.dead (.dead (.dead (.dead .nil)))))))))))))))))))
theorem zea_ {K:Fgg}:RD_Counter___init__ K:=zg5_ (K:=K) (N:=Qn4) (O:=(owI (gA K "Counter") [] psNil)) (O2:=(Qq0 K)) (Q:=(csCons (tyL Qq2) (csCons (tyL Qq2) (csCons tyInt (csLast (tyL Qq2)))))) (t:=fun E=>zaF_ K) (ss:=fun c=>[(Sl.fz (tyL Qq2) c.1),(Sl.fz (tyL Qq2) c.2.1),(Sl.fz tyInt c.2.2.1),(Sl.fz (tyL Qq2) c.2.2.2)]) (g:=fun x c=>zbc_ x c.1 c.2.1 c.2.2.1 c.2.2.2) (LS:=fun w_=>(fun x':Qq1=>[(Sl.ow (owAt w_ (Qq0 K)) x'),Sl.dead,Sl.dead,Sl.dead,Sl.dead])) 4 0 (zi_ (zi_ (zi_ zf_))) rfl (z9_ (z9_ (z9_ zJ_))) (fun _ _=>rfl) fun w_ x c E=>zd7_ w_ x c
theorem zgz_ {K:Fgg}{E:XK}(c:Qq6):EvS K (zbQ_ K) E [(Sl.fz (Qq5 K) c)] (zct_ c) (fun _:Unit=>[]) (fun _:Unit=>[]) (owF tyStr) :=
 (zdV_ (zt_ zB_) (EvF.ow (znO_ zm1_ (zg0_ zqj_ (zg_ (zcp_ (ns:=Qn7) (by decide +kernel) (n:=2) rfl (at_s (at_s at_0)) (zd_ 0 rfl)))) (zg_ (zcp_ (ns:=Qn7) (by decide +kernel) (n:=0) rfl at_0 (zd_ 0 rfl))))))
theorem zgu_ {K:Fgg}:RD_Wheel_shown K:=zez_ (K:=K) (N:=Qn3) (C:=(csLast (Qq5 K))) (O:=(owF tyStr)) (t:=fun E=>zbQ_ K) (ss:=fun c=>[(Sl.fz (Qq5 K) c)]) (f:=fun c=>zct_ c) 1 0 zf_ rfl zJ_ fun c E=>zgz_ c
theorem zki_ {K:Fgg}{E:XK}(c:((List Nat)×(Int×Int))):EvS K (zd2_ K) E [(Sl.fz tyStr c.1),(Sl.fz Qq2 c.2)] (ze2_ c.1 c.2) (fun _:Unit=>[]) (fun _:Unit=>[]) (owF tyStr) :=
 (zdV_ (zt_ zB_) (EvF.ow (zh4_ (zd_ 0 rfl) (zi5_ (zM_ zbR_ (zet_ (i:=0) at_0 (zd_ 1 rfl)) (zm_ 1))) (zi5_ (zet_ (i:=1) (at_s zfg_) (zd_ 1 rfl))))))
theorem zjR_ {K:Fgg}:RD_part_of K:=zez_ (K:=K) (N:=Qn9) (C:=(csCons tyStr (csLast Qq2))) (O:=(owF tyStr)) (t:=fun E=>zd2_ K) (ss:=fun c=>[(Sl.fz tyStr c.1),(Sl.fz Qq2 c.2)]) (f:=fun c=>ze2_ c.1 c.2) 2 0 (zi_ zf_) rfl (z9_ zJ_) fun c E=>zki_ c
theorem zdN_ {K:Fgg}{E:XK}(c:(Qq1×Int)):EvS K (zao_ K) E [(Sl.fz (Qq3 K) c.1),(Sl.fz tyInt c.2),Sl.dead] (zaS_ c.1 c.2) (fun _:Unit=>[]) (fun _:Unit=>[]) (owF tyStr) :=
 (zdv_ (i:=2) rfl (z2_ zB_) (zlv_ zf_ zge_ (zg_ (zM_ zjK_ (zdO_ [42]) (zM_ zbR_ (zM_ za4_ (zm_ 1) (zg0_ zdT_ (zg_ (zcp_ (ns:=Qn0) (by decide +kernel) (n:=0) rfl at_0 (zd_ 0 rfl))))) (zd_ 1 rfl))))) fun words_1=>(at_ [(Sl.fz (Qq3 K) c.1),(Sl.fz tyInt c.2),(Sl.ow (owL tyStr) words_1)] (zk1_ (i:=2) rfl zB_ (EvO.fr (O:=(owL tyStr)) (zck_ (ei_l (EvO.fr (zqt_ (zcp_ (ns:=Qn0) (by decide +kernel) (n:=0) rfl at_0 (zd_ 0 rfl)) zoI_ (zi5_ (zd_ 1 rfl))))) (zaD_ 0) (fun _=>dead1) (fun x_16=>zcC_) (fun x_16=>(zF_ (zE_ (zkZ_ (zcp_ (ns:=Qn0) (by decide +kernel) (n:=4) rfl (at_s (at_s (at_s (at_s at_0)))) (zd_ 1 rfl))) (zg_ (zd_ 0 rfl))))))) fun a_23=>(at_ [(Sl.fz (Qq3 K) c.1),(Sl.fz tyInt c.2),(Sl.ow (owL tyStr) (words_1++a_23))] (zk1_ (i:=2) rfl zB_ (EvO.fr (O:=(owL tyStr)) (zck_ (ei_l (zM_ zd6_ (zcp_ (ns:=Qn0) (by decide +kernel) (n:=3) rfl (at_s (at_s (at_s at_0))) (zd_ 0 rfl)) (zd_ 1 rfl))) (zaD_ 0) (fun _=>dead1) (fun x_27=>zcC_) (fun x_27=>(zgr_ (m := "shown") (ns:=Qn7) (by decide +kernel) (zd_ 0 rfl))))) fun a_30=>(at_ [(Sl.fz (Qq3 K) c.1),(Sl.fz tyInt c.2),(Sl.ow (owL tyStr) ((words_1++a_23)++a_30))] (zdV_ (zt_ zB_) (EvF.ow (znO_ zkd_ (zdO_ [32]) (zg_ (zgW_ 2 rfl)))))))))))
theorem zdP_ {K:Fgg}:RD_Counter_total_line K:=zez_ (K:=K) (N:=["self", "level", "words"]) (C:=(csCons (Qq3 K) (csLast tyInt))) (O:=(owF tyStr)) (t:=fun E=>zao_ K) (ss:=fun c=>[(Sl.fz (Qq3 K) c.1),(Sl.fz tyInt c.2)]) (f:=fun c=>zaS_ c.1 c.2) 2 1 (zi_ zf_) rfl (z9_ zJ_) fun c E=>zdN_ c
theorem zhl_ {K:Fgg}{E:XK}(w_:V) (x:Qq6) (c:Int):EvS K (zch_ K) E [(Sl.ow (owAt w_ (Qq4 K)) x),(Sl.fz tyInt c),Sl.dead] (zcV_ x c) (fun x':Qq6=>[(Sl.ow (owAt w_ (Qq4 K)) x'),Sl.dead,Sl.dead]) (fun _:Unit=>[]) (owRM w_ (Qq4 K) (owF tyNon)) :=
 (zcN_ (i:=2) rfl zb_ (zM_ za4_ (zcp_ (ns:=Qn7) (by decide +kernel) (n:=2) rfl (at_s (at_s at_0)) (zbV_ (P:=(psO (owF tyInt) (psO (owF tyInt) (psO (owF tyInt) (psO (owF tyBl) psNil))))) 0 rfl)) (zd_ 1 rfl)) fun risen_1=>(at_ [(Sl.ow (owAt w_ (Qq4 K)) x),(Sl.fz tyInt c),(Sl.fz tyInt risen_1)] (zex_ (LS:=(fun s_9:Qq6=>[(Sl.ow (owAt w_ (Qq4 K)) s_9),(Sl.fz tyInt c),(Sl.fz tyInt risen_1)])) (s_if (zdS_ (zM_ zn5_ (zd_ 2 rfl) (zcp_ (ns:=Qn7) (by decide +kernel) (n:=1) rfl (at_s at_0) (zbV_ (P:=(psO (owF tyInt) (psO (owF tyInt) (psO (owF tyInt) (psO (owF tyBl) psNil))))) 0 rfl)))) (ze4_ (zhi_ (i:=0) (n:=3) (by decide +kernel) rfl (by decide) (zd1_ (zd1_ (zd1_ zjO_))) zaY_ (zla_ true) (ziT_ (zfy_ rfl)) fun x_11=>(at_ [(Sl.ow (owAt w_ (Qq4 K)) x_11),(Sl.fz tyInt c),(Sl.fz tyInt risen_1)] (zZ_ (.same (.same (.same .nil))))))) (zZ_ (.same (.same (.same .nil))))) fun s_9=>(at_ [(Sl.ow (owAt w_ (Qq4 K)) s_9),(Sl.fz tyInt c),(Sl.fz tyInt risen_1)] (ze4_ (zhi_ (i:=0) (n:=2) (by decide +kernel) rfl (by decide) (zd1_ (zd1_ zjO_)) zb_ (zM_ zaZ_ (zd_ 2 rfl) (zcp_ (ns:=Qn7) (by decide +kernel) (n:=1) rfl (at_s at_0) (zbV_ (P:=(psO (owF tyInt) (psO (owF tyInt) (psO (owF tyInt) (psO (owF tyBl) psNil))))) 0 rfl))) (ziT_ (zfy_ rfl)) fun x_14=>(at_ [(Sl.ow (owAt w_ (Qq4 K)) x_14),(Sl.fz tyInt c),(Sl.fz tyInt risen_1)] (zZ_ (.same (.dead (.dead .nil)))))))))))
theorem zhn_ {K:Fgg}:RD_Wheel_rise K:=zg5_ (K:=K) (N:=["self", "value", "risen"]) (O:=(Qq4 K)) (O2:=(Qq4 K)) (Q:=(csLast tyInt)) (t:=fun E=>zch_ K) (ss:=fun c=>[(Sl.fz tyInt c)]) (g:=fun x c=>zcV_ x c) (LS:=fun w_=>(fun x':Qq6=>[(Sl.ow (owAt w_ (Qq4 K)) x'),Sl.dead,Sl.dead])) 1 1 zf_ rfl zJ_ (fun _ _=>rfl) fun w_ x c E=>zhl_ w_ x c
theorem zeK_ {K:Fgg}{E:XK}(c:Qq6):EvS K (za2_ K) E [(Sl.fz (Qq5 K) c)] (zcl_ c) (fun _:Unit=>[]) (fun _:Unit=>[]) (owF tyBl) :=
 (zdV_ (zt_ zaY_) (EvF.ow (zcp_ (ns:=Qn7) (by decide +kernel) (n:=3) rfl (at_s (at_s (at_s at_0))) (zd_ 0 rfl))))
theorem zeS_ {K:Fgg}:RD_Wheel_ran_over K:=zez_ (K:=K) (N:=Qn3) (C:=(csLast (Qq5 K))) (O:=(owF tyBl)) (t:=fun E=>za2_ K) (ss:=fun c=>[(Sl.fz (Qq5 K) c)]) (f:=fun c=>zcl_ c) 1 0 zf_ rfl zJ_ fun c E=>zeK_ c
theorem zdi_ {K:Fgg}{E:XK}(w_:V) (x:Qq1) (c:(Int×(List Int))):EvS K (zae_ K) E [(Sl.ow (owAt w_ (Qq0 K)) x),(Sl.fz tyInt c.1),(Sl.fz (tyL tyInt) c.2),Sl.dead,Sl.dead,Sl.dead] (zaE_ x c.1 c.2) (fun x':Qq1=>[(Sl.ow (owAt w_ (Qq0 K)) x'),Sl.dead,Sl.dead,Sl.dead,Sl.dead,Sl.dead]) (fun _:Unit=>[]) (owRM w_ (Qq0 K) (owF tyNon)) :=
 (ze4_ (zex_ (LS:=(fun s_1:Qq1=>[(Sl.ow (owAt w_ (Qq0 K)) s_1),(Sl.fz tyInt c.1),(Sl.fz (tyL tyInt) c.2),Sl.dead,Sl.dead,Sl.dead])) (zdb_ (L':=[(Sl.ow (owAt w_ (Qq0 K)) x),(Sl.fz tyInt c.1),(Sl.fz (tyL tyInt) c.2),Sl.dead,Sl.dead,Sl.dead]) (S4 (.same (.same .nil))) (zjg_ (LS:=(fun s_1:Qq1=>[(Sl.ow (owAt w_ (Qq0 K)) s_1),(Sl.fz tyInt c.1),(Sl.fz (tyL tyInt) c.2),Sl.dead,Sl.dead,Sl.dead])) (s0:=x) (zic_ (zg_ (zd_ 2 rfl))) (zlE_ (zi_ zf_) (ziu_ 3 (zil_ (zaD_ 4)))) fun s_1 x_3=>at_ [(Sl.ow (owAt w_ (Qq0 K)) s_1),(Sl.fz tyInt c.1),(Sl.fz (tyL tyInt) c.2),(Sl.fz tyInt x_3.1),(Sl.fz tyInt x_3.2),Sl.dead] (zoQ_ (w:=5) rfl (by decide) (znr_ (znr_ (zmm_ (ns:=Qn0) (by decide +kernel) (n:=3) rfl (zjW_ (zjW_ (zjW_ zpL_))) (zgM_ (zec_ rfl))) (zd_ 1 rfl)) (zd_ 3 rfl)) fun u_14 y_13=>(at_ [(Sl.ow (owPn u_14 (Qq4 K) y_13.2 (owAt w_ (Qq0 K))) y_13.1),(Sl.fz tyInt c.1),(Sl.fz (tyL tyInt) c.2),(Sl.fz tyInt x_3.1),(Sl.fz tyInt x_3.2),(Sl.fz (tyIs u_14) ())] (zkf_ (i:=0) (m := "rise") (ns:=Qn7) (by decide +kernel) (zcy_ (zo_ (zt_ zb_) (zo_ (zt_ zb_) (zo_ (zt_ zb_) (zo_ (zt_ zaY_) zaC_))))) (zih_ (w:=5) rfl rfl) (zs_ zb_) (zg_ (zd_ 4 rfl)) fun x_18=>(at_ [(Sl.ow (owPn u_14 (Qq4 K) y_13.2 (owAt w_ (Qq0 K))) x_18),(Sl.fz tyInt c.1),(Sl.fz (tyL tyInt) c.2),(Sl.fz tyInt x_3.1),(Sl.fz tyInt x_3.2),(Sl.fz (tyIs u_14) ())] (ze4_ (zex_ (LS:=(fun s_21:Qq1=>[(Sl.ow (owAt w_ (Qq0 K)) s_21),(Sl.fz tyInt c.1),(Sl.fz (tyL tyInt) c.2),(Sl.fz tyInt x_3.1),(Sl.fz tyInt x_3.2),Sl.dead])) (s_if (zdS_ (zgr_ (m := "ran_over") (ns:=Qn7) (by decide +kernel) (zmZ_ (O':=(Qq4 K)) (i:=0) (w:=5) rfl rfl))) (zoP_ (i:=0) rfl (zdb_ (L':=[(Sl.ow (owAt w_ (Qq0 K)) (y_13.2 x_18)),(Sl.fz tyInt c.1),(Sl.fz (tyL tyInt) c.2),(Sl.fz tyInt x_3.1),(Sl.fz tyInt x_3.2),Sl.dead]) (S4 (.same (.dead .nil))) (ze4_ (zot_ (i:=0) (zoY_ (ns:=Qn0) (by decide +kernel) (n:=5) rfl (zjW_ (zjW_ (zjW_ (zjW_ (zjW_ zpL_))))) (ziT_ (zfy_ rfl))) zaY_ zb_ (zla_ true) (zd_ 3 rfl) fun x_26=>(at_ [(Sl.ow (owAt w_ (Qq0 K)) x_26),(Sl.fz tyInt c.1),(Sl.fz (tyL tyInt) c.2),(Sl.fz tyInt x_3.1),(Sl.fz tyInt x_3.2),Sl.dead] (zZ_ (S4 (.same (.same .nil))))))))) (zoP_ (i:=0) rfl (zdb_ (L':=[(Sl.ow (owAt w_ (Qq0 K)) (y_13.2 x_18)),(Sl.fz tyInt c.1),(Sl.fz (tyL tyInt) c.2),(Sl.fz tyInt x_3.1),(Sl.fz tyInt x_3.2),Sl.dead]) (S4 (.same (.dead .nil))) (zZ_ (S4 (.same (.same .nil))))))) fun s_21=>(at_ [(Sl.ow (owAt w_ (Qq0 K)) s_21),(Sl.fz tyInt c.1),(Sl.fz (tyL tyInt) c.2),(Sl.fz tyInt x_3.1),(Sl.fz tyInt x_3.2),Sl.dead] (zZ_ (.same (.same (.same (.dead (.dead (.same .nil)))))))))))))))) fun s_1=>(at_ [(Sl.ow (owAt w_ (Qq0 K)) s_1),(Sl.fz tyInt c.1),(Sl.fz (tyL tyInt) c.2),Sl.dead,Sl.dead,Sl.dead] (zZ_ (.same (.dead (.dead (.same (.same (.same .nil))))))))))
theorem zdp_ {K:Fgg}:RD_Counter_raise_level K:=zg5_ (K:=K) (N:=Qn14) (O:=(Qq0 K)) (O2:=(Qq0 K)) (Q:=(csCons tyInt (csLast (tyL tyInt)))) (t:=fun E=>zae_ K) (ss:=fun c=>[(Sl.fz tyInt c.1),(Sl.fz (tyL tyInt) c.2)]) (g:=fun x c=>zaE_ x c.1 c.2) (LS:=fun w_=>(fun x':Qq1=>[(Sl.ow (owAt w_ (Qq0 K)) x'),Sl.dead,Sl.dead,Sl.dead,Sl.dead,Sl.dead])) 2 3 (zi_ zf_) rfl (z9_ zJ_) (fun _ _=>rfl) fun w_ x c E=>zdi_ w_ x c
theorem zgk_ {K:Fgg}{E:XK}(w_:V) (x:Qq6) (c:Unit):EvS K (zbN_ K) E [(Sl.ow (owAt w_ (Qq4 K)) x)] (zdg_ x) (fun x':Qq6=>[(Sl.ow (owAt w_ (Qq4 K)) x')]) (fun _:Unit=>[]) (owRM w_ (Qq4 K) (owF tyNon)) :=
 (zhi_ (i:=0) (n:=2) (by decide +kernel) rfl (by decide) (zd1_ (zd1_ zjO_)) zb_ (zm_ 0) (ziT_ (zfy_ rfl)) fun x_2=>(at_ [(Sl.ow (owAt w_ (Qq4 K)) x_2)] (ze4_ (zhi_ (i:=0) (n:=3) (by decide +kernel) rfl (by decide) (zd1_ (zd1_ (zd1_ zjO_))) zaY_ (zla_ false) (ziT_ (zfy_ rfl)) fun x_5=>(at_ [(Sl.ow (owAt w_ (Qq4 K)) x_5)] (zZ_ (.same .nil)))))))
theorem zgv_ {K:Fgg}:RD_Wheel_reset K:=zg5_ (K:=K) (N:=Qn3) (O:=(Qq4 K)) (O2:=(Qq4 K)) (Q:=csNil) (t:=fun E=>zbN_ K) (ss:=fun c=>[]) (g:=fun x c=>zdg_ x) (LS:=fun w_=>(fun x':Qq6=>[(Sl.ow (owAt w_ (Qq4 K)) x')])) 0 0 ziq_ rfl zmg_ (fun _ _=>rfl) fun w_ x c E=>zgk_ w_ x c
theorem zfI_ {K:Fgg}{E:XK}(c:Qq6):EvS K (zbz_ K) E [(Sl.fz (Qq5 K) c)] (zcQ_ c) (fun _:Unit=>[]) (fun _:Unit=>[]) (owF tyInt) :=
 (zdV_ (zt_ zb_) (EvF.ow (zcp_ (ns:=Qn7) (by decide +kernel) (n:=2) rfl (at_s (at_s at_0)) (zd_ 0 rfl))))
theorem zfW_ {K:Fgg}:RD_Wheel_amount K:=zez_ (K:=K) (N:=Qn3) (C:=(csLast (Qq5 K))) (O:=(owF tyInt)) (t:=fun E=>zbz_ K) (ss:=fun c=>[(Sl.fz (Qq5 K) c)]) (f:=fun c=>zcQ_ c) 1 0 zf_ rfl zJ_ fun c E=>zfI_ c
theorem zde_ {K:Fgg}{E:XK}(w_:V) (x:Qq1) (c:Int):EvS K (zad_ K) E [(Sl.ow (owAt w_ (Qq0 K)) x),(Sl.fz tyInt c),Sl.dead,Sl.dead] (zab_ x c) (fun _:Unit=>[]) (fun _:Unit=>[]) (owRM w_ (Qq0 K) (owF tyStr)) :=
 (zcN_ (i:=2) rfl zB_ (zkr_ (m := "total_line") (ns:=Qn0) (by decide +kernel) (zbV_ (P:=(Qq7 K)) 0 rfl) (zg_ (zd_ 1 rfl))) fun line_1=>(at_ [(Sl.ow (owAt w_ (Qq0 K)) x),(Sl.fz tyInt c),(Sl.fz tyStr line_1),Sl.dead] (zex_ (LS:=(fun s_7:Qq1=>[(Sl.ow (owAt w_ (Qq0 K)) s_7),(Sl.fz tyInt c),(Sl.fz tyStr line_1),Sl.dead])) (s_if (zdS_ (zM_ zoc_ (zd_ 1 rfl) (zm_ 0))) (ze4_ (zmn_ (zc3_ (m := "raise_level") (ns:=Qn0) (by decide +kernel) (zcy_ (zo_ (z2_ (z8_ (zv_ zb_ (zs_ zb_)))) (zo_ (z2_ (z8_ (zv_ zb_ (zs_ zb_)))) (zo_ (z2_ (z8_ (zv_ zb_ (zs_ zb_)))) (zo_ (zbt_ (zbt_ (zcy_ (zo_ (zt_ zb_) (zo_ (zt_ zb_) (zo_ (zt_ zb_) (zo_ (zt_ zaY_) zaC_))))))) (zo_ (zt_ (zdw_ zB_)) (zo_ (zfY_ zaY_) zaC_))))))) (zt_ zmq_) (zgM_ (zec_ rfl)) (zkt_ (zf9_ zb_ (zM_ zbR_ (zd_ 1 rfl) (zm_ 1))) (zew_ (zms_ (z2_ zb_) (zck_ (ei_l (zM_ zd6_ (zcp_ (ns:=Qn0) (by decide +kernel) (n:=3) rfl (at_s (at_s (at_s at_0))) (zbV_ (P:=(Qq7 K)) 0 rfl)) (zd_ 1 rfl))) (zaD_ 0) (fun _=>dead1) (fun x_13=>zcC_) (fun x_13=>(zgr_ (m := "amount") (ns:=Qn7) (by decide +kernel) (zd_ 0 rfl)))))))) fun q_21=>(at_ [(Sl.ow (owAt w_ (Qq0 K)) q_21.2),(Sl.fz tyInt c),(Sl.fz tyStr line_1),Sl.dead] (zZ_ (S4 .nil))))) (zZ_ (S4 .nil))) fun s_7=>(at_ [(Sl.ow (owAt w_ (Qq0 K)) s_7),(Sl.fz tyInt c),(Sl.fz tyStr line_1),Sl.dead] (zex_ (LS:=(fun s_31:Qq1=>[(Sl.ow (owAt w_ (Qq0 K)) s_31),(Sl.fz tyInt c),(Sl.fz tyStr line_1),Sl.dead])) (zqi_ (m := "reset") (ns:=Qn7) (w:=3) (Nat.le_of_ble_eq_true rfl) rfl (by decide) (by decide +kernel) (zcy_ (zo_ (zt_ zb_) (zo_ (zt_ zb_) (zo_ (zt_ zb_) (zo_ (zt_ zaY_) zaC_))))) (znr_ (zmm_ (ns:=Qn0) (by decide +kernel) (n:=3) rfl (zjW_ (zjW_ (zjW_ zpL_))) (zgM_ (zec_ rfl))) (zd_ 1 rfl))) fun s_31=>(at_ [(Sl.ow (owAt w_ (Qq0 K)) s_31),(Sl.fz tyInt c),(Sl.fz tyStr line_1),Sl.dead] (zpK_ (i:=0) rfl zB_ (zd_ 2 rfl))))))))
theorem zdD_ {K:Fgg}:RD_Counter_close_level K:=ziv_ (K:=K) (N:=["self", "level", "line", "wheel"]) (O:=(Qq0 K)) (O2:=(Qq0 K)) (Q:=(csLast tyInt)) (t:=fun E=>zad_ K) (ss:=fun c=>[(Sl.fz tyInt c)]) (g:=fun x c=>zab_ x c) 1 2 zf_ rfl zJ_ fun w_ x c E=>zde_ w_ x c
theorem zdc_ {K:Fgg}{E:XK}(w_:V) (x:Qq1) (c:Int):EvS K (z6_ K) E [(Sl.ow (owAt w_ (Qq0 K)) x),(Sl.fz tyInt c),Sl.dead,Sl.dead] (zat_ x c) (fun _:Unit=>[]) (fun _:Unit=>[]) (owRM w_ (Qq0 K) (owL tyStr)) :=
 (zdv_ (i:=2) rfl (z2_ zB_) (zgY_ tyStr) fun lines_1=>(at_ [(Sl.ow (owAt w_ (Qq0 K)) x),(Sl.fz tyInt c),(Sl.ow (owL tyStr) lines_1),Sl.dead] (zex_ (LS:=(fun s_2:((List (List Nat))×Qq1)=>[(Sl.ow (owAt w_ (Qq0 K)) s_2.2),(Sl.fz tyInt c),(Sl.ow (owL tyStr) s_2.1),Sl.dead])) (zdb_ (L':=[(Sl.ow (owAt w_ (Qq0 K)) x),(Sl.fz tyInt c),(Sl.ow (owL tyStr) lines_1),Sl.dead]) (S4 .nil) (zqF_ (LS:=(fun s_2:((List (List Nat))×Qq1)=>[(Sl.ow (owAt w_ (Qq0 K)) s_2.2),(Sl.fz tyInt c),(Sl.ow (owL tyStr) s_2.1),Sl.dead])) (s0:=(lines_1,x)) (eir_3 (zE_ (zg0_ zdT_ (zg_ (zcp_ (ns:=Qn0) (by decide +kernel) (n:=0) rfl at_0 (zbV_ (P:=(Qq7 K)) 0 rfl)))) (zE_ (zM_ zbR_ (zd_ 1 rfl) (zm_ 1)) (zg_ (zoN_ (zm_ 1)))))) (zaD_ 3) fun s_2 x_13=>at_ [(Sl.ow (owAt w_ (Qq0 K)) s_2.2),(Sl.fz tyInt c),(Sl.ow (owL tyStr) s_2.1),(Sl.fz tyInt x_13)] (ze4_ (zpS_ (w:=2) rfl (by decide) (zc3_ (m := "close_level") (ns:=Qn0) (by decide +kernel) (zcy_ (zo_ (z2_ (z8_ (zv_ zb_ (zs_ zb_)))) (zo_ (z2_ (z8_ (zv_ zb_ (zs_ zb_)))) (zo_ (z2_ (z8_ (zv_ zb_ (zs_ zb_)))) (zo_ (zbt_ (zbt_ (zcy_ (zo_ (zt_ zb_) (zo_ (zt_ zb_) (zo_ (zt_ zb_) (zo_ (zt_ zaY_) zaC_))))))) (zo_ (zt_ (zdw_ zB_)) (zo_ (zfY_ zaY_) zaC_))))))) (zt_ zB_) (zgM_ (zec_ rfl)) (zew_ (zf9_ zb_ (zd_ 3 rfl)))) fun q_17=>(at_ [(Sl.ow (owAt w_ (Qq0 K)) q_17.2),(Sl.fz tyInt c),(Sl.ow (owL tyStr) (s_2.1++[q_17.1])),(Sl.fz tyInt x_13)] (zZ_ (.same (.same (.same (.dead .nil)))))))))) fun s_2=>(at_ [(Sl.ow (owAt w_ (Qq0 K)) s_2.2),(Sl.fz tyInt c),(Sl.ow (owL tyStr) s_2.1),Sl.dead] (zl4_ (i:=0) (j:=2) (by decide) rfl rfl)))))
theorem zc6_ {K:Fgg}:RD_Counter_close_levels K:=ziv_ (K:=K) (N:=Qn29) (O:=(Qq0 K)) (O2:=(Qq0 K)) (Q:=(csLast tyInt)) (t:=fun E=>z6_ K) (ss:=fun c=>[(Sl.fz tyInt c)]) (g:=fun x c=>zat_ x c) 1 2 zf_ rfl zJ_ fun w_ x c E=>zdc_ w_ x c
theorem zeT_ {K:Fgg}{E:XK}(w_:V) (x:Qq1) (c:Unit):EvS K (za6_ K) E [(Sl.ow (owAt w_ (Qq0 K)) x)] (zbE_ x) (fun _:Unit=>[]) (fun _:Unit=>[]) (owRM w_ (Qq0 K) (owL tyStr)) :=
 (zex_ (LS:=(fun _:Unit=>[(Sl.ow (owAt w_ (Qq0 K)) x)])) (s_if (zdS_ (zM_ zn3_ (zcp_ (ns:=Qn0) (by decide +kernel) (n:=4) rfl (at_s (at_s (at_s (at_s at_0)))) (zbV_ (P:=(Qq7 K)) 0 rfl)) zo4_)) (znN_ (i:=0) (Nat.le_of_ble_eq_true rfl) (zc3_ (m := "close_level") (ns:=Qn0) (by decide +kernel) (zcy_ (zo_ (z2_ (z8_ (zv_ zb_ (zs_ zb_)))) (zo_ (z2_ (z8_ (zv_ zb_ (zs_ zb_)))) (zo_ (z2_ (z8_ (zv_ zb_ (zs_ zb_)))) (zo_ (zbt_ (zbt_ (zcy_ (zo_ (zt_ zb_) (zo_ (zt_ zb_) (zo_ (zt_ zb_) (zo_ (zt_ zaY_) zaC_))))))) (zo_ (zt_ (zdw_ zB_)) (zo_ (zfY_ zaY_) zaC_))))))) (zt_ zB_) (zgM_ (zec_ rfl)) (zew_ (zf9_ zb_ (zm_ 0))))) (zZ_ (.same .nil))) fun _=>(at_ [(Sl.ow (owAt w_ (Qq0 K)) x)] (zoF_ (i:=0) (Nat.le_of_ble_eq_true rfl) (zc3_ (m := "close_levels") (ns:=Qn0) (by decide +kernel) (zcy_ (zo_ (z2_ (z8_ (zv_ zb_ (zs_ zb_)))) (zo_ (z2_ (z8_ (zv_ zb_ (zs_ zb_)))) (zo_ (z2_ (z8_ (zv_ zb_ (zs_ zb_)))) (zo_ (zbt_ (zbt_ (zcy_ (zo_ (zt_ zb_) (zo_ (zt_ zb_) (zo_ (zt_ zb_) (zo_ (zt_ zaY_) zaC_))))))) (zo_ (zt_ (zdw_ zB_)) (zo_ (zfY_ zaY_) zaC_))))))) (z2_ zB_) (zgM_ (zec_ rfl)) (zew_ (zf9_ zb_ (zm_ 0)))))))
theorem zeH_ {K:Fgg}:RD_Counter_finish K:=ziv_ (K:=K) (N:=Qn3) (O:=(Qq0 K)) (O2:=(Qq0 K)) (Q:=csNil) (t:=fun E=>za6_ K) (ss:=fun c=>[]) (g:=fun x c=>zbE_ x) 0 0 ziq_ rfl zmg_ fun w_ x c E=>zeT_ w_ x c
theorem zfE_ {K:Fgg}{E:XK}(c:Qq1):EvS K (zbl_ K) E [(Sl.fz (Qq3 K) c)] (zbK_ c) (fun _:Unit=>[]) (fun _:Unit=>[]) (owL tyInt) :=
 (zdV_ (z2_ zb_) (zlI_ (ziV_ zqE_ zqW_ zqr_) (zg_ (zcp_ (ns:=Qn0) (by decide +kernel) (n:=5) rfl (at_s (at_s (at_s (at_s (at_s at_0))))) (zd_ 0 rfl)))))
theorem zfF_ {K:Fgg}:RD_Counter_overs K:=zez_ (K:=K) (N:=Qn3) (C:=(csLast (Qq3 K))) (O:=(owL tyInt)) (t:=fun E=>zbl_ K) (ss:=fun c=>[(Sl.fz (Qq3 K) c)]) (f:=fun c=>zbK_ c) 1 0 zf_ rfl zJ_ fun c E=>zfE_ c
theorem zhk_ {K:Fgg}{E:XK}(c:(Int×Int)):EvS K (zcd_ K) E [(Sl.fz tyInt c.1),(Sl.fz tyInt c.2),Sl.dead,Sl.dead,Sl.dead] (zcX_ c.1 c.2) (fun _:Unit=>[]) (fun _:Unit=>[]) (owL tyInt) :=
 (zdv_ (i:=2) rfl (z2_ zb_) (zgY_ tyInt) fun found_1=>(at_ [(Sl.fz tyInt c.1),(Sl.fz tyInt c.2),(Sl.ow (owL tyInt) found_1),Sl.dead,Sl.dead] (zcN_ (i:=3) rfl zb_ (zM_ za4_ (zM_ zaZ_ (zd_ 0 rfl) (zm_ 2147483647)) (zm_ 48271)) fun number_here_2=>(at_ [(Sl.fz tyInt c.1),(Sl.fz tyInt c.2),(Sl.ow (owL tyInt) found_1),(Sl.fz tyInt number_here_2),Sl.dead] (zex_ (LS:=(fun s_7:(Int×(List Int))=>[(Sl.fz tyInt c.1),(Sl.fz tyInt c.2),(Sl.ow (owL tyInt) s_7.2),(Sl.fz tyInt s_7.1),Sl.dead])) (zdb_ (L':=[(Sl.fz tyInt c.1),(Sl.fz tyInt c.2),(Sl.ow (owL tyInt) found_1),(Sl.fz tyInt number_here_2),Sl.dead]) (S4 (.same .nil)) (zjg_ (LS:=(fun s_7:(Int×(List Int))=>[(Sl.fz tyInt c.1),(Sl.fz tyInt c.2),(Sl.ow (owL tyInt) s_7.2),(Sl.fz tyInt s_7.1),Sl.dead])) (s0:=(number_here_2,found_1)) (zfD_ (zg_ (zd_ 1 rfl))) (zaD_ 4) fun s_7 x_9=>at_ [(Sl.fz tyInt c.1),(Sl.fz tyInt c.2),(Sl.ow (owL tyInt) s_7.2),(Sl.fz tyInt s_7.1),(Sl.fz tyInt x_9)] (zcN_ (i:=3) rfl zb_ (zM_ zaZ_ (zM_ za4_ (zM_ za4_ (zM_ zdl_ (zd_ 3 rfl) (zd_ 3 rfl)) (zM_ zdl_ (zm_ 48271) (zd_ 3 rfl))) (zd_ 4 rfl)) (zm_ 2147483647)) fun number_here_10=>(at_ [(Sl.fz tyInt c.1),(Sl.fz tyInt c.2),(Sl.ow (owL tyInt) s_7.2),(Sl.fz tyInt number_here_10),(Sl.fz tyInt x_9)] (ze4_ (zhT_ (i:=2) rfl zb_ (zd_ 3 rfl) fun a_21=>(at_ [(Sl.fz tyInt c.1),(Sl.fz tyInt c.2),(Sl.ow (owL tyInt) (s_7.2++[a_21])),(Sl.fz tyInt number_here_10),(Sl.fz tyInt x_9)] (zZ_ (S4 (.dead .nil)))))))))) fun s_7=>(at_ [(Sl.fz tyInt c.1),(Sl.fz tyInt c.2),(Sl.ow (owL tyInt) s_7.2),(Sl.fz tyInt s_7.1),Sl.dead] (zqA_ (i:=2) rfl)))))))
theorem zhm_ {K:Fgg}:RD_law_stream K:=zez_ (K:=K) (N:=Qn10) (C:=(csCons tyInt (csLast tyInt))) (O:=(owL tyInt)) (t:=fun E=>zcd_ K) (ss:=fun c=>[(Sl.fz tyInt c.1),(Sl.fz tyInt c.2)]) (f:=fun c=>zcX_ c.1 c.2) 2 3 (zi_ zf_) rfl (z9_ zJ_) fun c E=>zhk_ c
theorem zhD_ {K:Fgg}{E:XK}(c:Int):EvS K (zcI_ K) E [(Sl.fz tyInt c)] (zdF_ c) (fun _:Unit=>[]) (fun _:Unit=>[]) (owL tyInt) :=
 (zdV_ (z2_ zb_) (zck_ (ei_l (EvO.fr (zdW_ (zE_ (zd_ 0 rfl) (zg_ (zm_ 36)))))) (zaD_ 0) (fun _=>dead1) (fun x_4=>zcC_) (fun x_4=>(zM_ zce_ (zd_ 0 rfl) (zm_ 11)))))
theorem zhJ_ {K:Fgg}:RD_law_kinds K:=zez_ (K:=K) (N:=["_law_cell"]) (C:=(csLast tyInt)) (O:=(owL tyInt)) (t:=fun E=>zcI_ K) (ss:=fun c=>[(Sl.fz tyInt c)]) (f:=fun c=>zdF_ c) 1 0 zf_ rfl zJ_ fun c E=>zhD_ c
theorem zgy_ {K:Fgg}{E:XK}(c:((List Int)×Int)):EvS K (zbS_ K) E [(Sl.fz (tySc K) c.1),(Sl.fz tyInt c.2)] (zcu_ c.1 c.2) (fun _:Unit=>[]) (fun _:Unit=>[]) (owF tyInt) :=
 (zex_ (LS:=(fun _:Unit=>[(Sl.fz (tySc K) c.1),(Sl.fz tyInt c.2)])) (s_if (zdS_ (zM_ zqq_ (zd_ 1 rfl) (zg0_ zmA_ (zg_ (zd_ 0 rfl))))) (zdV_ (zt_ zb_) (EvF.ow (zM_ zoM_ (zd_ 0 rfl) (zd_ 1 rfl)))) (zZ_ (.same (.same .nil)))) fun _=>(at_ [(Sl.fz (tySc K) c.1),(Sl.fz tyInt c.2)] (zdV_ (zt_ zb_) (EvF.ow (zm_ 0)))))
theorem zgH_ {K:Fgg}:RD_law_cell_at K:=zez_ (K:=K) (N:=Qn15) (C:=(csCons (tySc K) (csLast tyInt))) (O:=(owF tyInt)) (t:=fun E=>zbS_ K) (ss:=fun c=>[(Sl.fz (tySc K) c.1),(Sl.fz tyInt c.2)]) (f:=fun c=>zcu_ c.1 c.2) 2 0 (zi_ zf_) rfl (z9_ zJ_) fun c E=>zgy_ c
theorem zgg_ {K:Fgg}{E:XK}(c:(Int×((Int×Int)×Int))):EvS K (zbP_ K) E [(Sl.fz tyInt c.1),(Sl.fz Qq2 c.2.1),(Sl.fz tyInt c.2.2),Sl.dead,Sl.dead,Sl.dead] (zcs_ c.1 c.2.1 c.2.2) (fun _:Unit=>[]) (fun _:Unit=>[]) (owF tyInt) :=
 (zex_ (LS:=(fun _:Unit=>[(Sl.fz tyInt c.1),(Sl.fz Qq2 c.2.1),(Sl.fz tyInt c.2.2),Sl.dead,Sl.dead,Sl.dead])) (s_if (zdS_ (zM_ zmj_ (zM_ zaZ_ (zd_ 0 rfl) (zm_ 3)) (zm_ 2))) (zdV_ (zt_ zb_) (EvF.ow (zM_ za4_ (zm_ 1) (zM_ zaZ_ (zM_ zce_ (zd_ 0 rfl) (zm_ 3)) (zm_ 12))))) (zZ_ (S4 (.same (.same .nil))))) fun _=>(at_ [(Sl.fz tyInt c.1),(Sl.fz Qq2 c.2.1),(Sl.fz tyInt c.2.2),Sl.dead,Sl.dead,Sl.dead] (zcN_ (i:=3) rfl zb_ (zd_ 2 rfl) fun greatest_14=>(at_ [(Sl.fz tyInt c.1),(Sl.fz Qq2 c.2.1),(Sl.fz tyInt c.2.2),(Sl.fz tyInt greatest_14),Sl.dead,Sl.dead] (zex_ (LS:=(fun s_15:Int=>[(Sl.fz tyInt c.1),(Sl.fz Qq2 c.2.1),(Sl.fz tyInt c.2.2),(Sl.fz tyInt s_15),Sl.dead,Sl.dead])) (zdb_ (L':=[(Sl.fz tyInt c.1),(Sl.fz Qq2 c.2.1),(Sl.fz tyInt c.2.2),(Sl.fz tyInt greatest_14),Sl.dead,Sl.dead]) (S4 (.same (.same .nil))) (zjg_ (LS:=(fun s_15:Int=>[(Sl.fz tyInt c.1),(Sl.fz Qq2 c.2.1),(Sl.fz tyInt c.2.2),(Sl.fz tyInt s_15),Sl.dead,Sl.dead])) (s0:=greatest_14) (zpk_ (zE_ (zet_ (i:=0) at_0 (zd_ 1 rfl)) (zg_ (zM_ za4_ (zet_ (i:=1) (at_s zfg_) (zd_ 1 rfl)) (zm_ 1))))) (zaD_ 4) fun s_15 x_23=>at_ [(Sl.fz tyInt c.1),(Sl.fz Qq2 c.2.1),(Sl.fz tyInt c.2.2),(Sl.fz tyInt s_15),(Sl.fz tyInt x_23),Sl.dead] (ze4_ (zcN_ (i:=3) rfl zb_ (zM_ zdl_ (zm_ 10) (zd_ 3 rfl)) fun greatest_24=>(at_ [(Sl.fz tyInt c.1),(Sl.fz Qq2 c.2.1),(Sl.fz tyInt c.2.2),(Sl.fz tyInt greatest_24),(Sl.fz tyInt x_23),Sl.dead] (zZ_ (S4 (.dead (.same .nil))))))))) fun s_15=>(at_ [(Sl.fz tyInt c.1),(Sl.fz Qq2 c.2.1),(Sl.fz tyInt c.2.2),(Sl.fz tyInt s_15),Sl.dead,Sl.dead] (zcN_ (i:=3) rfl zb_ (zM_ zbR_ (zd_ 3 rfl) (zd_ 2 rfl)) fun greatest_28=>(at_ [(Sl.fz tyInt c.1),(Sl.fz Qq2 c.2.1),(Sl.fz tyInt c.2.2),(Sl.fz tyInt greatest_28),Sl.dead,Sl.dead] (zcN_ (i:=5) rfl zb_ (zm_ 0) fun figures_here_31=>(at_ [(Sl.fz tyInt c.1),(Sl.fz Qq2 c.2.1),(Sl.fz tyInt c.2.2),(Sl.fz tyInt greatest_28),Sl.dead,(Sl.fz tyInt figures_here_31)] (zex_ (LS:=(fun s_32:(Int×Int)=>[(Sl.fz tyInt c.1),(Sl.fz Qq2 c.2.1),(Sl.fz tyInt c.2.2),(Sl.fz tyInt s_32.1),Sl.dead,(Sl.fz tyInt s_32.2)])) (zdb_ (L':=[(Sl.fz tyInt c.1),(Sl.fz Qq2 c.2.1),(Sl.fz tyInt c.2.2),(Sl.fz tyInt greatest_28),Sl.dead,(Sl.fz tyInt figures_here_31)]) (S4 (.same (.same .nil))) (zpl_ (LS:=(fun s_32:(Int×Int)=>[(Sl.fz tyInt c.1),(Sl.fz Qq2 c.2.1),(Sl.fz tyInt c.2.2),(Sl.fz tyInt s_32.1),Sl.dead,(Sl.fz tyInt s_32.2)])) (s0:=(greatest_28,figures_here_31)) fuelW (fun s_32=>(zdS_ (zM_ zoc_ (zd_ 3 rfl) (zm_ 0)))) fun s_32=>at_ [(Sl.fz tyInt c.1),(Sl.fz Qq2 c.2.1),(Sl.fz tyInt c.2.2),(Sl.fz tyInt s_32.1),Sl.dead,(Sl.fz tyInt s_32.2)] (zcN_ (i:=3) rfl zb_ (zM_ zce_ (zd_ 3 rfl) (zm_ 10)) fun greatest_35=>(at_ [(Sl.fz tyInt c.1),(Sl.fz Qq2 c.2.1),(Sl.fz tyInt c.2.2),(Sl.fz tyInt greatest_35),Sl.dead,(Sl.fz tyInt s_32.2)] (ze4_ (zcN_ (i:=5) rfl zb_ (zM_ za4_ (zd_ 5 rfl) (zm_ 1)) fun figures_here_38=>(at_ [(Sl.fz tyInt c.1),(Sl.fz Qq2 c.2.1),(Sl.fz tyInt c.2.2),(Sl.fz tyInt greatest_35),Sl.dead,(Sl.fz tyInt figures_here_38)] (zZ_ (S4 (.same (.same .nil))))))))))) fun s_32=>(at_ [(Sl.fz tyInt c.1),(Sl.fz Qq2 c.2.1),(Sl.fz tyInt c.2.2),(Sl.fz tyInt s_32.1),Sl.dead,(Sl.fz tyInt s_32.2)] (zdV_ (zt_ zb_) (EvF.ow (zg0_ zob_ (zE_ (zm_ 12) (zg_ (zg0_ znS_ (zE_ (zm_ 1) (zg_ (zM_ zbR_ (zd_ 5 rfl) (zM_ zaZ_ (zd_ 0 rfl) (zm_ 3)))))))))))))))))))))))
theorem zgd_ {K:Fgg}:RD_law_figures K:=zez_ (K:=K) (N:=Qn5) (C:=(csCons tyInt (csCons Qq2 (csLast tyInt)))) (O:=(owF tyInt)) (t:=fun E=>zbP_ K) (ss:=fun c=>[(Sl.fz tyInt c.1),(Sl.fz Qq2 c.2.1),(Sl.fz tyInt c.2.2)]) (f:=fun c=>zcs_ c.1 c.2.1 c.2.2) 3 3 (zi_ (zi_ zf_)) rfl (z9_ (z9_ zJ_)) fun c E=>zgg_ c
theorem zjc_ {K:Fgg}{E:XK}(c:(Int×Int)):EvS K (zdq_ K) E [(Sl.fz Qq2 c)] (zfs_ c) (fun _:Unit=>[]) (fun _:Unit=>[]) (owF tyInt) :=
 (zdV_ (zt_ zb_) (EvF.ow (zM_ za4_ (zM_ zbR_ (zet_ (i:=1) (at_s zfg_) (zd_ 0 rfl)) (zet_ (i:=0) at_0 (zd_ 0 rfl))) (zm_ 1))))
theorem zi8_ {K:Fgg}:RD_width_of K:=zez_ (K:=K) (N:=["field"]) (C:=(csLast Qq2)) (O:=(owF tyInt)) (t:=fun E=>zdq_ K) (ss:=fun c=>[(Sl.fz Qq2 c)]) (f:=fun c=>zfs_ c) 1 0 zf_ rfl zJ_ fun c E=>zjc_ c
theorem zfK_ {K:Fgg}{E:XK}(c:((List (Int×Int))×(Int×Int))):EvS K (zby_ K) E [(Sl.fz (tyL Qq2) c.1),(Sl.fz tyInt c.2.1),(Sl.fz tyInt c.2.2)] (zbZ_ c.1 c.2.1 c.2.2) (fun _:Unit=>[]) (fun _:Unit=>[]) (owL tyBl) :=
 (zdV_ (z2_ zaY_) (zck_ (ei_l (zd_ 0 rfl)) (zaD_ 0) (fun _=>dead1) (fun x_1=>zcC_) (fun x_1=>(zM_ zn5_ (zM_ zdl_ (zd_ 1 rfl) (zM_ zbR_ (zF_ (zg_ (zF_ (zg_ (zd_ 0 rfl))))) (zm_ 1))) (zF_ (zg_ (zd_ 2 rfl)))))))
theorem zfV_ {K:Fgg}:RD_may_run_over K:=zez_ (K:=K) (N:=Qn13) (C:=(csCons (tyL Qq2) (csCons tyInt (csLast tyInt)))) (O:=(owL tyBl)) (t:=fun E=>zby_ K) (ss:=fun c=>[(Sl.fz (tyL Qq2) c.1),(Sl.fz tyInt c.2.1),(Sl.fz tyInt c.2.2)]) (f:=fun c=>zbZ_ c.1 c.2.1 c.2.2) 3 0 (zi_ (zi_ zf_)) rfl (z9_ (z9_ zJ_)) fun c E=>zfK_ c
theorem zj1_ {K:Fgg}{E:XK}(c:(List Nat)):EvS K (zem_ K) E [(Sl.fz tyStr c)] (ze8_ c) (fun _:Unit=>[]) (fun _:Unit=>[]) (owF tyStr) :=
 (zdV_ (zt_ zB_) (EvF.ow (zh4_ (zd_ 0 rfl) (zi5_ (zm_ 36)) zoI_)))
theorem zkF_ {K:Fgg}:RD_mark_of K:=zez_ (K:=K) (N:=["card"]) (C:=(csLast tyStr)) (O:=(owF tyStr)) (t:=fun E=>zem_ K) (ss:=fun c=>[(Sl.fz tyStr c)]) (f:=fun c=>ze8_ c) 1 0 zf_ rfl zJ_ fun c E=>zj1_ c
theorem zjC_ {K:Fgg}{E:XK}(c:((List Nat)×Int)):EvS K (zd5_ K) E [(Sl.fz tyStr c.1),(Sl.fz tyInt c.2)] (ze3_ c.1 c.2) (fun _:Unit=>[]) (fun _:Unit=>[]) (owF tyStr) :=
 (zdV_ (zt_ zB_) (EvF.ow (zM_ zh6_ (zd_ 0 rfl) (zM_ zbR_ (zd_ 1 rfl) (zm_ 1)))))
theorem zjJ_ {K:Fgg}:RD_sign_at K:=zez_ (K:=K) (N:=Qn28) (C:=(csCons tyStr (csLast tyInt))) (O:=(owF tyStr)) (t:=fun E=>zd5_ K) (ss:=fun c=>[(Sl.fz tyStr c.1),(Sl.fz tyInt c.2)]) (f:=fun c=>ze3_ c.1 c.2) 2 0 (zi_ zf_) rfl (z9_ zJ_) fun c E=>zjC_ c
theorem zkh_ {K:Fgg}{E:XK}(c:((List Nat)×(List (Int×Int)))):EvS K (zej_ K) E [(Sl.fz tyStr c.1),(Sl.fz (tyL Qq2) c.2),Sl.dead,Sl.dead] (ze1_ c.1 c.2) (fun _:Unit=>[]) (fun _:Unit=>[]) (owF tyStr) :=
 (zdv_ (i:=2) rfl (z2_ zB_) (zck_ (zfD_ (zg_ (zm_ 36))) (zaD_ 0) (fun _=>dead1) (fun x_3=>zcC_) (fun x_3=>(zdO_ [32]))) fun signs_1=>(at_ [(Sl.fz tyStr c.1),(Sl.fz (tyL Qq2) c.2),(Sl.ow (owL tyStr) signs_1),Sl.dead] (zex_ (LS:=(fun s_5:(List (List Nat))=>[(Sl.fz tyStr c.1),(Sl.fz (tyL Qq2) c.2),(Sl.ow (owL tyStr) s_5),Sl.dead])) (zdb_ (L':=[(Sl.fz tyStr c.1),(Sl.fz (tyL Qq2) c.2),(Sl.ow (owL tyStr) signs_1),Sl.dead]) (S4 .nil) (zjg_ (LS:=(fun s_5:(List (List Nat))=>[(Sl.fz tyStr c.1),(Sl.fz (tyL Qq2) c.2),(Sl.ow (owL tyStr) s_5),Sl.dead])) (s0:=signs_1) (ei_l (zd_ 1 rfl)) (zaD_ 3) fun s_5 x_6=>at_ [(Sl.fz tyStr c.1),(Sl.fz (tyL Qq2) c.2),(Sl.ow (owL tyStr) s_5),(Sl.fz Qq2 x_6)] (ze4_ (zp8_ (i:=2) rfl zB_ (zF_ (zE_ (zd_ 0 rfl) (zg_ (zet_ (i:=0) at_0 (zd_ 3 rfl))))) (zM_ zbR_ (zet_ (i:=1) (at_s zfg_) (zd_ 3 rfl)) (zm_ 1)) fun signs_20=>(at_ [(Sl.fz tyStr c.1),(Sl.fz (tyL Qq2) c.2),(Sl.ow (owL tyStr) signs_20),(Sl.fz Qq2 x_6)] (zZ_ (.same (.same (.same (.dead .nil)))))))))) fun s_5=>(at_ [(Sl.fz tyStr c.1),(Sl.fz (tyL Qq2) c.2),(Sl.ow (owL tyStr) s_5),Sl.dead] (zdV_ (zt_ zB_) (EvF.ow (znO_ zkd_ (zdO_ []) (zg_ (zgW_ 2 rfl)))))))))
theorem zkl_ {K:Fgg}:RD_lay_out K:=zez_ (K:=K) (N:=["card", "board", "signs", "wire"]) (C:=(csCons tyStr (csLast (tyL Qq2)))) (O:=(owF tyStr)) (t:=fun E=>zej_ K) (ss:=fun c=>[(Sl.fz tyStr c.1),(Sl.fz (tyL Qq2) c.2)]) (f:=fun c=>ze1_ c.1 c.2) 2 2 (zi_ zf_) rfl (z9_ zJ_) fun c E=>zkh_ c
theorem zcS_ {K:Fgg}{E:XK}(c:(Qq1×(List Nat))):EvS K (zW_ K) E [(Sl.fz (Qq3 K) c.1),(Sl.fz tyStr c.2),Sl.dead,Sl.dead] (zaq_ c.1 c.2) (fun _:Unit=>[]) (fun _:Unit=>[]) (owF tyInt) :=
 (zex_ (LS:=(fun _:Unit=>[(Sl.fz (Qq3 K) c.1),(Sl.fz tyStr c.2),Sl.dead,Sl.dead])) (zdb_ (L':=[(Sl.fz (Qq3 K) c.1),(Sl.fz tyStr c.2),Sl.dead,Sl.dead]) (S4 .nil) (zjg_ (LS:=(fun _:Unit=>[(Sl.fz (Qq3 K) c.1),(Sl.fz tyStr c.2),Sl.dead,Sl.dead])) (s0:=()) (zic_ (zg_ (zcp_ (ns:=Qn0) (by decide +kernel) (n:=0) rfl at_0 (zd_ 0 rfl)))) (zlE_ (zi_ zf_) (ziu_ 2 (zil_ (zaD_ 3)))) fun _ x_4=>at_ [(Sl.fz (Qq3 K) c.1),(Sl.fz tyStr c.2),(Sl.fz tyInt x_4.1),(Sl.fz Qq2 x_4.2)] (s_if (zdS_ (zM_ zme_ (zF_ (zE_ (zd_ 1 rfl) (zg_ (zd_ 3 rfl)))) (zF_ (zE_ (zkZ_ (zcp_ (ns:=Qn0) (by decide +kernel) (n:=4) rfl (at_s (at_s (at_s (at_s at_0)))) (zd_ 0 rfl))) (zg_ (zd_ 3 rfl)))))) (zdV_ (zt_ zb_) (EvF.ow (zM_ za4_ (zd_ 2 rfl) (zm_ 1)))) (zZ_ (.same (.same (.dead (.dead .nil)))))))) fun _=>(at_ [(Sl.fz (Qq3 K) c.1),(Sl.fz tyStr c.2),Sl.dead,Sl.dead] (zdV_ (zt_ zb_) (EvF.ow (zM_ za4_ (zg0_ zdT_ (zg_ (zcp_ (ns:=Qn0) (by decide +kernel) (n:=0) rfl at_0 (zd_ 0 rfl)))) (zm_ 1))))))
theorem zc0_ {K:Fgg}:RD_Counter_changed_level K:=zez_ (K:=K) (N:=["self", "card", "place", "field"]) (C:=(csCons (Qq3 K) (csLast tyStr))) (O:=(owF tyInt)) (t:=fun E=>zW_ K) (ss:=fun c=>[(Sl.fz (Qq3 K) c.1),(Sl.fz tyStr c.2)]) (f:=fun c=>zaq_ c.1 c.2) 2 2 (zi_ zf_) rfl (z9_ zJ_) fun c E=>zcS_ c
theorem zhI_ {K:Fgg}{E:XK}(c:(List Nat)):EvS K (zcH_ K) E [(Sl.fz tyStr c),Sl.dead,Sl.dead] (zdE_ c) (fun _:Unit=>[]) (fun _:Unit=>[]) (owF tyInt) :=
 (zcN_ (i:=1) rfl zb_ (zm_ 0) fun value_1=>(at_ [(Sl.fz tyStr c),(Sl.fz tyInt value_1),Sl.dead] (zex_ (LS:=(fun s_2:Int=>[(Sl.fz tyStr c),(Sl.fz tyInt s_2),Sl.dead])) (zdb_ (L':=[(Sl.fz tyStr c),(Sl.fz tyInt value_1),Sl.dead]) (.same (.same (.same .nil))) (zjg_ (LS:=(fun s_2:Int=>[(Sl.fz tyStr c),(Sl.fz tyInt s_2),Sl.dead])) (s0:=value_1) (znL_ (zd_ 0 rfl)) (zaD_ 2) fun s_2 x_4=>at_ [(Sl.fz tyStr c),(Sl.fz tyInt s_2),(Sl.fz tyStr x_4)] (ze4_ (zcN_ (i:=1) rfl zb_ (zM_ za4_ (zM_ zdl_ (zd_ 1 rfl) (zm_ 10)) (znO_ znh_ (zdO_ [48,49,50,51,52,53,54,55,56,57]) (zg_ (zd_ 2 rfl)))) fun value_5=>(at_ [(Sl.fz tyStr c),(Sl.fz tyInt value_5),(Sl.fz tyStr x_4)] (zZ_ (.same (.same (.dead .nil))))))))) fun s_2=>(at_ [(Sl.fz tyStr c),(Sl.fz tyInt s_2),Sl.dead] (zdV_ (zt_ zb_) (EvF.ow (zd_ 1 rfl)))))))
theorem zhU_ {K:Fgg}:RD_number_by K:=zez_ (K:=K) (N:=["figures", "value", "figure"]) (C:=(csLast tyStr)) (O:=(owF tyInt)) (t:=fun E=>zcH_ K) (ss:=fun c=>[(Sl.fz tyStr c)]) (f:=fun c=>zdE_ c) 1 2 zf_ rfl zJ_ fun c E=>zhI_ c
theorem zhy_ {K:Fgg}{E:XK}(c:((List Nat)×(Int×Int))):EvS K (zcB_ K) E [(Sl.fz tyStr c.1),(Sl.fz Qq2 c.2),Sl.dead] (zdJ_ c.1 c.2) (fun _:Unit=>[]) (fun _:Unit=>[]) (owF tyInt) :=
 (zdv_ (i:=2) rfl (z2_ zB_) (zck_ (znL_ (zF_ (zE_ (zd_ 0 rfl) (zg_ (zd_ 1 rfl))))) (zaD_ 0) (fun _=>dead1) (fun x_6=>zcC_) (fun x_6=>(ev_if (zdS_ (zM_ zqy_ (zd_ 0 rfl) (zdO_ [48,49,50,51,52,53,54,55,56,57]))) (zd_ 0 rfl) (zdO_ [48])))) fun figures_1=>zlc_ (i:=2) rfl (at_ [(Sl.fz tyStr c.1),(Sl.fz Qq2 c.2),(Sl.fz (tyL tyStr) figures_1)] (zdV_ (zt_ zb_) (EvF.ow (zF_ (zg_ (znO_ zkd_ (zdO_ []) (zg_ (zd_ 2 rfl)))))))))
theorem zhv_ {K:Fgg}:RD_number_of K:=zez_ (K:=K) (N:=["card", "field", "figures"]) (C:=(csCons tyStr (csLast Qq2))) (O:=(owF tyInt)) (t:=fun E=>zcB_ K) (ss:=fun c=>[(Sl.fz tyStr c.1),(Sl.fz Qq2 c.2)]) (f:=fun c=>zdJ_ c.1 c.2) 2 1 (zi_ zf_) rfl (z9_ zJ_) fun c E=>zhy_ c
theorem zfU_ {K:Fgg}{E:XK}(w_:V) (x:Qq1) (c:(List Nat)):EvS K (zbw_ K) E [(Sl.ow (owAt w_ (Qq0 K)) x),(Sl.fz tyStr c),Sl.dead,Sl.dead,Sl.dead] (zb5_ x c) (fun _:Unit=>[]) (fun _:Unit=>[]) (owRM w_ (Qq0 K) (owL tyStr)) :=
 (zdv_ (i:=2) rfl (z2_ zB_) (zgY_ tyStr) fun lines_1=>(at_ [(Sl.ow (owAt w_ (Qq0 K)) x),(Sl.fz tyStr c),(Sl.ow (owL tyStr) lines_1),Sl.dead,Sl.dead] (zex_ (LS:=(fun s_6:((List (List Nat))×Qq1)=>[(Sl.ow (owAt w_ (Qq0 K)) s_6.2),(Sl.fz tyStr c),(Sl.ow (owL tyStr) s_6.1),Sl.dead,Sl.dead])) (s_if (zdS_ (zM_ znJ_ (zcp_ (ns:=Qn0) (by decide +kernel) (n:=4) rfl (at_s (at_s (at_s (at_s at_0)))) (zbV_ (P:=(Qq7 K)) 0 rfl)) zo4_)) (ze4_ (zog_ (w:=2) rfl (by decide) (zc3_ (m := "close_levels") (ns:=Qn0) (by decide +kernel) (zcy_ (zo_ (z2_ (z8_ (zv_ zb_ (zs_ zb_)))) (zo_ (z2_ (z8_ (zv_ zb_ (zs_ zb_)))) (zo_ (z2_ (z8_ (zv_ zb_ (zs_ zb_)))) (zo_ (zbt_ (zbt_ (zcy_ (zo_ (zt_ zb_) (zo_ (zt_ zb_) (zo_ (zt_ zb_) (zo_ (zt_ zaY_) zaC_))))))) (zo_ (zt_ (zdw_ zB_)) (zo_ (zfY_ zaY_) zaC_))))))) (z2_ zB_) (zgM_ (zec_ rfl)) (zew_ (zf9_ zb_ (zkr_ (m := "changed_level") (ns:=Qn0) (by decide +kernel) (zbV_ (P:=(Qq7 K)) 0 rfl) (zg_ (zd_ 1 rfl)))))) fun q_12=>(at_ [(Sl.ow (owAt w_ (Qq0 K)) q_12.2),(Sl.fz tyStr c),(Sl.ow (owL tyStr) q_12.1),Sl.dead,Sl.dead] (zZ_ (S4 (.same .nil)))))) (zZ_ (S4 (.same .nil)))) fun s_6=>(at_ [(Sl.ow (owAt w_ (Qq0 K)) s_6.2),(Sl.fz tyStr c),(Sl.ow (owL tyStr) s_6.1),Sl.dead,Sl.dead] (zcN_ (i:=3) rfl zB_ (zF_ (zg_ (zd_ 1 rfl))) fun mark_13=>(at_ [(Sl.ow (owAt w_ (Qq0 K)) s_6.2),(Sl.fz tyStr c),(Sl.ow (owL tyStr) s_6.1),(Sl.fz tyStr mark_13),Sl.dead] (zcN_ (i:=4) rfl zB_ (zF_ (zE_ (zd_ 1 rfl) (zg_ (zcp_ (ns:=Qn0) (by decide +kernel) (n:=2) rfl (at_s (at_s at_0)) (zbV_ (P:=(Qq7 K)) 0 rfl))))) fun laid_15=>(at_ [(Sl.ow (owAt w_ (Qq0 K)) s_6.2),(Sl.fz tyStr c),(Sl.ow (owL tyStr) s_6.1),(Sl.fz tyStr mark_13),(Sl.fz tyStr laid_15)] (zhT_ (i:=2) rfl zB_ (zlJ_ (zjF_ (zl9_ (zd_ 3 rfl)) (zjF_ (zdO_ [32]) (zjF_ (zl9_ (zd_ 4 rfl)) zp3_)))) fun a_28=>(at_ [(Sl.ow (owAt w_ (Qq0 K)) s_6.2),(Sl.fz tyStr c),(Sl.ow (owL tyStr) (s_6.1++[a_28])),(Sl.fz tyStr mark_13),(Sl.fz tyStr laid_15)] (zmn_ (zc3_ (m := "raise_level") (ns:=Qn0) (by decide +kernel) (zcy_ (zo_ (z2_ (z8_ (zv_ zb_ (zs_ zb_)))) (zo_ (z2_ (z8_ (zv_ zb_ (zs_ zb_)))) (zo_ (z2_ (z8_ (zv_ zb_ (zs_ zb_)))) (zo_ (zbt_ (zbt_ (zcy_ (zo_ (zt_ zb_) (zo_ (zt_ zb_) (zo_ (zt_ zb_) (zo_ (zt_ zaY_) zaC_))))))) (zo_ (zt_ (zdw_ zB_)) (zo_ (zfY_ zaY_) zaC_))))))) (zt_ zmq_) (zgM_ (zec_ rfl)) (zkt_ (zf9_ zb_ (zg0_ zdT_ (zg_ (zcp_ (ns:=Qn0) (by decide +kernel) (n:=0) rfl at_0 (zbV_ (P:=(Qq7 K)) 0 rfl))))) (zew_ (zms_ (z2_ zb_) (zck_ (ei_l (zcp_ (ns:=Qn0) (by decide +kernel) (n:=1) rfl (at_s at_0) (zbV_ (P:=(Qq7 K)) 0 rfl))) (zaD_ 0) (fun _=>dead1) (fun x_32=>zcC_) (fun x_32=>(zF_ (zE_ (zd_ 1 rfl) (zg_ (zd_ 0 rfl)))))))))) fun q_42=>(at_ [(Sl.ow (owAt w_ (Qq0 K)) q_42.2),(Sl.fz tyStr c),(Sl.ow (owL tyStr) (s_6.1++[a_28])),(Sl.fz tyStr mark_13),(Sl.fz tyStr laid_15)] (zhi_ (i:=0) (n:=4) (by decide +kernel) rfl (by decide) (zd1_ (zd1_ (zd1_ (zd1_ zjO_)))) (zdw_ zB_) (zoT_ (fun _ _ _=>zqS_) (zd_ 1 rfl)) (ziT_ (zfy_ rfl)) fun x_44=>(at_ [(Sl.ow (owAt w_ (Qq0 K)) x_44),(Sl.fz tyStr c),(Sl.ow (owL tyStr) (s_6.1++[a_28])),(Sl.fz tyStr mark_13),(Sl.fz tyStr laid_15)] (zl4_ (i:=0) (j:=2) (by decide) rfl rfl)))))))))))))))
theorem zfJ_ {K:Fgg}:RD_Counter_feed K:=ziv_ (K:=K) (N:=Qn27) (O:=(Qq0 K)) (O2:=(Qq0 K)) (Q:=(csLast tyStr)) (t:=fun E=>zbw_ K) (ss:=fun c=>[(Sl.fz tyStr c)]) (g:=fun x c=>zb5_ x c) 1 3 zf_ rfl zJ_ fun w_ x c E=>zfU_ w_ x c
theorem zid_ {K:Fgg}{E:XK}(c:(Int×Int)):EvS K (zcM_ K) E [(Sl.fz tyInt c.1),(Sl.fz tyInt c.2),Sl.dead] (zdK_ c.1 c.2) (fun _:Unit=>[]) (fun _:Unit=>[]) (owF Qq2) :=
 (zcN_ (i:=2) rfl zb_ (zM_ za4_ (zm_ 1) (zM_ zaZ_ (zM_ zce_ (zd_ 0 rfl) (zm_ 5)) (zm_ 36))) fun first_1=>(at_ [(Sl.fz tyInt c.1),(Sl.fz tyInt c.2),(Sl.fz tyInt first_1)] (zdV_ (zt_ (z8_ (zv_ zb_ (zs_ zb_)))) (EvF.ow (zqD_ (zi_ zf_) (zE_ (zd_ 2 rfl) (zg_ (zg0_ zob_ (zE_ (zm_ 36) (zg_ (zM_ za4_ (zd_ 2 rfl) (zM_ zaZ_ (zM_ zce_ (zd_ 0 rfl) (zm_ 180)) (zd_ 1 rfl)))))))))))))
theorem zhB_ {K:Fgg}:RD_law_field K:=zez_ (K:=K) (N:=Qn21) (C:=(csCons tyInt (csLast tyInt))) (O:=(owF Qq2)) (t:=fun E=>zcM_ K) (ss:=fun c=>[(Sl.fz tyInt c.1),(Sl.fz tyInt c.2)]) (f:=fun c=>zdK_ c.1 c.2) 2 1 (zi_ zf_) rfl (z9_ zJ_) fun c E=>zid_ c
theorem zi3_ {K:Fgg}{E:XK}(c:(Int×(Int×(List Int)))):EvS K (zdz_ K) E [(Sl.fz tyInt c.1),(Sl.fz tyInt c.2.1),(Sl.fz (tyL tyInt) c.2.2),Sl.dead,Sl.dead,Sl.dead,Sl.dead,Sl.dead,Sl.dead,Sl.dead,Sl.dead,Sl.dead] (zen_ c.1 c.2.1 c.2.2) (fun _:Unit=>[]) (fun _:Unit=>[]) (owF tyStr) :=
 (zcN_ (i:=3) rfl zB_ (zdO_ SG) fun signs_1=>(at_ [(Sl.fz tyInt c.1),(Sl.fz tyInt c.2.1),(Sl.fz (tyL tyInt) c.2.2),(Sl.fz tyStr signs_1),Sl.dead,Sl.dead,Sl.dead,Sl.dead,Sl.dead,Sl.dead,Sl.dead,Sl.dead] (zdv_ (i:=4) rfl (z2_ zb_) (zdW_ (zE_ (zd_ 0 rfl) (zg_ (zm_ 36)))) fun numbers_2=>zlc_ (i:=4) rfl (at_ [(Sl.fz tyInt c.1),(Sl.fz tyInt c.2.1),(Sl.fz (tyL tyInt) c.2.2),(Sl.fz tyStr signs_1),(Sl.fz (tyL tyInt) numbers_2),Sl.dead,Sl.dead,Sl.dead,Sl.dead,Sl.dead,Sl.dead,Sl.dead] (zcN_ (i:=5) rfl zB_ (zdO_ []) fun text_6=>(at_ [(Sl.fz tyInt c.1),(Sl.fz tyInt c.2.1),(Sl.fz (tyL tyInt) c.2.2),(Sl.fz tyStr signs_1),(Sl.fz (tyL tyInt) numbers_2),(Sl.fz tyStr text_6),Sl.dead,Sl.dead,Sl.dead,Sl.dead,Sl.dead,Sl.dead] (zex_ (LS:=(fun s_7:(List Nat)=>[(Sl.fz tyInt c.1),(Sl.fz tyInt c.2.1),(Sl.fz (tyL tyInt) c.2.2),(Sl.fz tyStr signs_1),(Sl.fz (tyL tyInt) numbers_2),(Sl.fz tyStr s_7),Sl.dead,Sl.dead,Sl.dead,Sl.dead,Sl.dead,Sl.dead])) (zdb_ (L':=[(Sl.fz tyInt c.1),(Sl.fz tyInt c.2.1),(Sl.fz (tyL tyInt) c.2.2),(Sl.fz tyStr signs_1),(Sl.fz (tyL tyInt) numbers_2),(Sl.fz tyStr text_6),Sl.dead,Sl.dead,Sl.dead,Sl.dead,Sl.dead,Sl.dead]) (S4 (S4 (S4 .nil))) (zjg_ (LS:=(fun s_7:(List Nat)=>[(Sl.fz tyInt c.1),(Sl.fz tyInt c.2.1),(Sl.fz (tyL tyInt) c.2.2),(Sl.fz tyStr signs_1),(Sl.fz (tyL tyInt) numbers_2),(Sl.fz tyStr s_7),Sl.dead,Sl.dead,Sl.dead,Sl.dead,Sl.dead,Sl.dead])) (s0:=text_6) (zfD_ (zg_ (zm_ 36))) (zaD_ 6) fun s_7 x_9=>at_ [(Sl.fz tyInt c.1),(Sl.fz tyInt c.2.1),(Sl.fz (tyL tyInt) c.2.2),(Sl.fz tyStr signs_1),(Sl.fz (tyL tyInt) numbers_2),(Sl.fz tyStr s_7),(Sl.fz tyInt x_9),Sl.dead,Sl.dead,Sl.dead,Sl.dead,Sl.dead] (zcN_ (i:=7) rfl zb_ (zM_ zce_ (zM_ zd6_ (zd_ 4 rfl) (zd_ 6 rfl)) (zm_ 7)) fun step_10=>(at_ [(Sl.fz tyInt c.1),(Sl.fz tyInt c.2.1),(Sl.fz (tyL tyInt) c.2.2),(Sl.fz tyStr signs_1),(Sl.fz (tyL tyInt) numbers_2),(Sl.fz tyStr s_7),(Sl.fz tyInt x_9),(Sl.fz tyInt step_10),Sl.dead,Sl.dead,Sl.dead,Sl.dead] (zcN_ (i:=8) rfl zb_ (zM_ zce_ (zM_ zd6_ (zd_ 2 rfl) (zd_ 6 rfl)) (zm_ 5)) fun low_15=>(at_ [(Sl.fz tyInt c.1),(Sl.fz tyInt c.2.1),(Sl.fz (tyL tyInt) c.2.2),(Sl.fz tyStr signs_1),(Sl.fz (tyL tyInt) numbers_2),(Sl.fz tyStr s_7),(Sl.fz tyInt x_9),(Sl.fz tyInt step_10),(Sl.fz tyInt low_15),Sl.dead,Sl.dead,Sl.dead] (zcN_ (i:=9) rfl zb_ (zM_ za4_ (zd_ 8 rfl) (zM_ zaZ_ (zd_ 7 rfl) (zm_ 2))) fun two_20=>(at_ [(Sl.fz tyInt c.1),(Sl.fz tyInt c.2.1),(Sl.fz (tyL tyInt) c.2.2),(Sl.fz tyStr signs_1),(Sl.fz (tyL tyInt) numbers_2),(Sl.fz tyStr s_7),(Sl.fz tyInt x_9),(Sl.fz tyInt step_10),(Sl.fz tyInt low_15),(Sl.fz tyInt two_20),Sl.dead,Sl.dead] (zdv_ (i:=10) rfl (z2_ zb_) (zlv_ (zi_ (zi_ (zi_ (zi_ zf_)))) (zff_ (zff_ (zff_ (zff_ zge_)))) (zE_ (zM_ za4_ (zm_ 1) (zM_ zaZ_ (zd_ 8 rfl) (zm_ 10))) (zE_ (zM_ za4_ (zm_ 1) (zM_ zaZ_ (zd_ 7 rfl) (zm_ 10))) (zE_ (zM_ zaZ_ (zd_ 9 rfl) (zm_ 37)) (zE_ (zM_ zaZ_ (zd_ 7 rfl) (zm_ 37)) (zg_ (zM_ za4_ (zm_ 1) (zM_ zaZ_ (zd_ 9 rfl) (zm_ 10))))))))) fun some_25=>zlc_ (i:=10) rfl (at_ [(Sl.fz tyInt c.1),(Sl.fz tyInt c.2.1),(Sl.fz (tyL tyInt) c.2.2),(Sl.fz tyStr signs_1),(Sl.fz (tyL tyInt) numbers_2),(Sl.fz tyStr s_7),(Sl.fz tyInt x_9),(Sl.fz tyInt step_10),(Sl.fz tyInt low_15),(Sl.fz tyInt two_20),(Sl.fz (tyL tyInt) some_25),Sl.dead] (ze4_ (zcN_ (i:=5) rfl zB_ (zM_ zeb_ (zd_ 5 rfl) (zM_ zh6_ (zd_ 3 rfl) (zM_ zd6_ (zd_ 10 rfl) (zM_ zaZ_ (zM_ zd6_ (zd_ 2 rfl) (zd_ 6 rfl)) (zm_ 5))))) fun text_51=>(at_ [(Sl.fz tyInt c.1),(Sl.fz tyInt c.2.1),(Sl.fz (tyL tyInt) c.2.2),(Sl.fz tyStr signs_1),(Sl.fz (tyL tyInt) numbers_2),(Sl.fz tyStr text_51),(Sl.fz tyInt x_9),(Sl.fz tyInt step_10),(Sl.fz tyInt low_15),(Sl.fz tyInt two_20),(Sl.fz (tyL tyInt) some_25),Sl.dead] (zZ_ (S4 (.same (.same (.dead (.dead (.dead (.dead (.dead (.same .nil))))))))))))))))))))))) fun s_7=>(at_ [(Sl.fz tyInt c.1),(Sl.fz tyInt c.2.1),(Sl.fz (tyL tyInt) c.2.2),(Sl.fz tyStr signs_1),(Sl.fz (tyL tyInt) numbers_2),(Sl.fz tyStr s_7),Sl.dead,Sl.dead,Sl.dead,Sl.dead,Sl.dead,Sl.dead] (zcN_ (i:=11) rfl zB_ (zM_ zeb_ (zM_ zeb_ (zM_ zh6_ (zd_ 3 rfl) (zM_ zaZ_ (zd_ 0 rfl) (zm_ 37))) (zM_ zh6_ (zd_ 3 rfl) (zM_ zaZ_ (zd_ 1 rfl) (zm_ 37)))) (zM_ zh6_ (zd_ 3 rfl) (zM_ zaZ_ (zM_ zd6_ (zd_ 4 rfl) (zm_ 0)) (zm_ 37)))) fun mark_63=>(at_ [(Sl.fz tyInt c.1),(Sl.fz tyInt c.2.1),(Sl.fz (tyL tyInt) c.2.2),(Sl.fz tyStr signs_1),(Sl.fz (tyL tyInt) numbers_2),(Sl.fz tyStr s_7),Sl.dead,Sl.dead,Sl.dead,Sl.dead,Sl.dead,(Sl.fz tyStr mark_63)] (zdV_ (zt_ zB_) (EvF.ow (zM_ zeb_ (zM_ zeb_ (zd_ 5 rfl) (zd_ 11 rfl)) (zM_ zh6_ (zd_ 3 rfl) (zM_ zaZ_ (zM_ zce_ (zd_ 0 rfl) (zm_ 37)) (zm_ 37))))))))))))))))
theorem ziW_ {K:Fgg}:RD_law_card K:=zez_ (K:=K) (N:=Qn2) (C:=(csCons tyInt (csCons tyInt (csLast (tyL tyInt))))) (O:=(owF tyStr)) (t:=fun E=>zdz_ K) (ss:=fun c=>[(Sl.fz tyInt c.1),(Sl.fz tyInt c.2.1),(Sl.fz (tyL tyInt) c.2.2)]) (f:=fun c=>zen_ c.1 c.2.1 c.2.2) 3 9 (zi_ (zi_ zf_)) rfl (z9_ (z9_ zJ_)) fun c E=>zi3_ c
theorem zhc_ {K:Fgg}{E:XK}(c:((List Int)×(List Bool))):EvS K (zco_ K) E [(Sl.fz (tyL tyInt) c.1),(Sl.fz (tyL tyBl) c.2),Sl.dead] (zcP_ c.1 c.2) (fun _:Unit=>[]) (fun _:Unit=>[]) (owF tyBl) :=
 (zex_ (LS:=(fun _:Unit=>[(Sl.fz (tyL tyInt) c.1),(Sl.fz (tyL tyBl) c.2),Sl.dead])) (zdb_ (L':=[(Sl.fz (tyL tyInt) c.1),(Sl.fz (tyL tyBl) c.2),Sl.dead]) (.same (.same (.same .nil))) (zjg_ (LS:=(fun _:Unit=>[(Sl.fz (tyL tyInt) c.1),(Sl.fz (tyL tyBl) c.2),Sl.dead])) (s0:=()) (ei_l (zd_ 0 rfl)) (zaD_ 2) fun _ x_2=>at_ [(Sl.fz (tyL tyInt) c.1),(Sl.fz (tyL tyBl) c.2),(Sl.fz tyInt x_2)] (s_if (zjG_ (zdS_ (zM_ zd6_ (zd_ 1 rfl) (zd_ 2 rfl)))) (zdV_ (zt_ zaY_) (EvF.ow (zla_ false))) (zZ_ (.same (.same (.dead .nil))))))) fun _=>(at_ [(Sl.fz (tyL tyInt) c.1),(Sl.fz (tyL tyBl) c.2),Sl.dead] (zdV_ (zt_ zaY_) (EvF.ow (zla_ true)))))
theorem zhf_ {K:Fgg}:RD_law_untold K:=zez_ (K:=K) (N:=Qn25) (C:=(csCons (tyL tyInt) (csLast (tyL tyBl)))) (O:=(owF tyBl)) (t:=fun E=>zco_ K) (ss:=fun c=>[(Sl.fz (tyL tyInt) c.1),(Sl.fz (tyL tyBl) c.2)]) (f:=fun c=>zcP_ c.1 c.2) 2 1 (zi_ zf_) rfl (z9_ zJ_) fun c E=>zhc_ c
theorem zhO_ {K:Fgg}{E:XK}(c:(Int×Int)):EvS K (zcF_ K) E [(Sl.fz tyInt c.1),(Sl.fz tyInt c.2),Sl.dead,Sl.dead] (zcK_ c.1 c.2) (fun _:Unit=>[]) (fun _:Unit=>[]) (owF tyStr) :=
 (zcN_ (i:=2) rfl zB_ (zdO_ []) fun found_1=>(at_ [(Sl.fz tyInt c.1),(Sl.fz tyInt c.2),(Sl.fz tyStr found_1),Sl.dead] (zex_ (LS:=(fun s_2:((List Nat)×Int)=>[(Sl.fz tyInt s_2.2),(Sl.fz tyInt c.2),(Sl.fz tyStr s_2.1),Sl.dead])) (zdb_ (L':=[(Sl.fz tyInt c.1),(Sl.fz tyInt c.2),(Sl.fz tyStr found_1),Sl.dead]) (S4 .nil) (zjg_ (LS:=(fun s_2:((List Nat)×Int)=>[(Sl.fz tyInt s_2.2),(Sl.fz tyInt c.2),(Sl.fz tyStr s_2.1),Sl.dead])) (s0:=(found_1,c.1)) (zfD_ (zg_ (zd_ 1 rfl))) (zaD_ 3) fun s_2 x_4=>at_ [(Sl.fz tyInt s_2.2),(Sl.fz tyInt c.2),(Sl.fz tyStr s_2.1),(Sl.fz tyInt x_4)] (zcN_ (i:=2) rfl zB_ (zM_ zeb_ (zM_ zh6_ (zdO_ [48,49,50,51,52,53,54,55,56,57]) (zM_ zaZ_ (zd_ 0 rfl) (zm_ 10))) (zd_ 2 rfl)) fun found_5=>(at_ [(Sl.fz tyInt s_2.2),(Sl.fz tyInt c.2),(Sl.fz tyStr found_5),(Sl.fz tyInt x_4)] (ze4_ (zcN_ (i:=0) rfl zb_ (zM_ zce_ (zd_ 0 rfl) (zm_ 10)) fun number_here_12=>(at_ [(Sl.fz tyInt number_here_12),(Sl.fz tyInt c.2),(Sl.fz tyStr found_5),(Sl.fz tyInt x_4)] (zZ_ (.same (.same (.same (.dead .nil)))))))))))) fun s_2=>(at_ [(Sl.fz tyInt s_2.2),(Sl.fz tyInt c.2),(Sl.fz tyStr s_2.1),Sl.dead] (zdV_ (zt_ zB_) (EvF.ow (zd_ 2 rfl)))))))
theorem zhA_ {K:Fgg}:RD_law_shown K:=zez_ (K:=K) (N:=Qn11) (C:=(csCons tyInt (csLast tyInt))) (O:=(owF tyStr)) (t:=fun E=>zcF_ K) (ss:=fun c=>[(Sl.fz tyInt c.1),(Sl.fz tyInt c.2)]) (f:=fun c=>zcK_ c.1 c.2) 2 2 (zi_ zf_) rfl (z9_ zJ_) fun c E=>zhO_ c
theorem zfm_ {K:Fgg}{E:XK}(c:((List Nat)×((List Int)×((List Bool)×Int)))):EvS K (zbm_ K) E [(Sl.fz tyStr c.1),(Sl.fz (tyL tyInt) c.2.1),(Sl.fz (tyL tyBl) c.2.2.1),(Sl.fz tyInt c.2.2.2),Sl.dead,Sl.dead,Sl.dead] (zbL_ c.1 c.2.1 c.2.2.1 c.2.2.2) (fun _:Unit=>[]) (fun _:Unit=>[]) (owF tyBl) :=
 (zex_ (LS:=(fun _:Unit=>[(Sl.fz tyStr c.1),(Sl.fz (tyL tyInt) c.2.1),(Sl.fz (tyL tyBl) c.2.2.1),(Sl.fz tyInt c.2.2.2),Sl.dead,Sl.dead,Sl.dead])) (zdb_ (L':=[(Sl.fz tyStr c.1),(Sl.fz (tyL tyInt) c.2.1),(Sl.fz (tyL tyBl) c.2.2.1),(Sl.fz tyInt c.2.2.2),Sl.dead,Sl.dead,Sl.dead]) (S4 (.same (.same (.same .nil)))) (zjg_ (LS:=(fun _:Unit=>[(Sl.fz tyStr c.1),(Sl.fz (tyL tyInt) c.2.1),(Sl.fz (tyL tyBl) c.2.2.1),(Sl.fz tyInt c.2.2.2),Sl.dead,Sl.dead,Sl.dead])) (s0:=()) (zfD_ (zg_ (zg0_ zdT_ (zg_ (zd_ 1 rfl))))) (zaD_ 4) fun _ x_4=>at_ [(Sl.fz tyStr c.1),(Sl.fz (tyL tyInt) c.2.1),(Sl.fz (tyL tyBl) c.2.2.1),(Sl.fz tyInt c.2.2.2),(Sl.fz tyInt x_4),Sl.dead,Sl.dead] (zcN_ (i:=5) rfl zb_ (zM_ zbR_ (zg0_ zpp_ (zg_ (zd_ 0 rfl))) (zM_ zdl_ (zM_ za4_ (zd_ 3 rfl) (zm_ 1)) (zM_ zbR_ (zM_ zbR_ (zg0_ zdT_ (zg_ (zd_ 1 rfl))) (zm_ 1)) (zd_ 4 rfl)))) fun end_5=>(at_ [(Sl.fz tyStr c.1),(Sl.fz (tyL tyInt) c.2.1),(Sl.fz (tyL tyBl) c.2.2.1),(Sl.fz tyInt c.2.2.2),(Sl.fz tyInt x_4),(Sl.fz tyInt end_5),Sl.dead] (zcN_ (i:=6) rfl zB_ (zM_ zeb_ (zdO_ [32]) (zF_ (zE_ (zM_ zd6_ (zd_ 1 rfl) (zd_ 4 rfl)) (zg_ (zd_ 3 rfl))))) fun tail_18=>(at_ [(Sl.fz tyStr c.1),(Sl.fz (tyL tyInt) c.2.1),(Sl.fz (tyL tyBl) c.2.2.1),(Sl.fz tyInt c.2.2.2),(Sl.fz tyInt x_4),(Sl.fz tyInt end_5),(Sl.fz tyStr tail_18)] (s_if (zqY_ (zjG_ (zdS_ (zM_ zd6_ (zd_ 2 rfl) (zd_ 4 rfl)))) (zdS_ (zM_ zme_ (zh4_ (zd_ 0 rfl) (zi5_ (zM_ zbR_ (zM_ zbR_ (zd_ 5 rfl) (zd_ 3 rfl)) (zm_ 1))) (zi5_ (zd_ 5 rfl))) (zd_ 6 rfl)))) (zdV_ (zt_ zaY_) (EvF.ow (zla_ false))) (zZ_ (S4 (.dead (.dead (.dead .nil)))))))))))) fun _=>(at_ [(Sl.fz tyStr c.1),(Sl.fz (tyL tyInt) c.2.1),(Sl.fz (tyL tyBl) c.2.2.1),(Sl.fz tyInt c.2.2.2),Sl.dead,Sl.dead,Sl.dead] (zdV_ (zt_ zaY_) (EvF.ow (zla_ true)))))
theorem zfb_ {K:Fgg}:RD_law_last_line K:=zez_ (K:=K) (N:=Qn6) (C:=(csCons tyStr (csCons (tyL tyInt) (csCons (tyL tyBl) (csLast tyInt))))) (O:=(owF tyBl)) (t:=fun E=>zbm_ K) (ss:=fun c=>[(Sl.fz tyStr c.1),(Sl.fz (tyL tyInt) c.2.1),(Sl.fz (tyL tyBl) c.2.2.1),(Sl.fz tyInt c.2.2.2)]) (f:=fun c=>zbL_ c.1 c.2.1 c.2.2.1 c.2.2.2) 4 3 (zi_ (zi_ (zi_ zf_))) rfl (z9_ (z9_ (z9_ zJ_))) fun c E=>zfm_ c
theorem zg1_ {K:Fgg}{E:XK}(c:((List Nat)×(Int×Int))):EvS K (zcm_ K) E [(Sl.fz tyStr c.1),(Sl.fz Qq2 c.2),Sl.dead,Sl.dead] (zc4_ c.1 c.2) (fun _:Unit=>[]) (fun _:Unit=>[]) (owF tyInt) :=
 (zcN_ (i:=2) rfl zb_ (zm_ 0) fun total_1=>(at_ [(Sl.fz tyStr c.1),(Sl.fz Qq2 c.2),(Sl.fz tyInt total_1),Sl.dead] (zex_ (LS:=(fun s_2:Int=>[(Sl.fz tyStr c.1),(Sl.fz Qq2 c.2),(Sl.fz tyInt s_2),Sl.dead])) (zdb_ (L':=[(Sl.fz tyStr c.1),(Sl.fz Qq2 c.2),(Sl.fz tyInt total_1),Sl.dead]) (S4 .nil) (zjg_ (LS:=(fun s_2:Int=>[(Sl.fz tyStr c.1),(Sl.fz Qq2 c.2),(Sl.fz tyInt s_2),Sl.dead])) (s0:=total_1) (znL_ (zh4_ (zd_ 0 rfl) (zi5_ (zM_ zbR_ (zet_ (i:=0) at_0 (zd_ 1 rfl)) (zm_ 1))) (zi5_ (zet_ (i:=1) (at_s zfg_) (zd_ 1 rfl))))) (zaD_ 3) fun s_2 x_13=>at_ [(Sl.fz tyStr c.1),(Sl.fz Qq2 c.2),(Sl.fz tyInt s_2),(Sl.fz tyStr x_13)] (ze4_ (zcN_ (i:=2) rfl zb_ (zM_ za4_ (zM_ zdl_ (zm_ 10) (zd_ 2 rfl)) (zg0_ znS_ (zE_ (zm_ 0) (zg_ (znO_ zov_ (zdO_ [48,49,50,51,52,53,54,55,56,57]) (zg_ (zd_ 3 rfl))))))) fun total_14=>(at_ [(Sl.fz tyStr c.1),(Sl.fz Qq2 c.2),(Sl.fz tyInt total_14),(Sl.fz tyStr x_13)] (zZ_ (.same (.same (.same (.dead .nil)))))))))) fun s_2=>(at_ [(Sl.fz tyStr c.1),(Sl.fz Qq2 c.2),(Sl.fz tyInt s_2),Sl.dead] (zdV_ (zt_ zb_) (EvF.ow (zd_ 2 rfl)))))))
theorem zgL_ {K:Fgg}:RD_law_number K:=zez_ (K:=K) (N:=Qn12) (C:=(csCons tyStr (csLast Qq2))) (O:=(owF tyInt)) (t:=fun E=>zcm_ K) (ss:=fun c=>[(Sl.fz tyStr c.1),(Sl.fz Qq2 c.2)]) (f:=fun c=>zc4_ c.1 c.2) 2 2 (zi_ zf_) rfl (z9_ zJ_) fun c E=>zg1_ c
theorem zqo_ {K:Fgg}{E:XK}(c:(List Int)):EvS K (zoL_ K) E [(Sl.fz (tySc K) c),Sl.dead,Sl.dead,Sl.dead,Sl.dead,Sl.dead,Sl.dead,Sl.dead,Sl.dead,Sl.dead,Sl.dead,Sl.dead,Sl.dead,Sl.dead,Sl.dead,Sl.dead,Sl.dead,Sl.dead,Sl.dead,Sl.dead] (zpy_ c) (fun _:Unit=>[]) (fun _:Unit=>[]) (owF tyBl) :=
 (zdv_ (i:=1) rfl (z2_ zb_) (zdW_ (zg_ (zF_ (zE_ (zd_ 0 rfl) (zg_ (zm_ 0)))))) fun kinds_here_1=>zlc_ (i:=1) rfl (at_ [(Sl.fz (tySc K) c),(Sl.fz (tyL tyInt) kinds_here_1),Sl.dead,Sl.dead,Sl.dead,Sl.dead,Sl.dead,Sl.dead,Sl.dead,Sl.dead,Sl.dead,Sl.dead,Sl.dead,Sl.dead,Sl.dead,Sl.dead,Sl.dead,Sl.dead,Sl.dead,Sl.dead] (zcN_ (i:=2) rfl zb_ (zM_ zaZ_ (zF_ (zE_ (zd_ 0 rfl) (zg_ (zm_ 1)))) (zm_ 4)) fun many_6=>(at_ [(Sl.fz (tySc K) c),(Sl.fz (tyL tyInt) kinds_here_1),(Sl.fz tyInt many_6),Sl.dead,Sl.dead,Sl.dead,Sl.dead,Sl.dead,Sl.dead,Sl.dead,Sl.dead,Sl.dead,Sl.dead,Sl.dead,Sl.dead,Sl.dead,Sl.dead,Sl.dead,Sl.dead,Sl.dead] (zdv_ (i:=3) rfl (z2_ (z8_ (zv_ zb_ (zs_ zb_)))) (zck_ (ei_l (EvO.fr (zdW_ (zE_ (zF_ (zE_ (zd_ 0 rfl) (zg_ (zm_ 1)))) (zg_ (zd_ 2 rfl)))))) (zaD_ 0) (fun _=>dead1) (fun x_19=>zcC_) (fun x_19=>(zF_ (zE_ (zd_ 0 rfl) (zg_ (zm_ 2)))))) fun breaks_12=>zlc_ (i:=3) rfl (at_ [(Sl.fz (tySc K) c),(Sl.fz (tyL tyInt) kinds_here_1),(Sl.fz tyInt many_6),(Sl.fz (tyL Qq2) breaks_12),Sl.dead,Sl.dead,Sl.dead,Sl.dead,Sl.dead,Sl.dead,Sl.dead,Sl.dead,Sl.dead,Sl.dead,Sl.dead,Sl.dead,Sl.dead,Sl.dead,Sl.dead,Sl.dead] (zcN_ (i:=4) rfl zb_ (zF_ (zE_ (zd_ 0 rfl) (zg_ (zm_ 2)))) fun cell_24=>(at_ [(Sl.fz (tySc K) c),(Sl.fz (tyL tyInt) kinds_here_1),(Sl.fz tyInt many_6),(Sl.fz (tyL Qq2) breaks_12),(Sl.fz tyInt cell_24),Sl.dead,Sl.dead,Sl.dead,Sl.dead,Sl.dead,Sl.dead,Sl.dead,Sl.dead,Sl.dead,Sl.dead,Sl.dead,Sl.dead,Sl.dead,Sl.dead,Sl.dead] (zcN_ (i:=5) rfl zb_ (zM_ zd6_ (EvO.fr (zlv_ (zi_ zf_) (zff_ zge_) (zE_ (zm_ 3) (zg_ (zm_ 12))))) (zM_ zaZ_ (zM_ zce_ (zd_ 4 rfl) (zm_ 4)) (zm_ 2))) fun most_28=>(at_ [(Sl.fz (tySc K) c),(Sl.fz (tyL tyInt) kinds_here_1),(Sl.fz tyInt many_6),(Sl.fz (tyL Qq2) breaks_12),(Sl.fz tyInt cell_24),(Sl.fz tyInt most_28),Sl.dead,Sl.dead,Sl.dead,Sl.dead,Sl.dead,Sl.dead,Sl.dead,Sl.dead,Sl.dead,Sl.dead,Sl.dead,Sl.dead,Sl.dead,Sl.dead] (zdv_ (i:=6) rfl (z2_ (z8_ (zv_ zb_ (zs_ zb_)))) (zck_ (ei_l (EvO.fr (zdW_ (zE_ (zd_ 4 rfl) (zg_ (zM_ za4_ (zm_ 1) (zM_ zaZ_ (zd_ 4 rfl) (zm_ 4)))))))) (zaD_ 0) (fun _=>dead1) (fun x_46=>zcC_) (fun x_46=>(zF_ (zE_ (zd_ 0 rfl) (zg_ (zd_ 1 rfl)))))) fun sums_38=>zlc_ (i:=6) rfl (at_ [(Sl.fz (tySc K) c),(Sl.fz (tyL tyInt) kinds_here_1),(Sl.fz tyInt many_6),(Sl.fz (tyL Qq2) breaks_12),(Sl.fz tyInt cell_24),(Sl.fz tyInt most_28),(Sl.fz (tyL Qq2) sums_38),Sl.dead,Sl.dead,Sl.dead,Sl.dead,Sl.dead,Sl.dead,Sl.dead,Sl.dead,Sl.dead,Sl.dead,Sl.dead,Sl.dead,Sl.dead] (zcN_ (i:=7) rfl (z8_ (zv_ zb_ (zs_ zb_))) (zM_ zd6_ (zd_ 6 rfl) (zm_ 0)) fun first_51=>(at_ [(Sl.fz (tySc K) c),(Sl.fz (tyL tyInt) kinds_here_1),(Sl.fz tyInt many_6),(Sl.fz (tyL Qq2) breaks_12),(Sl.fz tyInt cell_24),(Sl.fz tyInt most_28),(Sl.fz (tyL Qq2) sums_38),(Sl.fz Qq2 first_51),Sl.dead,Sl.dead,Sl.dead,Sl.dead,Sl.dead,Sl.dead,Sl.dead,Sl.dead,Sl.dead,Sl.dead,Sl.dead,Sl.dead] (zcN_ (i:=8) rfl zaY_ (zM_ zmj_ (zM_ zaZ_ (zM_ zce_ (zF_ (zE_ (zd_ 0 rfl) (zg_ (zm_ 3)))) (zm_ 3)) (zm_ 2)) (zm_ 0)) fun nines_54=>(at_ [(Sl.fz (tySc K) c),(Sl.fz (tyL tyInt) kinds_here_1),(Sl.fz tyInt many_6),(Sl.fz (tyL Qq2) breaks_12),(Sl.fz tyInt cell_24),(Sl.fz tyInt most_28),(Sl.fz (tyL Qq2) sums_38),(Sl.fz Qq2 first_51),(Sl.fz tyBl nines_54),Sl.dead,Sl.dead,Sl.dead,Sl.dead,Sl.dead,Sl.dead,Sl.dead,Sl.dead,Sl.dead,Sl.dead,Sl.dead] (zdv_ (i:=9) rfl (z2_ zB_) (zgY_ tyStr) fun deck_64=>(at_ [(Sl.fz (tySc K) c),(Sl.fz (tyL tyInt) kinds_here_1),(Sl.fz tyInt many_6),(Sl.fz (tyL Qq2) breaks_12),(Sl.fz tyInt cell_24),(Sl.fz tyInt most_28),(Sl.fz (tyL Qq2) sums_38),(Sl.fz Qq2 first_51),(Sl.fz tyBl nines_54),(Sl.ow (owL tyStr) deck_64),Sl.dead,Sl.dead,Sl.dead,Sl.dead,Sl.dead,Sl.dead,Sl.dead,Sl.dead,Sl.dead,Sl.dead] (zex_ (LS:=(fun s_65:(List (List Nat))=>[(Sl.fz (tySc K) c),(Sl.fz (tyL tyInt) kinds_here_1),(Sl.fz tyInt many_6),(Sl.fz (tyL Qq2) breaks_12),(Sl.fz tyInt cell_24),(Sl.fz tyInt most_28),(Sl.fz (tyL Qq2) sums_38),(Sl.fz Qq2 first_51),(Sl.fz tyBl nines_54),(Sl.ow (owL tyStr) s_65),Sl.dead,Sl.dead,Sl.dead,Sl.dead,Sl.dead,Sl.dead,Sl.dead,Sl.dead,Sl.dead,Sl.dead])) (zdb_ (L':=[(Sl.fz (tySc K) c),(Sl.fz (tyL tyInt) kinds_here_1),(Sl.fz tyInt many_6),(Sl.fz (tyL Qq2) breaks_12),(Sl.fz tyInt cell_24),(Sl.fz tyInt most_28),(Sl.fz (tyL Qq2) sums_38),(Sl.fz Qq2 first_51),(Sl.fz tyBl nines_54),(Sl.ow (owL tyStr) deck_64),Sl.dead,Sl.dead,Sl.dead,Sl.dead,Sl.dead,Sl.dead,Sl.dead,Sl.dead,Sl.dead,Sl.dead]) (S4 (S4 (S4 (S4 (S4 .nil))))) (zjg_ (LS:=(fun s_65:(List (List Nat))=>[(Sl.fz (tySc K) c),(Sl.fz (tyL tyInt) kinds_here_1),(Sl.fz tyInt many_6),(Sl.fz (tyL Qq2) breaks_12),(Sl.fz tyInt cell_24),(Sl.fz tyInt most_28),(Sl.fz (tyL Qq2) sums_38),(Sl.fz Qq2 first_51),(Sl.fz tyBl nines_54),(Sl.ow (owL tyStr) s_65),Sl.dead,Sl.dead,Sl.dead,Sl.dead,Sl.dead,Sl.dead,Sl.dead,Sl.dead,Sl.dead,Sl.dead])) (s0:=deck_64) (zic_ (zg_ (EvO.fr (zpe_ (zd_ 0 rfl) (zi5_ (zm_ 4)) (zi5_ (zm_ 64)))))) (zlE_ (zi_ zf_) (ziu_ 10 (zil_ (zaD_ 11)))) fun s_65 x_72=>at_ [(Sl.fz (tySc K) c),(Sl.fz (tyL tyInt) kinds_here_1),(Sl.fz tyInt many_6),(Sl.fz (tyL Qq2) breaks_12),(Sl.fz tyInt cell_24),(Sl.fz tyInt most_28),(Sl.fz (tyL Qq2) sums_38),(Sl.fz Qq2 first_51),(Sl.fz tyBl nines_54),(Sl.ow (owL tyStr) s_65),(Sl.fz tyInt x_72.1),(Sl.fz tyInt x_72.2),Sl.dead,Sl.dead,Sl.dead,Sl.dead,Sl.dead,Sl.dead,Sl.dead,Sl.dead] (zcN_ (i:=12) rfl zB_ (zF_ (zE_ (zd_ 11 rfl) (zE_ (zd_ 10 rfl) (zg_ (zd_ 1 rfl))))) fun card_here_73=>(at_ [(Sl.fz (tySc K) c),(Sl.fz (tyL tyInt) kinds_here_1),(Sl.fz tyInt many_6),(Sl.fz (tyL Qq2) breaks_12),(Sl.fz tyInt cell_24),(Sl.fz tyInt most_28),(Sl.fz (tyL Qq2) sums_38),(Sl.fz Qq2 first_51),(Sl.fz tyBl nines_54),(Sl.ow (owL tyStr) s_65),(Sl.fz tyInt x_72.1),(Sl.fz tyInt x_72.2),(Sl.fz tyStr card_here_73),Sl.dead,Sl.dead,Sl.dead,Sl.dead,Sl.dead,Sl.dead,Sl.dead] (zex_ (LS:=(fun s_80:(List Nat)=>[(Sl.fz (tySc K) c),(Sl.fz (tyL tyInt) kinds_here_1),(Sl.fz tyInt many_6),(Sl.fz (tyL Qq2) breaks_12),(Sl.fz tyInt cell_24),(Sl.fz tyInt most_28),(Sl.fz (tyL Qq2) sums_38),(Sl.fz Qq2 first_51),(Sl.fz tyBl nines_54),(Sl.ow (owL tyStr) s_65),(Sl.fz tyInt x_72.1),(Sl.fz tyInt x_72.2),(Sl.fz tyStr s_80),Sl.dead,Sl.dead,Sl.dead,Sl.dead,Sl.dead,Sl.dead,Sl.dead])) (s_if (zpR_ (zd_ 8 rfl)) (zcN_ (i:=13) rfl zB_ (zh4_ (zd_ 12 rfl) (zi5_ (zet_ (i:=1) (at_s zfg_) (zd_ 7 rfl))) zoI_) fun tail_81=>(at_ [(Sl.fz (tySc K) c),(Sl.fz (tyL tyInt) kinds_here_1),(Sl.fz tyInt many_6),(Sl.fz (tyL Qq2) breaks_12),(Sl.fz tyInt cell_24),(Sl.fz tyInt most_28),(Sl.fz (tyL Qq2) sums_38),(Sl.fz Qq2 first_51),(Sl.fz tyBl nines_54),(Sl.ow (owL tyStr) s_65),(Sl.fz tyInt x_72.1),(Sl.fz tyInt x_72.2),(Sl.fz tyStr card_here_73),(Sl.fz tyStr tail_81),Sl.dead,Sl.dead,Sl.dead,Sl.dead,Sl.dead,Sl.dead] (ze4_ (zcN_ (i:=12) rfl zB_ (zM_ zeb_ (zh4_ (zM_ zeb_ (zh4_ (zd_ 12 rfl) zoI_ (zi5_ (zM_ zbR_ (zet_ (i:=0) at_0 (zd_ 7 rfl)) (zm_ 1)))) (zM_ zjK_ (zdO_ [57]) (zm_ 12))) zoI_ (zi5_ (zet_ (i:=1) (at_s zfg_) (zd_ 7 rfl)))) (zd_ 13 rfl)) fun card_here_87=>(at_ [(Sl.fz (tySc K) c),(Sl.fz (tyL tyInt) kinds_here_1),(Sl.fz tyInt many_6),(Sl.fz (tyL Qq2) breaks_12),(Sl.fz tyInt cell_24),(Sl.fz tyInt most_28),(Sl.fz (tyL Qq2) sums_38),(Sl.fz Qq2 first_51),(Sl.fz tyBl nines_54),(Sl.ow (owL tyStr) s_65),(Sl.fz tyInt x_72.1),(Sl.fz tyInt x_72.2),(Sl.fz tyStr card_here_87),(Sl.fz tyStr tail_81),Sl.dead,Sl.dead,Sl.dead,Sl.dead,Sl.dead,Sl.dead] (zZ_ (S4 (S4 (S4 (.same (.dead (S4 (.same (.same .nil)))))))))))))) (zZ_ (S4 (S4 (S4 (S4 (S4 .nil))))))) fun s_80=>(at_ [(Sl.fz (tySc K) c),(Sl.fz (tyL tyInt) kinds_here_1),(Sl.fz tyInt many_6),(Sl.fz (tyL Qq2) breaks_12),(Sl.fz tyInt cell_24),(Sl.fz tyInt most_28),(Sl.fz (tyL Qq2) sums_38),(Sl.fz Qq2 first_51),(Sl.fz tyBl nines_54),(Sl.ow (owL tyStr) s_65),(Sl.fz tyInt x_72.1),(Sl.fz tyInt x_72.2),(Sl.fz tyStr s_80),Sl.dead,Sl.dead,Sl.dead,Sl.dead,Sl.dead,Sl.dead,Sl.dead] (ze4_ (zhT_ (i:=9) rfl zB_ (zd_ 12 rfl) fun a_106=>(at_ [(Sl.fz (tySc K) c),(Sl.fz (tyL tyInt) kinds_here_1),(Sl.fz tyInt many_6),(Sl.fz (tyL Qq2) breaks_12),(Sl.fz tyInt cell_24),(Sl.fz tyInt most_28),(Sl.fz (tyL Qq2) sums_38),(Sl.fz Qq2 first_51),(Sl.fz tyBl nines_54),(Sl.ow (owL tyStr) (s_65++[a_106])),(Sl.fz tyInt x_72.1),(Sl.fz tyInt x_72.2),(Sl.fz tyStr s_80),Sl.dead,Sl.dead,Sl.dead,Sl.dead,Sl.dead,Sl.dead,Sl.dead] (zZ_ (S4 (S4 (.same (.same (.dead (.dead (.dead (S4 (.same (.same (.same .nil))))))))))))))))))))) fun s_65=>(at_ [(Sl.fz (tySc K) c),(Sl.fz (tyL tyInt) kinds_here_1),(Sl.fz tyInt many_6),(Sl.fz (tyL Qq2) breaks_12),(Sl.fz tyInt cell_24),(Sl.fz tyInt most_28),(Sl.fz (tyL Qq2) sums_38),(Sl.fz Qq2 first_51),(Sl.fz tyBl nines_54),(Sl.ow (owL tyStr) s_65),Sl.dead,Sl.dead,Sl.dead,Sl.dead,Sl.dead,Sl.dead,Sl.dead,Sl.dead,Sl.dead,Sl.dead] (zcN_ (i:=14) rfl zb_ (zF_ (zE_ (zF_ (zE_ (zd_ 0 rfl) (zg_ (zm_ 3)))) (zE_ (zd_ 7 rfl) (zg_ (zg0_ zdT_ (zg_ (zgW_ 9 rfl))))))) fun figures_here_108=>(at_ [(Sl.fz (tySc K) c),(Sl.fz (tyL tyInt) kinds_here_1),(Sl.fz tyInt many_6),(Sl.fz (tyL Qq2) breaks_12),(Sl.fz tyInt cell_24),(Sl.fz tyInt most_28),(Sl.fz (tyL Qq2) sums_38),(Sl.fz Qq2 first_51),(Sl.fz tyBl nines_54),(Sl.ow (owL tyStr) s_65),Sl.dead,Sl.dead,Sl.dead,Sl.dead,(Sl.fz tyInt figures_here_108),Sl.dead,Sl.dead,Sl.dead,Sl.dead,Sl.dead] (zdv_ (i:=15) rfl (z2_ zaY_) (zdW_ (zE_ (zd_ 6 rfl) (zE_ (zd_ 14 rfl) (zg_ (zg0_ zdT_ (zg_ (zgW_ 9 rfl))))))) fun ahead_118=>zlc_ (i:=15) rfl (at_ [(Sl.fz (tySc K) c),(Sl.fz (tyL tyInt) kinds_here_1),(Sl.fz tyInt many_6),(Sl.fz (tyL Qq2) breaks_12),(Sl.fz tyInt cell_24),(Sl.fz tyInt most_28),(Sl.fz (tyL Qq2) sums_38),(Sl.fz Qq2 first_51),(Sl.fz tyBl nines_54),(Sl.ow (owL tyStr) s_65),Sl.dead,Sl.dead,Sl.dead,Sl.dead,(Sl.fz tyInt figures_here_108),(Sl.fz (tyL tyBl) ahead_118),Sl.dead,Sl.dead,Sl.dead,Sl.dead] (zdv_ (i:=16) rfl (zcy_ (zo_ (z2_ (z8_ (zv_ zb_ (zs_ zb_)))) (zo_ (z2_ (z8_ (zv_ zb_ (zs_ zb_)))) (zo_ (z2_ (z8_ (zv_ zb_ (zs_ zb_)))) (zo_ (zbt_ (zbt_ (zcy_ (zo_ (zt_ zb_) (zo_ (zt_ zb_) (zo_ (zt_ zb_) (zo_ (zt_ zaY_) zaC_))))))) (zo_ (zt_ (zdw_ zB_)) (zo_ (zfY_ zaY_) zaC_))))))) (zml_ (zE_ (zd_ 3 rfl) (zE_ (zd_ 6 rfl) (zE_ (zd_ 14 rfl) (zg_ (EvO.fr (zgY_ Qq2))))))) fun counter_125=>(at_ [(Sl.fz (tySc K) c),(Sl.fz (tyL tyInt) kinds_here_1),(Sl.fz tyInt many_6),(Sl.fz (tyL Qq2) breaks_12),(Sl.fz tyInt cell_24),(Sl.fz tyInt most_28),(Sl.fz (tyL Qq2) sums_38),(Sl.fz Qq2 first_51),(Sl.fz tyBl nines_54),(Sl.ow (owL tyStr) s_65),Sl.dead,Sl.dead,Sl.dead,Sl.dead,(Sl.fz tyInt figures_here_108),(Sl.fz (tyL tyBl) ahead_118),(Sl.ow (Qq0 K) counter_125),Sl.dead,Sl.dead,Sl.dead] (zdv_ (i:=17) rfl (z2_ zb_) (zpY_ zny_ (EvO.fr (zlv_ zf_ zge_ (zg_ (zm_ 0)))) (zg0_ zdT_ (zg_ (zd_ 6 rfl)))) fun totals_134=>zlc_ (i:=17) rfl (at_ [(Sl.fz (tySc K) c),(Sl.fz (tyL tyInt) kinds_here_1),(Sl.fz tyInt many_6),(Sl.fz (tyL Qq2) breaks_12),(Sl.fz tyInt cell_24),(Sl.fz tyInt most_28),(Sl.fz (tyL Qq2) sums_38),(Sl.fz Qq2 first_51),(Sl.fz tyBl nines_54),(Sl.ow (owL tyStr) s_65),Sl.dead,Sl.dead,Sl.dead,Sl.dead,(Sl.fz tyInt figures_here_108),(Sl.fz (tyL tyBl) ahead_118),(Sl.ow (Qq0 K) counter_125),(Sl.fz (tyL tyInt) totals_134),Sl.dead,Sl.dead] (zex_ (LS:=(fun s_139:(Qq1×(List Int))=>[(Sl.fz (tySc K) c),(Sl.fz (tyL tyInt) kinds_here_1),(Sl.fz tyInt many_6),(Sl.fz (tyL Qq2) breaks_12),(Sl.fz tyInt cell_24),(Sl.fz tyInt most_28),(Sl.fz (tyL Qq2) sums_38),(Sl.fz Qq2 first_51),(Sl.fz tyBl nines_54),(Sl.ow (owL tyStr) s_65),Sl.dead,Sl.dead,Sl.dead,Sl.dead,(Sl.fz tyInt figures_here_108),(Sl.fz (tyL tyBl) ahead_118),(Sl.ow (Qq0 K) s_139.1),(Sl.fz (tyL tyInt) s_139.2),Sl.dead,Sl.dead])) (zdb_ (L':=[(Sl.fz (tySc K) c),(Sl.fz (tyL tyInt) kinds_here_1),(Sl.fz tyInt many_6),(Sl.fz (tyL Qq2) breaks_12),(Sl.fz tyInt cell_24),(Sl.fz tyInt most_28),(Sl.fz (tyL Qq2) sums_38),(Sl.fz Qq2 first_51),(Sl.fz tyBl nines_54),(Sl.ow (owL tyStr) s_65),Sl.dead,Sl.dead,Sl.dead,Sl.dead,(Sl.fz tyInt figures_here_108),(Sl.fz (tyL tyBl) ahead_118),(Sl.ow (Qq0 K) counter_125),(Sl.fz (tyL tyInt) totals_134),Sl.dead,Sl.dead]) (S4 (S4 (S4 (S4 (S4 .nil))))) (zqa_ (i0:=9) (LS:=(fun s_139:(Qq1×(List Int))=>[(Sl.fz (tySc K) c),(Sl.fz (tyL tyInt) kinds_here_1),(Sl.fz tyInt many_6),(Sl.fz (tyL Qq2) breaks_12),(Sl.fz tyInt cell_24),(Sl.fz tyInt most_28),(Sl.fz (tyL Qq2) sums_38),(Sl.fz Qq2 first_51),(Sl.fz tyBl nines_54),(Sl.ow (owL tyStr) s_65),Sl.dead,Sl.dead,Sl.dead,Sl.dead,(Sl.fz tyInt figures_here_108),(Sl.fz (tyL tyBl) ahead_118),(Sl.ow (Qq0 K) s_139.1),(Sl.fz (tyL tyInt) s_139.2),Sl.dead,Sl.dead])) (LSp:=(fun pin_140 (s_139:(Qq1×(List Int)))=>[(Sl.fz (tySc K) c),(Sl.fz (tyL tyInt) kinds_here_1),(Sl.fz tyInt many_6),(Sl.fz (tyL Qq2) breaks_12),(Sl.fz tyInt cell_24),(Sl.fz tyInt most_28),(Sl.fz (tyL Qq2) sums_38),(Sl.fz Qq2 first_51),(Sl.fz tyBl nines_54),(Sl.ow (owLp pin_140 tyStr) s_65),Sl.dead,Sl.dead,Sl.dead,Sl.dead,(Sl.fz tyInt figures_here_108),(Sl.fz (tyL tyBl) ahead_118),(Sl.ow (Qq0 K) s_139.1),(Sl.fz (tyL tyInt) s_139.2),Sl.dead,Sl.dead])) (s0:=(counter_125,totals_134)) (fun _=>rfl) (fun _ _=>rfl) (zaD_ 12) fun pin_140 s_139 x_141=>at_ [(Sl.fz (tySc K) c),(Sl.fz (tyL tyInt) kinds_here_1),(Sl.fz tyInt many_6),(Sl.fz (tyL Qq2) breaks_12),(Sl.fz tyInt cell_24),(Sl.fz tyInt most_28),(Sl.fz (tyL Qq2) sums_38),(Sl.fz Qq2 first_51),(Sl.fz tyBl nines_54),(Sl.ow (owLp pin_140 tyStr) s_65),Sl.dead,Sl.dead,(Sl.fz tyStr x_141),Sl.dead,(Sl.fz tyInt figures_here_108),(Sl.fz (tyL tyBl) ahead_118),(Sl.ow (Qq0 K) s_139.1),(Sl.fz (tyL tyInt) s_139.2),Sl.dead,Sl.dead] (zkf_ (i:=16) (m := "feed") (ns:=Qn0) (by decide +kernel) (zcy_ (zo_ (z2_ (z8_ (zv_ zb_ (zs_ zb_)))) (zo_ (z2_ (z8_ (zv_ zb_ (zs_ zb_)))) (zo_ (z2_ (z8_ (zv_ zb_ (zs_ zb_)))) (zo_ (zbt_ (zbt_ (zcy_ (zo_ (zt_ zb_) (zo_ (zt_ zb_) (zo_ (zt_ zb_) (zo_ (zt_ zaY_) zaC_))))))) (zo_ (zt_ (zdw_ zB_)) (zo_ (zfY_ zaY_) zaC_))))))) (zfy_ rfl) (zs_ zB_) (zg_ (zd_ 12 rfl)) fun x_145=>(at_ [(Sl.fz (tySc K) c),(Sl.fz (tyL tyInt) kinds_here_1),(Sl.fz tyInt many_6),(Sl.fz (tyL Qq2) breaks_12),(Sl.fz tyInt cell_24),(Sl.fz tyInt most_28),(Sl.fz (tyL Qq2) sums_38),(Sl.fz Qq2 first_51),(Sl.fz tyBl nines_54),(Sl.ow (owLp pin_140 tyStr) s_65),Sl.dead,Sl.dead,(Sl.fz tyStr x_141),Sl.dead,(Sl.fz tyInt figures_here_108),(Sl.fz (tyL tyBl) ahead_118),(Sl.ow (Qq0 K) x_145),(Sl.fz (tyL tyInt) s_139.2),Sl.dead,Sl.dead] (ze4_ (zdv_ (i:=17) rfl (z2_ zb_) (zck_ (zqw_ (zE_ (zd_ 17 rfl) (zg_ (zd_ 6 rfl)))) (zlE_ (zi_ zf_) (ziu_ 0 (zil_ (zaD_ 1)))) (fun _=>dead2) (fun x_150=>zcC_) (fun x_150=>(zM_ za4_ (zd_ 0 rfl) (zF_ (zE_ (zd_ 2 rfl) (zg_ (zd_ 1 rfl))))))) fun totals_146=>zlc_ (i:=17) rfl (at_ [(Sl.fz (tySc K) c),(Sl.fz (tyL tyInt) kinds_here_1),(Sl.fz tyInt many_6),(Sl.fz (tyL Qq2) breaks_12),(Sl.fz tyInt cell_24),(Sl.fz tyInt most_28),(Sl.fz (tyL Qq2) sums_38),(Sl.fz Qq2 first_51),(Sl.fz tyBl nines_54),(Sl.ow (owLp pin_140 tyStr) s_65),Sl.dead,Sl.dead,(Sl.fz tyStr x_141),Sl.dead,(Sl.fz tyInt figures_here_108),(Sl.fz (tyL tyBl) ahead_118),(Sl.ow (Qq0 K) x_145),(Sl.fz (tyL tyInt) totals_146),Sl.dead,Sl.dead] (zZ_ (S4 (S4 (S4 (.dead (S4 (.same (.same (.same .nil)))))))))))))))) fun s_139=>(at_ [(Sl.fz (tySc K) c),(Sl.fz (tyL tyInt) kinds_here_1),(Sl.fz tyInt many_6),(Sl.fz (tyL Qq2) breaks_12),(Sl.fz tyInt cell_24),(Sl.fz tyInt most_28),(Sl.fz (tyL Qq2) sums_38),(Sl.fz Qq2 first_51),(Sl.fz tyBl nines_54),(Sl.ow (owL tyStr) s_65),Sl.dead,Sl.dead,Sl.dead,Sl.dead,(Sl.fz tyInt figures_here_108),(Sl.fz (tyL tyBl) ahead_118),(Sl.ow (Qq0 K) s_139.1),(Sl.fz (tyL tyInt) s_139.2),Sl.dead,Sl.dead] (zex_ (LS:=(fun _:Unit=>[(Sl.fz (tySc K) c),(Sl.fz (tyL tyInt) kinds_here_1),(Sl.fz tyInt many_6),(Sl.fz (tyL Qq2) breaks_12),(Sl.fz tyInt cell_24),(Sl.fz tyInt most_28),(Sl.fz (tyL Qq2) sums_38),(Sl.fz Qq2 first_51),(Sl.fz tyBl nines_54),(Sl.ow (owL tyStr) s_65),Sl.dead,Sl.dead,Sl.dead,Sl.dead,(Sl.fz tyInt figures_here_108),(Sl.fz (tyL tyBl) ahead_118),(Sl.ow (Qq0 K) s_139.1),(Sl.fz (tyL tyInt) s_139.2),Sl.dead,Sl.dead])) (s_if (zjG_ (zdS_ (zF_ (zE_ (EvO.fr (zij_ (m := "overs") (ns:=Qn0) (by decide +kernel) (zl8_ (P:=(Qq7 K)) 16 rfl))) (zg_ (zd_ 15 rfl)))))) (zdV_ (zt_ zaY_) (EvF.ow (zla_ false))) (zZ_ (S4 (S4 (S4 (S4 (S4 .nil))))))) fun _=>(at_ [(Sl.fz (tySc K) c),(Sl.fz (tyL tyInt) kinds_here_1),(Sl.fz tyInt many_6),(Sl.fz (tyL Qq2) breaks_12),(Sl.fz tyInt cell_24),(Sl.fz tyInt most_28),(Sl.fz (tyL Qq2) sums_38),(Sl.fz Qq2 first_51),(Sl.fz tyBl nines_54),(Sl.ow (owL tyStr) s_65),Sl.dead,Sl.dead,Sl.dead,Sl.dead,(Sl.fz tyInt figures_here_108),(Sl.fz (tyL tyBl) ahead_118),(Sl.ow (Qq0 K) s_139.1),(Sl.fz (tyL tyInt) s_139.2),Sl.dead,Sl.dead] (zog_ (w:=18) rfl (by decide) (zc3_ (m := "finish") (ns:=Qn0) (by decide +kernel) (zcy_ (zo_ (z2_ (z8_ (zv_ zb_ (zs_ zb_)))) (zo_ (z2_ (z8_ (zv_ zb_ (zs_ zb_)))) (zo_ (z2_ (z8_ (zv_ zb_ (zs_ zb_)))) (zo_ (zbt_ (zbt_ (zcy_ (zo_ (zt_ zb_) (zo_ (zt_ zb_) (zo_ (zt_ zb_) (zo_ (zt_ zaY_) zaC_))))))) (zo_ (zt_ (zdw_ zB_)) (zo_ (zfY_ zaY_) zaC_))))))) (z2_ zB_) (zec_ rfl) zon_) fun q_168=>(at_ [(Sl.fz (tySc K) c),(Sl.fz (tyL tyInt) kinds_here_1),(Sl.fz tyInt many_6),(Sl.fz (tyL Qq2) breaks_12),(Sl.fz tyInt cell_24),(Sl.fz tyInt most_28),(Sl.fz (tyL Qq2) sums_38),(Sl.fz Qq2 first_51),(Sl.fz tyBl nines_54),(Sl.ow (owL tyStr) s_65),Sl.dead,Sl.dead,Sl.dead,Sl.dead,(Sl.fz tyInt figures_here_108),(Sl.fz (tyL tyBl) ahead_118),(Sl.ow (Qq0 K) q_168.2),(Sl.fz (tyL tyInt) s_139.2),(Sl.ow (owL tyStr) q_168.1),Sl.dead] (zdv_ (i:=19) rfl (z2_ zb_) (zij_ (m := "overs") (ns:=Qn0) (by decide +kernel) (zl8_ (P:=(Qq7 K)) 16 rfl)) fun overs_169=>zlc_ (i:=19) rfl (at_ [(Sl.fz (tySc K) c),(Sl.fz (tyL tyInt) kinds_here_1),(Sl.fz tyInt many_6),(Sl.fz (tyL Qq2) breaks_12),(Sl.fz tyInt cell_24),(Sl.fz tyInt most_28),(Sl.fz (tyL Qq2) sums_38),(Sl.fz Qq2 first_51),(Sl.fz tyBl nines_54),(Sl.ow (owL tyStr) s_65),Sl.dead,Sl.dead,Sl.dead,Sl.dead,(Sl.fz tyInt figures_here_108),(Sl.fz (tyL tyBl) ahead_118),(Sl.ow (Qq0 K) q_168.2),(Sl.fz (tyL tyInt) s_139.2),(Sl.ow (owL tyStr) q_168.1),(Sl.fz (tyL tyInt) overs_169)] (zex_ (LS:=(fun _:Unit=>[(Sl.fz (tySc K) c),(Sl.fz (tyL tyInt) kinds_here_1),(Sl.fz tyInt many_6),(Sl.fz (tyL Qq2) breaks_12),(Sl.fz tyInt cell_24),(Sl.fz tyInt most_28),(Sl.fz (tyL Qq2) sums_38),(Sl.fz Qq2 first_51),(Sl.fz tyBl nines_54),(Sl.ow (owL tyStr) s_65),Sl.dead,Sl.dead,Sl.dead,Sl.dead,(Sl.fz tyInt figures_here_108),(Sl.fz (tyL tyBl) ahead_118),(Sl.ow (Qq0 K) q_168.2),(Sl.fz (tyL tyInt) s_139.2),(Sl.ow (owL tyStr) q_168.1),(Sl.fz (tyL tyInt) overs_169)])) (s_if (et_or (zjG_ (zdS_ (zF_ (zE_ (zd_ 19 rfl) (zg_ (zd_ 15 rfl)))))) (zjG_ (zdS_ (zF_ (zE_ (zM_ zd6_ (zgW_ 18 rfl) (zoN_ (zm_ 1))) (zE_ (zd_ 17 rfl) (zE_ (zd_ 15 rfl) (zg_ (zd_ 14 rfl))))))))) (zdV_ (zt_ zaY_) (EvF.ow (zla_ false))) (zZ_ (S4 (S4 (S4 (S4 (S4 .nil))))))) fun _=>(at_ [(Sl.fz (tySc K) c),(Sl.fz (tyL tyInt) kinds_here_1),(Sl.fz tyInt many_6),(Sl.fz (tyL Qq2) breaks_12),(Sl.fz tyInt cell_24),(Sl.fz tyInt most_28),(Sl.fz (tyL Qq2) sums_38),(Sl.fz Qq2 first_51),(Sl.fz tyBl nines_54),(Sl.ow (owL tyStr) s_65),Sl.dead,Sl.dead,Sl.dead,Sl.dead,(Sl.fz tyInt figures_here_108),(Sl.fz (tyL tyBl) ahead_118),(Sl.ow (Qq0 K) q_168.2),(Sl.fz (tyL tyInt) s_139.2),(Sl.ow (owL tyStr) q_168.1),(Sl.fz (tyL tyInt) overs_169)] (zdV_ (zt_ zaY_) (EvF.ow (ev_or (zqR_ (zd_ 8 rfl)) (zM_ zpa_ (zM_ zd6_ (zd_ 15 rfl) (zm_ 0)) (zM_ (zqC_ znT_) (zm_ 0) (zd_ 19 rfl))))))))))))))))))))))))))))))))))))))))))))
theorem zlg_ (hf:∀ ns:List Int,ns.length≤63→BitsOk ns→zpC_ ns=.ok true) {K:Fgg}:RD_law K:=by
 rintro vs H Q E ⟨a,ns,rfl,hS,hl,hb,q⟩
 refine zez_ (K:=K) (N:=Qn1) (C:=(csLast (tySc K))) (O:=owF tyBl) (t:=fun E=>zoL_ K) (ss:=fun c=>[(Sl.fz (tySc K) c)]) (f:=fun c=>zpy_ c) 1 19 zf_ rfl zJ_ (fun c E=>zqo_ c) _ H Q E ⟨H,ns,Same.refl _,⟨_,rfl,a,rfl,hS⟩,?_⟩
 show After K (zpC_ ns) E H H _
 rw [hf ns hl hb]
 rintro F' H' x v h _ _ _ ⟨_,rfl⟩
 exact q H'
end K36
namespace K36
open PySem PySem.Spec PyProof.Rows L2
local macro_rules | `(tactic| walk_at "mo") => `(tactic| simp only [Mo.okB, Mo.exB, Mo.noB, Mo.noexO, Mo.optS, zju_, znz_, zmR_, zno_, zpZ_, zmC_, zoh_, zor_, zmO_, grd_T, Bool.not_true, Bool.not_false, if_true, if_false, Bool.false_eq_true, Option.map_some, Option.map_none, ite_true, ite_false, Int.reduceLT, Int.reduceLE, Int.reduceNeg, Int.reduceSub, Int.reduceAdd, Int.reduceMul, Nat.reduceAdd, Nat.reduceLT, decide_true, decide_false, Option.isSome_none, Option.isSome_some, Option.isNone_none, Option.isNone_some, Bool.and_true, Bool.and_false])
theorem ziH_ (ns:List Int) (k:Int) (h:0≤k):∃ c,zax_ ns k=.ok c:=by
 unfold zax_ zcu_
 walk_at "mo"
 by_cases hk:k<(ns.length:Int)
 ·obtain ⟨x,e,_⟩:=zdk_ h hk
  rw [decide_eq_true hk,if_pos rfl,e]
  exact ⟨x,rfl⟩
 ·rw [decide_eq_false hk,if_neg (by decide)]
  exact ⟨0,rfl⟩
theorem fold10 {α:Type}:∀ (xs:List α) (a:Int),xs.foldl (fun s _=>10*s) a=10 ^ xs.length*a
 | [],a=>by simp
 | x::xs,a=>by rw [List.foldl_cons,fold10 xs,List.length_cons,Int.pow_succ,Int.mul_assoc]
theorem zgw_ {n:Int}(h0:0≤n) (h1:n≤1000):zeu_ n=.ok (10 ^ n.toNat):=by
 unfold zeu_ zgl_
 simp only [Mo.okB]
 rw [Mo.grd_ok ⟨by lia,by lia⟩,Mo.okB,zdn_ (fun s _=>10*s) (fun s x _=>by rw [zk6_ (by decide) (by decide)]; simp [Int.mul_comm]),fold10,zcn_]
 simp
theorem zbJ_ (n:Nat):(0:Int)<10 ^ n:=Int.pow_pos (by decide)
theorem zmU_ {v:Int}{n:Nat}(h0:0≤v) (h1:v<10 ^ n) (hn:n≤100):v.natAbs.log2<1920:=by
 have h2:v.natAbs<10 ^ n:=by
  have e1:(10:Int) ^ n=((10 ^ n:Nat):Int):=by rw [Int.natCast_pow]; rfl
  rw [e1] at h1; lia
 have h3:10 ^ n≤10 ^ 100:=Nat.pow_le_pow_right (by decide) hn
 have h4:(10:Nat) ^ 100<2 ^ 1000:=by decide
 rcases log2_lt (Nat.lt_of_lt_of_le (Nat.lt_of_lt_of_le h2 h3) (Nat.le_of_lt h4)) with q | q
 ·lia
 ·rw [q]; decide
theorem znb_ {w:Nat}{v:Int}(hw:1≤w) (h0:0≤v) (h1:v<10 ^ w):zfL (strI v) (w:Int)=digs w v.toNat:=by
 obtain ⟨m,rfl⟩:=Int.eq_ofNat_of_zero_le h0
 rw [zjD_]
 have h2:m<10 ^ w:=by
  have e1:(10:Int) ^ w=((10 ^ w:Nat):Int):=by rw [Int.natCast_pow]; rfl
  rw [e1] at h1; lia
 exact zjq_ hw h2
theorem ziJ_ (v:Int) {j w:Nat}(h:j<w):((v % 10 ^ w).toNat / 10 ^ j % 10:Nat)=(v / 10 ^ j % 10).toNat:=by
 have hp:=zbJ_ j
 have hw:=zbJ_ w
 obtain ⟨d,rfl⟩:∃ d,w=j+(d+1):=⟨w-j-1,by lia⟩
 have e0:v=v % 10 ^ (j+(d+1))+10 ^ j*(10*(10 ^ d*(v / 10 ^ (j+(d+1))))):=by
  have:=Int.emod_add_mul_ediv v (10 ^ (j+(d+1)))
  rw [← Int.mul_assoc 10,← Int.mul_assoc (10 ^ j),show (10:Int) ^ j*(10*10 ^ d)=10 ^ (j+(d+1)) by rw [Int.pow_add,Int.pow_succ]; simp [Int.mul_comm,Int.mul_left_comm,Int.mul_assoc]]
  lia
 have h0:0≤v % 10 ^ (j+(d+1)):=Int.emod_nonneg v (Int.ne_of_gt hw)
 generalize v % 10 ^ (j+(d+1))=m at *
 generalize (10 ^ d*(v / 10 ^ (j+(d+1))))=q at *
 subst e0
 rw [Int.add_mul_ediv_left _ _ (Int.ne_of_gt hp),Int.add_mul_emod_self_left]
 obtain ⟨n,rfl⟩:=Int.eq_ofNat_of_zero_le h0
 rw [Int.toNat_natCast,show (10:Int) ^ j=((10 ^ j:Nat):Int) by rw [Int.natCast_pow]; rfl]
 lia
theorem zn9_ {d:Int}(h0:0≤d) (h1:d<10):strI d=[48+d.toNat]:=by
 obtain ⟨m,rfl⟩:=Int.eq_ofNat_of_zero_le h0
 rw [zjD_,zqc_ (by lia)]
 rfl
noncomputable def isF (f:Int×Int):Prop:=1≤f.1∧f.1≤f.2∧f.2≤36
noncomputable def prt (c:List Nat) (f:Int×Int):List Nat:=cutG c (some (f.1-1)) (some f.2)
noncomputable def num (c:List Nat) (f:Int×Int):Int:=numL ((prt c f).map fig)
noncomputable def wd (f:Int×Int):Nat:=(f.2-f.1+1).toNat
noncomputable def pun (c:List Nat) (f:Int×Int) (v:Int):List Nat:=cutG c none (some (f.1-1))++digs (wd f) (v % 10 ^ wd f).toNat++cutG c (some f.2) none
theorem zio_ (c:List Nat) (f:Int×Int) (h:c.length≤100000):zcq_ c f=.ok (prt c f):=by
 unfold zcq_ ze2_
 walk_at "mo"
 rw [Mo.lim_ok h]
 rfl
theorem zhR_ (l:List Nat) (h:∀ c∈l,48≤c∧c≤57):zdI_ l=.ok (numL l):=by
 unfold zdI_ zdE_
 walk_at "mo"
 rw [zdn_ (fun (s:Int) (x:List Nat)=>s*10+((x.headD 0:Nat)-48))]
 ·rw [List.foldl_map]
  rfl
 ·intro s x hx
  obtain ⟨c,hc,rfl⟩:=List.mem_map.mp hx
  rw [zk6_ (by decide) (by decide)]
  walk_at "mo"
  have:=h c hc
  rw [zgZ_ this,Mo.grd_ok (by lia)]
  rfl
theorem zgT_ (l:List Nat):joinS [] (strsL (l.map fun c=>[c]))=l:=by
 have:=L2.zlo_ l
 unfold strsL
 rw [List.map_map]
 exact this
theorem zlk_ (c:List Nat) (f:Int×Int) (h:c.length≤1000):zcD_ c f=.ok (num c f):=by
 unfold zcD_ zdJ_
 walk_at "mo"
 have hp:(prt c f).length≤1000:=Nat.le_trans (zd0_ _ _ _) h
 rw [zio_ c f (by lia)]
 walk_at "mo"
 rw [za8_ (g:=fun x=>[fig (x.headD 0)]) (fun x hx=>?_) (by rw [List.length_map]; simp; lia)]
 ·walk_at "mo"
  have e:List.map (fun x:List Nat=>[fig (x.headD 0)]) (List.map (fun c=>[c]) (prt c f))=((prt c f).map fig).map fun c=>[c]:=by
   rw [List.map_map,List.map_map]; rfl
  rw [List.nil_append,e,zgT_,Mo.grd_ok,Mo.okB,zhR_ _ (fun c hc=>?_)]
  ·rfl
  ·obtain ⟨b,_,rfl⟩:=List.mem_map.mp hc
   exact zgj_ b
  ·refine zfi_ ?_ ?_
   ·unfold strsL; simp [Str.length]; lia
   ·intro z hz
    unfold strsL at hz
    rw [List.map_map] at hz
    obtain ⟨b,_,rfl⟩:=List.mem_map.mp hz
    exact Nat.le_refl 1
 ·obtain ⟨d,hd,rfl⟩:=List.mem_map.mp hx
  rw [zlz_]
  unfold fig cond1
  by_cases q:48≤d∧d≤57
  ·simp [q]
  ·simp [q]
theorem zjQ_:∀ (l:List Nat) (a:Int),(∀ c∈l,48≤c∧c≤57)→0≤a→0≤l.foldl (fun (v:Int) (c:Nat)=>v*10+((c:Int)-48)) a∧l.foldl (fun (v:Int) (c:Nat)=>v*10+((c:Int)-48)) a<(a+1)*10 ^ l.length
 | [],a,_,h=>by simp; lia
 | c::l,a,hc,h=>by
  have h1:=hc c (List.mem_cons_self ..)
  have:=zjQ_ l (a*10+((c:Int)-48)) (fun d hd=>hc d (List.mem_cons_of_mem _ hd)) (by lia)
  rw [List.foldl_cons,List.length_cons]
  refine ⟨this.1,Int.lt_of_lt_of_le this.2 ?_⟩
  rw [Int.pow_succ,Int.mul_comm (10 ^ l.length) 10,← Int.mul_assoc]
  exact Int.mul_le_mul_of_nonneg_right (by lia) (Int.pow_nonneg (by decide))
theorem num_lt (c:List Nat) (f:Int×Int) (h:c.length≤40):0≤num c f∧num c f<10 ^ 40:=by
 have h1:=zjQ_ ((prt c f).map fig) 0 (fun c hc=>by obtain ⟨b,_,rfl⟩:=List.mem_map.mp hc; exact zgj_ b) (by decide)
 refine ⟨h1.1,Int.lt_of_lt_of_le h1.2 ?_⟩
 have h2:((prt c f).map fig).length≤40:=by rw [List.length_map]; exact Nat.le_trans (zd0_ _ _ _) h
 rw [show (0:Int)+1=1 from rfl,Int.one_mul]
 have h3:10 ^ ((prt c f).map fig).length≤10 ^ 40:=Nat.pow_le_pow_right (by decide) h2
 have e1:∀ n:Nat,(10:Int) ^ n=((10 ^ n:Nat):Int):=fun n=>by rw [Int.natCast_pow]; rfl
 rw [e1,e1]
 exact Int.ofNat_le.mpr h3
theorem zj5_ {lo:Int}{n:Nat}{d r:List Int}{x:Int}(h:rngI lo n=d++x::r):x=lo+d.length∧d.length<n:=by
 have hl:=congrArg List.length h
 rw [zcn_,List.length_append,List.length_cons] at hl
 have hd:d.length<n:=by lia
 have h1:(rngI lo n)[d.length]?=some x:=by rw [h]; simp
 unfold rngI at h1
 rw [List.getElem?_map,List.getElem?_range hd] at h1
 simp at h1
 exact ⟨h1.symm,hd⟩
noncomputable abbrev Wr:=Int×Int
noncomputable def okW (w:Wr):Prop:=1≤w.1∧w.1≤40∧1≤w.2∧w.2≤36
noncomputable def sgn (c:List Nat) (B:List Wr) (col:Int):Nat:=B.foldl (fun s w=>if w.2=col then c.getD (w.1-1).toNat 0 else s) 32
noncomputable def laid (c:List Nat) (B:List Wr):List Nat:=(List.range 36).map fun i:Nat=>sgn c B (i+1)
theorem znx_ (c:List Nat) (B:List Wr) (w:Wr) (col:Int):sgn c (B++[w]) col=if w.2=col then c.getD (w.1-1).toNat 0 else sgn c B col:=by
 unfold sgn; rw [List.foldl_append]; rfl
theorem zoK_ {c:List Nat}(hc:c.length=40) {k:Int}(h1:1≤k) (h2:k≤40):atI c (k-1)=some (c.getD (k-1).toNat 0):=by
 rw [zhx_ (by lia),List.getD_eq_getElem?_getD,List.getElem?_eq_getElem (by lia)]
 rfl
theorem zkJ_ {c:List Nat}(hc:c.length=40) {k:Int}(h1:1≤k) (h2:k≤40):ze0_ c k=.ok [c.getD (k-1).toNat 0]:=by
 unfold ze0_ ze3_
 walk_at "mo"
 rw [Mo.lim_ok (by lia),zoK_ hc h1 h2]
 rfl
theorem zqe_ {c:List Nat}(hc:c.length=40) {B:List Wr}(hB:∀ w∈B,okW w):ze6_ c B=.ok (laid c B):=by
 unfold ze6_ ze1_
 walk_at "mo"
 rw [Mo.grd_ok (by decide)]
 walk_at "mo"
 rw [za8_ (f:=fun x_3=>cond1 (Mo.ok true) (Mo.ok [32])) (g:=fun _=>[32]) (fun x hx=>rfl) (by decide)]
 walk_at "mo"
 refine zb6_ (G:=fun m=>fnO (thenO m _)=_) (fun d (s:List (List Nat))=>s=(List.range 36).map fun i:Nat=>[sgn c d (i+1)]) rfl (fun d w s hx hs=>?_) (fun s hs=>?_)
 ·obtain ⟨r,hr⟩:=hx
  obtain ⟨a1,a2,a3,a4⟩:=hB w (by rw [hr]; simp)
  subst hs
  rw [zkJ_ hc a1 a2]
  walk_at "mo"
  rw [zk8_ (by lia) (by rw [List.length_map,List.length_range]; lia)]
  refine ⟨_,rfl,?_⟩
  apply List.ext_getElem?
  intro i
  rw [List.getElem?_set,List.getElem?_map,List.getElem?_map]
  by_cases hi:i<36
  ·rw [List.getElem?_range hi]
   simp only [Option.map_some,znx_,List.length_map,List.length_range]
   by_cases e:(w.2-1).toNat=i
   ·rw [if_pos e,if_pos (by lia),if_pos (by lia)]
   ·rw [if_neg e,if_neg (by lia)]
  ·rw [List.getElem?_eq_none (by rw [List.length_range]; lia),if_neg (by lia)]
   rfl
 ·subst hs
  walk_at "mo"
  have e:((List.range 36).map fun i:Nat=>[sgn c B (i+1)])=(laid c B).map fun x=>[x]:=by unfold laid; rw [List.map_map]; rfl
  rw [e,zgT_,Mo.grd_ok]
  ·rfl
  ·refine zfi_ ?_ ?_
   ·unfold strsL laid; simp [Str.length]
   ·intro z hz
    unfold strsL at hz
    rw [List.map_map] at hz
    obtain ⟨b,_,rfl⟩:=List.mem_map.mp hz
    exact Nat.le_refl 1
theorem zeY_ (cell:Int) {many:Int}(h0:0≤many) (h1:many≤5000):∃ ns,zbr_ cell many=.ok ns∧ns.length=many.toNat:=by
 unfold zbr_ zcX_
 walk_at "mo"
 rw [Mo.grd_ok ⟨by lia,by lia⟩]
 walk_at "mo"
 have hn:many.toNat≤5000:=by lia
 generalize many.toNat=n at hn
 refine zb6_ (G:=fun m=>∃ c:List Int,fnO (thenO m _)=.ok c∧c.length=n) (fun d (s:Int×List Int)=>s.2.length=d.length∧0≤s.1∧s.1<4294967296) ⟨rfl,by show 0≤cell % 2147483647+48271; lia,by show cell % 2147483647+48271<4294967296; lia⟩ ?_ ?_
 ·rintro d x ⟨nn,cs⟩ ⟨r,hr⟩ ⟨q1,q3,q4⟩
  have hd:d.length≤5000:=by
   have:=congrArg List.length hr
   rw [zcn_,List.length_append] at this; lia
  simp only at q1 q3 q4
  have hmul:IntMulOk nn nn:=zdf_ (.inl ⟨by lia,by lia⟩)
  walk_at "mo"
  rw [Mo.grd_ok hmul]
  walk_at "mo"
  rw [Mo.lim_ok (by lia)]
  exact ⟨_,rfl,by simp; exact q1,Int.emod_nonneg _ (by decide),Int.lt_trans (Int.emod_lt_of_pos _ (by decide)) (by decide)⟩
 ·rintro s ⟨q1,_,_⟩
  rw [zcn_] at q1
  exact ⟨s.2,rfl,q1⟩
noncomputable abbrev Whl:=Int×(Int×(Int×(Bool×Unit)))
noncomputable def whl (f:Nat) (k:Int) (o:Bool):Whl:=((f:Int),10 ^ f,k,o,())
theorem zos_ {f:Nat}(h:f≤100):z7_ () f=.ok ((),whl f 0 false):=by
 unfold z7_ zbx_
 walk_at "mo"
 rw [zgw_ (by lia) (by lia)]
 rfl
theorem zoZ_ {f:Nat}{k v:Int}{o:Bool}:zcR_ (whl f k o) v=.ok ((),whl f ((k+v) % 10 ^ f) (o || decide ((10:Int) ^ f≤k+v))):=by
 unfold zcR_ zcV_
 walk_at "mo"
 have e1:(whl f k o).snd.fst=(10:Int) ^ f:=rfl
 have e2:(whl f k o).snd.snd.fst=k:=rfl
 rw [e1,e2]
 by_cases c:(10:Int) ^ f≤k+v
 ·rw [decide_eq_true c]
  walk_at "mo"
  rw [Mo.grd_ok (zbJ_ f),Bool.or_true]
  rfl
 ·rw [decide_eq_false c]
  walk_at "mo"
  rw [e1,Mo.grd_ok (zbJ_ f),Bool.or_false]
  rfl
theorem zmP_ {f:Nat}{k:Int}{o:Bool}:zaH_ (whl f k o)=.ok ((),whl f 0 false):=rfl
theorem zqG_ {f:Nat}(h:f≤12):PadOk (f:Int)=true:=by
 have:∀ n:Nat,n≤12→PadOk (n:Int)=true:=by decide
 exact this f h
theorem zkz_ {f:Nat}{k:Int}{o:Bool}(h1:1≤f) (h2:f≤12) (h0:0≤k) (hk:k<10 ^ f):zaI_ (whl f k o)=.ok (digs f k.toNat):=by
 unfold zaI_ zct_
 walk_at "mo"
 have e1:(whl f k o).fst=(f:Int):=rfl
 have e2:(whl f k o).snd.snd.fst=k:=rfl
 rw [e1,e2,Mo.grd_ok (zmU_ h0 hk (by lia)),Mo.okB,Mo.grd_ok (zqG_ h2),znb_ h1 h0 hk]
 rfl
theorem zph_:∀ d:Nat,d<10→atI [48,49,50,51,52,53,54,55,56,57] (d:Int)=some (48+d):=by decide
theorem zpG_ {f:Nat}{k:Int}(h2:f≤12) (h0:0≤k) (hk:k<10 ^ f):zca_ k f=.ok (digs f k.toNat):=by
 have ek:(k % 10 ^ f)=k:=Int.emod_eq_of_lt h0 hk
 unfold zca_ zcK_
 walk_at "mo"
 rw [Mo.grd_ok ⟨by lia,by lia⟩]
 walk_at "mo"
 refine zb6_ (G:=fun m=>fnO (thenO m _)=_) (fun d s=>s=(digs d.length (k % 10 ^ f).toNat,k / 10 ^ d.length)) (by simp [digs]) (fun d x s hx hs=>?_) (fun s hs=>?_)
 ·obtain ⟨r,hr⟩:=hx
  have hd:d.length<f:=by
   have:=congrArg List.length hr
   rw [zcn_,List.length_append,List.length_cons] at this
   lia
  subst hs
  have a0:0≤k / 10 ^ d.length % 10:=Int.emod_nonneg _ (by decide)
  have a1:k / 10 ^ d.length % 10<10:=Int.emod_lt_of_pos _ (by decide)
  have ea:=zph_ (k / 10 ^ d.length % 10).toNat (by lia)
  rw [Int.toNat_of_nonneg a0] at ea
  refine ⟨_,by
   simp only
   rw [ea,Mo.lim_ok (by decide)]
   walk_at "mo"
   rw [Mo.lim_ok (by simp [zb9_]; lia)]
   walk_at "mo"
   rfl,?_⟩
  rw [List.length_append,List.length_singleton,zfp_,ziJ_ k hd,Int.pow_succ,← Int.ediv_ediv_of_nonneg (Int.le_of_lt (zbJ_ _))]
  rfl
 ·subst hs
  rw [zcn_]
  show fnO _=_
  walk_at "mo"
  rw [ek]
  rfl
noncomputable abbrev Ctr:=(List (Int×Int))×((List (Int×Int))×((List (Int×Int))×((List (List Whl))×((Option (List Nat))×((List (Int×Bool))×Unit)))))
noncomputable def u1 {α:Type}(g:Nat→α) (i:Nat) (v:α):Nat→α:=fun j=>if j=i then v else g j
theorem ziw_ {α:Type}{n i:Nat}(g:Nat→α) (x:α):((List.range n).map g).set i x=(List.range n).map (u1 g i x):=by
 apply List.ext_getElem?
 intro j
 rw [List.getElem?_set,List.getElem?_map,List.getElem?_map,List.length_map,List.length_range]
 unfold u1
 by_cases hj:j<n
 ·rw [List.getElem?_range hj]
  by_cases e:i=j
  ·subst e; simp [hj]
  ·rw [if_neg e]; simp [Ne.symm e]
 ·rw [List.getElem?_eq_none (l:=List.range n) (by simp; lia)]
  by_cases e:i=j
  ·subst e; simp [hj]
  ·rw [if_neg e]; rfl
noncomputable def wrow (F n:Nat) (k:Nat→Int) (o:Nat→Bool):List Whl:=(List.range n).map fun p=>whl F (k p) (o p)
noncomputable def lvls (F m n:Nat) (kf:Nat→Nat→Int) (of:Nat→Nat→Bool):List (List Whl):=(List.range (m+1)).map fun l=>wrow F n (kf l) (of l)
theorem zhF_ (F n:Nat) (k:Nat→Int) (o:Nat→Bool):(wrow F n k o).length=n:=by unfold wrow; simp
theorem zj4_ (F m n:Nat) (kf:Nat→Nat→Int) (of:Nat→Nat→Bool):(lvls F m n kf of).length=m+1:=by unfold lvls; simp
theorem zm8_ {F n p:Nat}(k:Nat→Int) (o:Nat→Bool) (h:p<n):(wrow F n k o)[p]?=some (whl F (k p) (o p)):=by unfold wrow; rw [List.getElem?_map,List.getElem?_range h]; rfl
theorem zhs_ {F m n l:Nat}(kf:Nat→Nat→Int) (of:Nat→Nat→Bool) (h:l≤m):(lvls F m n kf of)[l]?=some (wrow F n (kf l) (of l)):=by unfold lvls; rw [List.getElem?_map,List.getElem?_range (by lia)]; rfl
theorem zmz_ (F n p:Nat) (k:Nat→Int) (o:Nat→Bool) (x:Int) (y:Bool):(wrow F n k o).set p (whl F x y)=wrow F n (u1 k p x) (u1 o p y):=by
 unfold wrow; rw [ziw_]; refine List.map_congr_left fun j _=>?_; unfold u1; split<;>rfl
theorem zjz_ (F m n l:Nat) (kf:Nat→Nat→Int) (of:Nat→Nat→Bool) (k:Nat→Int) (o:Nat→Bool):(lvls F m n kf of).set l (wrow F n k o)=lvls F m n (u1 kf l k) (u1 of l o):=by
 unfold lvls; rw [ziw_]; refine List.map_congr_left fun j _=>?_; unfold u1; split<;>rfl
theorem u1_u1 {α:Type}(g:Nat→α) (i:Nat) (v w:α):u1 (u1 g i v) i w=u1 g i w:=by funext j; unfold u1; split<;>rfl
theorem ziS_ {α:Type}(g:Nat→α) (i:Nat) (v:α):u1 g i v i=v:=if_pos rfl
theorem ziI_ {α:Type}(g:Nat→α) {i j:Nat}(v:α) (h:j≠i):u1 g i v j=g j:=if_neg h
theorem zmh_ {α:Type}(g:Nat→α) (i:Nat):u1 g i (g i)=g:=by funext j; unfold u1; split<;>rename_i h<;>first | rw [h] | rfl
noncomputable def mkC (K S:List (Int×Int)) (F:Nat) (kf:Nat→Nat→Int) (of:Nat→Nat→Bool) (bf:Option (List Nat)) (ro:List (Int×Bool)):Ctr:=(K,S,[],lvls F K.length S.length kf of,bf,ro,())
noncomputable def rsK (F:Nat) (k:Nat→Int) (vs:List Int) (d:Nat):Nat→Int:=fun p=>if p<d then (k p+vs.getD p 0) % 10 ^ F else k p
noncomputable def rsO (F:Nat) (k:Nat→Int) (o:Nat→Bool) (vs:List Int) (d:Nat):Nat→Bool:=fun p=>if p<d then (o p || decide ((10:Int) ^ F≤k p+vs.getD p 0)) else o p
noncomputable def rsR (F:Nat) (k:Nat→Int) (o:Nat→Bool) (vs:List Int) (ro:List (Int×Bool)):Nat→List (Int×Bool)
 | 0=>ro
 | d+1=>if (o d || decide ((10:Int) ^ F≤k d+vs.getD d 0))=true then putA (rsR F k o vs ro d) (d:Int) true else rsR F k o vs ro d
theorem zps_ (F:Nat) (k:Nat→Int) (o:Nat→Bool) (vs:List Int) (ro:List (Int×Bool)) (d:Nat):(rsR F k o vs ro d).length≤ro.length+d:=by
 induction d with
 | zero=>exact Nat.le_refl _
 | succ d ih =>
  unfold rsR
  split
  ·exact Nat.le_trans (zmV_ _ _ _) (by lia)
  ·lia
theorem rsK_0 (F:Nat) (k:Nat→Int) (vs:List Int):rsK F k vs 0=k:=by funext p; unfold rsK; simp
theorem rsO_0 (F:Nat) (k:Nat→Int) (o:Nat→Bool) (vs:List Int):rsO F k o vs 0=o:=by funext p; unfold rsO; simp
theorem rsK_s (F:Nat) (k:Nat→Int) (vs:List Int) (d:Nat):u1 (rsK F k vs d) d ((k d+vs.getD d 0) % 10 ^ F)=rsK F k vs (d+1):=by
 funext p; unfold u1 rsK
 by_cases h:p=d
 ·subst h; rw [if_pos rfl,if_pos (by lia)]
 ·rw [if_neg h]
  by_cases q:p<d
  ·rw [if_pos q,if_pos (by lia)]
  ·rw [if_neg q,if_neg (by lia)]
theorem rsO_s (F:Nat) (k:Nat→Int) (o:Nat→Bool) (vs:List Int) (d:Nat):u1 (rsO F k o vs d) d (o d || decide ((10:Int) ^ F≤k d+vs.getD d 0))=rsO F k o vs (d+1):=by
 funext p; unfold u1 rsO
 by_cases h:p=d
 ·subst h; rw [if_pos rfl,if_pos (by lia)]
 ·rw [if_neg h]
  by_cases q:p<d
  ·rw [if_pos q,if_pos (by lia)]
  ·rw [if_neg q,if_neg (by lia)]
theorem zj2_ {α:Type}{xs:List α}{d r:List (Int×α)}{q:Int×α}(h:enumL xs=d++q::r):q.1=d.length∧xs[d.length]?=some q.2∧d.length<xs.length:=by
 have h1:(enumL xs)[d.length]?=some q:=by rw [h]; simp
 rw [zgx_] at h1
 obtain ⟨x,h2,h3⟩:=Option.map_eq_some_iff.mp h1
 subst h3
 exact ⟨rfl,h2,(List.getElem?_eq_some_iff.mp h2).1⟩
theorem zkC_ {K S:List (Int×Int)}{F l:Nat}{kf:Nat→Nat→Int}{of:Nat→Nat→Bool}{bf:Option (List Nat)}{ro:List (Int×Bool)}{vs:List Int}(hl:l≤K.length) (hv:vs.length=S.length) (hn:S.length≤100) (hro:ro.length≤100) :
  zaa_ (mkC K S F kf of bf ro) l vs=.ok ((),mkC K S F (u1 kf l (rsK F (kf l) vs S.length)) (u1 of l (rsO F (kf l) (of l) vs S.length)) bf (rsR F (kf l) (of l) vs ro S.length)):=by
 unfold zaa_ zaE_
 walk_at "mo"
 refine zb6_ (G:=fun m=>fnMU (thenO m _)=_) (fun d (s:Ctr)=>s=mkC K S F (u1 kf l (rsK F (kf l) vs d.length)) (u1 of l (rsO F (kf l) (of l) vs d.length)) bf (rsR F (kf l) (of l) vs ro d.length)) (by rw [List.length_nil,rsK_0,rsO_0,zmh_,zmh_]; rfl) (fun d x s hx hs=>?_) (fun s hs=>?_)
 ·obtain ⟨r,hr⟩:=hx
  obtain ⟨x1,x2,hd⟩:=zj2_ hr
  rw [hv] at hd
  subst hs
  have ev:vs.getD d.length 0=x.2:=by rw [List.getD_eq_getElem?_getD,x2]; rfl
  have hrl:=zps_ F (kf l) (of l) vs ro d.length
  unfold mkC
  walk_at "mo"
  rw [zj4_,zk8_ (by lia) (by lia),x1]
  walk_at "mo"
  rw [show ((l:Int)).toNat=l from rfl,zhs_ _ _ hl,ziS_,ziS_]
  walk_at "mo"
  rw [zhF_,zk8_ (by lia) (by lia)]
  walk_at "mo"
  rw [show ((d.length:Int)).toNat=d.length from rfl,zm8_ _ _ hd]
  walk_at "mo"
  have k0:rsK F (kf l) vs d.length d.length=kf l d.length:=if_neg (Nat.lt_irrefl _)
  have o0:rsO F (kf l) (of l) vs d.length d.length=of l d.length:=if_neg (Nat.lt_irrefl _)
  rw [zoZ_,k0,o0]
  walk_at "mo"
  rw [← ev]
  have eov:zcc_ (whl F ((kf l d.length+vs.getD d.length 0) % 10 ^ F) (of l d.length || decide ((10:Int) ^ F≤kf l d.length+vs.getD d.length 0)))=.ok (of l d.length || decide ((10:Int) ^ F≤kf l d.length+vs.getD d.length 0)):=rfl
  rw [eov]
  walk_at "mo"
  rw [zmz_,zjz_,u1_u1,u1_u1,rsK_s,rsO_s]
  cases ho:(of l d.length || decide ((10:Int) ^ F≤kf l d.length+vs.getD d.length 0)) with
  | true =>
   walk_at "mo"
   rw [Mo.lim_ok (by lia)]
   walk_at "mo"
   refine ⟨_,rfl,?_⟩
   rw [List.length_append,List.length_singleton]
   rw [show rsR F (kf l) (of l) vs ro (d.length+1)=putA (rsR F (kf l) (of l) vs ro d.length) (d.length:Int) true from if_pos ho]
  | false =>
   walk_at "mo"
   refine ⟨_,rfl,?_⟩
   rw [List.length_append,List.length_singleton]
   rw [show rsR F (kf l) (of l) vs ro (d.length+1)=rsR F (kf l) (of l) vs ro d.length from if_neg (by rw [ho]; decide)]
 ·subst hs
  rw [zdG_,hv]
  rfl
noncomputable def smL (g:Nat→Int):Nat→Int
 | 0=>g 0
 | k+1=>smL g k+g (k+1)
theorem ziD_ {g g':Nat→Int}:∀ {m:Nat},(∀ l,l≤m→g l=g' l)→smL g m=smL g' m
 | 0,h=>h 0 (Nat.le_refl _)
 | m+1,h=>by unfold smL; rw [ziD_ fun l hl=>h l (by lia),h (m+1) (Nat.le_refl _)]
theorem zk0_ {g:Nat→Int}{l:Nat}{v:Int}:∀ {m:Nat},l≤m→smL (u1 g l v) m=smL g m+(v-g l)
 | 0,h=>by
  have:l=0:=by lia
  subst this
  show u1 g 0 v 0=g 0+_
  rw [ziS_]; lia
 | m+1,h=>by
  unfold smL
  by_cases e:l=m+1
  ·subst e
   rw [ziD_ (g':=g) fun i hi=>ziI_ g v (by lia),ziS_]; lia
  ·rw [zk0_ (by lia),ziI_ g v (fun z=>e z.symm)]; lia
theorem zoE_ {g:Nat→Int}(h:∀ l,0≤g l):∀ m,0≤smL g m
 | 0=>h 0
 | m+1=>by unfold smL; have:=zoE_ h m; have:=h (m+1); lia
theorem zoU_ {g:Nat→Int}(h:∀ l,0≤g l) {l m:Nat}(hl:l≤m):g l≤smL g m:=by
 have h1:=zk0_ (g:=g) (v:=0) hl
 have h2:=zoE_ (g:=u1 g l 0) (fun i=>by unfold u1; split; exact Int.le_refl _; exact h i) m
 lia
theorem zpt_ {g:Nat→Int}(h:∀ l,0≤g l) {a b m:Nat}(hab:a≠b) (ha:a≤m) (hb:b≤m):g a+g b≤smL g m:=by
 have h1:=zk0_ (g:=g) (v:=0) hb
 have h2:=zoU_ (g:=u1 g b 0) (fun i=>by unfold u1; split; exact Int.le_refl _; exact h i) ha
 rw [ziI_ g 0 hab] at h2
 lia
noncomputable def inR (ro:List (Int×Bool)) (p:Nat):Bool:=(getA ro (p:Int)).isSome
structure JI (m n F:Nat) (T B:Nat→Int) (kf:Nat→Nat→Int) (of:Nat→Nat→Bool) (ro:List (Int×Bool)):Prop where
 rng:∀ l p,0≤kf l p∧kf l p<10 ^ F
 ex:∀ p,p<n→inR ro p=true∨((∀ l,l≤m→of l p=false)∧smL (fun l=>kf l p) m=T p)
 bd:∀ p,p<n→inR ro p=true→(10:Int) ^ F≤B p
 ks:∀ q∈ro,∃ p:Nat,p<n∧q.1=p
 nd:(ro.map (·.1)).Nodup
theorem zkj_ {m:List (Int×Bool)}{k:Int}{v:Bool}:(putA m k v).map (·.1)=if (m.any fun q=>decide (q.1=k))=true then m.map (·.1) else m.map (·.1)++[k]:=by
 unfold putA
 split
 ·rw [List.map_map]
  refine List.map_congr_left fun q _=>?_
  show (if q.1=k then (q.1,v) else q).1=q.1
  split<;>rfl
 ·rw [List.map_append]; rfl
theorem zp9_ {m:List (Int×Bool)}{k:Int}{v:Bool}(h:(m.map (·.1)).Nodup):((putA m k v).map (·.1)).Nodup:=by
 rw [zkj_]
 split
 ·exact h
 ·rename_i hn
  rw [List.nodup_append]
  refine ⟨h,by simp,fun a ha b hb z=>hn ?_⟩
  rw [List.mem_singleton.mp hb] at z
  obtain ⟨q,hq,e⟩:=List.mem_map.mp ha
  rw [List.any_eq_true]
  exact ⟨q,hq,by rw [e,z]; simp⟩
theorem zqI_ {m:List (Int×Bool)}{k:Int}{v:Bool}{q:Int×Bool}(h:q∈putA m k v):q.1=k∨∃ q'∈m,q'.1=q.1:=by
 have h1:q.1∈(putA m k v).map (·.1):=List.mem_map.mpr ⟨q,h,rfl⟩
 rw [zkj_] at h1
 split at h1
 ·obtain ⟨q',a,b⟩:=List.mem_map.mp h1; exact .inr ⟨q',a,b⟩
 ·rcases List.mem_append.mp h1 with h1 | h1
  ·obtain ⟨q',a,b⟩:=List.mem_map.mp h1; exact .inr ⟨q',a,b⟩
  ·exact .inl (List.mem_singleton.mp h1)
theorem zn0_ (F:Nat) (k:Nat→Int) (o:Nat→Bool) (vs:List Int) (ro:List (Int×Bool)) (d p:Nat):inR (rsR F k o vs ro d) p=(inR ro p || (decide (p<d) && (o p || decide ((10:Int) ^ F≤k p+vs.getD p 0)))):=by
 induction d with
 | zero=>simp [rsR]
 | succ d ih =>
  unfold rsR
  by_cases hp:p=d
  ·subst hp
   rw [decide_eq_true (show p<p+1 by lia)]
   split
   ·rename_i h
    unfold inR
    rw [zjH_,if_pos rfl,h]; simp
   ·rename_i h
    rw [ih,decide_eq_false (Nat.lt_irrefl p)]
    rw [Bool.not_eq_true] at h
    rw [h]; simp
  ·have e:decide (p<d+1)=decide (p<d):=by rw [decide_eq_decide]; lia
   rw [e]
   split
   ·unfold inR at ih ⊢
    rw [zjH_,if_neg (by lia)]; exact ih
   ·exact ih
theorem znE_ {F n:Nat}{k:Nat→Int}{o:Nat→Bool}{vs:List Int}{ro:List (Int×Bool)}(h:∀ q∈ro,∃ p:Nat,p<n∧q.1=p):∀ d,d≤n→∀ q∈rsR F k o vs ro d,∃ p:Nat,p<n∧q.1=p
 | 0,_=>h
 | d+1,hd=>fun q hq=>by
  unfold rsR at hq
  split at hq
  ·rcases zqI_ hq with e | ⟨q',a,b⟩
   ·exact ⟨d,by lia,e⟩
   ·obtain ⟨p,c,e⟩:=znE_ h d (by lia) q' a
    exact ⟨p,c,by rw [← b,e]⟩
  ·exact znE_ h d (by lia) q hq
theorem zm6_ {F:Nat}{k:Nat→Int}{o:Nat→Bool}{vs:List Int}{ro:List (Int×Bool)}(h:(ro.map (·.1)).Nodup):∀ d,((rsR F k o vs ro d).map (·.1)).Nodup
 | 0=>h
 | d+1=>by
  unfold rsR
  split
  ·exact zp9_ (zm6_ h d)
  ·exact zm6_ h d
theorem zkQ_:∀ (n:Nat) (l:List Int),l.Nodup→(∀ x∈l,∃ p:Nat,p<n∧x=p)→l.length≤n
 | 0,l,_,h=>by
  cases l with
  | nil=>exact Nat.le_refl _
  | cons x l=>obtain ⟨p,a,_⟩:=h x List.mem_cons_self; lia
 | n+1,l,hn,h=>by
  have h1:=zkQ_ n (l.erase (n:Int)) (hn.erase _) fun x hx=>by
   obtain ⟨a,b⟩:=(List.Nodup.mem_erase_iff hn).mp hx
   obtain ⟨p,c,e⟩:=h x b
   exact ⟨p,by have:(p:Int)≠n:=fun z=>a (by rw [e,z]); lia,e⟩
  rw [List.length_erase] at h1
  split at h1<;>lia
section
variable {m n F l:Nat}{T B B':Nat→Int}{kf:Nat→Nat→Int}{of:Nat→Nat→Bool}{ro:List (Int×Bool)}{vs:List Int}
theorem JI.len (J:JI m n F T B kf of ro):ro.length≤n:=by
 have:=zkQ_ n (ro.map (·.1)) J.nd fun x hx=>by
  obtain ⟨q,a,b⟩:=List.mem_map.mp hx
  obtain ⟨p,c,e⟩:=J.ks q a
  exact ⟨p,c,by rw [← b,e]⟩
 simpa using this
theorem JI.raise (J:JI m n F T B kf of ro) (hl:l≤m) (hv0:∀ p,p<n→0≤vs.getD p 0) (hB:∀ p,p<n→B p≤B' p) (hx:∀ p,p<n→inR ro p=false→kf l p+vs.getD p 0≤B' p) :
  JI m n F (fun p=>T p+vs.getD p 0) B' (u1 kf l (rsK F (kf l) vs n)) (u1 of l (rsO F (kf l) (of l) vs n)) (rsR F (kf l) (of l) vs ro n):=by
 have hF:(0:Int)<10 ^ F:=zbJ_ F
 refine ⟨fun l' p=>?_,fun p hp=>?_,fun p hp h=>?_,znE_ J.ks n (Nat.le_refl _),zm6_ J.nd n⟩
 ·by_cases e:l'=l
  ·subst e
   rw [ziS_]
   unfold rsK
   split
   ·exact ⟨Int.emod_nonneg _ (by lia),Int.emod_lt_of_pos _ hF⟩
   ·exact J.rng l' p
  ·rw [ziI_ _ _ e]; exact J.rng l' p
 ·rw [zn0_,decide_eq_true hp]
  rcases J.ex p hp with h | ⟨h1,h2⟩
  ·left; rw [h]; rfl
  ·by_cases q:(10:Int) ^ F≤kf l p+vs.getD p 0
   ·left; rw [decide_eq_true q]; simp
   ·right
    refine ⟨fun l' hl'=>?_,?_⟩
    ·by_cases e:l'=l
     ·subst e
      rw [ziS_]
      unfold rsO
      rw [if_pos hp,h1 l' hl',decide_eq_false q]; rfl
     ·rw [ziI_ _ _ e]; exact h1 l' hl'
    ·have e:(fun i=>u1 kf l (rsK F (kf l) vs n) i p)=u1 (fun i=>kf i p) l (kf l p+vs.getD p 0):=by
      funext i
      by_cases e:i=l
      ·subst e
       rw [ziS_,ziS_]
       unfold rsK
       rw [if_pos hp,Int.emod_eq_of_lt (by have:=(J.rng i p).1; have:=hv0 p hp; lia) (by lia)]
      ·rw [ziI_ _ _ e,ziI_ _ _ e]
     rw [e,zk0_ hl,h2]; lia
 ·rw [zn0_,decide_eq_true hp] at h
  cases g:inR ro p with
  | true=>exact Int.le_trans (J.bd p hp g) (hB p hp)
  | false =>
   rw [g] at h
   rcases J.ex p hp with z | ⟨h1,h2⟩
   ·rw [g] at z; cases z
   ·rw [h1 l hl] at h
    simp at h
    exact Int.le_trans h (hx p hp g)
theorem JI.reset (J:JI m n F T B kf of ro) (hl:l≤m):JI m n F (fun p=>T p-kf l p) B (u1 kf l fun _=>0) (u1 of l fun _=>false) ro:=by
 have hF:(0:Int)<10 ^ F:=zbJ_ F
 refine ⟨fun l' p=>?_,fun p hp=>?_,J.bd,J.ks,J.nd⟩
 ·by_cases e:l'=l
  ·subst e; rw [ziS_]; exact ⟨Int.le_refl _,hF⟩
  ·rw [ziI_ _ _ e]; exact J.rng l' p
 ·rcases J.ex p hp with h | ⟨h1,h2⟩
  ·exact .inl h
  ·right
   refine ⟨fun l' hl'=>?_,?_⟩
   ·by_cases e:l'=l
    ·subst e; rw [ziS_]
    ·rw [ziI_ _ _ e]; exact h1 l' hl'
   ·have e:(fun i=>u1 kf l (fun _=>(0:Int)) i p)=u1 (fun i=>kf i p) l 0:=by
     funext i
     by_cases e:i=l
     ·subst e; rw [ziS_,ziS_]
     ·rw [ziI_ _ _ e,ziI_ _ _ e]
    rw [e,zk0_ hl,h2]; lia
theorem JI.congr {T':Nat→Int}(J:JI m n F T B kf of ro) (h:∀ p,p<n→T p=T' p):JI m n F T' B kf of ro :=
 ⟨J.rng,fun p hp=>by rw [← h p hp]; exact J.ex p hp,J.bd,J.ks,J.nd⟩
end
theorem zlw_ {ws:List (List Nat)}(h1:ws.length≤100) (h2:∀ w∈ws,w.length≤100):JoinOk ⟨#[32]⟩ (strsL ws)=true:=by
 unfold JoinOk
 have key:∀ (l:List Str) (acc:Nat),(∀ z∈l,z.length≤100)→l.foldl (fun x1 x2=>x1+x2.length+1) acc≤acc+l.length*101:=by
  intro l
  induction l with
  | nil=>intro acc _; simp
  | cons z r ih =>
   intro acc hz
   have h2:=ih (acc+z.length+1) fun y hy=>hz y (List.mem_cons_of_mem _ hy)
   have h3:=hz z List.mem_cons_self
   rw [List.foldl_cons,List.length_cons]
   lia
 have hz:∀ z∈strsL ws,z.length≤100:=fun z hz=>by
  unfold strsL at hz
  obtain ⟨p,hp,rfl⟩:=List.mem_map.mp hz
  exact h2 p hp
 have q:=key _ 0 hz
 have ql:(strsL ws).length=ws.length:=by unfold strsL; simp
 rw [List.foldl_toArray]
 unfold Builtin.Str.tooLong
 simp only [Bool.not_eq_true',decide_eq_false_iff_not]
 have hs:(100000:Nat)≤sizeLine:=by rw [sizeLine_eq]; lia
 have:(strsL ws).foldl (fun x1 x2=>x1+x2.length+Str.length ⟨#[32]⟩) 0≤100000:=Nat.le_trans q (by lia)
 lia
noncomputable def tlw (F n:Nat) (k:Nat→Int):List (List Nat):=(List.range n).map fun p=>digs F (k p).toNat
theorem zj3_ (F n:Nat) (k:Nat→Int):(tlw F n k).length=n:=by unfold tlw; simp
theorem zlU_ {F n:Nat}(h1:1≤F) (h2:F≤12) {k:Nat→Int}(o:Nat→Bool) (hk:∀ p,0≤k p∧k p<10 ^ F) (hn:n≤100):compM (fun x_27=>cond1 (Mo.ok true) (zaI_ x_27).noex) (wrow F n k o) []=.ok (tlw F n k):=by
 rw [za8_ (f:=fun x_27=>cond1 (Mo.ok true) (zaI_ x_27).noex) (g:=fun x=>match zaI_ x with | .ok v=>v | _=>[]) (fun x hx=>by
  unfold wrow at hx
  obtain ⟨p,_,rfl⟩:=List.mem_map.mp hx
  rw [zkz_ h1 h2 (hk p).1 (hk p).2]; rfl) (by rw [zhF_]; simp; lia)]
 unfold wrow tlw
 rw [List.map_map,List.nil_append]
 refine congrArg Mo.ok (List.map_congr_left fun p _=>?_)
 show (match zaI_ (whl F (k p) (o p)) with | .ok v=>v | _=>[])=_
 rw [zkz_ h1 h2 (hk p).1 (hk p).2]
theorem zjo_ {F n:Nat}(k:Nat→Int) (o:Nat→Bool) (hn:n≤100):compM (fun x_13=>cond1 (Mo.ok true) (zb0_ x_13).noex) (wrow F n k o) []=.ok ((List.range n).map k):=by
 rw [za8_ (f:=fun x_13=>cond1 (Mo.ok true) (zb0_ x_13).noex) (g:=fun x=>x.2.2.1) (fun x hx=>rfl) (by rw [zhF_]; simp; lia)]
 unfold wrow
 rw [List.map_map]
 rfl
theorem zis_ (F:Nat) (g:Nat→Int) (o:Nat→Bool):∀ (ps:List Nat),mapX (fun z_28=>(zaH_ z_28).noex.bind fun q_29=>Mo.ok q_29.snd) (ps.map fun p=>whl F (g p) (o p))=.ok (ps.map fun p=>whl F 0 false)
 | []=>rfl
 | p::ps=>by
  rw [List.map_cons]
  show ((zaH_ (whl F (g p) (o p))).noex.bind fun q_29=>Mo.ok q_29.snd).bind _=_
  rw [zmP_]
  show (mapX (fun z_28=>(zaH_ z_28).noex.bind fun q_29=>Mo.ok q_29.snd) (ps.map fun p=>whl F (g p) (o p))).bind _=_
  rw [zis_ F g o ps]
  rfl
section
variable {K S:List (Int×Int)}{F l:Nat}{T:Nat→Int}{kf:Nat→Nat→Int}{of:Nat→Nat→Bool}{bf:Option (List Nat)}{ro:List (Int×Bool)}
theorem atL (h:l≤K.length):atI (lvls F K.length S.length kf of) (l:Int)=some (wrow F S.length (kf l) (of l)):=by rw [zhx_ (by lia)]; exact zhs_ kf of h
noncomputable def lineOf (K S:List (Int×Int)) (F l:Nat) (ps:List (List Nat)) (k:Nat→Int):List Nat:=joinL [32] ([repL [42] (1+(K.length:Int)-l)]++ps++tlw F S.length k)
theorem zjA_ (h1:1≤F) (h2:F≤12) (hK:K.length≤10) (hS:S.length≤10) (hl:l≤K.length) (hb:l=0∨∃ b,bf=some b∧b.length=40) (hk:∀ l p,0≤kf l p∧kf l p<10 ^ F) :
  ∃ ps,(l=0→ps=[])∧zan_ (mkC K S F kf of bf ro) l=.ok (lineOf K S F l ps (kf l)):=by
 have hp:∃ ps:List (List Nat),compM (fun x_16=>cond1 (Mo.ok true) (((Mo.opt bf).bind fun a_19=>Mo.ok (a_19,x_16)).bind fun c_21=>(zcq_ c_21.fst c_21.snd).noex)) (K.take l) []=.ok ps∧ps.length≤10∧(∀ w∈ps,w.length≤40)∧(l=0→ps=[]):=by
  rcases hb with rfl | ⟨b,rfl,hbl⟩
  ·exact ⟨[],rfl,by simp,by simp,fun _=>rfl⟩
  ·refine ⟨[]++(K.take l).map (prt b),za8_ (fun x _=>?_) (by simp; lia),by simp; lia,fun w hw=>?_,fun h=>by subst h; rfl⟩
   ·unfold cond1
    walk_at "mo"
    rw [zio_ b x (by lia)]
    rfl
   ·rw [List.nil_append] at hw
    obtain ⟨f,_,rfl⟩:=List.mem_map.mp hw
    have:=zd0_ b (some (f.1-1)) (some f.2)
    unfold prt; lia
 obtain ⟨ps,ep,hp1,hp2,hp3⟩:=hp
 refine ⟨ps,hp3,?_⟩
 have hrl:(repL [42] (1+(K.length:Int)-l)).length≤11:=by unfold repL; simp; lia
 unfold zan_ zaS_ mkC
 walk_at "mo"
 rw [Mo.grd_ok (show CRep [42].length (1+(K.length:Int)-l) by unfold CRep; simp; lia)]
 walk_at "mo"
 rw [zkI_ (by lia),show ((l:Int)).toNat=l from rfl,ep]
 walk_at "mo"
 rw [Mo.lim_ok (by simp; lia),atL hl]
 walk_at "mo"
 rw [zlU_ h1 h2 (of l) (hk l) (by lia)]
 walk_at "mo"
 rw [Mo.lim_ok (by simp [zj3_]; lia),Mo.grd_ok,zi4_]
 ·rfl
 ·refine zlw_ (by simp [zj3_]; lia) fun w hw=>?_
  rcases List.mem_append.mp hw with hw | hw
  ·rcases List.mem_append.mp hw with hw | hw
   ·rw [List.mem_singleton.mp hw]; lia
   ·have:=hp2 w hw; lia
  ·unfold tlw at hw
   obtain ⟨p,_,rfl⟩:=List.mem_map.mp hw
   rw [zb9_]; lia
theorem zkp_ (hl:l≤K.length) (line:List Nat):fnMR (thenO (S:=Ctr) (S':=Unit) (B:=Unit) (ρ:=List Nat×Ctr) (((Mo.opt (ixN (mkC K S F kf of bf ro).2.2.2.1.length (l:Int))).bind fun n_25=>(Mo.opt ((mkC K S F kf of bf ro).2.2.2.1[n_25]?)).bind fun z_26=>Mo.ok (z_26,fun z'=>((mkC K S F kf of bf ro).1,(mkC K S F kf of bf ro).2.1,(mkC K S F kf of bf ro).2.2.1,(mkC K S F kf of bf ro).2.2.2.1.set n_25 z',(mkC K S F kf of bf ro).2.2.2.2))).bind fun y_27=>(mapX (fun z_28=>(zaH_ z_28).noex.bind fun q_29=>Mo.ok q_29.snd) y_27.1).bind fun xs_30=>Mo.ok (Out.nx (y_27.2 xs_30))) (fun s=>Mo.ok (Out.rt (line,s))))=.ok (line,mkC K S F (u1 kf l fun _=>0) (u1 of l fun _=>false) bf ro):=by
 show fnMR (thenO (((Mo.opt (ixN (lvls F K.length S.length kf of).length (l:Int))).bind fun n_25=>(Mo.opt ((lvls F K.length S.length kf of)[n_25]?)).bind fun z_26=>Mo.ok (z_26,fun z'=>(K,S,[],(lvls F K.length S.length kf of).set n_25 z',bf,ro,()))).bind fun y_27=>(mapX (fun z_28=>(zaH_ z_28).noex.bind fun q_29=>Mo.ok q_29.snd) y_27.1).bind fun xs_30=>Mo.ok (Out.nx (y_27.2 xs_30))) _)=_
 rw [zj4_,zk8_ (by lia) (by lia)]
 walk_at "mo"
 rw [show ((l:Int)).toNat=l from rfl,zhs_ _ _ hl]
 walk_at "mo"
 rw [show wrow F S.length (kf l) (of l)=(List.range S.length).map fun p=>whl F (kf l p) (of l p) from rfl,zis_]
 walk_at "mo"
 rw [show (List.range S.length).map (fun p=>whl F 0 false)=wrow F S.length (fun _=>0) (fun _=>false) from rfl,zjz_]
 rfl
theorem ziO_ (h1:1≤F) (h2:F≤12) (hK:K.length≤10) (hS:S.length≤10) (hk:∀ l p,0≤kf l p∧kf l p<10 ^ F):zK_ (mkC K S F kf of bf ro) 0=.ok (lineOf K S F 0 [] (kf 0),mkC K S F (u1 kf 0 fun _=>0) (u1 of 0 fun _=>false) bf ro):=by
 obtain ⟨ps,e1,e2⟩:=zjA_ (bf:=bf) (of:=of) (ro:=ro) h1 h2 hK hS (Nat.zero_le K.length) (.inl rfl) hk
 rw [e1 rfl] at e2
 have e3:zan_ (mkC K S F kf of bf ro) 0=.ok (lineOf K S F 0 [] (kf 0)):=e2
 unfold zK_ zab_
 walk_at "mo"
 rw [e3]
 walk_at "mo"
 exact zkp_ (l:=0) (Nat.zero_le _) _
theorem znl_ (h1:1≤F) (h2:F≤12) (hK:K.length≤10) (hS:S.length≤10) (hl1:1≤l) (hl:l≤K.length) (hb:∃ b,bf=some b∧b.length=40) (J:JI K.length S.length F T T kf of ro) :
  ∃ line kf' of' ro',zK_ (mkC K S F kf of bf ro) l=.ok (line,mkC K S F kf' of' bf ro')∧JI K.length S.length F T T kf' of' ro'∧(∀ p,kf' l p=0)∧∀ l',l'≠l→l'≠l-1→kf' l'=kf l':=by
 obtain ⟨ps,_,e2⟩:=zjA_ (bf:=bf) (of:=of) (ro:=ro) h1 h2 hK hS hl (.inr hb) J.rng
 have hro:=J.len
 have gd:∀ p,p<S.length→((List.range S.length).map (kf l)).getD p 0=kf l p:=fun p hp=>by
  rw [List.getD_eq_getElem?_getD,List.getElem?_map,List.getElem?_range hp]; rfl
 have hne:l≠l-1:=by lia
 have J1:=J.raise (l:=l-1) (vs:=(List.range S.length).map (kf l)) (B':=T) (by lia) (fun p hp=>by rw [gd p hp]; exact (J.rng l p).1) (fun p hp=>Int.le_refl _) (fun p hp h=>by
  rw [gd p hp]
  rcases J.ex p hp with z | ⟨_,z⟩
  ·rw [h] at z; cases z
  ·have:=zpt_ (g:=fun i=>kf i p) (fun i=>(J.rng i p).1) (a:=l-1) (b:=l) (m:=K.length) (by lia) (by lia) hl
   rw [z] at this; exact this)
 have J2:=J1.reset hl
 refine ⟨lineOf K S F l ps (kf l),_,_,_,?_,J2.congr (fun p hp=>by rw [gd p hp,ziI_ _ _ hne]; lia),fun p=>by rw [ziS_],fun l' a b=>by rw [ziI_ _ _ a,ziI_ _ _ b]⟩
 ·unfold zK_ zab_
  walk_at "mo"
  rw [e2,decide_eq_true (show (0:Int)<l by lia)]
  walk_at "mo"
  rw [show (mkC K S F kf of bf ro).snd.snd.snd.fst=lvls F K.length S.length kf of from rfl,atL hl]
  walk_at "mo"
  rw [zjo_ _ _ (by lia)]
  walk_at "mo"
  rw [show ((l:Int)-1)=((l-1:Nat):Int) by lia,zkC_ (by lia) (by simp) (by lia) (by lia)]
  walk_at "mo"
  exact zkp_ hl _
theorem zkV_ {a:Int}{n:Nat}{d r:List Int}{x:Int}(h:rngD a n=d++x::r):x=a-d.length∧d.length<n:=by
 have h1:(rngD a n)[d.length]?=some x:=by rw [h]; simp
 unfold rngD at h1
 rw [List.getElem?_map] at h1
 obtain ⟨y,h2,h3⟩:=Option.map_eq_some_iff.mp h1
 obtain ⟨h4,h5⟩:=List.getElem?_eq_some_iff.mp h2
 rw [List.getElem_range] at h5
 rw [List.length_range] at h4
 subst h5
 exact ⟨by lia,h4⟩
theorem znp_ (a:Int) (n:Nat):(rngD a n).length=n:=by unfold rngD; simp
noncomputable abbrev ClE (K S:List (Int×Int)) (F:Nat) (T:Nat→Int) (lines:List (List Nat)) (kf':Nat→Nat→Int) (of':Nat→Nat→Bool) (ro':List (Int×Bool)):Prop:=∃ T' k0,JI K.length S.length F T' T kf' of' ro'∧atI lines (-1)=some (lineOf K S F 0 [] k0)∧∀ p,p<S.length→(0≤k0 p∧k0 p<10 ^ F)∧(inR ro' p=false→k0 p=T p)
noncomputable abbrev ClQ (K S:List (Int×Int)) (F:Nat) (T:Nat→Int) (o:Nat) (lines:List (List Nat)) (kf':Nat→Nat→Int) (of':Nat→Nat→Bool) (ro':List (Int×Bool)):Prop:=lines.length≤11∧((1≤o∧JI K.length S.length F T T kf' of' ro')∨(o=0∧ClE K S F T lines kf' of' ro'))
noncomputable abbrev ClP (K S:List (Int×Int)) (F:Nat) (T:Nat→Int) (bf:Option (List Nat)) (n:Nat) (s:List (List Nat)×Ctr):Prop:=∃ kf' of' ro',s.2=mkC K S F kf' of' bf ro'∧s.1.length=n∧((n≤K.length∧JI K.length S.length F T T kf' of' ro'∧∀ l p,K.length-n<l→l≤K.length→kf' l p=0)∨(n=K.length+1∧ClE K S F T s.1 kf' of' ro'))
theorem ziR_ {o:Nat}(h1:1≤F) (h2:F≤12) (hK:K.length≤10) (hS:S.length≤10) (ho:o≤K.length+1) (hb:∃ b,bf=some b∧b.length=40) (J:JI K.length S.length F T T kf of ro) :
  ∃ lines kf' of' ro',zG_ (mkC K S F kf of bf ro) o=.ok (lines,mkC K S F kf' of' bf ro')∧ClQ K S F T o lines kf' of' ro':=by
 unfold zG_ zat_
 walk_at "mo"
 rw [show (mkC K S F kf of bf ro).fst=K from rfl,Mo.grd_ok (by refine ⟨by first | rfl | trivial,?_,?_,?_,?_⟩<;>first | omega | (simp only; omega) | (dsimp only; omega))]
 walk_at "mo"
 rw [show ((K.length:Int)-((o:Int)-1)).toNat=K.length+1-o by omega]
 refine zb6_ (G:=fun z=>∃ lines kf' of' ro',fnMR (thenO z _)=.ok (lines,mkC K S F kf' of' bf ro')∧ClQ K S F T o lines kf' of' ro')
  (fun d (s:List (List Nat)×Ctr)=>ClP K S F T bf d.length s)
  ?_ ?_ ?_
 ·exact ⟨kf,of,ro,rfl,rfl,.inl ⟨Nat.zero_le _,J,fun l p a b=>by simp at a; omega⟩⟩
 ·rintro d x ⟨lines,st⟩ ⟨r,hr⟩ ⟨kf',of',ro',hs,hll,w⟩
  simp only at hs hll w ⊢
  subst hs
  obtain ⟨x1,hd⟩:=zkV_ hr
  rcases w with ⟨w1,w2,w3⟩ | ⟨w1,_⟩
  ·by_cases hx:1≤K.length-d.length
   ·obtain ⟨line,kf2,of2,ro2,e,J2,z1,z2⟩:=znl_ (l:=K.length-d.length) h1 h2 hK hS hx (by omega) hb w2
    rw [x1,show ((K.length:Int)-d.length)=((K.length-d.length:Nat):Int) by omega,e]
    walk_at "mo"
    rw [Mo.lim_ok (by omega)]
    refine ⟨_,rfl,kf2,of2,ro2,rfl,by simp; exact hll,.inl ⟨by simp; omega,J2,fun l p a b=>?_⟩⟩
    rw [List.length_append,List.length_singleton] at a
    by_cases hl:l=K.length-d.length
    ·subst hl; exact z1 p
    ·rw [z2 l hl (by omega)]; exact w3 l p (by omega) b
   ·have e:=ziO_ (of:=of') (bf:=bf) (ro:=ro') h1 h2 hK hS w2.rng
    rw [x1,show ((K.length:Int)-d.length)=0 by omega,e]
    walk_at "mo"
    rw [Mo.lim_ok (by omega)]
    refine ⟨_,rfl,_,_,_,rfl,by simp; exact hll,.inr ⟨by simp; omega,_,kf' 0,w2.reset (Nat.zero_le _),?_,fun p hp=>⟨w2.rng 0 p,fun h=>?_⟩⟩⟩
    ·unfold atI ixN
     rw [if_neg (by decide),if_pos (by simp; omega)]
     simp
     rw [show (-1+((lines.length:Int)+1)).toNat=lines.length by omega]
     simp
    ·rcases w2.ex p hp with z | ⟨_,z⟩
     ·rw [h] at z; cases z
     ·rw [← z]
      have:∀ m,m≤K.length→smL (fun l=>kf' l p) m=kf' 0 p:=by
       intro m
       induction m with
       | zero=>intro _; rfl
       | succ m ih=>intro hm; show smL _ m+kf' (m+1) p=_; rw [ih (by omega),w3 (m+1) p (by omega) hm]; omega
      exact (this _ (Nat.le_refl _)).symm
  ·omega
 ·rintro ⟨lines,st⟩ ⟨kf',of',ro',hs,hll,w⟩
  simp only at hs hll w ⊢
  subst hs
  rw [znp_] at hll w
  refine ⟨lines,kf',of',ro',rfl,by omega,?_⟩
  rcases w with ⟨w1,w2,w3⟩ | ⟨w1,w2⟩
  ·exact .inl ⟨by omega,w2⟩
  ·exact .inr ⟨by omega,w2⟩
theorem zlM_ (h1:1≤F) (h2:F≤12) (hK:K.length≤10) (hS:S.length≤10) (hb:∀ b,bf=some b→b.length=40) (h0:bf=none→∀ p,p<S.length→kf 0 p=T p) (J:JI K.length S.length F T T kf of ro) :
  ∃ lines kf' of' ro',zbF_ (mkC K S F kf of bf ro)=.ok (lines,mkC K S F kf' of' bf ro')∧∃ T' k0,JI K.length S.length F T' T kf' of' ro'∧atI lines (-1)=some (lineOf K S F 0 [] k0)∧∀ p,p<S.length→(0≤k0 p∧k0 p<10 ^ F)∧(inR ro' p=false→k0 p=T p):=by
 unfold zbF_ zbE_
 walk_at "mo"
 rw [show (mkC K S F kf of bf ro).snd.snd.snd.snd.fst=bf from rfl]
 cases bf with
 | none =>
  walk_at "mo"
  rw [ziO_ h1 h2 hK hS J.rng]
  walk_at "mo"
  exact ⟨_,_,_,_,rfl,_,kf 0,J.reset (Nat.zero_le _),rfl,fun p hp=>⟨J.rng 0 p,fun _=>h0 rfl p hp⟩⟩
 | some b =>
  walk_at "mo"
  obtain ⟨lines,kf',of',ro',e,_,w⟩:=ziR_ (o:=0) h1 h2 hK hS (by lia) ⟨b,rfl,hb b rfl⟩ J
  rw [show zG_ (mkC K S F kf of (some b) ro) 0=_ from e]
  walk_at "mo"
  rcases w with ⟨z,_⟩ | ⟨_,w⟩
  ·lia
  ·exact ⟨lines,kf',of',ro',rfl,w⟩
theorem zjs_ {b c:List Nat}(hb:b.length=40) (hc:c.length=40):∃ o:Nat,1≤o∧o≤K.length+1∧zX_ (mkC K S F kf of (some b) ro) c=.ok (o:Int):=by
 unfold zX_ zaq_ mkC
 walk_at "mo"
 rw [zir_ (p:=fun x:Int×(Int×Int)=>!decide (prt c x.2=prt b x.2)) (a:=fun x=>x.1+1) (fun x hx=>?_)]
 ·cases g:(enumL K).find? (fun x:Int×(Int×Int)=>!decide (prt c x.2=prt b x.2)) with
  | none=>exact ⟨K.length+1,by lia,by lia,rfl⟩
  | some x =>
   obtain ⟨i,hi,e,_⟩:=zls_ (List.mem_of_find?_eq_some g)
   refine ⟨i+1,by lia,by lia,?_⟩
   show Mo.ok (x.1+1)=_
   rw [e]; rfl
 ·rw [zio_ c x.2 (by lia),zio_ b x.2 (by lia)]
  walk_at "mo"
theorem zoa_ {c:List Nat}(hc:c.length=40):ze5_ c=.ok (c.drop 36):=by
 unfold ze5_ ze8_
 walk_at "mo"
 rw [Mo.lim_ok (by lia),ziM_ (by decide)]
 rfl
theorem zm4_ (c:List Nat) (B:List Wr):(laid c B).length=36:=by unfold laid; simp
theorem zoy_ {c:List Nat}(h1:1≤F) (h2:F≤12) (hK:K.length≤10) (hS:S.length≤10) (hc:c.length=40) (hv:∀ f∈S,0≤num c f) (hb:∀ b,bf=some b→b.length=40) (J:JI K.length S.length F T T kf of ro) :
  ∃ lines kf' of' ro',zb7_ (mkC K S F kf of bf ro) c=.ok (lines,mkC K S F kf' of' (some c) ro')∧JI K.length S.length F (fun p=>T p+(S.map (num c)).getD p 0) (fun p=>T p+(S.map (num c)).getD p 0) kf' of' ro':=by
 have hd:(c.drop 36).length=4:=by simp [hc]
 have hll:=zm4_ c []
 have key:∃ lines kf' of' ro',(if (mkC K S F kf of bf ro).snd.snd.snd.snd.fst.isSome=true then
     ((zX_ (mkC K S F kf of bf ro) c).noex.bind fun c_10 =>
        (zG_ (mkC K S F kf of bf ro) c_10).noex.bind fun q_11=>Mo.ok (q_11.fst,q_11.snd)).bind
      fun q_12=>(Mo.ok (Out.nx (q_12.fst,q_12.snd)):Mo (Out ((List (List Nat))×Ctr) Unit ((List (List Nat))×Ctr)))
    else Mo.ok (Out.nx ([],mkC K S F kf of bf ro)))=Mo.ok (Out.nx (lines,mkC K S F kf' of' bf ro'))∧lines.length≤11∧JI K.length S.length F T T kf' of' ro':=by
  cases bf with
  | none=>exact ⟨[],kf,of,ro,rfl,by simp,J⟩
  | some b =>
   obtain ⟨o,o1,o2,eo⟩:=zjs_ (K:=K) (S:=S) (F:=F) (kf:=kf) (of:=of) (ro:=ro) (hb b rfl) hc
   obtain ⟨lines,kf',of',ro',e,e2,w⟩:=ziR_ (o:=o) h1 h2 hK hS o2 ⟨b,rfl,hb b rfl⟩ J
   rw [eo]
   walk_at "mo"
   rw [e]
   rcases w with ⟨_,w⟩ | ⟨z,_⟩
   ·exact ⟨lines,kf',of',ro',rfl,e2,w⟩
   ·lia
 obtain ⟨lines,kf',of',ro',ek,hlen,J'⟩:=key
 have hro:=J'.len
 have gv:∀ p,p<S.length→0≤(S.map (num c)).getD p 0:=fun p hp=>by
  rw [List.getD_eq_getElem?_getD,List.getElem?_map,List.getElem?_eq_getElem hp]
  exact hv _ (List.getElem_mem hp)
 have J1:=J'.raise (l:=K.length) (vs:=S.map (num c)) (B':=fun p=>T p+(S.map (num c)).getD p 0) (Nat.le_refl _) gv (fun p hp=>by have:=gv p hp; lia) (fun p hp h=>by
  rcases J'.ex p hp with z | ⟨_,z⟩
  ·rw [h] at z; cases z
  ·have:=zoU_ (g:=fun i=>kf' i p) (fun i=>(J'.rng i p).1) (Nat.le_refl K.length)
   rw [z] at this; show kf' K.length p+_≤T p+_; lia)
 refine ⟨lines++[c.drop 36++32::laid c []],_,_,_,?_,J1⟩
 ·unfold zb7_ zb5_
  walk_at "mo"
  rw [ek,zju_,zoa_ hc]
  walk_at "mo"
  rw [show (mkC K S F kf' of' bf ro').snd.snd.fst=[] from rfl,show (mkC K S F kf' of' bf ro').snd.fst=S from rfl,show (mkC K S F kf' of' bf ro').fst=K from rfl,zqe_ hc (by simp)]
  walk_at "mo"
  rw [Mo.lim_ok (by lia),Mo.lim_ok (by lia)]
  walk_at "mo"
  rw [Mo.grd_ok (by lia),Mo.grd_ok (by decide),Mo.grd_ok (by lia)]
  walk_at "mo"
  rw [Mo.lim_ok (by lia),za8_ (f:=fun x_32=>cond1 (Mo.ok true) (zcD_ c x_32).noex) (g:=num c) (fun x hx=>by rw [zlk_ c x (by lia)]; rfl) (by simp; lia)]
  walk_at "mo"
  rw [List.nil_append,zkC_ (Nat.le_refl _) (by simp) (by lia) (by lia),List.append_nil]
  rfl
theorem zo7_ (h2:F≤12) (hK:K.length≤10) (hS:S.length≤10):za9_ () K S F []=.ok ((),mkC K S F (fun _ _=>0) (fun _ _=>false) none []):=by
 unfold za9_ zbc_
 walk_at "mo"
 rw [Mo.grd_ok (by lia),show ((K.length:Int)+1).toNat=K.length+1 by lia]
 walk_at "mo"
 have e:compM (fun x_18:Int×Int=>cond1 (Mo.ok true) ((z7_ () F).noex.bind fun q_20=>Mo.ok q_20.snd)) S []=.ok (wrow F S.length (fun _=>0) (fun _=>false)):=by
  have e12:z7_ () F=.ok ((),whl F 0 false):=zos_ (by lia)
  rw [za8_ (f:=fun x_18:Int×Int=>cond1 (Mo.ok true) ((z7_ () F).noex.bind fun q_20=>Mo.ok q_20.snd)) (g:=fun _=>whl F 0 false) (fun x hx=>by rw [e12]; rfl) (by simp; lia)]
  unfold wrow
  rw [List.nil_append,List.map_const',List.map_const',List.length_range]
 rw [za8_ (f:=fun x_17:Int=>cond1 (Mo.ok true) (compM (fun x_18:Int×Int=>cond1 (Mo.ok true) ((z7_ () F).noex.bind fun q_20=>Mo.ok q_20.snd)) S [])) (g:=fun _=>wrow F S.length (fun _=>0) (fun _=>false)) (fun x hx=>by rw [e]; rfl) (by rw [zcn_]; simp; lia)]
 have e2:(rngI 0 (K.length+1)).map (fun _=>wrow F S.length (fun _=>0) (fun _=>false))=lvls F K.length S.length (fun _ _=>0) (fun _ _=>false):=by
  unfold lvls rngI; simp
 unfold mkC
 rw [← e2]
 rfl
end
theorem znq_ (n:Int):∃ ks,zdH_ n=.ok ks∧ks.length=36:=by
 obtain ⟨xs,e,hl⟩:=zeY_ n (many:=36) (by decide) (by decide)
 unfold zdH_ zdF_
 walk_at "mo"
 rw [e]
 walk_at "mo"
 rw [za8_ (f:=fun x_4=>cond1 (Mo.ok true) (Mo.ok (x_4 / 11))) (g:=fun x=>x / 11) (fun x _=>rfl) (by simp [hl])]
 exact ⟨_,rfl,by simp [hl]⟩
theorem zpw_ (k:Int):∃ y,atI SG (k % 37)=some y:=by
 obtain ⟨y,e,_⟩:∃ y,atI SG (k % 37)=some y∧y∈SG:=zok_ (xs:=SG) k (by decide)
 exact ⟨y,e⟩
theorem sg_in {k:Int}(h0:0≤k) (h1:k<37):∃ y,atI SG k=some y:=by
 obtain ⟨y,e,_⟩:=zdk_ (xs:=SG) h0 h1
 exact ⟨y,e⟩
theorem zoA_ (n k:Int) {ks:List Int}(hk:ks.length=36):∃ c,zd3_ n k ks=.ok c∧c.length=40:=by
 obtain ⟨xs,e,hl⟩:=zeY_ n (many:=36) (by decide) (by decide)
 unfold zd3_ zen_
 walk_at "mo"
 rw [e]
 walk_at "mo"
 rw [Mo.grd_ok (by decide)]
 walk_at "mo"
 have hxs:xs.length=36:=hl
 refine zb6_ (G:=fun m=>∃ c:List Nat,fnO (thenO m _)=.ok c∧c.length=40) (fun d (s:List Nat)=>s.length=d.length) rfl (fun d x s hx hs=>?_) (fun s hs=>?_)
 ·obtain ⟨r,hr⟩:=hx
  obtain ⟨ex,hd⟩:=zj5_ hr
  have hd':d.length<36:=hd
  obtain ⟨a,ea,_⟩:=zdk_ (xs:=xs) (k:=x) (by lia) (by lia)
  obtain ⟨b,eb,_⟩:=zdk_ (xs:=ks) (k:=x) (by lia) (by lia)
  rw [ea,eb]
  walk_at "mo"
  have q0:0≤b % 5:=Int.emod_nonneg _ (by decide)
  have q1:b % 5<5:=Int.emod_lt_of_pos _ (by decide)
  have key:∃ v,atI [1+b / 5 % 10,1+a / 7 % 10,(b / 5+a / 7 % 2) % 37,a / 7 % 37,1+(b / 5+a / 7 % 2) % 10] (b % 5)=some v∧0≤v∧v<37:=by
   obtain ⟨v,ev,hm⟩:=zdk_ (xs:=[1+b / 5 % 10,1+a / 7 % 10,(b / 5+a / 7 % 2) % 37,a / 7 % 37,1+(b / 5+a / 7 % 2) % 10]) (k:=b % 5) q0 (by simpa using q1)
   refine ⟨v,ev,?_⟩
   simp only [List.mem_cons,List.not_mem_nil,or_false] at hm
   rcases hm with rfl | rfl | rfl | rfl | rfl<;>lia
  obtain ⟨v,ev,v0,v1⟩:=key
  obtain ⟨y,ey⟩:=sg_in v0 v1
  rw [ev]
  walk_at "mo"
  rw [ey,Mo.lim_ok (by decide)]
  walk_at "mo"
  rw [Mo.lim_ok (by simp; lia)]
  exact ⟨_,rfl,by simp [hs]⟩
 ·obtain ⟨y1,e1⟩:=zpw_ n
  obtain ⟨y2,e2⟩:=zpw_ k
  obtain ⟨a,ea,_⟩:=zdk_ (xs:=xs) (k:=0) (by decide) (by lia)
  obtain ⟨y3,e3⟩:=zpw_ a
  obtain ⟨y4,e4⟩:=zpw_ (n / 37)
  have hs':s.length=36:=by rw [hs,zcn_]; rfl
  walk_at "mo"
  rw [e1,e2,ea,e4]
  walk_at "mo"
  rw [e3]
  simp only [show ∀ r:Mo (List Nat),Mo.lim SG.length r=r from fun r=>Mo.lim_ok (by decide)]
  walk_at "mo"
  rw [Mo.lim_ok (show [y1].length+[y2].length≤100000 by simp)]
  walk_at "mo"
  rw [Mo.lim_ok (show ([y1]++[y2]).length+[y3].length≤100000 by simp)]
  walk_at "mo"
  rw [Mo.lim_ok (show s.length+([y1]++[y2]++[y3]).length≤100000 by simp; lia)]
  walk_at "mo"
  rw [Mo.lim_ok (show (s++([y1]++[y2]++[y3])).length+[y4].length≤100000 by simp; lia)]
  exact ⟨_,rfl,by simp; lia⟩
theorem zmJ_ (d:Nat):max 0 (findS [48,49,50,51,52,53,54,55,56,57] [d])=(fig d:Int)-48:=by
 by_cases h:48≤d∧d≤57
 ·rw [zgZ_ h,show fig d=d from if_pos h]; omega
 ·rw [zh1_ h,show fig d=48 from if_neg h]; rfl
theorem zkG_ (c:List Nat) (f:Int×Int) (h:c.length≤1000):zcf_ c f=.ok (num c f):=by
 unfold zcf_ zc4_
 walk_at "mo"
 rw [Mo.lim_ok (by lia)]
 walk_at "mo"
 rw [zdn_ (fun (s:Int) (x:List Nat)=>s*10+((fig (x.headD 0):Nat)-48))]
 ·rw [List.foldl_map]
  unfold num numL
  rw [List.foldl_map]
  rfl
 ·intro s x hx
  obtain ⟨d,hd,rfl⟩:=List.mem_map.mp hx
  rw [zmJ_,Int.mul_comm s 10]
  rfl
theorem zj6_ (n:Int) {m:Int}(h1:1≤m) (h2:m≤12):∃ f,zbe_ n m=.ok f∧isF f∧f.2-f.1≤11:=by
 unfold zbe_ zdK_
 walk_at "mo"
 rw [Mo.grd_ok (by lia)]
 walk_at "mo"
 have a0:0≤n / 180 % m:=Int.emod_nonneg _ (by lia)
 have a1:n / 180 % m<m:=Int.emod_lt_of_pos _ (by lia)
 have b0:0≤n / 5 % 36:=Int.emod_nonneg _ (by decide)
 have b1:n / 5 % 36<36:=Int.emod_lt_of_pos _ (by decide)
 refine ⟨_,rfl,⟨?_,?_,?_⟩,?_⟩<;>simp only<;>lia
theorem zj0_ {a b:Nat}(h:a≤b):(10:Int) ^ a≤10 ^ b:=by
 have h3:10 ^ a≤10 ^ b:=Nat.pow_le_pow_right (by decide) h
 have e1:∀ n:Nat,(10:Int) ^ n=((10 ^ n:Nat):Int):=fun n=>by rw [Int.natCast_pow]; rfl
 rw [e1,e1]
 exact Int.ofNat_le.mpr h3
theorem znU_ (a b n:Nat):min a n-min b n≤a-b:=by
 rcases Nat.le_total b n with h | h
 ·rw [Nat.min_eq_left h]; exact Nat.sub_le_sub_right (Nat.min_le_left _ _) _
 ·rw [Nat.min_eq_right h,Nat.sub_eq_zero_of_le (Nat.min_le_right _ _)]; exact Nat.zero_le _
theorem znA_ (c:List Nat) {f:Int×Int}(hf:isF f):0≤num c f∧num c f≤10 ^ wd f-1:=by
 have h1:=zjQ_ ((prt c f).map fig) 0 (fun c hc=>by obtain ⟨b,_,rfl⟩:=List.mem_map.mp hc; exact zgj_ b) (by decide)
 have h2:((prt c f).map fig).length≤wd f:=by
  rw [List.length_map]
  obtain ⟨a,b,d⟩:=hf
  unfold prt cutG wd
  rw [zg7_ (by omega),zg7_ (by omega)]
  refine Nat.le_trans (List.length_take_le _ _) (Nat.le_trans (znU_ _ _ _) ?_)
  clear h1
  omega
 rw [show (0:Int)+1=1 from rfl,Int.one_mul] at h1
 have h3:=zj0_ h2
 refine ⟨h1.1,?_⟩
 have h4:num c f<10 ^ ((prt c f).map fig).length:=h1.2
 omega
noncomputable def nine (c:List Nat) (f:Int×Int):List Nat:=cutG (cutG c none (some (f.1-1))++repL [57] 12) none (some f.2)++cutG c (some f.2) none
theorem zop_ {c:List Nat}{f:Int×Int}(hc:c.length=40) (hf:isF f) (h:f.2-f.1≤11):(nine c f).length=40∧num (nine c f) f=10 ^ wd f-1:=by
 obtain ⟨a,b,d⟩:=hf
 obtain ⟨i,ei⟩:∃ i:Nat,f.1-1=i:=⟨(f.1-1).toNat,by lia⟩
 obtain ⟨j,ej⟩:∃ j:Nat,f.2=j:=⟨f.2.toNat,by lia⟩
 have e12:repL [57] 12=List.replicate 12 57:=by decide
 have en:nine c f=c.take i++List.replicate (j-i) 57++c.drop j:=by
  unfold nine
  rw [ei,ej,zkI_ (by lia),zkI_ (by lia),ziM_ (by lia),e12,Int.toNat_natCast,Int.toNat_natCast,List.take_append,List.take_take,List.length_take,Nat.min_eq_right (by lia),Nat.min_eq_left (by lia),List.take_replicate,Nat.min_eq_left (by lia)]
 have hl:(nine c f).length=40:=by rw [en]; simp; lia
 refine ⟨hl,?_⟩
 have ep:prt (nine c f) f=List.replicate (j-i) 57:=by
  unfold prt cutG
  rw [ei,ej,zg7_ (by lia),zg7_ (by lia),hl,Int.toNat_natCast,Int.toNat_natCast,Nat.min_eq_left (by lia),Nat.min_eq_left (by lia),en,List.append_assoc,List.drop_append,List.drop_eq_nil_of_le (by simp; lia),List.length_take,Nat.min_eq_left (by lia),Nat.sub_self,List.drop_zero,List.nil_append,List.take_append,List.take_of_length_le (by simp),List.length_replicate,Nat.sub_self,List.take_zero,List.append_nil]
 have hw:wd f=j-i:=by unfold wd; lia
 unfold num
 rw [ep,hw]
 have:∀ n,numL ((List.replicate n 57).map fig)=10 ^ n-1:=by
  intro n
  induction n with
  | zero=>rfl
  | succ n ih =>
   rw [List.replicate_succ',List.map_append]
   unfold numL at ih ⊢
   rw [List.foldl_append,ih]
   show (10 ^ n-1)*10+((57:Int)-48)=10 ^ (n+1)-1
   rw [Int.pow_succ]; lia
 exact this _
theorem zko_:∀ (k:Nat) (fuel:Nat) (g r:Int),k<fuel→0≤g→g<10 ^ k→∃ r',whileO (ρ:=Int) (B:=Unit) (fun s_32:Int×Int=>Mo.ok (decide (0<s_32.fst))) (fun s_32=>Mo.ok (Out.nx (s_32.fst / 10,s_32.snd+1))) fuel (g,r)=.ok (.nx (0,r'))
 | 0,fuel+1,g,r,_,h0,h1=>by
  have:g=0:=by have:(10:Int) ^ 0=1:=rfl; lia
  subst this
  exact ⟨r,rfl⟩
 | k+1,fuel+1,g,r,hf,h0,h1=>by
  by_cases hg:0<g
  ·obtain ⟨r',e⟩:=zko_ k fuel (g / 10) (r+1) (by lia) (by lia) (by rw [Int.pow_succ] at h1; lia)
   refine ⟨r',?_⟩
   rw [← e]
   show ((Mo.ok (decide (0<g)):Mo Bool).bind _)=_
   rw [decide_eq_true hg]
   rfl
  ·have:g=0:=by lia
   subst this
   exact ⟨r,rfl⟩
theorem zjN_ (n:Int) {f:Int×Int}(hf:isF f) (h:f.2-f.1≤11) {m:Nat}(hm:m≤100):∃ F:Nat,zcw_ n f m=.ok (F:Int)∧1≤F∧F≤12:=by
 unfold zcw_ zcs_
 walk_at "mo"
 by_cases h3:n % 3=2
 ·rw [decide_eq_true h3]
  walk_at "mo"
  have a0:0≤n / 3 % 12:=Int.emod_nonneg _ (by decide)
  have a1:n / 3 % 12<12:=Int.emod_lt_of_pos _ (by decide)
  exact ⟨(1+n / 3 % 12).toNat,by rw [Int.toNat_of_nonneg (by lia)],by lia,by lia⟩
 ·rw [decide_eq_false h3]
  walk_at "mo"
  obtain ⟨a,b,d⟩:=hf
  rw [Mo.grd_ok (by lia)]
  walk_at "mo"
  rw [zdn_ (fun (s:Int) _=>10*s) (fun s x _=>rfl),fold10,zcn_]
  walk_at "mo"
  have hw:(f.2+1-f.1).toNat≤12:=by lia
  have hp:=zj0_ hw
  have hp1:=zbJ_ (f.2+1-f.1).toNat
  generalize (10:Int) ^ (f.2+1-f.1).toNat=P at hp hp1
  have hP:(10:Int) ^ 12=1000000000000:=by decide
  have hg0:0≤P*m-m:=by
   have:(1:Int)*m≤P*m:=Int.mul_le_mul_of_nonneg_right (by lia) (by lia)
   lia
  have hg1:P*m-m<10 ^ 16:=by
   have h1:P*m≤1000000000000*100:=Int.mul_le_mul (by lia) (by lia) (by lia) (by lia)
   have h2:(10:Int) ^ 16=10000000000000000:=by decide
   lia
  obtain ⟨r',e⟩:=zko_ 16 fuelW _ 0 (by rw [zmE_]; lia) hg0 hg1
  rw [e]
  walk_at "mo"
  refine ⟨(min 12 (max 1 (r'-n % 3))).toNat,by rw [Int.toNat_of_nonneg (by lia)],by lia,by lia⟩
theorem zng_ {S:List (Int×Int)}(hS:∀ f∈S,isF f) (hl:S.length≤100) {F N:Nat}(hF:F≤12) (hN:N≤100):zb2_ S F N=.ok (S.map fun f=>decide ((10:Int) ^ F≤N*(10 ^ wd f-1))):=by
 unfold zb2_ zbZ_
 walk_at "mo"
 rw [za8_ (g:=fun f=>decide ((10:Int) ^ F≤N*(10 ^ wd f-1))) (fun f hf=>?_) (by simp; lia)]
 ·rfl
 ·obtain ⟨a,b,d⟩:=hS f hf
  unfold cond1
  walk_at "mo"
  rw [show zfh_ f=.ok (f.2-f.1+1) from rfl]
  walk_at "mo"
  rw [zgw_ (by lia) (by lia)]
  walk_at "mo"
  rw [zgw_ (by lia) (by lia),Int.toNat_natCast,show (f.2-f.1+1).toNat=wd f from rfl]
  walk_at "mo"
  rw [Mo.grd_ok (zdf_ (.inl ⟨by lia,by lia⟩))]
  rfl
theorem zlj_ {ov:List Int}{ah:List Bool}(h:∀ x∈ov,atI ah x=some true):zbH_ ov ah=.ok true:=by
 unfold zbH_ zcP_
 walk_at "mo"
 rw [zh7_ (fun x hx=>by rw [h x hx]; rfl)]
 rfl
theorem zky_ {K S:List (Int×Int)}{F:Nat}{kf:Nat→Nat→Int}{of:Nat→Nat→Bool}{bf:Option (List Nat)}{ro:List (Int×Bool)}(h:ro.length<64):zbo_ (mkC K S F kf of bf ro)=.ok (srtL ltI (ro.map (·.1))):=by
 unfold zbo_ zbK_
 walk_at "mo"
 rw [show (mkC K S F kf of bf ro).snd.snd.snd.snd.snd.fst=ro from rfl,Mo.grd_ok h]
 rfl
theorem zjt_ {f:Nat}{k:Int}(h2:f≤12) (h0:0≤k):zca_ k f=.ok (digs f (k % 10 ^ f).toNat):=by
 unfold zca_ zcK_
 walk_at "mo"
 rw [Mo.grd_ok ⟨by lia,by lia⟩]
 walk_at "mo"
 refine zb6_ (G:=fun m=>fnO (thenO m _)=_) (fun d s=>s=(digs d.length (k % 10 ^ f).toNat,k / 10 ^ d.length)) (by simp [digs]) (fun d x s hx hs=>?_) (fun s hs=>?_)
 ·obtain ⟨r,hr⟩:=hx
  have hd:d.length<f:=by
   have:=congrArg List.length hr
   rw [zcn_,List.length_append,List.length_cons] at this
   lia
  subst hs
  have a0:0≤k / 10 ^ d.length % 10:=Int.emod_nonneg _ (by decide)
  have a1:k / 10 ^ d.length % 10<10:=Int.emod_lt_of_pos _ (by decide)
  have ea:=zph_ (k / 10 ^ d.length % 10).toNat (by lia)
  rw [Int.toNat_of_nonneg a0] at ea
  refine ⟨_,by
   simp only
   rw [ea,Mo.lim_ok (by decide)]
   walk_at "mo"
   rw [Mo.lim_ok (by simp [zb9_]; lia)]
   walk_at "mo"
   rfl,?_⟩
  rw [List.length_append,List.length_singleton,zfp_,ziJ_ k hd,Int.pow_succ,← Int.ediv_ediv_of_nonneg (Int.le_of_lt (zbJ_ _))]
  rfl
 ·subst hs
  rw [zcn_]
  show fnO _=_
  walk_at "mo"
  rfl
theorem zkE_ (p q:List Nat) (ys:List (List Nat)):ys.foldl (fun a x=>a++[32]++x) (p++q)=p++ys.foldl (fun a x=>a++[32]++x) q:=by
 induction ys generalizing q with
 | nil=>rfl
 | cons y ys ih=>rw [List.foldl_cons,List.foldl_cons,← ih,List.append_assoc,List.append_assoc,List.append_assoc]
theorem znC_ (p:List Nat) (xs:List (List Nat)):joinL [32] (p::xs)=xs.foldl (fun a x=>a++[32]++x) p:=by
 induction xs generalizing p with
 | nil=>rfl
 | cons x xs ih =>
  show p++[32]++joinL [32] (x::xs)=_
  rw [ih,List.foldl_cons,List.append_assoc,List.append_assoc,zkE_,zkE_]
theorem zl3_ (p:List Nat) (xs:List (List Nat)):xs.foldl (fun a x=>a++[32]++x) p=p++(xs.map (32::·)).flatten:=by
 induction xs generalizing p with
 | nil=>simp
 | cons x xs ih=>rw [List.foldl_cons,ih]; simp
theorem ziE_ {w:Nat}:∀ (k:Nat) {bs:List (List Nat)},(∀ b∈bs,b.length=w)→bs.flatten.drop (w*k)=(bs.drop k).flatten
 | 0,bs,_=>by simp
 | k+1,[],_=>by simp
 | k+1,b::bs,h=>by
  have hb:=h b List.mem_cons_self
  rw [List.flatten_cons,List.drop_append,List.drop_eq_nil_of_le (by rw [hb,Nat.mul_succ]; lia),List.nil_append,hb,Nat.mul_succ,Nat.add_sub_cancel,ziE_ k fun x hx=>h x (List.mem_cons_of_mem _ hx)]
  rfl
theorem zll_ {A:List Nat}{w k:Nat}{bs:List (List Nat)}(h:∀ b∈bs,b.length=w) (hk:k<bs.length):cutG (A++bs.flatten) (some ((A.length+w*k:Nat):Int)) (some ((A.length+w*(k+1):Nat):Int))=bs[k]:=by
 have hfl:bs.flatten.length=w*bs.length:=by
  clear hk
  induction bs with
  | nil=>simp
  | cons b bs ih=>rw [List.flatten_cons,List.length_append,h b List.mem_cons_self,ih fun x hx=>h x (List.mem_cons_of_mem _ hx),List.length_cons,Nat.mul_succ]; lia
 have hle:w*(k+1)≤w*bs.length:=Nat.mul_le_mul_left _ hk
 have hle0:w*(k+1)=w*k+w:=Nat.mul_succ _ _
 unfold cutG
 rw [zg7_ (by lia),zg7_ (by lia),List.length_append,hfl,Int.toNat_natCast,Int.toNat_natCast,Nat.min_eq_left (by lia),Nat.min_eq_left (by lia),List.drop_append,List.drop_eq_nil_of_le (by lia),List.nil_append,show A.length+w*k-A.length=w*k by lia,ziE_ k h,List.drop_eq_getElem_cons hk,List.flatten_cons,show A.length+w*(k+1)-(A.length+w*k)=w by lia,List.take_append,List.take_of_length_le (by rw [h _ (List.getElem_mem hk)]; exact Nat.le_refl _),h _ (List.getElem_mem hk),Nat.sub_self,List.take_zero,List.append_nil]
theorem zn7_ {A:List Nat}{F n:Nat}{k0 T:Nat→Int}{ah:List Bool}(hA:A.length≤100) (hn:n≤10) (hF:F≤12) (hl:ah.length=n) (h0:∀ p,0≤T p) (h:∀ p,p<n→ah[p]?=some false→k0 p=T p∧T p<10 ^ F) :
  zbI_ (A++((tlw F n k0).map (32::·)).flatten) ((List.range n).map T) ah F=.ok true:=by
 have hb:∀ b∈(tlw F n k0).map (32::·),b.length=F+1:=fun b hb=>by
  unfold tlw at hb
  simp at hb
  obtain ⟨p,_,rfl⟩:=hb
  simp [zb9_]
 have hbl:((tlw F n k0).map (32::·)).length=n:=by rw [List.length_map,zj3_]
 have hfl:∀ {bs:List (List Nat)},(∀ b∈bs,b.length=F+1)→bs.flatten.length=(F+1)*bs.length:=by
  intro bs
  induction bs with
  | nil=>simp
  | cons b bs ih=>intro h; rw [List.flatten_cons,List.length_append,h b List.mem_cons_self,ih fun x hx=>h x (List.mem_cons_of_mem _ hx),List.length_cons,Nat.mul_succ]; lia
 have hll:=hfl hb
 rw [hbl] at hll
 have hsm:(F+1)*n≤13*10:=Nat.mul_le_mul (by lia) hn
 unfold zbI_ zbL_
 walk_at "mo"
 rw [Mo.grd_ok (by simp; lia)]
 walk_at "mo"
 rw [zh7_ (fun x hx=>?_)]
 ·rfl
 ·obtain ⟨x0,x1⟩:=zm7_.mp hx
  obtain ⟨p,rfl⟩:∃ p:Nat,x=p:=⟨x.toNat,by lia⟩
  have hp:p<n:=by simp at x1; lia
  rw [Mo.lim_ok (by rw [List.length_append,hll]; lia)]
  walk_at "mo"
  have e1:((F:Int)+1)*((((List.range n).map T).length:Int)-1-p)=(((F+1)*(n-1-p):Nat):Int):=by
   rw [List.length_map,List.length_range,Int.natCast_mul]
   congr 1
   lia
  have hmul:(F+1)*n=(F+1)*(p+1)+(F+1)*(n-1-p):=by rw [← Nat.mul_add]; congr 1; lia
  rw [Mo.grd_ok (zdf_ (.inl ⟨by lia,by lia⟩))]
  walk_at "mo"
  rw [e1]
  have e2:atI ((List.range n).map T) (p:Int)=some (T p):=by rw [zhx_ (by lia),Int.toNat_natCast,List.getElem?_map,List.getElem?_range hp]; rfl
  rw [e2]
  walk_at "mo"
  rw [zjt_ hF (h0 p)]
  walk_at "mo"
  rw [Mo.lim_ok (by simp [zb9_]; lia)]
  walk_at "mo"
  have e3:atI ah (p:Int)=some ah[p]:=by rw [zhx_ (by lia),Int.toNat_natCast,List.getElem?_eq_getElem (by lia)]
  rw [e3]
  walk_at "mo"
  cases hv:ah[p] with
  | true=>walk_at "mo"
  | false =>
   walk_at "mo"
   obtain ⟨g1,g2⟩:=h p hp (by rw [List.getElem?_eq_getElem (by lia),hv])
   rw [Mo.lim_ok (by rw [List.length_append,hll]; lia)]
   walk_at "mo"
   have e4:(((A++((tlw F n k0).map (32::·)).flatten).length:Int)-(((F+1)*(n-1-p):Nat):Int))=((A.length+(F+1)*(p+1):Nat):Int):=by
    rw [List.length_append,hll,hmul]; lia
   have hms:(F+1)*(p+1)=(F+1)*p+(F+1):=Nat.mul_succ _ _
   rw [e4,show (((A.length+(F+1)*(p+1):Nat):Int)-F-1)=((A.length+(F+1)*p:Nat):Int) by rw [hms]; lia,zll_ hb (by rw [hbl]; exact hp)]
   have e5:((tlw F n k0).map (32::·))[p]'(by rw [hbl]; exact hp)=[32]++digs F (T p % 10 ^ F).toNat:=by
    unfold tlw
    simp
    rw [g1,Int.emod_eq_of_lt (h0 p) g2]
   rw [e5]
   simp
theorem znw_ {ro:List (Int×Bool)}{p:Nat}:inR ro p=true↔(p:Int)∈ro.map (·.1):=by
 unfold inR getA
 constructor
 ·intro h
  cases g:ro.find? (fun q=>decide (q.1=(p:Int))) with
  | none=>rw [g] at h; cases h
  | some q =>
   have h1:=List.find?_some g
   simp at h1
   exact List.mem_map.mpr ⟨q,List.mem_of_find?_eq_some g,h1⟩
 ·intro h
  obtain ⟨q,a,b⟩:=List.mem_map.mp h
  cases g:ro.find? (fun q=>decide (q.1=(p:Int))) with
  | some q=>rfl
  | none=>exact absurd b (by simpa using List.find?_eq_none.mp g q a)
theorem znc_ {m n F:Nat}{T B:Nat→Int}{kf:Nat→Nat→Int}{of:Nat→Nat→Bool}{ro:List (Int×Bool)}(J:JI m n F T B kf of ro) {x:Int}(h:x∈srtL ltI (ro.map (·.1))):∃ p:Nat,p<n∧x=p∧inR ro p=true:=by
 have h1:=(zeX_ ltI (ro.map (·.1))).mem_iff.mp h
 obtain ⟨q,a,b⟩:=List.mem_map.mp h1
 obtain ⟨p,c,e⟩:=J.ks q a
 refine ⟨p,c,by rw [← b,e],znw_.mpr ?_⟩
 rw [← e]; exact List.mem_map.mpr ⟨q,a,rfl⟩
theorem znK_ (ns:List Int) (hl:ns.length≤63):zpC_ ns=.ok true:=by
 obtain ⟨c0,e0⟩:=ziH_ ns 0 (by lia)
 obtain ⟨c1,e1⟩:=ziH_ ns 1 (by lia)
 obtain ⟨c2,e2⟩:=ziH_ ns 2 (by lia)
 obtain ⟨c3,e3⟩:=ziH_ ns 3 (by lia)
 obtain ⟨ks,ek,hks⟩:=znq_ c0
 have m0:0≤c1 % 4:=Int.emod_nonneg _ (by decide)
 have m1:c1 % 4<4:=Int.emod_lt_of_pos _ (by decide)
 have n0:0≤c2 % 4:=Int.emod_nonneg _ (by decide)
 have n1:c2 % 4<4:=Int.emod_lt_of_pos _ (by decide)
 obtain ⟨xs,ex,hxs⟩:=zeY_ c1 (many:=c1 % 4) m0 (by lia)
 obtain ⟨ys,ey,hys⟩:=zeY_ c2 (many:=1+c2 % 4) (by lia) (by lia)
 obtain ⟨most,em,hm1,hm2⟩:∃ most,atI [(3:Int),12] (c2 / 4 % 2)=some most∧1≤most∧most≤12:=by
  have q0:0≤c2 / 4 % 2:=Int.emod_nonneg _ (by decide)
  have q1:c2 / 4 % 2<2:=Int.emod_lt_of_pos _ (by decide)
  obtain ⟨v,ev,hm⟩:=zdk_ (xs:=[(3:Int),12]) q0 (by simpa using q1)
  refine ⟨v,ev,?_⟩
  simp only [List.mem_cons,List.not_mem_nil,or_false] at hm
  rcases hm with rfl | rfl<;>decide
 have flds:∀ {most:Int}(h1:1≤most) (h2:most≤12) (zs:List Int),zs.length≤100→∃ S:List (Int×Int),compM (fun x=>cond1 (Mo.ok true) (zbe_ x most).noex) zs []=.ok S∧(∀ f∈S,isF f∧f.2-f.1≤11)∧S.length=zs.length:=by
  intro most h1 h2 zs hz
  refine ⟨zs.map fun x=>match zbe_ x most with | .ok v=>v | _=>(0,0),?_,fun f hf=>?_,by simp⟩
  ·rw [za8_ (f:=fun x=>cond1 (Mo.ok true) (zbe_ x most).noex) (g:=fun x=>match zbe_ x most with | .ok v=>v | _=>(0,0)) (fun x hx=>by
    obtain ⟨f,e,_⟩:=zj6_ x h1 h2
    rw [e]; rfl) (by simp; lia)]
   rfl
  ·obtain ⟨x,_,rfl⟩:=List.mem_map.mp hf
   obtain ⟨f,e,h⟩:=zj6_ x h1 h2
   rw [e]; exact h
 obtain ⟨K,eK,hK,hKl⟩:=flds (most:=2) (by decide) (by decide) xs (by lia)
 obtain ⟨S,eS,hS,hSl⟩:=flds hm1 hm2 ys (by lia)
 have hK3:K.length≤3:=by lia
 have hS4:S.length≤4:=by lia
 have hS1:1≤S.length:=by lia
 have eF:atI S 0=some S[0]:=by rw [zhx_ (by decide)]; exact List.getElem?_eq_getElem (by lia)
 obtain ⟨hf0,hf1⟩:=hS S[0] (List.getElem_mem _)
 have hns:(cutG ns (some 4) (some 64)).length≤63:=Nat.le_trans (zd0_ _ _ _) hl
 have h12:repL [57] 12=List.replicate 12 57:=by decide
 unfold zpC_ zpy_
 walk_at "mo"
 rw [e0,e1,e2,e3]
 walk_at "mo"
 rw [ek,em,ex,ey]
 walk_at "mo"
 rw [eK,eS]
 walk_at "mo"
 rw [eF]
 walk_at "mo"
 refine zb6_ (G:=fun m=>fnO (thenO m _)=.ok true) (fun dn (s:List (List Nat))=>s.length=dn.length∧∀ c∈s,c.length=40∧(c3 / 3 % 2=0→num c S[0]=(10:Int) ^ wd S[0]-1)) ?_ ?_ ?_
 ·exact ⟨rfl,by simp⟩
 ·rintro dn x s ⟨r,hr⟩ ⟨w1,w2⟩
  have hdn:dn.length≤63:=by
   have:=congrArg List.length hr
   rw [zdG_,List.length_append] at this; lia
  obtain ⟨c,ec,hc⟩:=zoA_ x.2 x.1 hks
  have fin:∀ c':List Nat,c'.length=40→(c3 / 3 % 2=0→num c' S[0]=(10:Int) ^ wd S[0]-1)→∃ s',(Mo.lim (s.length+1) (Mo.ok (Out.nx (s++[c']))):Mo (Out Bool (List (List Nat)) (List (List Nat))))=.ok (.nx s')∧s'.length=(dn++[x]).length∧∀ c∈s',c.length=40∧(c3 / 3 % 2=0→num c S[0]=(10:Int) ^ wd S[0]-1):=fun c' h1 h2=>by
   rw [Mo.lim_ok (by lia)]
   refine ⟨_,rfl,by simp; exact w1,fun q hq=>?_⟩
   rcases List.mem_append.mp hq with h | h
   ·exact w2 q h
   ·rw [List.mem_singleton.mp h]; exact ⟨h1,h2⟩
  rw [ec]
  walk_at "mo"
  by_cases h9:c3 / 3 % 2=0
  ·obtain ⟨g1,g2⟩:=zop_ hc hf0 hf1
   have hca:=zd0_ c none (some (S[0].fst-1))
   have hcb:=zd0_ c (some S[0].snd) none
   have hcc:=zd0_ (cutG c none (some (S[0].fst-1))++repL [57] 12) none (some S[0].snd)
   have h12l:(repL [57] 12).length=12:=by rw [h12]; rfl
   rw [List.length_append] at hcc
   rw [decide_eq_true h9]
   walk_at "mo"
   rw [Mo.lim_ok (by lia),Mo.lim_ok (by lia),Mo.grd_ok (show CRep [57].length 12 by unfold CRep; decide)]
   walk_at "mo"
   rw [Mo.lim_ok (by lia)]
   walk_at "mo"
   rw [Mo.lim_ok (by rw [List.length_append]; lia)]
   walk_at "mo"
   rw [Mo.lim_ok (by lia)]
   walk_at "mo"
   exact fin (nine c S[0]) g1 fun _=>g2
  ·rw [decide_eq_false h9]
   walk_at "mo"
   exact fin c hc fun z=>absurd z h9
 ·rintro d ⟨w1,w2⟩
  rw [zdG_] at w1
  have hN:d.length≤63:=by lia
  obtain ⟨F,eF,hF1,hF2⟩:=zjN_ c3 hf0 hf1 (m:=d.length) (by lia)
  walk_at "mo"
  rw [eF]
  walk_at "mo"
  rw [zng_ (fun f hf=>(hS f hf).1) (by lia) hF2 (by lia)]
  walk_at "mo"
  rw [zo7_ hF2 (by lia) (by lia)]
  walk_at "mo"
  rw [Mo.grd_ok (show CRep [(0:Int)].length (S.length:Int) by unfold CRep; simp; lia),show repL [(0:Int)] (S.length:Int)=(List.range S.length).map fun _=>(0:Int) by unfold repL; simp [List.map_const']]
  walk_at "mo"
  have hbd:∀ (c:List Nat) (p:Nat),0≤(S.map (num c)).getD p 0:=fun c p=>by
   rw [List.getD_eq_getElem?_getD,List.getElem?_map]
   by_cases hp:p<S.length
   ·rw [List.getElem?_eq_getElem hp]; exact (znA_ c (hS _ (List.getElem_mem hp)).1).1
   ·rw [List.getElem?_eq_none (by lia)]; exact Int.le_refl _
  have hgt:∀ (c:List Nat) (p:Nat) (hp:p<S.length),(S.map (num c)).getD p 0=num c S[p]:=fun c p hp=>by
   rw [List.getD_eq_getElem?_getD,List.getElem?_map,List.getElem?_eq_getElem hp]; rfl
  refine zb6_ (G:=fun m=>fnO (thenO m _)=.ok true) (fun dn (s:Ctr×List Int)=>∃ kf of bf ro T,s.1=mkC K S F kf of bf ro∧s.2=(List.range S.length).map T∧JI K.length S.length F T T kf of ro∧(∀ b,bf=some b→b.length=40)∧(bf=none→∀ p,kf 0 p=T p)∧(∀ p,0≤T p)∧(∀ p (hp:p<S.length),T p≤dn.length*((10:Int) ^ wd S[p]-1))∧(c3 / 3 % 2=0→T 0=dn.length*((10:Int) ^ wd S[0]-1))) ?_ ?_ ?_
  ·refine ⟨_,_,_,_,fun _=>0,rfl,rfl,⟨fun l p=>⟨Int.le_refl _,zbJ_ F⟩,fun p hp=>.inr ⟨fun _ _=>rfl,?_⟩,fun p hp h=>(by cases h),fun q hq=>(by cases hq),by simp⟩,fun b h=>(by cases h),fun _ _=>rfl,fun _=>Int.le_refl _,fun p hp=>by simp,fun _=>by simp⟩
   exact (by
    have:∀ m,smL (fun _=>(0:Int)) m=0:=fun m=>by
     induction m with
     | zero=>rfl
     | succ m ih=>show smL _ m+0=0; rw [ih]; rfl
    exact this _)
  ·rintro dn c ⟨ct,tot⟩ ⟨r,hr⟩ ⟨kf,of,bf,ro,T,g1,g2,J,g3,g4,g5,g6,g7⟩
   simp only at g1 g2 ⊢
   subst g1 g2
   obtain ⟨hc,hc9⟩:=w2 c (by rw [hr]; simp)
   obtain ⟨lines,kf',of',ro',e,J'⟩:=zoy_ hF1 hF2 (by lia) (by lia) hc (fun f hf=>(znA_ c (hS f hf).1).1) g3 J
   rw [e]
   walk_at "mo"
   rw [za8_ (f:=fun x_150:Int×(Int×Int)=>cond1 (Mo.ok true) ((zcf_ c x_150.snd).noex.bind fun b_155=>Mo.ok (x_150.fst+b_155))) (g:=fun x=>x.1+num c x.2) (fun x hx=>by rw [zkG_ c x.2 (by lia)]; rfl) (by simp; lia)]
   walk_at "mo"
   refine ⟨_,rfl,kf',of',some c,ro',_,rfl,?_,J',fun b h=>(by cases h; exact hc),fun h=>(by cases h),fun p=>by have:=g5 p; have:=hbd c p; lia,fun p hp=>?_,fun h=>?_⟩
   ·rw [List.nil_append]
    apply List.ext_getElem?
    intro i
    by_cases hi:i<S.length
    ·have ez:(((List.range S.length).map T).zip S)[i]?=some (T i,S[i]):=List.getElem?_zip_eq_some.mpr ⟨by rw [List.getElem?_map,List.getElem?_range hi]; rfl,List.getElem?_eq_getElem hi⟩
     rw [List.getElem?_map,ez,List.getElem?_map,List.getElem?_range hi]
     show some (T i+num c S[i])=some (T i+_)
     rw [hgt c i hi]
    ·rw [List.getElem?_eq_none (by simp; lia),List.getElem?_eq_none (by simp; lia)]
   ·show T p+_≤_
    rw [hgt c p hp]
    have a:=g6 p hp
    have b:=(znA_ c (hS _ (List.getElem_mem hp)).1).2
    rw [List.length_append,List.length_singleton,Int.natCast_add,Int.add_mul]
    lia
   ·show T 0+_=_
    rw [hgt c 0 (by lia),g7 h,hc9 h,List.length_append,List.length_singleton,Int.natCast_add,Int.add_mul]
    lia
  ·rintro ⟨ct,tot⟩ ⟨kf,of,bf,ro,T,g1,g2,J,g3,g4,g5,g6,g7⟩
   simp only at g1 g2 ⊢
   subst g1 g2
   have hat:∀ p (hp:p<S.length),atI (S.map fun f=>decide ((10:Int) ^ F≤d.length*(10 ^ wd f-1))) (p:Int)=some (decide ((10:Int) ^ F≤d.length*((10:Int) ^ wd S[p]-1))):=fun p hp=>by
    rw [zhx_ (by lia),Int.toNat_natCast,List.getElem?_map,List.getElem?_eq_getElem hp]; rfl
   have hun:∀ {T' kf of ro},JI K.length S.length F T' T kf of ro→zbH_ (srtL ltI (ro.map (·.1))) (S.map fun f=>decide ((10:Int) ^ F≤d.length*(10 ^ wd f-1)))=.ok true:=fun J=>zlj_ fun x hx=>by
    obtain ⟨p,hp,rfl,hi⟩:=znc_ J hx
    rw [hat p hp,decide_eq_true (Int.le_trans (J.bd p hp hi) (g6 p hp))]
   have hrl:=J.len
   walk_at "mo"
   rw [zky_ (by lia)]
   walk_at "mo"
   rw [hun J]
   walk_at "mo"
   obtain ⟨lines,kf',of',ro',e,T',k0,J',hlast,hk0⟩:=zlM_ hF1 hF2 (by lia) (by lia) g3 (fun h p _=>g4 h p) J
   have hrl':=J'.len
   rw [e]
   walk_at "mo"
   rw [zky_ (by lia)]
   walk_at "mo"
   rw [hun J',hlast]
   walk_at "mo"
   have eline:lineOf K S F 0 [] k0=repL [42] (1+(K.length:Int)-(0:Nat))++((tlw F S.length k0).map (32::·)).flatten:=by
    unfold lineOf
    rw [List.append_nil]
    show joinL [32] (repL [42] (1+(K.length:Int)-(0:Nat))::tlw F S.length k0)=_
    rw [znC_,zl3_]
   rw [eline,zn7_ (by unfold repL; simp; lia) (by lia) hF2 (by simp) g5 (fun p hp h=>?_)]
   ·walk_at "mo"
    by_cases h9:c3 / 3 % 2=0
    ·rw [decide_eq_true h9]
     walk_at "mo"
     have h0:=hat 0 (by lia)
     rw [show ((0:Nat):Int)=0 from rfl] at h0
     rw [h0]
     walk_at "mo"
     have hany:(srtL ltI (ro'.map (·.1))).any (fun y=>decide (y=0))=inR ro' 0:=by
      cases hi:inR ro' 0 with
      | true =>
       rw [List.any_eq_true]
       exact ⟨0,(zeX_ ltI (ro'.map (·.1))).mem_iff.mpr (znw_.mp hi),by simp⟩
      | false =>
       rw [List.any_eq_false]
       intro y hy z
       simp at z
       subst z
       have:=znw_.mpr (show ((0:Nat):Int)∈_ from (zeX_ ltI (ro'.map (·.1))).mem_iff.mp hy)
       rw [hi] at this; cases this
     rw [hany,← g7 h9]
     cases hi:inR ro' 0 with
     | true=>rw [decide_eq_true (J'.bd 0 (by lia) hi)]; rfl
     | false =>
      obtain ⟨a,b⟩:=hk0 0 (by lia)
      have hlt:¬ (10:Int) ^ F≤T 0:=by rw [← b hi]; lia
      rw [show decide ((10:Int) ^ F≤T 0)=false from decide_eq_false hlt]; rfl
    ·rw [decide_eq_false h9]
     walk_at "mo"
   ·rw [List.getElem?_map,List.getElem?_eq_getElem hp] at h
    have h':decide ((10:Int) ^ F≤d.length*((10:Int) ^ wd S[p]-1))=false:=Option.some.inj h
    have h2:=of_decide_eq_false h'
    have h3:=g6 p hp
    have hi:inR ro' p=false:=by
     cases hi:inR ro' p with
     | false=>rfl
     | true=>exact absurd (Int.le_trans (J'.bd p hp hi) h3) h2
    exact ⟨(hk0 p hp).2 hi,by lia⟩
end K36
namespace K36
open PySem PySem.Spec PyProof.Rows L2
theorem zqN_ {K:Fgg}:RD_law K:=zlg_ (fun ns hl hb=>znK_ ns hl)
theorem all_mk {l:PySem.W.OpenLaw}{w:World}{K:Fgg}{h:Heap}{mg:Str→Option Value}{fa:Addr}(X:K.In h) (G:h.Ns mainGlobals mg) (hfa:mg "law" = some (.ref fa))
  {f0:Addr}{od0 an0:Option Addr}{sl0:Array (Option Value)}{oc0 kV0 dc0 pm0 cd0 ct0:Value}
  {f1:Addr}{od1 an1:Option Addr}{sl1:Array (Option Value)}{oc1 kV1 dc1 pm1 cd1 ct1:Value}
  {f2:Addr}{od2 an2:Option Addr}{sl2:Array (Option Value)}{oc2 kV2 dc2 pm2 cd2 ct2:Value}
  {f3:Addr}{od3 an3:Option Addr}{sl3:Array (Option Value)}{oc3 kV3 dc3 pm3 cd3 ct3:Value}
  {f4:Addr}{od4 an4:Option Addr}{sl4:Array (Option Value)}{oc4 kV4 dc4 pm4 cd4 ct4:Value}
  {f5:Addr}{od5 an5:Option Addr}{sl5:Array (Option Value)}{oc5 kV5 dc5 pm5 cd5 ct5:Value}
  {f6:Addr}{od6 an6:Option Addr}{sl6:Array (Option Value)}{oc6 kV6 dc6 pm6 cd6 ct6:Value}
  {f7:Addr}{od7 an7:Option Addr}{sl7:Array (Option Value)}{oc7 kV7 dc7 pm7 cd7 ct7:Value}
  {f8:Addr}{od8 an8:Option Addr}{sl8:Array (Option Value)}{oc8 kV8 dc8 pm8 cd8 ct8:Value}
  {f9:Addr}{od9 an9:Option Addr}{sl9:Array (Option Value)}{oc9 kV9 dc9 pm9 cd9 ct9:Value}
  {f10:Addr}{od10 an10:Option Addr}{sl10:Array (Option Value)}{oc10 kV10 dc10 pm10 cd10 ct10:Value}
  {f11:Addr}{od11 an11:Option Addr}{sl11:Array (Option Value)}{oc11 kV11 dc11 pm11 cd11 ct11:Value}
  {f12:Addr}{od12 an12:Option Addr}{sl12:Array (Option Value)}{oc12 kV12 dc12 pm12 cd12 ct12:Value}
  {f13:Addr}{od13 an13:Option Addr}{sl13:Array (Option Value)}{oc13 kV13 dc13 pm13 cd13 ct13:Value}
  {f14:Addr}{od14 an14:Option Addr}{sl14:Array (Option Value)}{oc14 kV14 dc14 pm14 cd14 ct14:Value}
  {f15:Addr}{od15 an15:Option Addr}{sl15:Array (Option Value)}{oc15 kV15 dc15 pm15 cd15 ct15:Value}
  {f16:Addr}{od16 an16:Option Addr}{sl16:Array (Option Value)}{oc16 kV16 dc16 pm16 cd16 ct16:Value}
  {f17:Addr}{od17 an17:Option Addr}{sl17:Array (Option Value)}{oc17 kV17 dc17 pm17 cd17 ct17:Value}
  {f18:Addr}{od18 an18:Option Addr}{sl18:Array (Option Value)}{oc18 kV18 dc18 pm18 cd18 ct18:Value}
  {f19:Addr}{od19 an19:Option Addr}{sl19:Array (Option Value)}{oc19 kV19 dc19 pm19 cd19 ct19:Value}
  {f20:Addr}{od20 an20:Option Addr}{sl20:Array (Option Value)}{oc20 kV20 dc20 pm20 cd20 ct20:Value}
  {f21:Addr}{od21 an21:Option Addr}{sl21:Array (Option Value)}{oc21 kV21 dc21 pm21 cd21 ct21:Value}
  {f22:Addr}{od22 an22:Option Addr}{sl22:Array (Option Value)}{oc22 kV22 dc22 pm22 cd22 ct22:Value}
  {f23:Addr}{od23 an23:Option Addr}{sl23:Array (Option Value)}{oc23 kV23 dc23 pm23 cd23 ct23:Value}
  {f24:Addr}{od24 an24:Option Addr}{sl24:Array (Option Value)}{oc24 kV24 dc24 pm24 cd24 ct24:Value}
  {f25:Addr}{od25 an25:Option Addr}{sl25:Array (Option Value)}{oc25 kV25 dc25 pm25 cd25 ct25:Value}
  {f26:Addr}{od26 an26:Option Addr}{sl26:Array (Option Value)}{oc26 kV26 dc26 pm26 cd26 ct26:Value}
  {f27:Addr}{od27 an27:Option Addr}{sl27:Array (Option Value)}{oc27 kV27 dc27 pm27 cd27 ct27:Value}
  {f28:Addr}{od28 an28:Option Addr}{sl28:Array (Option Value)}{oc28 kV28 dc28 pm28 cd28 ct28:Value}
  {f29:Addr}{od29 an29:Option Addr}{sl29:Array (Option Value)}{oc29 kV29 dc29 pm29 cd29 ct29:Value}
  {f30:Addr}{od30 an30:Option Addr}{sl30:Array (Option Value)}{oc30 kV30 dc30 pm30 cd30 ct30:Value}
  {f31:Addr}{od31 an31:Option Addr}{sl31:Array (Option Value)}{oc31 kV31 dc31 pm31 cd31 ct31:Value}
  {f32:Addr}{od32 an32:Option Addr}{sl32:Array (Option Value)}{oc32 kV32 dc32 pm32 cd32 ct32:Value}
  {f33:Addr}{od33 an33:Option Addr}{sl33:Array (Option Value)}{oc33 kV33 dc33 pm33 cd33 ct33:Value}
  {f34:Addr}{od34 an34:Option Addr}{sl34:Array (Option Value)}{oc34 kV34 dc34 pm34 cd34 ct34:Value}
  {cw0:Addr}(w0:PySem.W.nsIn K mainGlobals "Wheel" = some (some (.ref cw0))) (pg0:PySem.W.plainGet K cw0 Str.empty=true) (hd0:PySem.W.hasDictIn K cw0=true) (po0:PySem.W.plainOver K cw0=true) (sa0:PySem.W.findIn K (.ref cw0) "__setattr__" = some (some (.builtin "object.__setattr__"))) (mk0:PySem.W.makesIn K cw0=true) (kc0:PySem.W.keepIn K (.ref cw0)=true)
  {cw1:Addr}(w1:PySem.W.nsIn K mainGlobals "Counter" = some (some (.ref cw1))) (pg1:PySem.W.plainGet K cw1 Str.empty=true) (hd1:PySem.W.hasDictIn K cw1=true) (po1:PySem.W.plainOver K cw1=true) (sa1:PySem.W.findIn K (.ref cw1) "__setattr__" = some (some (.builtin "object.__setattr__"))) (mk1:PySem.W.makesIn K cw1=true) (kc1:PySem.W.keepIn K (.ref cw1)=true)
  (na0:PySem.W.findIn K (.ref cw0) "figures" = some none)
  (na1:PySem.W.findIn K (.ref cw0) "power" = some none)
  (na2:PySem.W.findIn K (.ref cw0) "kept" = some none)
  (na3:PySem.W.findIn K (.ref cw0) "over" = some none)
  (na4:PySem.W.findIn K (.ref cw1) "breaks" = some none)
  (na5:PySem.W.findIn K (.ref cw1) "sums" = some none)
  (na6:PySem.W.findIn K (.ref cw1) "board" = some none)
  (na7:PySem.W.findIn K (.ref cw1) "levels" = some none)
  (na8:PySem.W.findIn K (.ref cw1) "before" = some none)
  (na9:PySem.W.findIn K (.ref cw1) "run_over" = some none)
  (a0:PySem.W.nsIn K mainGlobals "ten_to" = some (some (.ref f0))) (l0:K.lookup f0=some ⟨oc0,od0,.func (PySem.W.fnOf "ten_to" "ten_to" (defArgs zcT_) (defBody zcT_) (defScope zcT_) .none kV0 dc0 pm0 an0 cd0 ct0),sl0⟩) (c0:PySem.W.codeIn K cd0 "ten_to" = true) (k0:PySem.W.keepIn K (.ref f0)=true)
  (a1:PySem.W.findIn K (.ref cw0) "__init__" = some (some (.ref f1))) (i1:PySem.W.isFn K (.ref f1)=true) (l1:K.lookup f1=some ⟨oc1,od1,.func (PySem.W.fnOf "__init__" "Wheel.__init__" (defArgs zR_) (defBody zR_) (defScope zR_) .none kV1 dc1 pm1 an1 cd1 ct1),sl1⟩) (c1:PySem.W.codeIn K cd1 "Wheel.__init__" = true) (k1:PySem.W.keepIn K (.ref f1)=true)
  (a2:PySem.W.findIn K (.ref cw1) "__init__" = some (some (.ref f2))) (i2:PySem.W.isFn K (.ref f2)=true) (l2:K.lookup f2=some ⟨oc2,od2,.func (PySem.W.fnOf "__init__" "Counter.__init__" (defArgs zI_) (defBody zI_) (defScope zI_) .none kV2 dc2 pm2 an2 cd2 ct2),sl2⟩) (c2:PySem.W.codeIn K cd2 "Counter.__init__" = true) (k2:PySem.W.keepIn K (.ref f2)=true)
  (a3:PySem.W.findIn K (.ref cw0) "shown" = some (some (.ref f3))) (i3:PySem.W.isFn K (.ref f3)=true) (l3:K.lookup f3=some ⟨oc3,od3,.func (PySem.W.fnOf "shown" "Wheel.shown" (defArgs zau_) (defBody zau_) (defScope zau_) .none kV3 dc3 pm3 an3 cd3 ct3),sl3⟩) (c3:PySem.W.codeIn K cd3 "Wheel.shown" = true) (k3:PySem.W.keepIn K (.ref f3)=true)
  (a4:PySem.W.nsIn K mainGlobals "part_of" = some (some (.ref f4))) (l4:K.lookup f4=some ⟨oc4,od4,.func (PySem.W.fnOf "part_of" "part_of" (defArgs zb1_) (defBody zb1_) (defScope zb1_) .none kV4 dc4 pm4 an4 cd4 ct4),sl4⟩) (c4:PySem.W.codeIn K cd4 "part_of" = true) (k4:PySem.W.keepIn K (.ref f4)=true)
  (a5:PySem.W.findIn K (.ref cw1) "total_line" = some (some (.ref f5))) (i5:PySem.W.isFn K (.ref f5)=true) (l5:K.lookup f5=some ⟨oc5,od5,.func (PySem.W.fnOf "total_line" "Counter.total_line" (defArgs zz_) (defBody zz_) (defScope zz_) .none kV5 dc5 pm5 an5 cd5 ct5),sl5⟩) (c5:PySem.W.codeIn K cd5 "Counter.total_line" = true) (k5:PySem.W.keepIn K (.ref f5)=true)
  (a6:PySem.W.findIn K (.ref cw0) "rise" = some (some (.ref f6))) (i6:PySem.W.isFn K (.ref f6)=true) (l6:K.lookup f6=some ⟨oc6,od6,.func (PySem.W.fnOf "rise" "Wheel.rise" (defArgs zaT_) (defBody zaT_) (defScope zaT_) .none kV6 dc6 pm6 an6 cd6 ct6),sl6⟩) (c6:PySem.W.codeIn K cd6 "Wheel.rise" = true) (k6:PySem.W.keepIn K (.ref f6)=true)
  (a7:PySem.W.findIn K (.ref cw0) "ran_over" = some (some (.ref f7))) (i7:PySem.W.isFn K (.ref f7)=true) (l7:K.lookup f7=some ⟨oc7,od7,.func (PySem.W.fnOf "ran_over" "Wheel.ran_over" (defArgs zQ_) (defBody zQ_) (defScope zQ_) .none kV7 dc7 pm7 an7 cd7 ct7),sl7⟩) (c7:PySem.W.codeIn K cd7 "Wheel.ran_over" = true) (k7:PySem.W.keepIn K (.ref f7)=true)
  (a8:PySem.W.findIn K (.ref cw1) "raise_level" = some (some (.ref f8))) (i8:PySem.W.isFn K (.ref f8)=true) (l8:K.lookup f8=some ⟨oc8,od8,.func (PySem.W.fnOf "raise_level" "Counter.raise_level" (defArgs zx_) (defBody zx_) (defScope zx_) .none kV8 dc8 pm8 an8 cd8 ct8),sl8⟩) (c8:PySem.W.codeIn K cd8 "Counter.raise_level" = true) (k8:PySem.W.keepIn K (.ref f8)=true)
  (a9:PySem.W.findIn K (.ref cw0) "reset" = some (some (.ref f9))) (i9:PySem.W.isFn K (.ref f9)=true) (l9:K.lookup f9=some ⟨oc9,od9,.func (PySem.W.fnOf "reset" "Wheel.reset" (defArgs zay_) (defBody zay_) (defScope zay_) .none kV9 dc9 pm9 an9 cd9 ct9),sl9⟩) (c9:PySem.W.codeIn K cd9 "Wheel.reset" = true) (k9:PySem.W.keepIn K (.ref f9)=true)
  (a10:PySem.W.findIn K (.ref cw0) "amount" = some (some (.ref f10))) (i10:PySem.W.isFn K (.ref f10)=true) (l10:K.lookup f10=some ⟨oc10,od10,.func (PySem.W.fnOf "amount" "Wheel.amount" (defArgs zai_) (defBody zai_) (defScope zai_) .none kV10 dc10 pm10 an10 cd10 ct10),sl10⟩) (c10:PySem.W.codeIn K cd10 "Wheel.amount" = true) (k10:PySem.W.keepIn K (.ref f10)=true)
  (a11:PySem.W.findIn K (.ref cw1) "close_level" = some (some (.ref f11))) (i11:PySem.W.isFn K (.ref f11)=true) (l11:K.lookup f11=some ⟨oc11,od11,.func (PySem.W.fnOf "close_level" "Counter.close_level" (defArgs zy_) (defBody zy_) (defScope zy_) .none kV11 dc11 pm11 an11 cd11 ct11),sl11⟩) (c11:PySem.W.codeIn K cd11 "Counter.close_level" = true) (k11:PySem.W.keepIn K (.ref f11)=true)
  (a12:PySem.W.findIn K (.ref cw1) "close_levels" = some (some (.ref f12))) (i12:PySem.W.isFn K (.ref f12)=true) (l12:K.lookup f12=some ⟨oc12,od12,.func (PySem.W.fnOf "close_levels" "Counter.close_levels" (defArgs zu_) (defBody zu_) (defScope zu_) .none kV12 dc12 pm12 an12 cd12 ct12),sl12⟩) (c12:PySem.W.codeIn K cd12 "Counter.close_levels" = true) (k12:PySem.W.keepIn K (.ref f12)=true)
  (a13:PySem.W.findIn K (.ref cw1) "finish" = some (some (.ref f13))) (i13:PySem.W.isFn K (.ref f13)=true) (l13:K.lookup f13=some ⟨oc13,od13,.func (PySem.W.fnOf "finish" "Counter.finish" (defArgs zT_) (defBody zT_) (defScope zT_) .none kV13 dc13 pm13 an13 cd13 ct13),sl13⟩) (c13:PySem.W.codeIn K cd13 "Counter.finish" = true) (k13:PySem.W.keepIn K (.ref f13)=true)
  (a14:PySem.W.findIn K (.ref cw1) "overs" = some (some (.ref f14))) (i14:PySem.W.isFn K (.ref f14)=true) (l14:K.lookup f14=some ⟨oc14,od14,.func (PySem.W.fnOf "overs" "Counter.overs" (defArgs z4_) (defBody z4_) (defScope z4_) .none kV14 dc14 pm14 an14 cd14 ct14),sl14⟩) (c14:PySem.W.codeIn K cd14 "Counter.overs" = true) (k14:PySem.W.keepIn K (.ref f14)=true)
  (a15:PySem.W.nsIn K mainGlobals "_law_stream" = some (some (.ref f15))) (l15:K.lookup f15=some ⟨oc15,od15,.func (PySem.W.fnOf "_law_stream" "_law_stream" (defArgs zaQ_) (defBody zaQ_) (defScope zaQ_) .none kV15 dc15 pm15 an15 cd15 ct15),sl15⟩) (c15:PySem.W.codeIn K cd15 "_law_stream" = true) (k15:PySem.W.keepIn K (.ref f15)=true)
  (a16:PySem.W.nsIn K mainGlobals "_law_kinds" = some (some (.ref f16))) (l16:K.lookup f16=some ⟨oc16,od16,.func (PySem.W.fnOf "_law_kinds" "_law_kinds" (defArgs zbi_) (defBody zbi_) (defScope zbi_) .none kV16 dc16 pm16 an16 cd16 ct16),sl16⟩) (c16:PySem.W.codeIn K cd16 "_law_kinds" = true) (k16:PySem.W.keepIn K (.ref f16)=true)
  (a17:PySem.W.nsIn K mainGlobals "_law_cell_at" = some (some (.ref f17))) (l17:K.lookup f17=some ⟨oc17,od17,.func (PySem.W.fnOf "_law_cell_at" "_law_cell_at" (defArgs zaz_) (defBody zaz_) (defScope zaz_) .none kV17 dc17 pm17 an17 cd17 ct17),sl17⟩) (c17:PySem.W.codeIn K cd17 "_law_cell_at" = true) (k17:PySem.W.keepIn K (.ref f17)=true)
  (a18:PySem.W.nsIn K mainGlobals "_law_figures" = some (some (.ref f18))) (l18:K.lookup f18=some ⟨oc18,od18,.func (PySem.W.fnOf "_law_figures" "_law_figures" (defArgs zav_) (defBody zav_) (defScope zav_) .none kV18 dc18 pm18 an18 cd18 ct18),sl18⟩) (c18:PySem.W.codeIn K cd18 "_law_figures" = true) (k18:PySem.W.keepIn K (.ref f18)=true)
  (a19:PySem.W.nsIn K mainGlobals "width_of" = some (some (.ref f19))) (l19:K.lookup f19=some ⟨oc19,od19,.func (PySem.W.fnOf "width_of" "width_of" (defArgs zbv_) (defBody zbv_) (defScope zbv_) .none kV19 dc19 pm19 an19 cd19 ct19),sl19⟩) (c19:PySem.W.codeIn K cd19 "width_of" = true) (k19:PySem.W.keepIn K (.ref f19)=true)
  (a20:PySem.W.nsIn K mainGlobals "may_run_over" = some (some (.ref f20))) (l20:K.lookup f20=some ⟨oc20,od20,.func (PySem.W.fnOf "may_run_over" "may_run_over" (defArgs zaf_) (defBody zaf_) (defScope zaf_) .none kV20 dc20 pm20 an20 cd20 ct20),sl20⟩) (c20:PySem.W.codeIn K cd20 "may_run_over" = true) (k20:PySem.W.keepIn K (.ref f20)=true)
  (a21:PySem.W.nsIn K mainGlobals "mark_of" = some (some (.ref f21))) (l21:K.lookup f21=some ⟨oc21,od21,.func (PySem.W.fnOf "mark_of" "mark_of" (defArgs zb3_) (defBody zb3_) (defScope zb3_) .none kV21 dc21 pm21 an21 cd21 ct21),sl21⟩) (c21:PySem.W.codeIn K cd21 "mark_of" = true) (k21:PySem.W.keepIn K (.ref f21)=true)
  (a22:PySem.W.nsIn K mainGlobals "sign_at" = some (some (.ref f22))) (l22:K.lookup f22=some ⟨oc22,od22,.func (PySem.W.fnOf "sign_at" "sign_at" (defArgs zb4_) (defBody zb4_) (defScope zb4_) .none kV22 dc22 pm22 an22 cd22 ct22),sl22⟩) (c22:PySem.W.codeIn K cd22 "sign_at" = true) (k22:PySem.W.keepIn K (.ref f22)=true)
  (a23:PySem.W.nsIn K mainGlobals "lay_out" = some (some (.ref f23))) (l23:K.lookup f23=some ⟨oc23,od23,.func (PySem.W.fnOf "lay_out" "lay_out" (defArgs zb8_) (defBody zb8_) (defScope zb8_) .none kV23 dc23 pm23 an23 cd23 ct23),sl23⟩) (c23:PySem.W.codeIn K cd23 "lay_out" = true) (k23:PySem.W.keepIn K (.ref f23)=true)
  (a24:PySem.W.findIn K (.ref cw1) "changed_level" = some (some (.ref f24))) (i24:PySem.W.isFn K (.ref f24)=true) (l24:K.lookup f24=some ⟨oc24,od24,.func (PySem.W.fnOf "changed_level" "Counter.changed_level" (defArgs zr_) (defBody zr_) (defScope zr_) .none kV24 dc24 pm24 an24 cd24 ct24),sl24⟩) (c24:PySem.W.codeIn K cd24 "Counter.changed_level" = true) (k24:PySem.W.keepIn K (.ref f24)=true)
  (a25:PySem.W.nsIn K mainGlobals "number_by" = some (some (.ref f25))) (l25:K.lookup f25=some ⟨oc25,od25,.func (PySem.W.fnOf "number_by" "number_by" (defArgs zbb_) (defBody zbb_) (defScope zbb_) .none kV25 dc25 pm25 an25 cd25 ct25),sl25⟩) (c25:PySem.W.codeIn K cd25 "number_by" = true) (k25:PySem.W.keepIn K (.ref f25)=true)
  (a26:PySem.W.nsIn K mainGlobals "number_of" = some (some (.ref f26))) (l26:K.lookup f26=some ⟨oc26,od26,.func (PySem.W.fnOf "number_of" "number_of" (defArgs zba_) (defBody zba_) (defScope zba_) .none kV26 dc26 pm26 an26 cd26 ct26),sl26⟩) (c26:PySem.W.codeIn K cd26 "number_of" = true) (k26:PySem.W.keepIn K (.ref f26)=true)
  (a27:PySem.W.findIn K (.ref cw1) "feed" = some (some (.ref f27))) (i27:PySem.W.isFn K (.ref f27)=true) (l27:K.lookup f27=some ⟨oc27,od27,.func (PySem.W.fnOf "feed" "Counter.feed" (defArgs zah_) (defBody zah_) (defScope zah_) .none kV27 dc27 pm27 an27 cd27 ct27),sl27⟩) (c27:PySem.W.codeIn K cd27 "Counter.feed" = true) (k27:PySem.W.keepIn K (.ref f27)=true)
  (a28:PySem.W.nsIn K mainGlobals "_law_field" = some (some (.ref f28))) (l28:K.lookup f28=some ⟨oc28,od28,.func (PySem.W.fnOf "_law_field" "_law_field" (defArgs zbg_) (defBody zbg_) (defScope zbg_) .none kV28 dc28 pm28 an28 cd28 ct28),sl28⟩) (c28:PySem.W.codeIn K cd28 "_law_field" = true) (k28:PySem.W.keepIn K (.ref f28)=true)
  (a29:PySem.W.nsIn K mainGlobals "_law_card" = some (some (.ref f29))) (l29:K.lookup f29=some ⟨oc29,od29,.func (PySem.W.fnOf "_law_card" "_law_card" (defArgs zbB_) (defBody zbB_) (defScope zbB_) .none kV29 dc29 pm29 an29 cd29 ct29),sl29⟩) (c29:PySem.W.codeIn K cd29 "_law_card" = true) (k29:PySem.W.keepIn K (.ref f29)=true)
  (a30:PySem.W.nsIn K mainGlobals "_law_untold" = some (some (.ref f30))) (l30:K.lookup f30=some ⟨oc30,od30,.func (PySem.W.fnOf "_law_untold" "_law_untold" (defArgs zaJ_) (defBody zaJ_) (defScope zaJ_) .none kV30 dc30 pm30 an30 cd30 ct30),sl30⟩) (c30:PySem.W.codeIn K cd30 "_law_untold" = true) (k30:PySem.W.keepIn K (.ref f30)=true)
  (a31:PySem.W.nsIn K mainGlobals "_law_shown" = some (some (.ref f31))) (l31:K.lookup f31=some ⟨oc31,od31,.func (PySem.W.fnOf "_law_shown" "_law_shown" (defArgs zbf_) (defBody zbf_) (defScope zbf_) .none kV31 dc31 pm31 an31 cd31 ct31),sl31⟩) (c31:PySem.W.codeIn K cd31 "_law_shown" = true) (k31:PySem.W.keepIn K (.ref f31)=true)
  (a32:PySem.W.nsIn K mainGlobals "_law_last_line" = some (some (.ref f32))) (l32:K.lookup f32=some ⟨oc32,od32,.func (PySem.W.fnOf "_law_last_line" "_law_last_line" (defArgs z1_) (defBody z1_) (defScope z1_) .none kV32 dc32 pm32 an32 cd32 ct32),sl32⟩) (c32:PySem.W.codeIn K cd32 "_law_last_line" = true) (k32:PySem.W.keepIn K (.ref f32)=true)
  (a33:PySem.W.nsIn K mainGlobals "_law_number" = some (some (.ref f33))) (l33:K.lookup f33=some ⟨oc33,od33,.func (PySem.W.fnOf "_law_number" "_law_number" (defArgs zaN_) (defBody zaN_) (defScope zaN_) .none kV33 dc33 pm33 an33 cd33 ct33),sl33⟩) (c33:PySem.W.codeIn K cd33 "_law_number" = true) (k33:PySem.W.keepIn K (.ref f33)=true)
  (a34:PySem.W.nsIn K mainGlobals "law" = some (some (.ref f34))) (l34:K.lookup f34=some ⟨oc34,od34,.func (PySem.W.fnOf "law" "law" (defArgs zjm_) (defBody zjm_) (defScope zjm_) .none kV34 dc34 pm34 an34 cd34 ct34),sl34⟩) (c34:PySem.W.codeIn K cd34 "law" = true) (k34:PySem.W.keepIn K (.ref f34)=true)
  {uc0:Value}(x0:PySem.W.nsIn K mainGlobals "BODY_WIDTH" = some (some uc0)) (y0:RelV (.int 36) uc0)
  {uc1:Value}(x1:PySem.W.nsIn K mainGlobals "FIGURES" = some (some uc1)) (y1:RelV (tx [48,49,50,51,52,53,54,55,56,57]) uc1)
  (z0:PySem.W.nsIn K mainGlobals "range" = some none)
  (z1:PySem.W.nsIn K mainGlobals "list" = some none)
  (z2:PySem.W.nsIn K mainGlobals "len" = some none)
  (z3:PySem.W.nsIn K mainGlobals "str" = some none)
  (z4:PySem.W.nsIn K mainGlobals "enumerate" = some none)
  (z5:PySem.W.nsIn K mainGlobals "sorted" = some none)
  (z6:PySem.W.nsIn K mainGlobals "min" = some none)
  (z7:PySem.W.nsIn K mainGlobals "max" = some none)
  (z8:PySem.W.nsIn K mainGlobals "zip" = some none) :
  ∃ fd:FuncData,(∀ (s:Shared) (v:Value),BindsTo s fd ⟨[v],[]⟩ [("_law_script",v)])∧∀ base:Heap,K.In base→base.Ns mainGlobals mg→FnOk l.prog w K mg base CX0 6 fa fd ["_law_script"] (zhg_ K):=by
 have e:=hfa.symm.trans (PySem.W.mg_of X G a34)
 cases e
 have F0:=za1_ (st:=zcT_) l0 c0 k0
 have b0:=Fun.binds1 (ps:=["power"]) rfl F0 fun _ _ _ _ _ _ _=>rfl
 have F1:=za1_ (st:=zR_) l1 c1 k1
 have b1:=Fun.binds2 (ps:=Qn26) rfl F1 fun _ _ _ _ _ _ _ _=>rfl
 have F2:=za1_ (st:=zI_) l2 c2 k2
 have b2:=Fun.binds5 (ps:=Qn4) rfl F2 fun _ _ _ _ _ _ _ _ _ _ _=>rfl
 have F3:=za1_ (st:=zau_) l3 c3 k3
 have b3:=Fun.binds1 (ps:=Qn3) rfl F3 fun _ _ _ _ _ _ _=>rfl
 have F4:=za1_ (st:=zb1_) l4 c4 k4
 have b4:=Fun.binds2 (ps:=Qn9) rfl F4 fun _ _ _ _ _ _ _ _=>rfl
 have F5:=za1_ (st:=zz_) l5 c5 k5
 have b5:=Fun.binds2 (ps:=Qn20) rfl F5 fun _ _ _ _ _ _ _ _=>rfl
 have F6:=za1_ (st:=zaT_) l6 c6 k6
 have b6:=Fun.binds2 (ps:=["self", "value"]) rfl F6 fun _ _ _ _ _ _ _ _=>rfl
 have F7:=za1_ (st:=zQ_) l7 c7 k7
 have b7:=Fun.binds1 (ps:=Qn3) rfl F7 fun _ _ _ _ _ _ _=>rfl
 have F8:=za1_ (st:=zx_) l8 c8 k8
 have b8:=Fun.binds3 (ps:=Qn23) rfl F8 fun _ _ _ _ _ _ _ _ _=>rfl
 have F9:=za1_ (st:=zay_) l9 c9 k9
 have b9:=Fun.binds1 (ps:=Qn3) rfl F9 fun _ _ _ _ _ _ _=>rfl
 have F10:=za1_ (st:=zai_) l10 c10 k10
 have b10:=Fun.binds1 (ps:=Qn3) rfl F10 fun _ _ _ _ _ _ _=>rfl
 have F11:=za1_ (st:=zy_) l11 c11 k11
 have b11:=Fun.binds2 (ps:=Qn20) rfl F11 fun _ _ _ _ _ _ _ _=>rfl
 have F12:=za1_ (st:=zu_) l12 c12 k12
 have b12:=Fun.binds2 (ps:=Qn31) rfl F12 fun _ _ _ _ _ _ _ _=>rfl
 have F13:=za1_ (st:=zT_) l13 c13 k13
 have b13:=Fun.binds1 (ps:=Qn3) rfl F13 fun _ _ _ _ _ _ _=>rfl
 have F14:=za1_ (st:=z4_) l14 c14 k14
 have b14:=Fun.binds1 (ps:=Qn3) rfl F14 fun _ _ _ _ _ _ _=>rfl
 have F15:=za1_ (st:=zaQ_) l15 c15 k15
 have b15:=Fun.binds2 (ps:=Qn17) rfl F15 fun _ _ _ _ _ _ _ _=>rfl
 have F16:=za1_ (st:=zbi_) l16 c16 k16
 have b16:=Fun.binds1 (ps:=["_law_cell"]) rfl F16 fun _ _ _ _ _ _ _=>rfl
 have F17:=za1_ (st:=zaz_) l17 c17 k17
 have b17:=Fun.binds2 (ps:=Qn15) rfl F17 fun _ _ _ _ _ _ _ _=>rfl
 have F18:=za1_ (st:=zav_) l18 c18 k18
 have b18:=Fun.binds3 (ps:=Qn16) rfl F18 fun _ _ _ _ _ _ _ _ _=>rfl
 have F19:=za1_ (st:=zbv_) l19 c19 k19
 have b19:=Fun.binds1 (ps:=["field"]) rfl F19 fun _ _ _ _ _ _ _=>rfl
 have F20:=za1_ (st:=zaf_) l20 c20 k20
 have b20:=Fun.binds3 (ps:=Qn13) rfl F20 fun _ _ _ _ _ _ _ _ _=>rfl
 have F21:=za1_ (st:=zb3_) l21 c21 k21
 have b21:=Fun.binds1 (ps:=["card"]) rfl F21 fun _ _ _ _ _ _ _=>rfl
 have F22:=za1_ (st:=zb4_) l22 c22 k22
 have b22:=Fun.binds2 (ps:=Qn28) rfl F22 fun _ _ _ _ _ _ _ _=>rfl
 have F23:=za1_ (st:=zb8_) l23 c23 k23
 have b23:=Fun.binds2 (ps:=["card", "board"]) rfl F23 fun _ _ _ _ _ _ _ _=>rfl
 have F24:=za1_ (st:=zr_) l24 c24 k24
 have b24:=Fun.binds2 (ps:=Qn30) rfl F24 fun _ _ _ _ _ _ _ _=>rfl
 have F25:=za1_ (st:=zbb_) l25 c25 k25
 have b25:=Fun.binds1 (ps:=["figures"]) rfl F25 fun _ _ _ _ _ _ _=>rfl
 have F26:=za1_ (st:=zba_) l26 c26 k26
 have b26:=Fun.binds2 (ps:=Qn9) rfl F26 fun _ _ _ _ _ _ _ _=>rfl
 have F27:=za1_ (st:=zah_) l27 c27 k27
 have b27:=Fun.binds2 (ps:=Qn30) rfl F27 fun _ _ _ _ _ _ _ _=>rfl
 have F28:=za1_ (st:=zbg_) l28 c28 k28
 have b28:=Fun.binds2 (ps:=Qn22) rfl F28 fun _ _ _ _ _ _ _ _=>rfl
 have F29:=za1_ (st:=zbB_) l29 c29 k29
 have b29:=Fun.binds3 (ps:=Qn18) rfl F29 fun _ _ _ _ _ _ _ _ _=>rfl
 have F30:=za1_ (st:=zaJ_) l30 c30 k30
 have b30:=Fun.binds2 (ps:=Qn32) rfl F30 fun _ _ _ _ _ _ _ _=>rfl
 have F31:=za1_ (st:=zbf_) l31 c31 k31
 have b31:=Fun.binds2 (ps:=Qn19) rfl F31 fun _ _ _ _ _ _ _ _=>rfl
 have F32:=za1_ (st:=z1_) l32 c32 k32
 have b32:=Fun.binds4 (ps:=Qn8) rfl F32 fun _ _ _ _ _ _ _ _ _ _=>rfl
 have F33:=za1_ (st:=zaN_) l33 c33 k33
 have b33:=Fun.binds2 (ps:=Qn24) rfl F33 fun _ _ _ _ _ _ _ _=>rfl
 have F34:=za1_ (st:=zjm_) l34 c34 k34
 refine ⟨PySem.W.fnOf "law" "law" (defArgs zjm_) (defBody zjm_) (defScope zjm_) .none kV34 dc34 pm34 an34 cd34 ct34,fun s v=>.of_eq rfl,fun base _ _=>?_⟩
 have C_BODY_WIDTH:Gc mg "BODY_WIDTH" (.int 36):=⟨_,PySem.W.mg_of X G x0,y0⟩
 have C_FIGURES:Gc mg "FIGURES" (tx [48,49,50,51,52,53,54,55,56,57]):=⟨_,PySem.W.mg_of X G x1,y1⟩
 have B_range:Gb mg "range" := PySem.W.mg_none_of X G z0
 have B_list:Gb mg "list" := PySem.W.mg_none_of X G z1
 have B_len:Gb mg "len" := PySem.W.mg_none_of X G z2
 have B_str:Gb mg "str" := PySem.W.mg_none_of X G z3
 have B_enumerate:Gb mg "enumerate" := PySem.W.mg_none_of X G z4
 have B_sorted:Gb mg "sorted" := PySem.W.mg_none_of X G z5
 have B_min:Gb mg "min" := PySem.W.mg_none_of X G z6
 have B_max:Gb mg "max" := PySem.W.mg_none_of X G z7
 have B_zip:Gb mg "zip" := PySem.W.mg_none_of X G z8
 have CL_Wheel:Cls K (gA K "Wheel"):=by rw [zd4_ w0]; exact ⟨pg0,hd0,po0,sa0⟩
 have CL_Counter:Cls K (gA K "Counter"):=by rw [zd4_ w1]; exact ⟨pg1,hd1,po1,sa1⟩
 have NA_Wheel_figures:NoAttr K (gA K "Wheel") "figures" := by rw [zd4_ w0]; exact na0
 have NA_Wheel_power:NoAttr K (gA K "Wheel") "power" := by rw [zd4_ w0]; exact na1
 have NA_Wheel_kept:NoAttr K (gA K "Wheel") "kept" := by rw [zd4_ w0]; exact na2
 have NA_Wheel_over:NoAttr K (gA K "Wheel") "over" := by rw [zd4_ w0]; exact na3
 have NA_Counter_breaks:NoAttr K (gA K "Counter") "breaks" := by rw [zd4_ w1]; exact na4
 have NA_Counter_sums:NoAttr K (gA K "Counter") "sums" := by rw [zd4_ w1]; exact na5
 have NA_Counter_board:NoAttr K (gA K "Counter") "board" := by rw [zd4_ w1]; exact na6
 have NA_Counter_levels:NoAttr K (gA K "Counter") "levels" := by rw [zd4_ w1]; exact na7
 have NA_Counter_before:NoAttr K (gA K "Counter") "before" := by rw [zd4_ w1]; exact na8
 have NA_Counter_run_over:NoAttr K (gA K "Counter") "run_over" := by rw [zd4_ w1]; exact na9
 have G_ten_to:Gd l.prog w K mg base CX0 1 "ten_to" ["power"] (zbd_ K):=⟨_,_,zli_ B_range F0 zkT_ zlT_,PySem.W.mg_of X G a0,k0,b0⟩
 have G_Wheel___init__:Gk l.prog w K mg base CX0 2 "Wheel" (gA K "Wheel") Qn26 (zO_ K):=⟨_,_,zeV_ G_ten_to CL_Wheel NA_Wheel_figures NA_Wheel_power NA_Wheel_kept NA_Wheel_over F1 zey_ zeG_,(by rw [zd4_ w0]; exact ⟨mk0,a1,i1,kc0⟩),(by rw [zd4_ w0]; exact PySem.W.mg_of X G w0),b1⟩
 have G_Counter___init__:Gk l.prog w K mg base CX0 4 "Counter" (gA K "Counter") Qn4 (zD_ K):=⟨_,_,zel_ G_Wheel___init__ B_list B_range B_len CL_Counter NA_Counter_breaks NA_Counter_sums NA_Counter_board NA_Counter_levels NA_Counter_before NA_Counter_run_over F2 zdX_ zea_,(by rw [zd4_ w1]; exact ⟨mk1,a2,i2,kc1⟩),(by rw [zd4_ w1]; exact PySem.W.mg_of X G w1),b2⟩
 have G_Wheel_shown:Gm l.prog w K mg base CX0 1 (gA K "Wheel") "shown" Qn3 (zak_ K):=⟨_,_,zgm_ B_str CL_Wheel NA_Wheel_kept NA_Wheel_figures F3 zf2_ zgu_,CL_Wheel,(by rw [zd4_ w0]; exact ⟨a3,i3,k3⟩),b3⟩
 have G_part_of:Gd l.prog w K mg base CX0 1 "part_of" Qn9 (zac_ K):=⟨_,_,zjI_  F4 ziY_ zjR_,PySem.W.mg_of X G a4,k4,b4⟩
 have G_Counter_total_line:Gm l.prog w K mg base CX0 2 (gA K "Counter") "total_line" Qn20 (zw_ K):=⟨_,_,zdQ_ G_part_of G_Wheel_shown B_len CL_Counter NA_Counter_breaks NA_Counter_before NA_Counter_levels F5 zdd_ zdP_,CL_Counter,(by rw [zd4_ w1]; exact ⟨a5,i5,k5⟩),b5⟩
 have G_Wheel_rise:Gm l.prog w K mg base CX0 1 (gA K "Wheel") "rise" ["self", "value"] (zaw_ K):=⟨_,_,zhp_ CL_Wheel NA_Wheel_kept NA_Wheel_power NA_Wheel_over F6 zgG_ zhn_,CL_Wheel,(by rw [zd4_ w0]; exact ⟨a6,i6,k6⟩),b6⟩
 have G_Wheel_ran_over:Gm l.prog w K mg base CX0 1 (gA K "Wheel") "ran_over" Qn3 (zP_ K):=⟨_,_,zeU_ CL_Wheel NA_Wheel_over F7 zeq_ zeS_,CL_Wheel,(by rw [zd4_ w0]; exact ⟨a7,i7,k7⟩),b7⟩
 have G_Counter_raise_level:Gm l.prog w K mg base CX0 2 (gA K "Counter") "raise_level" Qn23 (zk_ K):=⟨_,_,zdm_ G_Wheel_rise G_Wheel_ran_over B_enumerate CL_Counter NA_Counter_levels NA_Counter_run_over F8 zc8_ zdp_,CL_Counter,(by rw [zd4_ w1]; exact ⟨a8,i8,k8⟩),b8⟩
 have G_Wheel_reset:Gm l.prog w K mg base CX0 1 (gA K "Wheel") "reset" Qn3 (zag_ K):=⟨_,_,zgn_ CL_Wheel NA_Wheel_kept NA_Wheel_over F9 zfT_ zgv_,CL_Wheel,(by rw [zd4_ w0]; exact ⟨a9,i9,k9⟩),b9⟩
 have G_Wheel_amount:Gm l.prog w K mg base CX0 1 (gA K "Wheel") "amount" Qn3 (z5_ K):=⟨_,_,zfP_ CL_Wheel NA_Wheel_kept F10 zfu_ zfW_,CL_Wheel,(by rw [zd4_ w0]; exact ⟨a10,i10,k10⟩),b10⟩
 have G_Counter_close_level:Gm l.prog w K mg base CX0 3 (gA K "Counter") "close_level" Qn20 (zj_ K):=⟨_,_,zdC_ G_Counter_total_line G_Counter_raise_level G_Wheel_amount G_Wheel_reset CL_Counter NA_Counter_levels F11 zc7_ zdD_,CL_Counter,(by rw [zd4_ w1]; exact ⟨a11,i11,k11⟩),b11⟩
 have G_Counter_close_levels:Gm l.prog w K mg base CX0 4 (gA K "Counter") "close_levels" Qn31 (zh_ K):=⟨_,_,zc9_ G_Counter_close_level B_range B_len CL_Counter NA_Counter_breaks F12 zcU_ zc6_,CL_Counter,(by rw [zd4_ w1]; exact ⟨a12,i12,k12⟩),b12⟩
 have G_Counter_finish:Gm l.prog w K mg base CX0 5 (gA K "Counter") "finish" Qn3 (zN_ K):=⟨_,_,zeL_ G_Counter_close_level G_Counter_close_levels CL_Counter NA_Counter_before F13 zes_ zeH_,CL_Counter,(by rw [zd4_ w1]; exact ⟨a13,i13,k13⟩),b13⟩
 have G_Counter_overs:Gm l.prog w K mg base CX0 1 (gA K "Counter") "overs" Qn3 (zL_ K):=⟨_,_,zfn_ B_sorted CL_Counter NA_Counter_run_over F14 zeM_ zfF_,CL_Counter,(by rw [zd4_ w1]; exact ⟨a14,i14,k14⟩),b14⟩
 have G_law_stream:Gd l.prog w K mg base CX0 1 "_law_stream" Qn17 (zA_ K):=⟨_,_,zgJ_ B_range F15 zgs_ zhm_,PySem.W.mg_of X G a15,k15,b15⟩
 have G_law_kinds:Gd l.prog w K mg base CX0 2 "_law_kinds" ["_law_cell"] (zaK_ K):=⟨_,_,zhW_ G_law_stream F16 zhh_ zhJ_,PySem.W.mg_of X G a16,k16,b16⟩
 have G_law_cell_at:Gd l.prog w K mg base CX0 1 "_law_cell_at" Qn15 (zC_ K):=⟨_,_,zgi_ B_len F17 zfN_ zgH_,PySem.W.mg_of X G a17,k17,b17⟩
 have G_law_figures:Gd l.prog w K mg base CX0 1 "_law_figures" Qn16 (zaj_ K):=⟨_,_,zgq_ B_range B_min B_max F18 zfL_ zgd_,PySem.W.mg_of X G a18,k18,b18⟩
 have G_width_of:Gd l.prog w K mg base CX0 1 "width_of" ["field"] (zbh_ K):=⟨_,_,zi6_  F19 zie_ zi8_,PySem.W.mg_of X G a19,k19,b19⟩
 have G_may_run_over:Gd l.prog w K mg base CX0 2 "may_run_over" Qn13 (z3_ K):=⟨_,_,zfQ_ G_ten_to G_width_of F20 zfl_ zfV_,PySem.W.mg_of X G a20,k20,b20⟩
 have G_mark_of:Gd l.prog w K mg base CX0 1 "mark_of" ["card"] (zbD_ K):=⟨_,_,zkM_ C_BODY_WIDTH F21 zjb_ zkF_,PySem.W.mg_of X G a21,k21,b21⟩
 have G_sign_at:Gd l.prog w K mg base CX0 1 "sign_at" Qn28 (zbC_ K):=⟨_,_,zj9_  F22 ziU_ zjJ_,PySem.W.mg_of X G a22,k22,b22⟩
 have G_lay_out:Gd l.prog w K mg base CX0 2 "lay_out" ["card", "board"] (zbA_ K):=⟨_,_,zjv_ G_sign_at C_BODY_WIDTH B_range F23 zjl_ zkl_,PySem.W.mg_of X G a23,k23,b23⟩
 have G_Counter_changed_level:Gm l.prog w K mg base CX0 2 (gA K "Counter") "changed_level" Qn30 (zp_ K):=⟨_,_,zcY_ G_part_of B_enumerate B_len CL_Counter NA_Counter_breaks NA_Counter_before F24 zcL_ zc0_,CL_Counter,(by rw [zd4_ w1]; exact ⟨a24,i24,k24⟩),b24⟩
 have G_number_by:Gd l.prog w K mg base CX0 1 "number_by" ["figures"] (zaO_ K):=⟨_,_,zhu_ C_FIGURES F25 zha_ zhU_,PySem.W.mg_of X G a25,k25,b25⟩
 have G_number_of:Gd l.prog w K mg base CX0 2 "number_of" Qn9 (zaR_ K):=⟨_,_,zh9_ G_part_of G_number_by C_FIGURES F26 zgP_ zhv_,PySem.W.mg_of X G a26,k26,b26⟩
 have G_Counter_feed:Gm l.prog w K mg base CX0 5 (gA K "Counter") "feed" Qn30 (z0_ K):=⟨_,_,zfS_ G_Counter_close_levels G_Counter_changed_level G_mark_of G_lay_out G_Counter_raise_level G_number_of B_len CL_Counter NA_Counter_before NA_Counter_board NA_Counter_sums NA_Counter_breaks F27 zfo_ zfJ_,CL_Counter,(by rw [zd4_ w1]; exact ⟨a27,i27,k27⟩),b27⟩
 have G_law_field:Gd l.prog w K mg base CX0 1 "_law_field" Qn22 (zaB_ K):=⟨_,_,zhX_ B_min F28 zgN_ zhB_,PySem.W.mg_of X G a28,k28,b28⟩
 have G_law_card:Gd l.prog w K mg base CX0 2 "_law_card" Qn18 (za7_ K):=⟨_,_,zi7_ G_law_stream B_range F29 zh5_ ziW_,PySem.W.mg_of X G a29,k29,b29⟩
 have G_law_untold:Gd l.prog w K mg base CX0 1 "_law_untold" Qn32 (zam_ K):=⟨_,_,zgV_  F30 zgh_ zhf_,PySem.W.mg_of X G a30,k30,b30⟩
 have G_law_shown:Gd l.prog w K mg base CX0 1 "_law_shown" Qn19 (zaP_ K):=⟨_,_,zhY_ B_range F31 zgQ_ zhA_,PySem.W.mg_of X G a31,k31,b31⟩
 have G_law_last_line:Gd l.prog w K mg base CX0 2 "_law_last_line" Qn8 (zS_ K):=⟨_,_,zfe_ G_law_shown B_range B_len F32 zeR_ zfb_,PySem.W.mg_of X G a32,k32,b32⟩
 have G_law_number:Gd l.prog w K mg base CX0 1 "_law_number" Qn24 (zar_ K):=⟨_,_,zgS_ B_max F33 zgC_ zgL_,PySem.W.mg_of X G a33,k33,b33⟩
 exact zqx_ (P:=l.prog) (w:=w) (base:=base) G_law_kinds G_law_cell_at G_law_stream G_law_field G_law_card G_law_figures G_may_run_over G_Counter___init__ G_Counter_feed G_law_number G_law_untold G_Counter_overs G_Counter_finish G_law_last_line B_enumerate B_len B_zip F34 zox_ zqN_
theorem walk {l:PySem.W.OpenLaw}{q:Program}{loose:List Str}{XP:(Str→Option Value)→Heap→Prop}{YP:World→Heap→Prop}{d:DefRec}{K:Params→Fgg}(hn:l.most=some 63) (hdf:d.params.defaults=[])
  (hY:∀ (w:World) (h:Heap),YP w h→(K w.params).In h)
  (F:∀ (w:World) (mg:Str→Option Value) (fa:Addr) (h:Heap),(K w.params).In h→h.Ns mainGlobals mg→mg d.name=some (.ref fa) →
   ∃ fd:FuncData,(∀ (s:Shared) (u:Value),BindsTo s fd ⟨[u],[]⟩ [("_law_script",u)])∧∀ base:Heap,(K w.params).In base→base.Ns mainGlobals mg→FnOk l.prog w (K w.params) mg base CX0 6 fa fd ["_law_script"] (zhg_ (K w.params))) :
  PySem.W.WalkO q loose XP YP l.row.toRowW d [] (fun f vs=>PySem.call f vs) :=
 L2.zmK_ (n:=63) (k:=6) (x := "_law_script") (CX:=fun _=>CX0) (sp:=fun w=>zhg_ (K w.params)) hn (by decide) hdf ⟨rfl,by decide,by decide⟩ hY F (fun _ _ a ns hl hb _ hS=>⟨a,ns,rfl,hS,hl,hb,fun _=>rfl⟩) fun _ _ _ _ _ z=>z
end K36
open PySem PySem.W PyProof.Rows
set_option maxRecDepth 100000 in
set_option maxHeartbeats 0 in
theorem PySem.Challenge.cw_cardshop_k36_whole_none_over_untold_holds : PySem.Challenge.rw_cardshop_k36_whole_none_over_untold.Holds := by
 w_on; o_law; k_head; (case hw=>w_witness2)
 k_fill
 refine K36.walk (l:=PySem.Challenge.rw_cardshop_k36_whole_none_over_untold) rfl rfl (fun w h Y=>PySem.W.kIn_of Y) ?F
 case F =>
  intro w mg fa h KX G hmg
  refine' K36.all_mk KX G hmg ?w0 ?pg0 ?hd0 ?po0 ?sa0 ?mk0 ?kc0 ?w1 ?pg1 ?hd1 ?po1 ?sa1 ?mk1 ?kc1 ?na0 ?na1 ?na2 ?na3 ?na4 ?na5 ?na6 ?na7 ?na8 ?na9 ?a0 ?l0 ?c0 ?k0 ?a1 ?i1 ?l1 ?c1 ?k1 ?a2 ?i2 ?l2 ?c2 ?k2 ?a3 ?i3 ?l3 ?c3 ?k3 ?a4 ?l4 ?c4 ?k4 ?a5 ?i5 ?l5 ?c5 ?k5 ?a6 ?i6 ?l6 ?c6 ?k6 ?a7 ?i7 ?l7 ?c7 ?k7 ?a8 ?i8 ?l8 ?c8 ?k8 ?a9 ?i9 ?l9 ?c9 ?k9 ?a10 ?i10 ?l10 ?c10 ?k10 ?a11 ?i11 ?l11 ?c11 ?k11 ?a12 ?i12 ?l12 ?c12 ?k12 ?a13 ?i13 ?l13 ?c13 ?k13 ?a14 ?i14 ?l14 ?c14 ?k14 ?a15 ?l15 ?c15 ?k15 ?a16 ?l16 ?c16 ?k16 ?a17 ?l17 ?c17 ?k17 ?a18 ?l18 ?c18 ?k18 ?a19 ?l19 ?c19 ?k19 ?a20 ?l20 ?c20 ?k20 ?a21 ?l21 ?c21 ?k21 ?a22 ?l22 ?c22 ?k22 ?a23 ?l23 ?c23 ?k23 ?a24 ?i24 ?l24 ?c24 ?k24 ?a25 ?l25 ?c25 ?k25 ?a26 ?l26 ?c26 ?k26 ?a27 ?i27 ?l27 ?c27 ?k27 ?a28 ?l28 ?c28 ?k28 ?a29 ?l29 ?c29 ?k29 ?a30 ?l30 ?c30 ?k30 ?a31 ?l31 ?c31 ?k31 ?a32 ?l32 ?c32 ?k32 ?a33 ?l33 ?c33 ?k33 ?a34 ?l34 ?c34 ?k34 ?x0 ?y0 ?x1 ?y1 ?z0 ?z1 ?z2 ?z3 ?z4 ?z5 ?z6 ?z7 ?z8
  (case w0=>k_is)
  (case pg0=>k_is)
  (case hd0=>k_is)
  (case po0=>k_is)
  (case sa0=>k_is)
  (case mk0=>k_is)
  (case kc0=>k_is)
  (case w1=>k_is)
  (case pg1=>k_is)
  (case hd1=>k_is)
  (case po1=>k_is)
  (case sa1=>k_is)
  (case mk1=>k_is)
  (case kc1=>k_is)
  (case na0=>k_is)
  (case na1=>k_is)
  (case na2=>k_is)
  (case na3=>k_is)
  (case na4=>k_is)
  (case na5=>k_is)
  (case na6=>k_is)
  (case na7=>k_is)
  (case na8=>k_is)
  (case na9=>k_is)
  (case a0=>k_is)
  (case l0=>k_is)
  (case c0=>k_is)
  (case k0=>k_is)
  (case a1=>k_is)
  (case i1=>k_is)
  (case l1=>k_is)
  (case c1=>k_is)
  (case k1=>k_is)
  (case a2=>k_is)
  (case i2=>k_is)
  (case l2=>k_is)
  (case c2=>k_is)
  (case k2=>k_is)
  (case a3=>k_is)
  (case i3=>k_is)
  (case l3=>k_is)
  (case c3=>k_is)
  (case k3=>k_is)
  (case a4=>k_is)
  (case l4=>k_is)
  (case c4=>k_is)
  (case k4=>k_is)
  (case a5=>k_is)
  (case i5=>k_is)
  (case l5=>k_is)
  (case c5=>k_is)
  (case k5=>k_is)
  (case a6=>k_is)
  (case i6=>k_is)
  (case l6=>k_is)
  (case c6=>k_is)
  (case k6=>k_is)
  (case a7=>k_is)
  (case i7=>k_is)
  (case l7=>k_is)
  (case c7=>k_is)
  (case k7=>k_is)
  (case a8=>k_is)
  (case i8=>k_is)
  (case l8=>k_is)
  (case c8=>k_is)
  (case k8=>k_is)
  (case a9=>k_is)
  (case i9=>k_is)
  (case l9=>k_is)
  (case c9=>k_is)
  (case k9=>k_is)
  (case a10=>k_is)
  (case i10=>k_is)
  (case l10=>k_is)
  (case c10=>k_is)
  (case k10=>k_is)
  (case a11=>k_is)
  (case i11=>k_is)
  (case l11=>k_is)
  (case c11=>k_is)
  (case k11=>k_is)
  (case a12=>k_is)
  (case i12=>k_is)
  (case l12=>k_is)
  (case c12=>k_is)
  (case k12=>k_is)
  (case a13=>k_is)
  (case i13=>k_is)
  (case l13=>k_is)
  (case c13=>k_is)
  (case k13=>k_is)
  (case a14=>k_is)
  (case i14=>k_is)
  (case l14=>k_is)
  (case c14=>k_is)
  (case k14=>k_is)
  (case a15=>k_is)
  (case l15=>k_is)
  (case c15=>k_is)
  (case k15=>k_is)
  (case a16=>k_is)
  (case l16=>k_is)
  (case c16=>k_is)
  (case k16=>k_is)
  (case a17=>k_is)
  (case l17=>k_is)
  (case c17=>k_is)
  (case k17=>k_is)
  (case a18=>k_is)
  (case l18=>k_is)
  (case c18=>k_is)
  (case k18=>k_is)
  (case a19=>k_is)
  (case l19=>k_is)
  (case c19=>k_is)
  (case k19=>k_is)
  (case a20=>k_is)
  (case l20=>k_is)
  (case c20=>k_is)
  (case k20=>k_is)
  (case a21=>k_is)
  (case l21=>k_is)
  (case c21=>k_is)
  (case k21=>k_is)
  (case a22=>k_is)
  (case l22=>k_is)
  (case c22=>k_is)
  (case k22=>k_is)
  (case a23=>k_is)
  (case l23=>k_is)
  (case c23=>k_is)
  (case k23=>k_is)
  (case a24=>k_is)
  (case i24=>k_is)
  (case l24=>k_is)
  (case c24=>k_is)
  (case k24=>k_is)
  (case a25=>k_is)
  (case l25=>k_is)
  (case c25=>k_is)
  (case k25=>k_is)
  (case a26=>k_is)
  (case l26=>k_is)
  (case c26=>k_is)
  (case k26=>k_is)
  (case a27=>k_is)
  (case i27=>k_is)
  (case l27=>k_is)
  (case c27=>k_is)
  (case k27=>k_is)
  (case a28=>k_is)
  (case l28=>k_is)
  (case c28=>k_is)
  (case k28=>k_is)
  (case a29=>k_is)
  (case l29=>k_is)
  (case c29=>k_is)
  (case k29=>k_is)
  (case a30=>k_is)
  (case l30=>k_is)
  (case c30=>k_is)
  (case k30=>k_is)
  (case a31=>k_is)
  (case l31=>k_is)
  (case c31=>k_is)
  (case k31=>k_is)
  (case a32=>k_is)
  (case l32=>k_is)
  (case c32=>k_is)
  (case k32=>k_is)
  (case a33=>k_is)
  (case l33=>k_is)
  (case c33=>k_is)
  (case k33=>k_is)
  (case a34=>k_is)
  (case l34=>k_is)
  (case c34=>k_is)
  (case k34=>k_is)
  (case x0=>k_is)
  (case y0=>exact ⟨_,rfl⟩)
  (case x1=>k_is)
  (case y1=>exact ⟨_,rfl⟩)
  (case z0=>k_is)
  (case z1=>k_is)
  (case z2=>k_is)
  (case z3=>k_is)
  (case z4=>k_is)
  (case z5=>k_is)
  (case z6=>k_is)
  (case z7=>k_is)
  (case z8=>k_is)
#print axioms PySem.Challenge.cw_cardshop_k36_whole_none_over_untold_holds
