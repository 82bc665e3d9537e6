import PyProof.Rows.All
import Wide.All
import OpenK.AllK
import Wide.FinOn
import Lean
import PyProof.EqAt
import PyProof.EqKinds
import PyProof.TupleCall
import PyProof.StrLawsRepr
import PyProof.NeKinds
import PyProof.Rows.TupIter
import PyProof.InstStoreFacts
import PyProof.ExcInit
import KE.KEqDict
import KE.KDictOf
import KE.KPairComp
import PySem.Challenge.RW_cardshop_k35_wheels_run_over
set_option Elab.async false
set_option compiler.extract_closed false
set_option linter.all false
set_option maxRecDepth 100000
set_option maxHeartbeats 4000000
namespace PySem.W.Fast
def tw7823946928361477776:Unit:=()
def tw11268538272556594315:Unit:=()
def tw10822010217867238134:Unit:=()
def tw15268673997749372230:Unit:=()
def tw16979043497790655725:Unit:=()
def tw6917236196983504906:Unit:=()
def tw11020955590561402432:Unit:=()
def tw15201012224223502125:Unit:=()
def tw3385930000465535213:Unit:=()
def tw4328000575527935144:Unit:=()
def tw16526814588735963086:Unit:=()
def tw16735023943862776829:Unit:=()
def tw17750156088602385375:Unit:=()
def tw3857771737985569698:Unit:=()
def tw17781155598668516342:Unit:=()
def tw17634353324314591883:Unit:=()
def tw7251256341777927553:Unit:=()
def tw7037367575194877285:Unit:=()
end PySem.W.Fast
noncomputable section
namespace L2
open PySem PySem.Spec PyProof.Rows
abbrev Fgg:=PySem.W.Frag
abbrev Pnn:=List (Addr×Obj)
abbrev Key:=Sum Int Str
def keyIs:Key→Value→Bool
 | .inl k,v=>Value.isInt k v
 | .inr x,v=>Value.isStrOf x v
def keyH (w:World):Key→Int
 | .inl k=>hashInt k
 | .inr x=>hashStr w x
theorem zY_:∀ {k:Key}{v:Value},keyIs k v=true→(∃ i t,k=Sum.inl i∧v=Value.int i t)∨(∃ x t,k=Sum.inr x∧v=Value.str x t)
 | .inl i,v,h=>by
  obtain ⟨t,e⟩:=Value.isInt_shape (k:=i) (v:=v) h
  exact .inl ⟨i,t,rfl,e⟩
 | .inr x,v,h=>by
  obtain ⟨t,e⟩:=Value.isStrOf_shape (x:=x) (v:=v) h
  exact .inr ⟨x,t,rfl,e⟩
theorem zkt_ (i:Int) (t:Tok):keyIs (.inl i) (.int i t)=true:=by simp [keyIs,Value.isInt]
theorem zks_ (x:Str) (t:Tok):keyIs (.inr x) (.str x t)=true:=by simp [keyIs,Value.isStrOf]
theorem zpQ_ (a b:Int):decide ((Sum.inl a:Key)=Sum.inl b)=(a == b):=by
 by_cases e:a=b
 ·subst e; simp
 ·have h:¬ (Sum.inl a:Key)=Sum.inl b:=fun q=>e (Sum.inl.inj q)
  rw [decide_eq_false h]
  exact (beq_eq_false_iff_ne.mpr e).symm
theorem zpJ_ (a b:Str):decide ((Sum.inr a:Key)=Sum.inr b)=decide (a=b):=by
 by_cases e:a=b
 ·subst e; simp
 ·have h:¬ (Sum.inr a:Key)=Sum.inr b:=fun q=>e (Sum.inr.inj q)
  rw [decide_eq_false h,decide_eq_false e]
theorem zpO_ (a:Int) (b:Str):decide ((Sum.inl a:Key)=Sum.inr b)=false:=decide_eq_false (fun q=>nomatch q)
theorem zps_ (a:Str) (b:Int):decide ((Sum.inr a:Key)=Sum.inl b)=false:=decide_eq_false (fun q=>nomatch q)
def mixKind (prog:Program) (w:World):PySem.KeyKind prog w Key where
 is:=keyIs
 hash:=keyH w
 inj:=fun v a b ha hb=>by
  rcases zY_ ha with ⟨i,t,rfl,rfl⟩ | ⟨x,t,rfl,rfl⟩
  ·rcases zY_ hb with ⟨j,u,rfl,e⟩ | ⟨y,u,rfl,e⟩
   ·injection e with e1 _; rw [e1]
   ·exact nomatch e
  ·rcases zY_ hb with ⟨j,u,rfl,e⟩ | ⟨y,u,rfl,e⟩
   ·exact nomatch e
   ·injection e with e1 _; rw [e1]
 byValue:=fun k v h=>by
  rcases zY_ h with ⟨i,t,rfl,rfl⟩ | ⟨x,t,rfl,rfl⟩<;>rfl
 pyHash:=fun hv h=>by
  rcases zY_ hv with ⟨i,t,rfl,rfl⟩ | ⟨x,t,rfl,rfl⟩
  ·exact wpAny_pyHash_int h
  ·exact wpAny_pyHash_str h
 eqBool:=fun hu hv h=>by
  rcases zY_ hu with ⟨i,t,rfl,rfl⟩ | ⟨x,t,rfl,rfl⟩
  ·rcases zY_ hv with ⟨j,u,rfl,rfl⟩ | ⟨y,u,rfl,rfl⟩
   ·rw [zpQ_] at h; exact wpAny_eqBool_int h
   ·rw [zpO_] at h; exact SeqAt.EqAt.int_str i t y u _ _ _ _ h
  ·rcases zY_ hv with ⟨j,u,rfl,rfl⟩ | ⟨y,u,rfl,rfl⟩
   ·rw [zps_] at h; exact SeqAt.EqAt.str_int x t j u _ _ _ _ h
   ·rw [zpJ_] at h; exact wpAny_eqBool_str h
 «strs»:=fun k x t v h=>by
  rcases zY_ h with ⟨i,u,rfl,e⟩ | ⟨y,u,rfl,e⟩
  ·exact nomatch e
  ·injection e with e1 _
   subst e1
   cases v<;>rfl
theorem zjn_ (prog:Program) (w:World) (k:Key) (v:Value):(mixKind prog w).is k v=keyIs k v:=rfl
theorem zhH_ (prog:Program) (w:World) (i:Int) (t:Tok):(mixKind prog w).is (.inl i) (.int i t)=true:=zkt_ i t
theorem zh1_ (prog:Program) (w:World) (x:Str) (t:Tok):(mixKind prog w).is (.inr x) (.str x t)=true:=zks_ x t
end L2
namespace L2
open PySem PySem.Spec PyProof.Rows
inductive V where
 | non | bl (b:Bool) | int (i:Int) | str (x:Str) | byt (b:Array UInt8) | flt (b:UInt64) | ref (a:Addr) | ty (n:String)
 deriving DecidableEq
def RelV:V→Value→Prop
 | .non,u=>u=Value.none
 | .bl b,u=>u=Value.bool b
 | .int i,u=>∃ t,u=Value.int i t
 | .str x,u=>∃ t,u=Value.str x t
 | .byt b,u=>∃ t,u=Value.bytes b t
 | .flt b,u=>∃ t,u=Value.float b t
 | .ref a,u=>u=Value.ref a
 | .ty n,u=>u=Value.type n
abbrev Vals:List V→List Value→Prop:=Paired RelV
theorem Vals.length {xs:List V}{us:List Value}(r:Vals xs us):xs.length=us.length:=Paired.length r
theorem Vals.get:∀ {xs:List V}{us:List Value}{i:Nat}{x:V},Vals xs us→xs[i]?=some x→∃ u,us[i]?=some u∧RelV x u
 | _,_,_,_,.nil,e=>by simp at e
 | _,_,0,_,.cons r _,e=>by simp at e; subst e; exact ⟨_,rfl,r⟩
 | _,_,i+1,x,.cons _ t,e=>by
  obtain ⟨u,h1,h2⟩:=Vals.get (i:=i) (x:=x) t (by simpa using e)
  exact ⟨u,by simpa using h1,h2⟩
theorem Vals.set {x:V}{u:Value}(r:RelV x u):∀ {xs:List V}{us:List Value}(i:Nat),Vals xs us→Vals (xs.set i x) (us.set i u)
 | _,_,_,.nil=>.nil
 | _,_,0,.cons _ t=>.cons r t
 | _,_,i+1,.cons q t=>.cons q (Vals.set r i t)
theorem Vals.append:∀ {xs ys:List V}{us ws:List Value},Vals xs us→Vals ys ws→Vals (xs++ys) (us++ws)
 | _,_,_,_,.nil,s=>s
 | _,_,_,_,.cons r t,s=>.cons r (Vals.append t s)
theorem Vals.take:∀ {xs:List V}{us:List Value}(n:Nat),Vals xs us→Vals (xs.take n) (us.take n)
 | _,_,0,_=>.nil
 | _,_,_+1,.nil=>.nil
 | _,_,n+1,.cons r t=>.cons r (Vals.take n t)
theorem Vals.drop:∀ {xs:List V}{us:List Value}(n:Nat),Vals xs us→Vals (xs.drop n) (us.drop n)
 | _,_,0,r=>r
 | _,_,_+1,.nil=>.nil
 | _,_,n+1,.cons _ t=>Vals.drop n t
def RelO:Option V→Option Value→Prop
 | some v,some u=>RelV v u
 | none,none=>True
 | _,_=>False
def KV {κ:Type}:List (κ×V)→List (κ×Value)→Prop:=Paired fun (p:κ×V) (q:κ×Value)=>p.1=q.1∧RelV p.2 q.2
def kV:Key→V
 | .inl i=>.int i
 | .inr x=>.str x
inductive HO where
 | lst (xs:List V)
 | tup (xs:List V)
 | dK (kvs:List (Key×V)) | dT (kvs:List (List Key×V))
 | set (S:Int→Bool) (n:Nat)
 | ins (C dx:Addr) (fs:List (Str×V))
 | own (x:Addr)
 | xd (fs:List (Str×V))
 | met (f x:Addr)
 | rng (lo hi:Int)
 | frz (o:Obj) (u:HO)
 | tbl (ps:Array Value)
 | ext (φ:Heap→Prop)
abbrev Hp:=Addr→Option HO
def upd (H:Hp) (a:Addr) (o:HO):Hp:=fun b=>if b=a then some o else H b
theorem zai_ {H:Hp}{a:Addr}{o:HO}:upd H a o a=some o:=by unfold upd; rw [if_pos rfl]
theorem zW_ {H:Hp}{a b:Addr}{o:HO}(h:b≠a):upd H a o b=H b:=by unfold upd; rw [if_neg h]
theorem ne_of {H:Hp}{a b:Addr}{o u:HO}(h:H a=some o) (h':H b=some u) (d:o≠u):a≠b:=by
 intro e; subst e; rw [h] at h'; exact d (Option.some.inj h')
theorem zbj_ {H:Hp}{a b:Addr}{o:HO}(h:H a=some o) (h':H b=none):a≠b:=by
 intro e; subst e; rw [h] at h'; cases h'
section
variable (P:Program) (w:World)
def ObjOk (H:Hp) (h:Heap) (a:Addr):HO→Prop
 | .lst xs=>xs.length≤sizeLine∧∃ (its:List Value) (n:Nat),Vals xs its∧h.get? a=some { cls:=.type "list",data:=.seq its.toArray n }
 | .tup xs=>xs.length≤sizeLine∧∃ its:List Value,Vals xs its∧IsTup h a its.toArray
 | .dK kvs=>kvs.length≤sizeLine∧(a == sysModules)=false∧∃ vs,KV kvs vs∧h.DictOf (mixKind P w) a vs
 | .dT kvs=>kvs.length≤sizeLine∧(a == sysModules)=false∧∃ xs:List (List Key×Addr×Value),
   Paired (fun (p:List Key×V) (q:List Key×Addr×Value)=>p.1=q.1∧H q.2.1=some (.tup (p.1.map kV))∧RelV p.2 q.2.2) kvs xs ∧
   ∃ o es ep,h.get? a=some o∧o.ExactDict∧o.data=.dict es ep∧es.toList=xs.map (entryOfKey (tupleKind (mixKind P w)))∧(xs.map (·.1)).Nodup
 | .set S n=>h.SetOf (intKind P w) a S n
 | .ins C dx fs=>H dx=some (.own a)∧fs.length≤1000∧dx≠a∧h.get? a=some (PySem.W.instObj C dx) ∧
   ∃ mA,h.Ns1 dx mA∧(∀ f,RelO (fs.lookup f) (mA f))∧PySem.Within mA (fs.map (·.1))
 | .own _=>∃ o,h.get? a=some o
 | .xd fs=>∃ mA,h.Ns1 a mA∧∀ f,RelO (fs.lookup f) (mA f)
 | .rng lo hi=>∃ t u v,h.get? a=some { cls:=.type "range",data:=.fields #[.int lo t,.int hi u,.int 1 v] }
 | .frz o u=>h.get? a=some o∧ObjOk H h a u
 | .tbl ps=>h.get? a=some { cls:=.none,data:=.fields ps }
 | .met f x=>h.get? a=some (PySem.W.methodObj (.ref f) (.ref x))
 | .ext φ=>φ h∧(∃ o,h.get? a=some o)∧∀ h1 h2:Heap,φ h1→(∀ o,h1.get? a=some o→h2.get? a=some o)→φ h2
def HOk (H:Hp) (h:Heap):Prop:=∀ a o,H a=some o→ObjOk P w H h a o
end
section
variable {P:Program}{w:World}{H H':Hp}{h h':Heap}{a:Addr}{o:HO}
theorem ObjOk.lt (x:ObjOk P w H h a o):a<h.objs.size:=by
 cases o with
 | lst xs=>obtain ⟨_,_,_,_,e⟩:=x; exact Heap.lt_size e
 | tup xs=>obtain ⟨_,_,_,p⟩:=x; exact p.lt
 | dK kvs=>obtain ⟨_,_,_,_,o,_,_,e,_⟩:=x; exact Heap.lt_size e
 | dT kvs=>obtain ⟨_,_,_,_,o,_,_,e,_⟩:=x; exact Heap.lt_size e
 | set S n=>obtain ⟨o,_,_,_,e,_⟩:=x; exact Heap.lt_size e
 | ins C dx fs=>obtain ⟨_,_,_,e,_⟩:=x; exact Heap.lt_size e
 | own y=>obtain ⟨_,e⟩:=x; exact Heap.lt_size e
 | xd fs=>obtain ⟨_,⟨_,_,_,e,_⟩,_⟩:=x; exact Heap.lt_size e
 | rng lo hi=>obtain ⟨_,_,_,e⟩:=x; exact Heap.lt_size e
 | frz ob u=>obtain ⟨e,_⟩:=x; exact Heap.lt_size e
 | tbl ps=>exact Heap.lt_size (show h.get? a=some _ from x)
 | met f y=>exact Heap.lt_size (show h.get? a=some _ from x)
 | ext φ=>obtain ⟨_,⟨_,e⟩,_⟩:=x; exact Heap.lt_size e
theorem Paired.mapP {α β:Type}{F G:α→β→Prop}:∀ {l₁:List α}{l₂:List β},Paired F l₁ l₂→(∀ a b,F a b→G a b)→Paired G l₁ l₂
 | _,_,.nil,_=>.nil
 | _,_,.cons r t,f=>.cons (f _ _ r) (Paired.mapP t f)
theorem ObjOk.stay (x:ObjOk P w H h a o) (k:∀ b u,(b=a∨H b=some (.own a))→h.get? b=some u→h'.get? b=some u)
  (ho:∀ b,H b=some (.own a)→H' b=some (.own a)) (ht:∀ b xs,H b=some (.tup xs)→H' b=some (.tup xs)):ObjOk P w H' h' a o:=by
 induction o with
 | lst xs=>obtain ⟨z,its,n,r,e⟩:=x; exact ⟨z,its,n,r,k _ _ (.inl rfl) e⟩
 | tup xs=>obtain ⟨z,its,r,ob,e,c⟩:=x; exact ⟨z,its,r,ob,k _ _ (.inl rfl) e,c⟩
 | dK kvs=>obtain ⟨z,y,vs,r,ob,es,ep,e,c⟩:=x; exact ⟨z,y,vs,r,ob,es,ep,k _ _ (.inl rfl) e,c⟩
 | dT kvs =>
  obtain ⟨z,y,xs,r,ob,es,ep,e,c⟩:=x
  exact ⟨z,y,xs,Paired.mapP r fun p q z=>⟨z.1,ht _ _ z.2.1,z.2.2⟩,ob,es,ep,k _ _ (.inl rfl) e,c⟩
 | set S n=>obtain ⟨ob,es,ep,t,e,c⟩:=x; exact ⟨ob,es,ep,t,k _ _ (.inl rfl) e,c⟩
 | ins C dx fs =>
  obtain ⟨d,z,ne,e,mA,⟨od,es,ep,e2,c⟩,r⟩:=x
  exact ⟨ho _ d,z,ne,k _ _ (.inl rfl) e,mA,⟨od,es,ep,k _ _ (.inr d) e2,c⟩,r⟩
 | own y=>obtain ⟨ob,e⟩:=x; exact ⟨ob,k _ _ (.inl rfl) e⟩
 | xd fs=>obtain ⟨mA,⟨od,es,ep,e,c⟩,r⟩:=x; exact ⟨mA,⟨od,es,ep,k _ _ (.inl rfl) e,c⟩,r⟩
 | rng lo hi=>obtain ⟨t,u,v,e⟩:=x; exact ⟨t,u,v,k _ _ (.inl rfl) e⟩
 | frz ob u ih=>obtain ⟨e,q⟩:=x; exact ⟨k _ _ (.inl rfl) e,ih q⟩
 | tbl ps =>
  have e:h.get? a=some { cls:=.none,data:=.fields ps }:=x
  show h'.get? a=some { cls:=.none,data:=.fields ps }
  exact k a _ (.inl rfl) e
 | met f y =>
  have e:h.get? a=some (PySem.W.methodObj (.ref f) (.ref y)):=x
  show h'.get? a=some (PySem.W.methodObj (.ref f) (.ref y))
  exact k a _ (.inl rfl) e
 | ext φ=>obtain ⟨p,⟨o,e⟩,st⟩:=x; exact ⟨st _ _ p fun o q=>k _ _ (.inl rfl) q,⟨o,k _ _ (.inl rfl) e⟩,st⟩
theorem HOk.lt (x:HOk P w H h) (e:H a=some o):a<h.objs.size:=(x a o e).lt
theorem HOk.fresh (x:HOk P w H h) (e:h.objs.size≤a):H a=none:=by
 cases q:H a with
 | none=>rfl
 | some u=>exact absurd (Nat.lt_of_lt_of_le (x.lt q) e) (Nat.lt_irrefl _)
theorem HOk.kept (x:HOk P w H h) (k:∀ b u,h.get? b=some u→h'.get? b=some u):HOk P w H h':=fun a o e =>
 (x a o e).stay (fun b u _ q=>k b u q) (fun _ q=>q) fun _ _ q=>q
theorem HOk.laid (x:HOk P w H h) (k:∀ b u,h.get? b=some u→h'.get? b=some u) (hp:h.objs.size≤a) (new:ObjOk P w (upd H a o) h' a o):HOk P w (upd H a o) h':=fun b u e=>by
 have hn:=x.fresh hp
 by_cases hb:b=a
 ·subst hb; rw [zai_] at e; cases e; exact new
 ·rw [zW_ hb] at e
  exact (x b u e).stay (fun c v _ q=>k c v q) (fun c q=>by rw [zW_ (zbj_ q hn)]; exact q) fun c xs q=>by rw [zW_ (zbj_ q hn)]; exact q
end
def Rd (H:Hp) (a:Addr) (u:HO):Prop:=H a=some u∨∃ o,H a=some (.frz o u)
theorem Rd.ok {P:Program}{w:World}{H:Hp}{h:Heap}{a:Addr}{u:HO}(r:Rd H a u) (x:HOk P w H h):ObjOk P w H h a u:=by
 rcases r with r | ⟨o,r⟩
 ·exact x a u r
 ·obtain ⟨_,q⟩:=x a _ r
  exact q
def Mut:Option HO→Prop
 | some (.lst _)=>True
 | some (.dK _)=>True
 | some (.dT _)=>True
 | some (.set _ _)=>True
 | some (.ins _ _ _)=>True
 | some (.ext _)=>True
 | _=>False
section
variable {P:Program}{w:World}{H:Hp}{h h':Heap}{x e:Addr}{o':HO}
theorem HOk.write (ok:HOk P w H h) (mu:Mut (H x)) (he:e=x∨H e=some (.own x)) (k:∀ b u,b≠e→h.get? b=some u→h'.get? b=some u) (heo:∃ u,h'.get? e=some u)
  (new:ObjOk P w (upd H x o') h' x o'):HOk P w (upd H x o') h':=fun b u q=>by
 have nown:∀ c y,H c=some (.own y)→c≠x:=fun c y r z=>by subst z; rw [r] at mu; exact mu
 have ntup:∀ c xs,H c=some (.tup xs)→c≠x:=fun c xs r z=>by subst z; rw [r] at mu; exact mu
 by_cases hb:b=x
 ·subst hb; rw [zai_] at q; cases q; exact new
 ·rw [zW_ hb] at q
  by_cases hbe:b=e
  ·have q':H b=some (.own x):=by
    rcases he with z | z
    ·exact absurd (hbe.trans z) hb
    ·rw [hbe]; exact z
   rw [q] at q'; cases q'
   obtain ⟨v,hv⟩:=heo
   exact ⟨v,by rw [hbe]; exact hv⟩
  ·refine (ok b u q).stay (fun c v hc r=>k c v ?_ r) (fun c r=>by rw [zW_ (nown c b r)]; exact r) fun c xs r=>by rw [zW_ (ntup c xs r)]; exact r
   rcases hc with rfl | hc
   ·exact hbe
   ·rintro rfl
    rcases he with z | z
    ·exact nown c b hc z
    ·rw [hc] at z; cases z; exact hb rfl
end
structure Un (fs ex:List Addr) (H H':Hp) (h h':Heap):Prop where
 keep:∀ b o,h.get? b=some o→H b=none→b∉fs→b∉ex→h'.get? b=some o
 slot:∀ b o,h.get? b=some o→H b=none→b∈fs→b∉ex→∃ sl,h'.get? b=some { o with slots:=sl }
 free:∀ b o,h.get? b=some o→H b=none→b∉ex→H' b=none
 there:∀ b o,h.get? b=some o→b∉ex→∃ o',h'.get? b=some o'
 tups:∀ b xs,H b=some (.tup xs)→H' b=some (.tup xs)
 frzs:∀ b o u,H b=some (.frz o u)→H' b=some (.frz o u)
 tbls:∀ b ps,H b=some (.tbl ps)→∃ more,H' b=some (.tbl (ps++more))
section
variable {fs fs' ex ex':List Addr}{H H1 H2:Hp}{h h1 h2 h':Heap}{a x e:Addr}{o:HO}
theorem Un.any (u:Un fs ex H H1 h h1) {b:Addr}{ob:Obj}(q:h.get? b=some ob) (n:H b=none) (hx:b∉ex):∃ sl,h1.get? b=some { ob with slots:=sl }:=by
 by_cases hb:b∈fs
 ·exact u.slot b ob q n hb hx
 ·exact ⟨ob.slots,u.keep b ob q n hb hx⟩
theorem Un.kept (k:∀ b u,h.get? b=some u→h'.get? b=some u):Un fs ex H H h h' :=
 ⟨fun b ob q _ _ _=>k b ob q,fun b ob q _ _ _=>⟨ob.slots,k b ob q⟩,fun _ _ _ n _=>n,fun b ob q _=>⟨ob,k b ob q⟩,fun _ _ q=>q,fun _ _ _ q=>q,fun _ ps q=>⟨#[],by rw [q]; simp⟩⟩
theorem Un.refl:Un fs ex H H h h:=Un.kept fun _ _ q=>q
theorem Un.laid (k:∀ b u,h.get? b=some u→h'.get? b=some u) (hp:h.objs.size≤a) (hn:H a=none):Un fs ex H (upd H a o) h h' where
 keep:=fun b u q _ _ _=>k b u q
 slot:=fun b u q _ _ _=>⟨u.slots,k b u q⟩
 free:=fun b u q n _=>by rw [zW_ (Nat.ne_of_lt (Nat.lt_of_lt_of_le (Heap.lt_size q) hp))]; exact n
 there:=fun b u q _=>⟨u,k b u q⟩
 tups:=fun b xs q=>by rw [zW_ (zbj_ q hn)]; exact q
 frzs:=fun b u xs q=>by rw [zW_ (zbj_ q hn)]; exact q
 tbls:=fun b ps q=>⟨#[],by rw [zW_ (zbj_ q hn),q]; simp⟩
theorem Un.write (mu:Mut (H x)) (he:e=x∨H e=some (.own x)) (k:∀ b u,b≠e→h.get? b=some u→h'.get? b=some u) (heo:∃ u,h'.get? e=some u):Un fs ex H (upd H x o) h h':=by
 have hx:∀ b,H b=none→b≠x:=fun b n z=>by subst z; rw [n] at mu; exact mu
 have hb:∀ b,H b=none→b≠e:=fun b n z=>by
  subst z
  rcases he with r | r
  ·exact hx b n r
  ·rw [n] at r; cases r
 have hm:∀ b u,H b=some u→¬ Mut (some u)→b≠x:=fun b u q nm z=>by subst z; rw [q] at mu; exact nm mu
 refine ⟨fun b u q n _ _=>k b u (hb b n) q,fun b u q n _ _=>⟨u.slots,k b u (hb b n) q⟩,fun b u q n _=>by rw [zW_ (hx b n)]; exact n,fun b u q _=>?_,
  fun b xs q=>by rw [zW_ (hm b _ q fun z=>z)]; exact q,fun b u xs q=>by rw [zW_ (hm b _ q fun z=>z)]; exact q,fun b ps q=>⟨#[],by rw [zW_ (hm b _ q fun z=>z),q]; simp⟩⟩
 by_cases hbe:b=e
 ·subst hbe; exact heo
 ·exact ⟨u,k b u hbe q⟩
end
def trk (h:Heap) (H:Hp):List Addr:=(List.range h.objs.size).filter fun a=>(H a).isSome
def hidT (h:Heap) (H:Hp):Heap:=PySem.W.hideAll h (trk h H)
theorem zkO_ (h:Heap) (H:Hp):(hidT h H).objs.size=h.objs.size:=PySem.W.hideAll_size _ _
theorem zl0_ {h:Heap}{H:Hp}{b:Addr}{o:Obj}(e:h.get? b=some o) (n:H b=none):(hidT h H).get? b=some o :=
 PySem.W.hideAll_get _ e fun hm=>by
  have q:(H b).isSome=true:=(List.mem_filter.mp hm).2
  rw [n] at q; simp at q
theorem zoe_ {h:Heap}{H:Hp}{b:Addr}{o:Obj}(e:(hidT h H).get? b=some o):h.get? b=some o∧H b=none:=by
 have e':h.get? b=some o:=PySem.W.of_hideAll (trk h H) e
 refine ⟨e',?_⟩
 cases q:H b with
 | none=>rfl
 | some x =>
  have hm:b∈trk h H:=List.mem_filter.mpr ⟨List.mem_range.mpr (Heap.lt_size e'),by simp [q]⟩
  have z:(hidT h H).get? b=none:=PySem.W.hideAll_none (trk h H) hm
  rw [z] at e; cases e
def allNews (g h:Heap) (L:Addr):Pnn:=(List.range h.objs.size).filterMap fun a=>if a=L∨(g.get? a).isSome=true then none else (h.get? a).map fun o=>(a,o)
def rest (g h:Heap) (L d:Addr):Pnn:=(allNews g h L).filter fun p=>decide (p.1≠d)
end L2
namespace L2
open PySem PySem.Spec PyProof.Rows
structure Mod (K:Fgg) (mg:Str→Option Value) (base:Heap):Prop where
 kin:K.In base
 glob:base.Ns mainGlobals mg
 blt:∃ mb,base.Ns builtinsNs mb∧∀ x:Str,x ≠ "__name__" → mb x=bootBuiltins x
 nolimit:base.NoLimit
structure Cx where
 prog:Program
 w:World
 K:Fgg
 mg:Str→Option Value
 base:Heap
 A:Around
 N:List Str
 s₀:Shared
 H₀:Hp
 env:Env
 outer:List Env
 stack:List Env
 ex:List Addr
 fn:Str→Bool
 calm:Bool
 pn:Pnn
 xe:Value→Shared→Prop
def frs (l:List Env):List Addr:=l.filterMap (·.frame)
abbrev Cx.fs (X:Cx):List Addr:=frs X.outer
def Vis (sc:Scope) (x:Str):Prop:=sc.names.lookup x=some .local∨sc.names.lookup x=some .cell∨sc.names.lookup x=some .free
def Loc (sc:Scope) (x:Str):Prop:=sc.names.lookup x=some .local∨sc.names.lookup x=some .cell
def Look (env:Env) (h:Heap) (m:Str→Option Value) (x:Str) (u:Value):Prop :=
 (env.kindOf x=some .local∧m x=some u)∨((env.kindOf x=some .cell∨env.kindOf x=some .free)∧∃ c,env.cells.lookup x=some c∧h.IsCell c (some u))
structure Cx.Ok (X:Cx):Prop where
 mod:Mod X.K X.mg X.base
 kind:X.env.scope.kind=.function
 glob:X.env.globals=mainGlobals
 blt:X.env.builtins=builtinsNs
 above:X.s₀.heap.objs.size≤X.env.locals
 inj:∀ x y c,X.env.cells.lookup x=some c→X.env.cells.lookup y=some c→x=y
 has:∀ x,(X.env.kindOf x=some .cell∨X.env.kindOf x=some .free)→∃ c,X.env.cells.lookup x=some c
 cab:∀ x c,X.fn x=true→X.env.cells.lookup x=some c→X.s₀.heap.objs.size≤c
 hd:X.calm=true→X.A.handled=none
 frames:X.A.frames=some X.stack
 stk:X.stack=X.outer∨(X.stack=X.env::X.outer∧X.env.frame=some X.env.locals)
 exf:∀ b∈X.ex,b≠X.env.locals∧∀ x c,X.env.cells.lookup x=some c→c≠b
 bs:∀ b o,X.base.get? b=some o→X.s₀.heap.get? b=some o∧X.H₀ b=none
 bsz:X.base.objs.size≤X.s₀.heap.objs.size
 noex:∀ b o,X.base.get? b=some o→b∉X.ex
 exfs:∀ b∈X.ex,b∉X.fs
 funs:X.s₀.heap.FunFrames X.base X.outer
 frf:∀ b∈X.fs,X.H₀ b=none
structure Inv (X:Cx) (pins:Pnn) (σ:List (Option V)) (H:Hp) (s:Shared):Prop where
 ok:X.Ok
 os:s.os=X.s₀.os
 bare:AllBare s.gens
 base:Un X.fs X.ex X.H₀ H X.s₀.heap s.heap
 loc:∃ m,s.heap.Ns X.env.locals m∧∀ (i:Nat) (x:Str) (v:V),X.N[i]?=some x→σ[i]?=some (some v)→Vis X.env.scope x→∃ u,RelV v u∧Look X.env s.heap m x u
 cell:∀ x c,X.env.cells.lookup x=some c→∃ v,s.heap.IsCell c v
 free:H X.env.locals=none
 freeC:∀ x c,X.env.cells.lookup x=some c→H c=none
 pin:∀ p∈X.pn++pins,s.heap.get? p.1=some p.2∧H p.1=none∧p.1≠X.env.locals∧p.1∉X.fs∧∀ v,p.2.data≠.cell v
 hok:HOk X.prog X.w H s.heap
 len:σ.length=X.N.length
section
variable {X:Cx}{pins:Pnn}{σ:List (Option V)}{H H':Hp}{s:Shared}{h':Heap}
theorem Cx.Ok.nofr (ok:X.Ok) {b:Addr}{o:Obj}(e:X.base.get? b=some o):b∉X.fs:=fun hb=>by
 have:=(ok.funs.mem hb).1
 rw [e] at this; cases this
theorem Inv.bs (I:Inv X pins σ H s):∀ b o,X.base.get? b=some o→s.heap.get? b=some o∧H b=none:=fun b o e =>
 ⟨I.base.keep b o (I.ok.bs b o e).1 (I.ok.bs b o e).2 (I.ok.nofr e) (I.ok.noex b o e),I.base.free b o (I.ok.bs b o e).1 (I.ok.bs b o e).2 (I.ok.noex b o e)⟩
theorem Inv.bk (I:Inv X pins σ H s):∀ b o,X.base.get? b=some o→s.heap.get? b=some o:=fun b o e=>(I.bs b o e).1
theorem Inv.mod (I:Inv X pins σ H s):Mod X.K X.mg X.base:=I.ok.mod
theorem Inv.kIn (I:Inv X pins σ H s):X.K.In s.heap:=I.ok.mod.kin.keeps I.bk
theorem Inv.lt (I:Inv X pins σ H s):X.env.locals<s.heap.objs.size:=let ⟨_,hn,_⟩:=I.loc; hn.lt
theorem Inv.sz (I:Inv X pins σ H s):X.s₀.heap.objs.size≤s.heap.objs.size:=Nat.le_trans I.ok.above (Nat.le_of_lt I.lt)
theorem Inv.nofs (I:Inv X pins σ H s) {a:Addr}(h:s.heap.objs.size≤a):a∉X.fs:=fun hb=>by
 obtain ⟨_,o,ho,_⟩:=I.ok.funs.mem hb
 exact absurd (Nat.lt_of_lt_of_le (Heap.lt_size ho) (Nat.le_trans I.sz h)) (Nat.lt_irrefl _)
theorem Inv.cne (I:Inv X pins σ H s):∀ x c,X.env.cells.lookup x=some c→c≠X.env.locals:=fun x c e z=>by
 obtain ⟨v,o,ho,hd⟩:=I.cell x c e
 obtain ⟨m,⟨o',es,ep,ho',hd',_⟩,_⟩:=I.loc
 rw [z,ho'] at ho; cases ho; rw [hd'] at hd; cases hd
theorem Inv.funs (I:Inv X pins σ H s):s.heap.FunFrames X.base X.outer:=by
 have all:∀ (l:List Env),(∀ b∈frs l,b∈X.fs)→X.s₀.heap.FunFrames X.base l→s.heap.FunFrames X.base l:=by
  intro l
  induction l with
  | nil=>intro _ _; trivial
  | cons env r ih =>
   intro hs hl
   obtain ⟨hk,⟨L,o,hf,hn,ho,hd⟩,hr⟩:=hl
   have hL:L∈X.fs:=hs L (by unfold frs; rw [List.filterMap_cons,hf]; exact List.mem_cons_self)
   obtain ⟨sl,e⟩:=I.base.slot L o ho (I.ok.frf L hL) hL fun z=>I.ok.exfs L z hL
   exact ⟨hk,⟨L,_,hf,hn,e,hd⟩,ih (fun b hb=>hs b (by unfold frs; rw [List.filterMap_cons,hf]; exact List.mem_cons_of_mem _ hb)) hr⟩
 exact all X.outer (fun _ hb=>hb) I.ok.funs
theorem Inv.stack (I:Inv X pins σ H s):s.heap.FunFrames X.base X.stack:=by
 rcases I.ok.stk with e | ⟨e,hf⟩
 ·rw [e]; exact I.funs
 ·rw [e]
  obtain ⟨m,hn,_⟩:=I.loc
  refine .cons (by rw [I.ok.kind]; decide) hf hn ?_ I.funs
  exact Heap.get?_none_of_le (Nat.le_trans I.ok.bsz I.ok.above)
theorem Inv.stkSub (I:Inv X pins σ H s):∀ b∈frs X.stack,b∈X.env.locals::X.fs:=fun b hb=>by
 rcases I.ok.stk with e | ⟨e,hf⟩
 ·rw [e] at hb; exact List.mem_cons_of_mem _ hb
 ·rw [e] at hb
  unfold frs at hb
  rw [List.filterMap_cons,hf] at hb
  exact hb
theorem Inv.stkFree (I:Inv X pins σ H s):∀ b∈frs X.stack,H b=none:=fun b hb=>by
 rcases List.mem_cons.mp (I.stkSub b hb) with e | hb
 ·rw [e]; exact I.free
 ·obtain ⟨_,o,ho,_⟩:=I.ok.funs.mem hb
  exact I.base.free b o ho (I.ok.frf b hb) fun z=>I.ok.exfs b z hb
theorem Inv.step {g':Array GenState}{t':Nat}{d':Drawn}{ch:List Addr}(I:Inv X pins σ H s)
  (hch:∀ b∈ch,(b∈X.ex∨X.s₀.heap.objs.size≤b)∧b≠X.env.locals∧(∀ x c,X.env.cells.lookup x=some c→c≠b)∧∀ p∈X.pn++pins,p.1≠b)
  (keep:∀ b o,b≠X.env.locals→b∉X.fs→b∉ch→s.heap.get? b=some o→H b=none→h'.get? b=some o)
  (slot:∀ b o,b≠X.env.locals→b∈X.fs→b∉ch→s.heap.get? b=some o→H b=none→∃ sl,h'.get? b=some { o with slots:=sl }) (free:∀ b o,b∉ch→s.heap.get? b=some o→H b=none→H' b=none)
  (there:∀ b o,b∉ch→s.heap.get? b=some o→∃ o',h'.get? b=some o')
  (tups:∀ b xs,H b=some (.tup xs)→H' b=some (.tup xs)) (frzs:∀ b o u,H b=some (.frz o u)→H' b=some (.frz o u)) (tbls:∀ b ps,H b=some (.tbl ps)→∃ more,H' b=some (.tbl (ps++more)))
  (ns:∀ m,s.heap.Ns X.env.locals m→h'.Ns X.env.locals m) (hok:HOk X.prog X.w H' h') (hg:AllBare g') :
  Inv X pins σ H' { s with heap:=h',gens:=g',drawn:=d',toks:=t' }:=by
 have neL:∀ b o,X.s₀.heap.get? b=some o→b≠X.env.locals:=fun b o e=>Nat.ne_of_lt (Nat.lt_of_lt_of_le (Heap.lt_size e) I.ok.above)
 have neC:∀ b o,X.s₀.heap.get? b=some o→b∉X.ex→b∉ch:=fun b o e hx hb=>by
  rcases (hch b hb).1 with z | z
  ·exact hx z
  ·exact absurd (Nat.lt_of_lt_of_le (Heap.lt_size e) z) (Nat.lt_irrefl _)
 have cellK:∀ x c,X.env.cells.lookup x=some c→∀ v,s.heap.IsCell c v→h'.IsCell c v:=fun x c e v ⟨o,ho,hd⟩=>by
  have nch:c∉ch:=fun z=>(hch c z).2.2.1 x c e rfl
  by_cases hc:c∈X.fs
  ·obtain ⟨sl,q⟩:=slot c o (I.cne x c e) hc nch ho (I.freeC x c e)
   exact ⟨_,q,hd⟩
  ·exact ⟨o,keep c o (I.cne x c e) hc nch ho (I.freeC x c e),hd⟩
 refine ⟨I.ok,I.os,hg,⟨fun b o e n hb hx=>?_,fun b o e n hb hx=>?_,fun b o e n hx=>?_,fun b o e hx=>?_,fun b xs e=>tups b xs (I.base.tups b xs e),fun b o xs e=>frzs b o xs (I.base.frzs b o xs e),fun b ps e=>?_⟩,?_,fun x c e=>?_,?_,fun x c e=>?_,fun p hp=>?_,hok,I.len⟩
 ·exact keep b o (neL b o e) hb (neC b o e hx) (I.base.keep b o e n hb hx) (I.base.free b o e n hx)
 ·obtain ⟨sl,e1⟩:=I.base.slot b o e n hb hx
  obtain ⟨sl',e2⟩:=slot b _ (neL b o e) hb (neC b o e hx) e1 (I.base.free b o e n hx)
  exact ⟨sl',e2⟩
 ·obtain ⟨o',e1⟩:=I.base.there b o e hx
  exact free b o' (neC b o e hx) e1 (I.base.free b o e n hx)
 ·obtain ⟨o',e1⟩:=I.base.there b o e hx
  exact there b o' (neC b o e hx) e1
 ·obtain ⟨m1,e1⟩:=I.base.tbls b ps e
  obtain ⟨m2,e2⟩:=tbls b _ e1
  exact ⟨m1++m2,by rw [e2,Array.append_assoc]⟩
 ·obtain ⟨m,hn,hl⟩:=I.loc
  refine ⟨m,ns m hn,fun i x v e1 e2 e3=>?_⟩
  obtain ⟨u,r,l⟩:=hl i x v e1 e2 e3
  refine ⟨u,r,?_⟩
  rcases l with l | ⟨k,c,e,z⟩
  ·exact .inl l
  ·exact .inr ⟨k,c,e,cellK x c e _ z⟩
 ·obtain ⟨v,z⟩:=I.cell x c e
  exact ⟨v,cellK x c e v z⟩
 ·obtain ⟨m,⟨o,_,_,ho,_⟩,_⟩:=I.loc
  exact free _ o (fun z=>(hch _ z).2.1 rfl) ho I.free
 ·obtain ⟨v,o,ho,hd⟩:=I.cell x c e
  exact free c o (fun z=>(hch c z).2.2.1 x c e rfl) ho (I.freeC x c e)
 ·obtain ⟨e,n,ne,nf,d⟩:=I.pin p hp
  have nch:p.1∉ch:=fun z=>(hch p.1 z).2.2.2 p hp rfl
  exact ⟨keep p.1 p.2 ne nf nch e n,free p.1 p.2 nch e n,ne,nf,d⟩
theorem Inv.un {t':Nat}(I:Inv X pins σ H s) (u:Un X.fs [] H H' s.heap h') (hok:HOk X.prog X.w H' h'):Inv X pins σ H' { s with heap:=h',toks:=t' }:=by
 obtain ⟨m,⟨o,es,ep,ho,r⟩,_⟩:=id I.loc
 obtain ⟨sl,hL⟩:=u.any ho I.free (by simp)
 exact I.step (g':=s.gens) (d':=s.drawn) (ch:=[]) (fun _ z=>nomatch z) (fun b o _ hb _ e n=>u.keep b o e n hb (by simp)) (fun b o _ hb _ e n=>u.slot b o e n hb (by simp)) (fun b o _ e n=>u.free b o e n (by simp)) (fun b o _ e=>u.there b o e (by simp)) u.tups u.frzs u.tbls (fun m' hm=>by
  obtain ⟨o',es',ep',ho',r'⟩:=hm
  rw [ho] at ho'; cases ho'
  exact ⟨_,es',ep',hL,r'⟩) hok I.bare
theorem Inv.call {g':Array GenState}{t':Nat}{d':Drawn}{ch:List Addr}(I:Inv X pins σ H s) (u:Un (frs X.stack) ch H H' s.heap h') (hok:HOk X.prog X.w H' h') (hg:AllBare g')
  (hch:∀ b∈ch,(b∈X.ex∨X.s₀.heap.objs.size≤b)∧b≠X.env.locals∧(∀ x c,X.env.cells.lookup x=some c→c≠b)∧∀ p∈X.pn++pins,p.1≠b) :
  Inv X pins σ H' { s with heap:=h',gens:=g',drawn:=d',toks:=t' }:=by
 obtain ⟨m,⟨o,es,ep,ho,r⟩,_⟩:=id I.loc
 obtain ⟨sl,hL⟩:=u.any ho I.free fun z=>(hch _ z).2.1 rfl
 exact I.step (ch:=ch) hch (fun b o hL hb hc e n=>u.keep b o e n (fun z=>(List.mem_cons.mp (I.stkSub b z)).elim hL hb) hc) (fun b o _ _ hc e n=>u.any e n hc) (fun b o hc e n=>u.free b o e n hc) (fun b o hc e=>u.there b o e hc) u.tups u.frzs u.tbls (fun m' hm=>by
  obtain ⟨o',es',ep',ho',r'⟩:=hm
  rw [ho] at ho'; cases ho'
  exact ⟨_,es',ep',hL,r'⟩) hok hg
theorem Inv.turned {t':Nat}{it:Addr}(I:Inv X pins σ H s) (k:∀ b o,b≠it→s.heap.get? b=some o→h'.get? b=some o) (hn:H it=none) (hL:it≠X.env.locals)
  (h1:it∈X.ex∨X.s₀.heap.objs.size≤it) (h2:∀ x c,X.env.cells.lookup x=some c→c≠it) (h3:∀ p∈X.pn++pins,p.1≠it):Inv X pins σ H { s with heap:=h',toks:=t' }:=by
 have nit:∀ b u,H b=some u→b≠it:=fun b u e z=>by rw [z,hn] at e; cases e
 refine I.step (g':=s.gens) (d':=s.drawn) (ch:=[it]) (fun b hb=>?_) (fun b o _ _ hc e _=>k b o (fun z=>hc (by simp [z])) e) (fun b o _ _ hc e _=>⟨o.slots,k b o (fun z=>hc (by simp [z])) e⟩) (fun _ _ _ _ n=>n)
  (fun b o hc e=>⟨o,k b o (fun z=>hc (by simp [z])) e⟩) (fun _ _ e=>e) (fun _ _ _ e=>e) (fun b ps e=>⟨#[],by rw [e]; simp⟩) (fun m hm=>?_) (fun b u e=>?_) I.bare
 ·have e:b=it:=by simpa using hb
  subst e
  exact ⟨h1,hL,h2,h3⟩
 ·obtain ⟨o,es,ep,ho,r⟩:=hm
  exact ⟨o,es,ep,k _ o (Ne.symm hL) ho,r⟩
 ·refine (I.hok b u e).stay (fun c v hc q=>k c v ?_ q) (fun _ q=>q) fun _ _ q=>q
  rcases hc with z | z
  ·rw [z]; exact nit b u e
  ·exact nit c _ z
theorem Inv.tok (I:Inv X pins σ H s) (t:Nat):Inv X pins σ H { s with toks:=t }:=I.un (h':=s.heap) (t':=t) Un.refl I.hok
theorem Inv.kept {t':Nat}(I:Inv X pins σ H s) (k:∀ b u,s.heap.get? b=some u→h'.get? b=some u):Inv X pins σ H { s with heap:=h',toks:=t' }:=I.un (Un.kept k) (I.hok.kept k)
theorem Inv.laid {a:Addr}{o:HO}{t':Nat}(I:Inv X pins σ H s) (k:∀ b u,s.heap.get? b=some u→h'.get? b=some u) (hp:s.heap.objs.size≤a) (new:ObjOk X.prog X.w (upd H a o) h' a o) :
  Inv X pins σ (upd H a o) { s with heap:=h',toks:=t' }:=I.un (Un.laid k hp (I.hok.fresh hp)) (I.hok.laid k hp new)
theorem Inv.write {x e:Addr}{o:HO}{t':Nat}(I:Inv X pins σ H s) (mu:Mut (H x)) (he:e=x∨H e=some (.own x)) (k:∀ b u,b≠e→s.heap.get? b=some u→h'.get? b=some u) (heo:∃ u,h'.get? e=some u)
  (new:ObjOk X.prog X.w (upd H x o) h' x o):Inv X pins σ (upd H x o) { s with heap:=h',toks:=t' }:=I.un (Un.write mu he k heo) (I.hok.write mu he k heo new)
theorem Inv.pins_of {pins':Pnn}(I:Inv X pins σ H s) (h:∀ p∈pins',s.heap.get? p.1=some p.2∧H p.1=none∧p.1≠X.env.locals∧p.1∉X.fs∧∀ v,p.2.data≠.cell v):Inv X pins' σ H s :=
 ⟨I.ok,I.os,I.bare,I.base,I.loc,I.cell,I.free,I.freeC,fun p hp=>(List.mem_append.mp hp).elim (fun z=>I.pin p (List.mem_append_left _ z)) (h p),I.hok,I.len⟩
theorem ziv_ {N:List Str}(hN:N.Nodup) {i j:Nat}{x:Str}(a:N[i]?=some x) (b:N[j]?=some x):i=j:=by
 obtain ⟨h1,e1⟩:=List.getElem?_eq_some_iff.mp a
 obtain ⟨h2,e2⟩:=List.getElem?_eq_some_iff.mp b
 exact (List.getElem_inj hN).mp (e1.trans e2.symm)
theorem zkM_ {M:Model}{A:Around}{E:Value→Shared→Prop}{i:Nat}{x:Str}{v:V}{u:Value}{Q:Unit→Shared→Prop}(I:Inv X pins σ H s) (hN:X.N.Nodup) (hi:X.N[i]?=some x) (hx:Loc X.env.scope x) (r:RelV v u)
  (h:∀ s',Inv X pins (σ.set i (some v)) H s'→(∃ a,Heap.SameBut a s.heap s'.heap∧(a=X.env.locals∨X.env.cells.lookup x=some a))→Q () s') (hf:X.fn x=true∨X.env.scope.names.lookup x=some .local:=by first | exact .inl rfl | exact .inr rfl | assumption):wpAny M A (storeName X.env x u) Q E s:=by
 obtain ⟨m,hn,hl⟩:=id I.loc
 have hcls:(X.env.scope.kind == .class || (X.env.scope.kind == .module && X.env.locals != X.env.globals))=false:=by rw [I.ok.kind]; rfl
 have hiσ:i<σ.length:=by rw [I.len]; exact (List.getElem?_eq_some_iff.mp hi).1
 have cne:=I.cne
 have tracked:∀ {a:Addr}{h':Heap},(∃ o,s.heap.get? a=some o∧H a=none)→Heap.SameBut a s.heap h'→HOk X.prog X.w H h':=fun {a h'} ha hs b ob e=>by
  obtain ⟨_,_,hfree⟩:=ha
  refine (I.hok b ob e).stay (fun c w' hc q=>(hs.2 c ?_).trans q) (fun _ q=>q) fun _ _ q=>q
  rintro rfl
  rcases hc with rfl | hc
  ·rw [hfree] at e; cases e
  ·rw [hfree] at hc; cases hc
 rcases hx with hk | hk
 ·refine wpAny_storeName_local hk hn (fun h' hn' hs=>?_) hcls
  obtain ⟨oL,_,_,hoL,_⟩:=id hn
  refine h _ ⟨I.ok,I.os,I.bare,⟨fun b o e n hb hx=>?_,fun b o e n hb hx=>?_,I.base.free,fun b o e hx=>?_,I.base.tups,I.base.frzs,I.base.tbls⟩,⟨_,hn',fun j y v' e1 e2 e3=>?_⟩,fun y c e=>?_,I.free,I.freeC,fun p hp=>?_,tracked ⟨oL,hoL,I.free⟩ hs,by simpa using I.len⟩ ⟨_,hs,.inl rfl⟩
  ·exact (hs.2 b (Nat.ne_of_lt (Nat.lt_of_lt_of_le (Heap.lt_size e) I.ok.above))).trans (I.base.keep b o e n hb hx)
  ·obtain ⟨sl,e1⟩:=I.base.slot b o e n hb hx
   exact ⟨sl,(hs.2 b (Nat.ne_of_lt (Nat.lt_of_lt_of_le (Heap.lt_size e) I.ok.above))).trans e1⟩
  ·obtain ⟨o',e1⟩:=I.base.there b o e hx
   exact ⟨o',(hs.2 b (Nat.ne_of_lt (Nat.lt_of_lt_of_le (Heap.lt_size e) I.ok.above))).trans e1⟩
  ·by_cases hj:j=i
   ·subst hj
    rw [hi] at e1; cases e1
    rw [List.getElem?_set_self hiσ] at e2
    cases e2
    exact ⟨u,r,.inl ⟨hk,by simp⟩⟩
   ·rw [List.getElem?_set_ne (Ne.symm hj)] at e2
    obtain ⟨u',r',q⟩:=hl j y v' e1 e2 e3
    refine ⟨u',r',?_⟩
    rcases q with ⟨k,e⟩ | ⟨k,c,e,z⟩
    ·refine .inl ⟨k,?_⟩
     have:y≠x:=fun e=>hj (ziv_ hN e1 (e ▸ hi))
     simp [this,e]
    ·exact .inr ⟨k,c,e,z.sameBut hs (cne y c e)⟩
  ·obtain ⟨w',z⟩:=I.cell y c e
   exact ⟨w',z.sameBut hs (cne y c e)⟩
  ·obtain ⟨e,n,ne,nf,d⟩:=I.pin p hp
   exact ⟨(hs.2 p.1 ne).trans e,n,ne,nf,d⟩
 ·have hfn:X.fn x=true:=by
   rcases hf with z | z
   ·exact z
   ·rw [z] at hk; cases hk
  obtain ⟨c,hc⟩:=I.ok.has x (.inl hk)
  obtain ⟨w',z⟩:=I.cell x c hc
  refine wpAny_storeName_cell I.ok.kind hk hc z (fun h' hc' hs=>?_)
  obtain ⟨oc,hoc,hocd⟩:=id z
  refine h { s with heap:=h' } ⟨I.ok,I.os,I.bare,⟨fun b o e n hb hx=>?_,fun b o e n hb hx=>?_,I.base.free,fun b o e hx=>?_,I.base.tups,I.base.frzs,I.base.tbls⟩,⟨m,hn.sameBut hs (Ne.symm (cne x c hc)),fun j y v' e1 e2 e3=>?_⟩,fun y c' e=>?_,I.free,I.freeC,fun p hp=>?_,tracked ⟨oc,hoc,I.freeC x c hc⟩ hs,by simpa using I.len⟩ ⟨c,hs,.inr hc⟩
  ·exact (hs.2 b (Nat.ne_of_lt (Nat.lt_of_lt_of_le (Heap.lt_size e) (I.ok.cab x c hfn hc)))).trans (I.base.keep b o e n hb hx)
  ·obtain ⟨sl,e1⟩:=I.base.slot b o e n hb hx
   exact ⟨sl,(hs.2 b (Nat.ne_of_lt (Nat.lt_of_lt_of_le (Heap.lt_size e) (I.ok.cab x c hfn hc)))).trans e1⟩
  ·obtain ⟨o',e1⟩:=I.base.there b o e hx
   exact ⟨o',(hs.2 b (Nat.ne_of_lt (Nat.lt_of_lt_of_le (Heap.lt_size e) (I.ok.cab x c hfn hc)))).trans e1⟩
  ·by_cases hj:j=i
   ·subst hj
    rw [hi] at e1; cases e1
    rw [List.getElem?_set_self hiσ] at e2
    cases e2
    exact ⟨u,r,.inr ⟨.inl hk,c,hc,hc'⟩⟩
   ·rw [List.getElem?_set_ne (Ne.symm hj)] at e2
    obtain ⟨u',r',q⟩:=hl j y v' e1 e2 e3
    refine ⟨u',r',?_⟩
    rcases q with q | ⟨k,c',e,z'⟩
    ·exact .inl q
    ·refine .inr ⟨k,c',e,z'.sameBut hs ?_⟩
     rintro rfl
     exact hj (ziv_ hN e1 (I.ok.inj _ _ _ e hc ▸ hi))
  ·by_cases hcc:c'=c
   ·subst hcc; exact ⟨_,hc'⟩
   ·obtain ⟨w2,z2⟩:=I.cell y c' e
    exact ⟨w2,z2.sameBut hs hcc⟩
  ·obtain ⟨e,n,ne,nf,d⟩:=I.pin p hp
   refine ⟨(hs.2 p.1 ?_).trans e,n,ne,nf,d⟩
   intro q
   rw [q,hoc] at e
   have q':oc=p.2:=Option.some.inj e
   exact d w' (by rw [← q']; exact hocd)
theorem zjo_ {M:Model}{A:Around}{E:Value→Shared→Prop}{i:Nat}{x:Str}{v:V}{u:Value}{Q:Unit→Shared→Prop}(I:Inv X pins σ H s) (hN:X.N.Nodup) (hi:X.N[i]?=some x) (hx:Loc X.env.scope x) (r:RelV v u)
  (h:∀ s',Inv X pins (σ.set i (some v)) H s'→Q () s') (hf:X.fn x=true∨X.env.scope.names.lookup x=some .local:=by first | exact .inl rfl | exact .inr rfl | assumption):wpAny M A (storeName X.env x u) Q E s :=
 zkM_ I hN hi hx r (fun s' I' _=>h s' I') hf
theorem Inv.call' {s':Shared}{ch:List Addr}(I:Inv X pins σ H s) (ho:s'.os=s.os) (u:Un (frs X.stack) ch H H' s.heap s'.heap) (hok:HOk X.prog X.w H' s'.heap) (hg:AllBare s'.gens)
  (hch:∀ b∈ch,(b∈X.ex∨X.s₀.heap.objs.size≤b)∧b≠X.env.locals∧(∀ x c,X.env.cells.lookup x=some c→c≠b)∧∀ p∈X.pn++pins,p.1≠b):Inv X pins σ H' s':=by
 obtain ⟨h',g',d',t',o'⟩:=s'
 have e:o'=s.os:=ho
 subst e
 exact I.call (g':=g') (t':=t') (d':=d') u hok hg hch
end
abbrev XK:=Value→Option Addr→Hp→Prop
abbrev St:=List (Option V)
abbrev VK:=V→Hp→Prop
abbrev TE:=St→Hp→VK→Prop
abbrev TT:=St→Hp→(Bool→Hp→Prop)→Prop
abbrev TA:=St→Hp→(List V→Hp→Prop)→Prop
structure Ends where
 nx:St→Hp→Prop
 rt:VK
 bk:St→Hp→Prop:=fun _ _=>False
 ct:St→Hp→Prop:=fun _ _=>False
abbrev TS:=Ends→St→Hp→Prop
def EP (X:Cx) (pins:Pnn) (σ:St) (Q:VK) (u:Value) (s':Shared):Prop:=∃ v H',Inv X pins σ H' s'∧RelV v u∧Q v H'
def TP (X:Cx) (pins:Pnn) (σ:St) (Q:Bool→Hp→Prop) (b:Bool) (s':Shared):Prop:=∃ H',Inv X pins σ H' s'∧Q b H'
def AP (X:Cx) (pins:Pnn) (σ:St) (Q:List V→Hp→Prop) (us:List Value) (s':Shared):Prop:=∃ vs H',Inv X pins σ H' s'∧Vals vs us∧Q vs H'
def SP (X:Cx) (pins:Pnn) (D:Ends) (f:Flow) (s':Shared):Prop :=
 match f with
 | .next=>∃ σ' H',Inv X pins σ' H' s'∧D.nx σ' H'
 | .brk=>∃ σ' H',Inv X pins σ' H' s'∧D.bk σ' H'
 | .cont=>∃ σ' H',Inv X pins σ' H' s'∧D.ct σ' H'
 | .ret u=>∃ v σ' H',Inv X pins σ' H' s'∧RelV v u∧D.rt v H'
def PE (X:Cx) (e:Expr) (t:TE):Prop :=
 ∀ (pins:Pnn) (s:Shared) (σ:St) (H:Hp) (Q:VK),Inv X pins σ H s→t σ H Q→wpAny (model X.prog X.w) X.A (eval e X.env) (EP X pins σ Q) X.xe s
def PT (X:Cx) (e:Expr) (t:TT):Prop :=
 ∀ (pins:Pnn) (s:Shared) (σ:St) (H:Hp) (Q:Bool→Hp→Prop),Inv X pins σ H s→t σ H Q→wpAny (model X.prog X.w) X.A (isTrue e X.env (eval e X.env)) (TP X pins σ Q) X.xe s
def PW (X:Cx) (e:Expr) (t:TT):Prop :=
 ∀ (whole:Sem Value) (pins:Pnn) (s:Shared) (σ:St) (H:Hp) (Q:Bool→Hp→Prop),Inv X pins σ H s→t σ H Q→wpAny (model X.prog X.w) X.A (isTrue e X.env whole) (TP X pins σ Q) X.xe s
theorem PW.pt {X:Cx}{e:Expr}{t:TT}(h:PW X e t):PT X e t:=h _
def PA (X:Cx) (es:List Expr) (t:TA):Prop :=
 ∀ (pos:Pos) (pins:Pnn) (s:Shared) (σ:St) (H:Hp) (Q:List V→Hp→Prop),Inv X pins σ H s→t σ H Q→wpAny (model X.prog X.w) X.A (spliced (backTo pos (starEach es X.env))) (AP X pins σ Q) X.xe s
def PS (X:Cx) (st:Stmt) (t:TS):Prop :=
 ∀ (pins:Pnn) (s:Shared) (σ:St) (H:Hp) (D:Ends),Inv X pins σ H s→t D σ H→wpAny (model X.prog X.w) X.A (exec st X.env) (SP X pins D) X.xe s
def PSs (X:Cx) (st:List Stmt) (t:TS):Prop :=
 ∀ (pins:Pnn) (s:Shared) (σ:St) (H:Hp) (D:Ends),Inv X pins σ H s→t D σ H→wpAny (model X.prog X.w) X.A (execs st X.env) (SP X pins D) X.xe s
theorem thn {α:Type}{t:Sem α}{Q Q':α→Shared→Prop}{M:Model}{A:Around}{E:Value→Shared→Prop}{s:Shared}(h:wpAny M A t Q E s) (hQ:∀ a s,Q a s→Q' a s):wpAny M A t Q' E s:=wpAny_mono h hQ fun _ _ x=>x
end L2
namespace L2
open PySem PySem.Spec PyProof.Rows
section
variable {X:Cx}
theorem bin {a b:Expr}{ta tb:TE}(ha:PE X a ta) (hb:PE X b tb) {pins:Pnn}{s:Shared}{σ:St}{H:Hp}{R:V→V→Hp→Prop}(I:Inv X pins σ H s) (h:ta σ H fun x H1=>tb σ H1 fun y H2=>R x y H2)
  {α:Type}{Q:α→Shared→Prop}{f:Value→Value→Sem α}
  (hf:∀ v u s2 x y H2,Inv X pins σ H2 s2→RelV x v→RelV y u→R x y H2→wpAny (model X.prog X.w) X.A (f v u) Q X.xe s2) :
  wpAny (model X.prog X.w) X.A (eval a X.env) (fun v s₁=>wpAny (model X.prog X.w) X.A (eval b X.env) (fun u s₂=>wpAny (model X.prog X.w) X.A (f v u) Q X.xe s₂) X.xe s₁) X.xe s:=by
 refine thn (ha pins s σ H _ I h) fun v s1 hq_=>?_
 obtain ⟨x,H1,I1,r1,q1⟩:=hq_
 refine thn (hb pins s1 σ H1 _ I1 q1) fun u s2 hq_=>?_
 obtain ⟨y,H2,I2,r2,q2⟩:=hq_
 exact hf v u s2 x y H2 I2 r1 r2 q2
def tVar (i:Nat):TE:=fun σ H Q=>∃ v,σ[i]?=some (some v)∧Q v H
def tC (v:V):TE:=fun _ H Q=>Q v H
theorem zpc_ {i:Nat}{x:Str}{pos:Pos}(hN:X.N[i]?=some x) (hv:Vis X.env.scope x) (hd:(x == ("__debug__" : Str))=false:=by decide) (hcd:(x == ("__classdict__" : Str))=false:=by decide):PE X (.Name x pos) (tVar i):=by
 intro pins s σ H Q I h
 obtain ⟨v,e,h⟩:=h
 obtain ⟨m,hn,hl⟩:=I.loc
 obtain ⟨u,r,l⟩:=hl i x v hN e hv
 have fin:EP X pins σ Q u s:=⟨v,H,I,r,h⟩
 rcases l with ⟨hk,hm⟩ | ⟨hk,c,hc,hcell⟩
 ·exact wpAny_Name (wpAny_loadName_local I.ok.kind hk hn hm fin) hd
 ·rcases hk with hk | hk
  ·exact wpAny_Name (wpAny_loadName_cell I.ok.kind hk hc hcell fin) hd
  ·exact wpAny_Name (wpAny_loadName_free I.ok.kind hk hc hcell fin hcd) hd
theorem zj_ {i j pos}:PE X (.Constant (.int i) j pos) (tC (.int i)):=fun _ _ _ H _ I h=>wpAny_Constant_int ⟨.int i,H,I.tok _,⟨_,rfl⟩,h⟩
theorem zh6_ {b j pos}:PE X (.Constant (.bool b) j pos) (tC (.bl b)):=fun _ _ _ H _ I h=>Constant_bool ⟨.bl b,H,I,rfl,h⟩
theorem zlM_ {j pos}:PE X (.Constant .none j pos) (tC .non):=fun _ _ _ H _ I h=>Constant_none ⟨.non,H,I,rfl,h⟩
theorem zpt_ {x j pos}:PE X (.Constant (.str x) j pos) (tC (.str x)):=fun _ _ _ H _ I h=>Calls.Constant_str ⟨.str x,H,I.tok _,⟨_,rfl⟩,h⟩
def Gl (X:Cx) (x:Str):Prop:=X.env.kindOf x=some .globalImplicit
theorem zjS_ {E:Value→Shared→Prop}{pins:Pnn}{s:Shared}{σ:St}{H:Hp}{x:Str}{u:Value}{pos:Pos}{Q:Value→Shared→Prop}(I:Inv X pins σ H s) (hg:Gl X x) (hm:X.mg x=some u) (h:Q u s)
  (hd:(x == ("__debug__" : Str))=false:=by decide):wpAny (model X.prog X.w) X.A (eval (.Name x pos) X.env) Q E s :=
 Calls.Name_function_global I.ok.kind hg (Calls.loadGlobal_global (by rw [I.ok.glob]; exact I.mod.glob.keeps I.bk) hm h) hd
theorem zgU_ {E:Value→Shared→Prop}{pins:Pnn}{s:Shared}{σ:St}{H:Hp}{x:Str}{u:Value}{pos:Pos}{Q:Value→Shared→Prop}(I:Inv X pins σ H s) (hg:Gl X x) (hm:X.mg x=none) (hv:bootBuiltins x=some u) (h:Q u s)
  (hn:x ≠ "__name__" := by decide) (hd:(x == ("__debug__" : Str))=false:=by decide):wpAny (model X.prog X.w) X.A (eval (.Name x pos) X.env) Q E s:=by
 obtain ⟨mb,h1,h2⟩:=I.mod.blt
 exact Calls.Name_function_global I.ok.kind hg (Calls.loadGlobal_builtin (by rw [I.ok.glob]; exact I.mod.glob.keeps I.bk) hm (by rw [I.ok.blt]; exact h1.keeps I.bk) ((h2 x hn).trans hv) h) hd
theorem zou_ {x:Str}{v:V}{u:Value}{pos:Pos}(hg:Gl X x) (hm:X.mg x=some u) (r:RelV v u) (hd:(x == ("__debug__" : Str))=false:=by decide):PE X (.Name x pos) (tC v) :=
 fun _ _ _ H _ I h=>zjS_ I hg hm ⟨v,H,I,r,h⟩ hd
theorem znY_ {x:Str}{v:V}{u:Value}{pos:Pos}(hg:Gl X x) (hm:X.mg x=none) (hv:bootBuiltins x=some u) (r:RelV v u) (hn:x ≠ "__name__" := by decide) (hd:(x == ("__debug__" : Str))=false:=by decide):PE X (.Name x pos) (tC v) :=
 fun _ _ _ H _ I h=>zgU_ I hg hm hv ⟨v,H,I,r,h⟩ hn hd
variable {a b:Expr}{ta tb:TE}{pos:Pos}
def PC (X:Cx) (op:CmpOp) (a b:Expr) (t:TE):Prop :=
 ∀ (pins:Pnn) (s:Shared) (σ:St) (H:Hp) (Q:VK),Inv X pins σ H s→t σ H Q →
  wpAny (model X.prog X.w) X.A (eval a X.env) (fun v s₁=>wpAny (model X.prog X.w) X.A (eval b X.env) (fun u s₂=>wpAny (model X.prog X.w) X.A (compareOp op v u) (EP X pins σ Q) X.xe s₂) X.xe s₁) X.xe s
theorem nobehind (b:Expr) {op:CmpOp}(h:op≠.In) (h2:op≠.NotIn):behindInMarks op b=false:=by
 have e1:(op == CmpOp.In)=false:=by cases op<;>first | rfl | exact absurd rfl h
 have e2:(op == CmpOp.NotIn)=false:=by cases op<;>first | rfl | exact absurd rfl h2
 cases b<;>simp [behindInMarks,e1,e2]
variable {tA tB':TT}{rest:List Expr}
def tNot (t:TT):TT:=fun σ H Q=>t σ H fun c H1=>Q (!c) H1
theorem zkv_ (ha:PT X a tA):PW X (.BoolOp .Or [a] pos) tA:=by
 intro wh pins s σ H Q I h
 refine isTrue_or (thn (ha pins s σ H Q I h) fun c s1 e=>?_)
 cases c with
 | false=>exact isTrue_or_nil e
 | true=>exact e
theorem zfI_ (ha:PT X a tA):PT X (.UnaryOp .Not a pos) (tNot tA):=by
 intro pins s σ H Q I h
 exact isTrue_not (ha pins s σ H (fun c H1=>Q (!c) H1) I h)
theorem znR_ {op} {t:TE}(h:PE X a t):PE X (.BoolOp op [a] pos) t:=fun pins s σ H Q I hw=>BoolOp_one (h pins s σ H Q I hw)
end
end L2
namespace L2
open PySem PySem.Spec PyProof.Rows
def SqL (K:Fgg) (H:Hp) (a:Addr) (xs:List V):Prop :=
 Rd H a (.lst xs) ∨
  ∃ (o:Obj) (its:Array Value) (n:Nat),K.lookup a=some o∧o.cls=.type "list" ∧ o.dict=none∧o.data=.seq its n∧its.size≤sizeLine∧Vals xs its.toList
def SqT (K:Fgg) (H:Hp) (a:Addr) (xs:List V):Prop :=
 Rd H a (.tup xs) ∨
  ∃ (o:Obj) (its:Array Value) (n:Nat),K.lookup a=some o∧o.cls=.type "tuple" ∧ o.data=.seq its n∧its.size≤sizeLine∧Vals xs its.toList
def absV:Value→Option V
 | .none=>some .non
 | .bool b=>some (.bl b)
 | .int i _=>some (.int i)
 | .str x _=>some (.str x)
 | .bytes b _=>some (.byt b)
 | .float b _=>some (.flt b)
 | .ref a=>some (.ref a)
 | .type n=>some (.ty n)
 | _=>none
theorem RelV.abs {x:V}{u:Value}(r:RelV x u):absV u=some x:=by
 cases x with
 | non=>cases r; rfl
 | bl _=>cases r; rfl
 | int _=>obtain ⟨t,rfl⟩:=r; rfl
 | str _=>obtain ⟨t,rfl⟩:=r; rfl
 | byt _=>obtain ⟨t,rfl⟩:=r; rfl
 | flt _=>obtain ⟨t,rfl⟩:=r; rfl
 | ref _=>cases r; rfl
 | ty _=>cases r; rfl
theorem RelV.inj {x y:V}{u:Value}(r:RelV x u) (q:RelV y u):x=y:=Option.some.inj (r.abs.symm.trans q.abs)
theorem Vals.inj:∀ {xs ys:List V}{us:List Value},Vals xs us→Vals ys us→xs=ys
 | _,_,_,.nil,.nil=>rfl
 | _,_,_,.cons r t,.cons r' t'=>by rw [r.inj r',Vals.inj t t']
section
variable {X:Cx}{pins:Pnn}{σ:St}{H:Hp}{s:Shared}{a:Addr}{xs ys:List V}
theorem SqL.of {K:Fgg}(h:H a=some (.lst xs)):SqL K H a xs:=.inl (.inl h)
theorem SqT.of {K:Fgg}(h:H a=some (.tup xs)):SqT K H a xs:=.inl (.inl h)
theorem Inv.list (I:Inv X pins σ H s) (h:SqL X.K H a xs):∃ its:List Value,Vals xs its∧PlainL s.heap a its.toArray∧xs.length≤sizeLine:=by
 rcases h with h | ⟨o,its,n,hk,hc,hd,hs,hz,r⟩
 ·obtain ⟨z,its,n,r,e⟩:=h.ok I.hok
  exact ⟨its,r,⟨_,n,e,rfl,rfl,rfl⟩,z⟩
 ·refine ⟨its.toList,r,⟨o,n,I.kIn a o hk,hc,hd,by simpa using hs⟩,?_⟩
  have e:=r.length
  simp only [Array.length_toList] at e
  lia
theorem Inv.tuple (I:Inv X pins σ H s) (h:SqT X.K H a xs):∃ its:List Value,Vals xs its∧IsTup s.heap a its.toArray∧xs.length≤sizeLine:=by
 rcases h with h | ⟨o,its,n,hk,hc,hs,hz,r⟩
 ·obtain ⟨z,its,r,p⟩:=h.ok I.hok
  exact ⟨its,r,p,z⟩
 ·refine ⟨its.toList,r,⟨o,I.kIn a o hk,hc,n,by simpa using hs⟩,?_⟩
  have e:=r.length
  simp only [Array.length_toList] at e
  lia
theorem Inv.list_inj (I:Inv X pins σ H s) (h:SqL X.K H a xs) (h':SqL X.K H a ys):xs=ys:=by
 obtain ⟨its,r,⟨o,n,e,_,_,d⟩,_⟩:=I.list h
 obtain ⟨its',r',⟨o',n',e',_,_,d'⟩,_⟩:=I.list h'
 rw [e] at e'; cases e'
 rw [d] at d'
 injection d' with d1 _
 have:its=its':=by simpa using congrArg Array.toList d1
 subst this
 exact r.inj r'
theorem Inv.tuple_inj (I:Inv X pins σ H s) (h:SqT X.K H a xs) (h':SqT X.K H a ys):xs=ys:=by
 obtain ⟨its,r,⟨o,e,_,n,d⟩,_⟩:=I.tuple h
 obtain ⟨its',r',⟨o',e',_,n',d'⟩,_⟩:=I.tuple h'
 rw [e] at e'; cases e'
 rw [d] at d'
 injection d' with d1 _
 have:its=its':=by simpa using congrArg Array.toList d1
 subst this
 exact r.inj r'
end
abbrev Cx.wish (X:Cx) (E:Value→Shared→Prop):Cx:={ X with xe:=E }
abbrev Cx.nox (X:Cx):Cx:=X.wish fun _ _=>False
theorem Cx.Ok.wish {X:Cx}(ok:X.Ok) (E:Value→Shared→Prop):(X.wish E).Ok :=
 ⟨ok.mod,ok.kind,ok.glob,ok.blt,ok.above,ok.inj,ok.has,ok.cab,ok.hd,ok.frames,ok.stk,ok.exf,ok.bs,ok.bsz,ok.noex,ok.exfs,ok.funs,ok.frf⟩
theorem Cx.Ok.unwish {X:Cx}{E:Value→Shared→Prop}(ok:(X.wish E).Ok):X.Ok :=
 ⟨ok.mod,ok.kind,ok.glob,ok.blt,ok.above,ok.inj,ok.has,ok.cab,ok.hd,ok.frames,ok.stk,ok.exf,ok.bs,ok.bsz,ok.noex,ok.exfs,ok.funs,ok.frf⟩
section
variable {X:Cx}{pins:Pnn}{σ:St}{H:Hp}{s:Shared}{E:Value→Shared→Prop}
theorem Inv.wish (I:Inv X pins σ H s) (E:Value→Shared→Prop):Inv (X.wish E) pins σ H s:=⟨I.ok.wish E,I.os,I.bare,I.base,I.loc,I.cell,I.free,I.freeC,I.pin,I.hok,I.len⟩
theorem Inv.unwish (I:Inv (X.wish E) pins σ H s):Inv X pins σ H s:=⟨I.ok.unwish,I.os,I.bare,I.base,I.loc,I.cell,I.free,I.freeC,I.pin,I.hok,I.len⟩
theorem SP.unwish {D:Ends}{f:Flow}{s':Shared}(h:SP (X.wish E) pins D f s'):SP X pins D f s':=by
 cases f with
 | next=>obtain ⟨σ',H',I,q⟩:=h; exact ⟨σ',H',I.unwish,q⟩
 | brk=>obtain ⟨σ',H',I,q⟩:=h; exact ⟨σ',H',I.unwish,q⟩
 | cont=>obtain ⟨σ',H',I,q⟩:=h; exact ⟨σ',H',I.unwish,q⟩
 | ret u=>obtain ⟨v,σ',H',I,r,q⟩:=h; exact ⟨v,σ',H',I.unwish,r,q⟩
theorem PSs.nox {st:List Stmt}{t:TS}(h:PSs X.nox st t):PSs X st t:=fun pins s σ H D I hw =>
 wpAny_mono (h pins s σ H D (I.wish _) hw) (fun _ _ q=>q.unwish) fun _ _ z=>False.elim z
end
section
variable {X:Cx}{st:Stmt}{rest:List Stmt}{t u:TS}{e:Expr}{te:TE}{pos:Pos}
def tNext:TS:=fun D σ H=>D.nx σ H
def tSeq (t u:TS):TS:=fun D σ H=>t { D with nx:=u D } σ H
theorem zaB_:PSs X [] tNext:=fun _ _ σ H _ I h=>wpAny_execs_nil ⟨σ,H,I,h⟩
theorem ze_ (h1:PS X st t) (h2:PSs X rest u):PSs X (st::rest) (tSeq t u):=by
 intro pins s σ H D I h
 refine wpAny_execs_cons (thn (h1 pins s σ H { D with nx:=u D } I h) fun f s1 q=>?_)
 cases f with
 | next =>
  obtain ⟨σ',H',I',q⟩:=q
  exact h2 pins s1 σ' H' D I' q
 | ret v=>exact q
 | brk=>exact q
 | cont=>exact q
theorem zh_ (h1:PS X st t):PSs X [st] t:=by
 intro pins s σ H D I h
 refine wpAny_execs_cons (thn (h1 pins s σ H D I h) fun f s1 q=>?_)
 cases f with
 | next=>exact wpAny_execs_nil q
 | ret v=>exact q
 | brk=>exact q
 | cont=>exact q
theorem Inv.quiet {pins:Pnn}{σ:St}{H:Hp}{s:Shared}(I:Inv X pins σ H s):interactive X.env=false:=by simp [interactive,I.ok.kind]
def tDrop (te:TE):TS:=fun D σ H=>te σ H fun _ H1=>D.nx σ H1
theorem zbg_ (he:PE X e te) (hs:swapsWith e none pos.line X.env=pure false:=by rfl):PS X (.Expr e pos) (tDrop te):=by
 intro pins s σ H D I h
 exact wpAny_Expr_any (thn (he pins s σ H _ I h) fun v s1 ⟨x,H1,I1,r1,q1⟩=>⟨σ,H1,I1,q1⟩) I.quiet hs
def tRet (te:TE):TS:=fun D σ H=>te σ H D.rt
theorem zP_ (he:PE X e te):PS X (.Return (some e) pos) (tRet te):=by
 intro pins s σ H D I h
 exact wpAny_Return_some (thn (he pins s σ H _ I h) fun v s1 ⟨x,H1,I1,r1,q1⟩=>⟨x,σ,H1,I1,r1,q1⟩)
end
abbrev TG:=V→St→Hp→(St→Hp→Prop)→Prop
abbrev TGs:=List V→St→Hp→(St→Hp→Prop)→Prop
def PG (X:Cx) (target:Expr) (t:TG):Prop :=
 ∀ (pins:Pnn) (s:Shared) (σ:St) (H:Hp) (v:V) (u:Value) (Q:St→Hp→Prop),Inv X pins σ H s→RelV v u→t v σ H Q →
  wpAny (model X.prog X.w) X.A (assign target X.env u) (fun _ s'=>∃ σ' H',Inv X pins σ' H' s'∧Q σ' H') X.xe s
def PGs (X:Cx) (ts:List Expr) (t:TGs):Prop :=
 ∀ (pins:Pnn) (s:Shared) (σ:St) (H:Hp) (vs:List V) (us:List Value) (Q:St→Hp→Prop),Inv X pins σ H s→Vals vs us→t vs σ H Q →
  wpAny (model X.prog X.w) X.A (assignInOrder ((assignEach ts X.env).map (·.2)) us) (fun _ s'=>∃ σ' H',Inv X pins σ' H' s'∧Q σ' H') X.xe s
abbrev TSet:=V→V→V→Hp→(Hp→Prop)→Prop
def PSet (X:Cx) (t:TSet):Prop :=
 ∀ (pins:Pnn) (s:Shared) (σ:St) (H:Hp) (o i v:V) (ov iv u:Value) (Q:Hp→Prop),Inv X pins σ H s→RelV o ov→RelV i iv→RelV v u→t o i v H Q →
  wpAny (model X.prog X.w) X.A (setItem ov iv u) (fun _ s'=>∃ H',Inv X pins σ H' s'∧Q H') X.xe s
section
variable {X:Cx}{pos:Pos}
def gName (i:Nat):TG:=fun v σ H Q=>Q (σ.set i (some v)) H
theorem zln_ {i:Nat}{x:Str}(hN:X.N.Nodup) (hi:X.N[i]?=some x) (hx:Loc X.env.scope x) (hf:X.fn x=true∨X.env.scope.names.lookup x=some .local:=by first | exact .inl rfl | exact .inr rfl | assumption):PG X (.Name x pos) (gName i):=by
 intro pins s σ H v u Q I r h
 exact wpAny_assign_Name (zjo_ I hN hi hx r (fun s' I'=>⟨_,H,I',h⟩) hf)
def gNil:TGs:=fun vs σ H Q=>vs=[]∧Q σ H
def gCons (t:TG) (u:TGs):TGs:=fun vs σ H Q=>∃ v r,vs=v::r∧t v σ H fun σ' H'=>u r σ' H' Q
theorem zoE_:PGs X [] gNil:=by
 intro pins s σ H vs us Q I r h
 obtain ⟨e,h⟩:=h
 subst e
 cases r
 exact assignInOrder_nil ⟨σ,H,I,h⟩
theorem zmw_ {e:Expr}{es:List Expr}{t:TG}{u:TGs}(h1:PG X e t) (h2:PGs X es u)
  (hs:(assignEach (e::es) X.env).map (·.2)=assign e X.env::(assignEach es X.env).map (·.2):=by rfl):PGs X (e::es) (gCons t u):=by
 intro pins s σ H vs us Q I r h
 obtain ⟨v,vr,e1,h⟩:=h
 subst e1
 cases r with
 | cons r rr =>
  rw [hs]
  refine assignInOrder_cons (thn (h1 pins s σ H _ _ _ I r h) fun _ s1 hq_=>?_)
  obtain ⟨σ1,H1,I1,q1⟩:=hq_
  exact h2 pins s1 σ1 H1 _ _ Q I1 rr q1
def gTup (K:Fgg) (n:Nat) (t:TGs):TG:=fun v σ H Q=>∃ a xs,v=.ref a∧SqT K H a xs∧xs.length=n∧t xs σ H Q
theorem zp7_ {es:List Expr}{k:Nat}{t:TGs}{n:Nat}(hc:X.calm=true) (h:PGs X es t)
  (hn:(assignEach es X.env).length=n:=by rfl) (hst:(assignEach es X.env).findIdx? (·.1)=none:=by rfl):PG X (.Tuple es k pos) (gTup X.K n t):=by
 intro pins s σ H v u Q I r hw
 obtain ⟨a,xs,e1,hq,hl,hw⟩:=hw
 subst e1
 cases r
 obtain ⟨its,rv,ht,hz⟩:=I.tuple hq
 refine assign_Tuple_tuple (I.ok.hd hc) ht (by simp [hn,← hl,rv.length]) hst fun h' hx=>?_
 have I1:Inv X pins σ H { s with heap:=h' }:=I.kept (t':=s.toks) fun b o e=>hx b o (Nat.ne_of_lt (Heap.lt_size e)) e
 exact h pins _ σ H xs _ Q I1 (by simpa using rv) hw
def gSub (to ti:TE) (t:TSet):TG:=fun v σ H Q=>to σ H fun o H1=>ti σ H1 fun i H2=>t o i v H2 fun H3=>Q σ H3
theorem zkY_ {o i:Expr}{to ti:TE}{t:TSet}(ho:PE X o to) (hi:PE X i ti) (hs:PSet X t)
  (ha:∀ v,assign (.Subscript o i pos) X.env v=(do
   let ov ← holding [v] (eval o X.env)
   let iv ← holding [v,ov] (eval i X.env)
   standAt pos
   holding [v,ov,iv] (setItem ov iv v)
   release [v,ov,iv] []):=by intro _; rfl):PG X (.Subscript o i pos) (gSub to ti t):=by
 intro pins s σ H v u Q I r h
 rw [ha]
 refine wpAny_bind (wpAny_holding (thn (ho pins s σ H _ I h) fun ov s1 hq_=>?_))
 obtain ⟨x,H1,I1,r1,q1⟩:=hq_
 refine wpAny_bind (wpAny_holding (thn (hi pins s1 σ H1 _ I1 q1) fun iv s2 hq_=>?_))
 obtain ⟨y,H2,I2,r2,q2⟩:=hq_
 refine wpAny_bind (wpAny_standAt (wpAny_bind (wpAny_holding (thn (hs pins s2 σ H2 x y v ov iv u _ I2 r1 r2 r q2) fun _ s3 hq_=>?_))))
 obtain ⟨H3,I3,q3⟩:=hq_
 exact wpAny_release ⟨σ,H3,I3,q3⟩
def tAsg (te:TE) (g:TG):TS:=fun D σ H=>te σ H fun x H1=>g x σ H1 D.nx
theorem zkm_ {tg e:Expr}{te:TE}{g:TG}(he:PE X e te) (hg:PG X tg g) (hs:swapsWithSole [tg] e pos.line X.env=pure false:=by rfl) (hw:swappedStores [tg] e X.env=pure none:=by rfl)
  (h1:(assignEach [tg] X.env).map (·.2)=[assign tg X.env]:=by rfl):PS X (.Assign [tg] e pos) (tAsg te g):=by
 intro pins s σ H D I h
 refine wpAny_Assign_stores (thn (he pins s σ H _ I h) fun v s1 hq_=>?_) hs hw
 obtain ⟨x,H1,I1,r1,q1⟩:=hq_
 rw [h1]
 exact thn (hg pins s1 σ H1 x v _ I1 r1 q1) fun _ s2 q=>q
theorem zpg_ {i:Nat}{x:Str}{e:Expr}{te:TE}{pos':Pos}(hN:X.N.Nodup) (hi:X.N[i]?=some x) (hx:Loc X.env.scope x) (he:PE X e te) (hs:swapsWith e (some (.Name x pos')) pos.line X.env=pure false:=by rfl) (hf:X.fn x=true∨X.env.scope.names.lookup x=some .local:=by first | exact .inl rfl | exact .inr rfl | assumption) :
  PS X (.Assign [.Name x pos'] e pos) (tAsg te (gName i)):=by
 intro pins s σ H D I h
 refine wpAny_Assign_Name (thn (he pins s σ H _ I h) fun v s1 hq_=>?_) hs
 obtain ⟨y,H1,I1,r1,q1⟩:=hq_
 exact zjo_ I1 hN hi hx r1 (fun s2 I2=>⟨_,H1,I2,q1⟩) hf
end
section
variable {X:Cx}{pos:Pos}
end
structure It where
 go:Nat→Hp→Prop
 yld:Nat→Hp→V→Hp→Prop
 stop:Nat→Hp→Prop
def FpOk (X:Cx) (pins:Pnn) (H:Hp) (b:Addr):Prop :=
 H b=none∧b≠X.env.locals∧b∉X.fs∧(b∈X.ex∨X.s₀.heap.objs.size≤b)∧(∀ x c,X.env.cells.lookup x=some c→c≠b)∧∀ p∈X.pn++pins,p.1≠b
theorem Inv.fpOk {X:Cx}{pins:Pnn}{σ:St}{H H':Hp}{s:Shared}{b:Addr}(I:Inv X pins σ H s) (hb:s.heap.objs.size≤b) (hn:H' b=none):FpOk X pins H' b:=by
 refine ⟨hn,Nat.ne_of_gt (Nat.lt_of_lt_of_le I.lt hb),I.nofs hb,.inr (Nat.le_trans I.sz hb),fun x c e z=>?_,fun p hp z=>?_⟩
 ·obtain ⟨v,q⟩:=I.cell x c e
  exact absurd (Nat.lt_of_lt_of_le q.lt (by rw [z]; exact hb)) (Nat.lt_irrefl _)
 ·exact absurd (Nat.lt_of_lt_of_le (Heap.lt_size (I.pin p hp).1) (by rw [z]; exact hb)) (Nat.lt_irrefl _)
structure Turn (P:Program) (w:World) (K:Fgg) (tg:Expr) (J:It) (fp:List Addr) (it:Addr) (tn:Nat→Heap→Prop):Prop where
 mem:it∈fp
 obj:∀ i h,tn i h→∀ b∈fp,∃ o,h.get? b=some o∧∀ v,o.data≠.cell v
 keep:∀ i h h',tn i h→(∀ b∈fp,∀ o,h.get? b=some o→h'.get? b=some o)→tn i h'
 item:∀ (X:Cx),X.prog=P→X.w=w→X.K=K→X.calm=true→∀ (i:Nat) (pins:Pnn) (s:Shared) (σ:St) (H:Hp) (E:Value→Shared→Prop),Inv X pins σ H s→(∀ b∈fp,FpOk X pins H b)→tn i s.heap→J.go i H →
  wpAny (model P w) X.A (pyNext (.ref it)) (fun r s1=>∃ u,r=some u ∧
   wpAny (model P w) X.A (letOwnedTupleGo tg (.ref it) u) (fun _ s2=>∃ x H',Inv X pins σ H' s2∧RelV x u∧J.yld i H x H'∧tn (i+1) s2.heap∧∀ b∈fp,H' b=none) E s1) E s
 done:∀ (X:Cx),X.prog=P→X.w=w→X.K=K→X.calm=true→∀ (i:Nat) (pins:Pnn) (s:Shared) (σ:St) (H:Hp) (E:Value→Shared→Prop),Inv X pins σ H s→(∀ b∈fp,FpOk X pins H b)→tn i s.heap→J.stop i H →
  wpAny (model P w) X.A (pyNext (.ref it)) (fun r s1=>r=none∧Inv X pins σ H s1) E s
 self:∀ (A:Around) (i:Nat) (s:Shared) (Q:Value→Shared→Prop) (E:Value→Shared→Prop),tn i s.heap→Q (.ref it) s→wpAny (model P w) A (pyIter (.ref it)) Q E s
abbrev TI:=St→Hp→(It→Hp→Prop)→Prop
def PIE (X:Cx) (pins:Pnn) (σ:St) (tg:Expr) (R:It→Hp→Prop) (itv:Value) (s2:Shared):Prop :=
 ∃ (it:Addr) (fp:List Addr) (tn:Nat→Heap→Prop) (J:It) (H':Hp),itv=.ref it∧Inv X pins σ H' s2∧Turn X.prog X.w X.K tg J fp it tn∧tn 0 s2.heap∧(∀ b∈fp,FpOk X pins H' b)∧R J H'
def PI (X:Cx) (tg iter:Expr) (wi:TI):Prop :=
 ∀ (pins:Pnn) (s:Shared) (σ:St) (H:Hp) (R:It→Hp→Prop),Inv X pins σ H s→wi σ H R →
  wpAny (model X.prog X.w) X.A (eval iter X.env) (fun v s1=>wpAny (model X.prog X.w) X.A (pyIter v) (PIE X pins σ tg R) X.xe s1) X.xe s
theorem zoR_ {M:Model}{A:Around}{E:Value→Shared→Prop}{s:Shared}{tg:Expr}{it:Addr}{u:Value}{o:Obj}{n:String}{vs:Array Value}{Q:Unit→Shared→Prop}(ho:s.heap.get? it=some o) (hc:o.cls=.type n) (hd:o.data=.fields vs)
  (hn:["enumerate", "zip", "dict_itemiterator", "dict_reverseitemiterator", "odict_iterator", "itertools.zip_longest", "itertools.pairwise"].contains n=false) (hQ:Q () s):wpAny M A (letOwnedTupleGo tg (.ref it) u) Q E s:=by
 unfold letOwnedTupleGo
 cases tg<;>first
  | exact wpAny_pure hQ
  | (cases u<;>first
    | exact wpAny_pure hQ
    | (refine wpAny_bind (wpAny_load ho ?_)
       rw [hc,hd]
       show wpAny M A (if (["enumerate", "zip", "dict_itemiterator", "dict_reverseitemiterator", "odict_iterator", "itertools.zip_longest", "itertools.pairwise"].contains n && vs[0]? == some (rawInt _))=true then _ else _) Q E s
       rw [if_neg (by intro h; rw [hn,Bool.false_and] at h; cases h)]
       exact wpAny_pure hQ))
def Itl (K:Fgg) (a:Addr):It :=
 ⟨fun i H=>∃ xs x,SqL K H a xs∧xs[i]?=some x,fun i H x H'=>H'=H∧∀ xs,SqL K H a xs→xs[i]?=some x,fun i H=>∃ xs,SqL K H a xs∧xs.length≤i⟩
def Itt (K:Fgg) (a:Addr):It :=
 ⟨fun i H=>∃ xs x,SqT K H a xs∧xs[i]?=some x,fun i H x H'=>H'=H∧∀ xs,SqT K H a xs→xs[i]?=some x,fun i H=>∃ xs,SqT K H a xs∧xs.length≤i⟩
def Itr (lo:Int) (n:Nat):It:=⟨fun i _=>i<n,fun i H x H'=>H'=H∧x=.int (lo+i),fun i _=>n≤i⟩
theorem zk2_ {P:Program}{w:World}{K:Fgg}{tg:Expr}(a it:Addr):Turn P w K tg (Itl K a) [it] it (fun i h=>h.IsListIter it a i) where
 mem:=by simp
 obj:=fun i h st b hb=>by
  have e:b=it:=by simpa using hb
  subst e
  obtain ⟨o,e,c,d⟩:=st
  exact ⟨o,e,fun v z=>by rw [d] at z; cases z⟩
 keep:=fun i h h' st k=>st.at fun o e=>k it (by simp) o e
 item:=by
  intro X hP hw hK hc i pins s σ H E I hf st hg
  subst hP hw hK
  obtain ⟨xs,x,hq,hx⟩:=hg
  obtain ⟨its,rv,p,hz⟩:=I.list hq
  obtain ⟨u,hu,ru⟩:=rv.get hx
  obtain ⟨f0,f1,f2,f3,f4,f5⟩:=hf it (by simp)
  refine wpAny_pyNext_list_item st p.isList (x:=u) (by simpa using hu) fun h' st' sb=>?_
  have I1:Inv X pins σ H { s with heap:=h' }:=I.turned (t':=s.toks) (fun b o hb e=>(sb.2 b hb).trans e) f0 f1 f3 f4 f5
  obtain ⟨o,e,c,d⟩:=id st'
  exact ⟨u,rfl,zoR_ (s:={ s with heap:=h' }) e c d (by decide) ⟨x,H,I1,ru,⟨rfl,fun ys hy=>by rw [I.list_inj hy hq]; exact hx⟩,st',fun b hb=>(hf b hb).1⟩⟩
 done:=by
  intro X hP hw hK hc i pins s σ H E I hf st hg
  subst hP hw hK
  obtain ⟨xs,hq,hx⟩:=hg
  obtain ⟨its,rv,p,hz⟩:=I.list hq
  obtain ⟨f0,f1,f2,f3,f4,f5⟩:=hf it (by simp)
  have hl:=rv.length
  exact wpAny_pyNext_list_end (I.ok.hd hc) st p.isList (by simp; lia) fun h' eb=>⟨rfl,I.turned (t':=s.toks) (fun b o hb e=>eb b o hb e) f0 f1 f3 f4 f5⟩
 self:=fun _ _ _ _ _ st h=>wpAny_pyIter_listiter st h
theorem zjf_ {P:Program}{w:World}{K:Fgg}{tg:Expr}(a it:Addr):Turn P w K tg (Itt K a) [it] it (fun i h=>h.IsTupleIter it a i) where
 mem:=by simp
 obj:=fun i h st b hb=>by
  have e:b=it:=by simpa using hb
  subst e
  obtain ⟨o,e,c,d⟩:=st
  exact ⟨o,e,fun v z=>by rw [d] at z; cases z⟩
 keep:=fun i h h' st k=>st.at fun o e=>k it (by simp) o e
 item:=by
  intro X hP hw hK hc i pins s σ H E I hf st hg
  subst hP hw hK
  obtain ⟨xs,x,hq,hx⟩:=hg
  obtain ⟨its,rv,p,hz⟩:=I.tuple hq
  obtain ⟨u,hu,ru⟩:=rv.get hx
  obtain ⟨f0,f1,f2,f3,f4,f5⟩:=hf it (by simp)
  refine wpAny_pyNext_tuple_item st (show s.heap.IsTuple a its.toArray from p) (x:=u) (by simpa using hu) fun h' st' sb=>?_
  have I1:Inv X pins σ H { s with heap:=h' }:=I.turned (t':=s.toks) (fun b o hb e=>(sb.2 b hb).trans e) f0 f1 f3 f4 f5
  obtain ⟨o,e,c,d⟩:=id st'
  exact ⟨u,rfl,zoR_ (s:={ s with heap:=h' }) e c d (by decide) ⟨x,H,I1,ru,⟨rfl,fun ys hy=>by rw [I.tuple_inj hy hq]; exact hx⟩,st',fun b hb=>(hf b hb).1⟩⟩
 done:=by
  intro X hP hw hK hc i pins s σ H E I hf st hg
  subst hP hw hK
  obtain ⟨xs,hq,hx⟩:=hg
  obtain ⟨its,rv,p,hz⟩:=I.tuple hq
  obtain ⟨f0,f1,f2,f3,f4,f5⟩:=hf it (by simp)
  have hl:=rv.length
  exact wpAny_pyNext_tuple_end (I.ok.hd hc) st (show s.heap.IsTuple a its.toArray from p) (by simp; lia) fun h' eb=>⟨rfl,I.turned (t':=s.toks) (fun b o hb e=>eb b o hb e) f0 f1 f3 f4 f5⟩
 self:=fun _ _ _ _ _ st h=>wpAny_pyIter_tupleiter st h
theorem ziS_ {P:Program}{w:World}{K:Fgg}{tg:Expr}(it:Addr) (lo:Int) (n:Nat):Turn P w K tg (Itr lo n) [it] it (fun i h=>IsRangeIter h it (lo+(i:Nat)*1) ((n:Int)-(i:Nat)) 1) where
 mem:=by simp
 obj:=fun i h st b hb=>by
  have e:b=it:=by simpa using hb
  subst e
  exact ⟨_,st,fun v z=>by
   have z':Data.fields _=Data.cell v:=z
   cases z'⟩
 keep:=fun i h h' st k=>k it (by simp) _ st
 item:=by
  intro X hP hw hK hc i pins s σ H E I hf st hg
  subst hP hw hK
  obtain ⟨f0,f1,f2,f3,f4,f5⟩:=hf it (by simp)
  have W:=Walks.range (prog:=X.prog) (w:=X.w) (I.ok.hd hc) it lo 1 n
  refine W.item i s _ _ hg st fun v h' tk hv st' kk=>?_
  obtain ⟨t,rfl⟩:=hv
  have I1:Inv X pins σ H { s with heap:=h',toks:=tk }:=I.turned (fun b o hb e=>kk b o (by simpa using hb) e) f0 f1 f3 f4 f5
  refine ⟨_,rfl,zoR_ (s:={ s with heap:=h',toks:=tk }) (n := "range_iterator") st' rfl rfl (by decide) ⟨.int (lo+i),H,I1,⟨t,?_⟩,⟨rfl,rfl⟩,st',fun b hb=>(hf b hb).1⟩⟩
  rw [Int.mul_one]
 done:=by
  intro X hP hw hK hc i pins s σ H E I hf st hg
  subst hP hw hK
  obtain ⟨f0,f1,f2,f3,f4,f5⟩:=hf it (by simp)
  exact wpAny_pyNext_range_end (I.ok.hd hc) st (by have:n≤i:=hg; lia) fun h' eb=>⟨rfl,I.turned (t':=s.toks) (fun b o hb e=>eb b o hb e) f0 f1 f3 f4 f5⟩
 self:=fun _ _ _ _ _ st h=>wpAny_pyIter_rangeiter st h
end L2
namespace L2
open PySem PySem.Spec PyProof.Rows
section
variable {X:Cx}{tg:Expr}
theorem zl5_ {pins:Pnn}{σ:St}{H:Hp}{s:Shared}{R:It→Hp→Prop}{E:Value→Shared→Prop}{lo hi:Int}{t u v:Tok}{tk:Nat}(I:Inv X pins σ H s) (h1 : -(2 ^ 62)≤lo) (h2:lo<2 ^ 62) (h3 : -(2 ^ 62)≤hi) (h4:hi<2 ^ 62)
  (q:R (Itr lo (hi-lo).toNat) H):wpAny (model X.prog X.w) X.A (pyIter (.ref s.heap.objs.size)) (PIE X pins σ tg R) E { s with heap:=s.heap.push { cls:=.type "range",data:=.fields #[.int lo t,.int hi u,.int 1 v] },toks:=tk }:=by
 refine wpAny_pyIter_range (IsRange.new ..) (small_one h1 h2 h3 h4) ?_
 have I1:Inv X pins σ H { s with heap:=s.heap.push { cls:=.type "range",data:=.fields #[.int lo t,.int hi u,.int 1 v] },toks:=tk }:=I.kept fun b o e=>Heap.get?_push_of_some _ e
 refine ⟨(s.heap.push { cls:=.type "range",data:=.fields #[.int lo t,.int hi u,.int 1 v] }).objs.size,[(s.heap.push { cls:=.type "range",data:=.fields #[.int lo t,.int hi u,.int 1 v] }).objs.size],_,_,H,rfl,
  I1.kept (t':=tk) fun b o e=>Heap.get?_push_of_some _ e,ziS_ _ lo (hi-lo).toNat,?_,fun b hb=>?_,q⟩
 ·have e1:lo+((0:Nat):Int)*1=lo:=by simp
  have e2:(((hi-lo).toNat:Nat):Int)-((0:Nat):Int)=Builtin.Range.rangeSize lo hi 1:=by rw [rangeSize_one]; split<;>omega
  show IsRangeIter _ _ (lo+((0:Nat):Int)*1) ((((hi-lo).toNat:Nat):Int)-((0:Nat):Int)) 1
  rw [e1,e2]
  exact Heap.get?_push_size _ rfl
 ·have e:b=(s.heap.push { cls:=.type "range",data:=.fields #[.int lo t,.int hi u,.int 1 v] }).objs.size:=by simpa using hb
  subst e
  exact I1.fpOk (Nat.le_refl _) (I1.hok.fresh (Nat.le_refl _))
def tFor (wi:TI) (g:TG) (tb:TS):TS:=fun D σ H=>wi σ H fun J H1=>∃ W:Nat→Nat→St→Hp→Prop,(∃ m,W 0 m σ H1)∧∀ i m σ H,W i m σ H →
 (J.stop i H∧D.nx σ H)∨(J.go i H∧∃ N:St→Hp→Prop,(∀ σ' H',N σ' H'→∃ m',m'<m∧W (i+1) m' σ' H')∧∀ x H',J.yld i H x H'→g x σ H' fun σ2 H2=>tb { D with nx:=N,ct:=N,bk:=D.nx } σ2 H2)
def pinsAt (fp:List Addr) (h:Heap):Pnn:=fp.filterMap fun b=>(h.get? b).map fun o=>(b,o)
theorem zcW_ {fp:List Addr}{h:Heap}{b:Addr}{o:Obj}(hb:b∈fp) (e:h.get? b=some o):(b,o)∈pinsAt fp h:=List.mem_filterMap.mpr ⟨b,hb,by rw [e]; rfl⟩
theorem zjY_ {fp:List Addr}{h:Heap}{p:Addr×Obj}(hp:p∈pinsAt fp h):p.1∈fp∧h.get? p.1=some p.2:=by
 obtain ⟨b,hb,e⟩:=List.mem_filterMap.mp hp
 cases q:h.get? b with
 | none=>rw [q] at e; cases e
 | some o =>
  rw [q] at e
  have e':(b,o)=p:=Option.some.inj e
  subst e'
  exact ⟨hb,q⟩
theorem Inv.pinned {pins:Pnn}{σ:St}{H:Hp}{s:Shared}{fp:List Addr}(I:Inv X pins σ H s) (hf:∀ b∈fp,FpOk X pins H b) (ho:∀ b∈fp,∃ o,s.heap.get? b=some o∧∀ v,o.data≠.cell v):Inv X (pins++pinsAt fp s.heap) σ H s :=
 I.pins_of fun p hp=>(List.mem_append.mp hp).elim (fun z=>I.pin p (List.mem_append_right _ z)) fun z=>by
  obtain ⟨hb,e⟩:=zjY_ z
  obtain ⟨f0,f1,f2,_⟩:=hf p.1 hb
  obtain ⟨o,e',d⟩:=ho p.1 hb
  rw [e] at e'; cases e'
  exact ⟨e,f0,f1,f2,d⟩
theorem Inv.unpinned {pins pl:Pnn}{σ:St}{H:Hp}{s:Shared}(I:Inv X (pins++pl) σ H s):Inv X pins σ H s:=I.pins_of fun p hp=>I.pin p (List.mem_append_right _ (List.mem_append_left _ hp))
theorem zbr_ {iter:Expr}{body:List Stmt}{wi:TI}{g:TG}{tb:TS}{pos:Pos}(hp:PassesOwn (model X.prog X.w) X.A X.env X.xe) (hc:X.calm=true) (hi:PI X tg iter wi) (hg:PG X tg g) (hb:PSs X body tb)
  (hs:∀ x,foldedSetIterable iter X.env x=pure x:=by intro _; rfl):PS X (.For tg iter body [] pos) (tFor wi g tb):=by
 intro pins s σ H D I h
 refine wpAny_For (thn (hi pins s σ H _ I h) fun v s1 h1=>thn h1 fun itv s2 h2=>?_) hs
 obtain ⟨it,fp,tn,J,H2,e,I2,T,st2,f2,W,⟨m0,w0⟩,turn⟩:=h2
 subst e
 have stat:∀ {H':Hp},(∀ b∈fp,H' b=none)→∀ b∈fp,FpOk X pins H' b:=fun hn b hb=>⟨hn b hb,(f2 b hb).2⟩
 refine codeAny_forLoop_any (fun n s'=>∃ i σ' H',Inv X pins σ' H' s'∧tn i s'.heap∧(∀ b∈fp,H' b=none)∧W i n σ' H') ?_ m0 ⟨0,σ,H2,I2,st2,fun b hb=>(f2 b hb).1,w0⟩
 rintro n s3 ⟨i,σ3,H3,I3,st3,fr3,w3⟩
 rcases turn i n σ3 H3 w3 with ⟨stop,qn⟩ | ⟨go,N,hN,step⟩
 ·refine wpAny_passesOwn hp (thn (T.done X rfl rfl rfl hc i pins s3 σ3 H3 X.xe I3 (stat fr3) st3 stop) fun r s4 hq_=>?_)
  obtain ⟨hr,I4⟩:=hq_
  subst hr
  exact wpAny_execs_nil ⟨σ3,H3,I4,qn⟩
 ·refine wpAny_passesOwn hp (thn (T.item X rfl rfl rfl hc i pins s3 σ3 H3 X.xe I3 (stat fr3) st3 go) fun r s4 hq_=>?_)
  obtain ⟨u,hr,h4⟩:=hq_
  subst hr
  refine wpAny_passesOwn hp (thn h4 fun _ s5 hq_=>?_)
  obtain ⟨x,H5,I5,r5,y5,st5,fr5⟩:=hq_
  have I5':=I5.pinned (stat fr5) (T.obj _ _ st5)
  refine wpAny_passesOwn hp (thn (hg _ s5 σ3 H5 x u _ I5' r5 (step x H5 y5)) fun _ s6 hq_=>?_)
  obtain ⟨σ6,H6,I6,q6⟩:=hq_
  refine wpAny_passesOwn hp (thn (hb _ s6 σ6 H6 _ I6 q6) fun f s7 q7=>?_)
  have again:∀ {σ7:St}{H7:Hp},Inv X (pins++pinsAt fp s5.heap) σ7 H7 s7→N σ7 H7→∃ m,m<n∧∃ i σ' H',Inv X pins σ' H' s7∧tn i s7.heap∧(∀ b∈fp,H' b=none)∧W i m σ' H':=fun {σ7 H7} I7 n7=>by
   obtain ⟨m',hm,w7⟩:=hN σ7 H7 n7
   refine ⟨m',hm,i+1,σ7,H7,I7.unpinned,T.keep _ _ _ st5 fun b hb o e=>(I7.pin (b,o) (List.mem_append_right _ (List.mem_append_right _ (zcW_ hb e)))).1,fun b hb=>?_,w7⟩
   obtain ⟨o,e,d⟩:=T.obj _ _ st5 b hb
   exact (I7.pin (b,o) (List.mem_append_right _ (List.mem_append_right _ (zcW_ hb e)))).2.1
  cases f with
  | next=>obtain ⟨σ7,H7,I7,n7⟩:=q7; exact again I7 n7
  | cont=>obtain ⟨σ7,H7,I7,n7⟩:=q7; exact again I7 n7
  | brk=>obtain ⟨σ7,H7,I7,q7⟩:=q7; exact ⟨σ7,H7,I7.unpinned,q7⟩
  | ret v=>obtain ⟨x7,σ7,H7,I7,r7,q7⟩:=q7; exact ⟨x7,σ7,H7,I7.unpinned,r7,q7⟩
end
end L2
namespace L2
open PySem PySem.Spec PyProof.Rows
abbrev R2:=V→V→Hp→VK→Prop
def OpR (X:Cx) (f:Value→Value→Sem Value) (r:R2):Prop :=
 ∀ (pins:Pnn) (s:Shared) (σ:St) (H:Hp) (x y:V) (v u:Value) (Q:VK),Inv X pins σ H s→RelV x v→RelV y u→r x y H Q →
  wpAny (model X.prog X.w) X.A (f v u) (EP X pins σ Q) X.xe s
def UnR (X:Cx) (f:Value→Sem Value) (r:V→Hp→VK→Prop):Prop :=
 ∀ (pins:Pnn) (s:Shared) (σ:St) (H:Hp) (x:V) (v:Value) (Q:VK),Inv X pins σ H s→RelV x v→r x H Q →
  wpAny (model X.prog X.w) X.A (f v) (EP X pins σ Q) X.xe s
def CallR (X:Cx) (f:Value) (r:List V→Hp→VK→Prop):Prop :=
 ∀ (pins:Pnn) (s:Shared) (σ:St) (H:Hp) (xs:List V) (us:List Value) (Q:VK),Inv X pins σ H s→Vals xs us→r xs H Q →
  wpAny (model X.prog X.w) X.A (call f us) (EP X pins σ Q) X.xe s
def tOp (r:R2) (ta tb:TE):TE:=fun σ H Q=>ta σ H fun x H1=>tb σ H1 fun y H2=>r x y H2 Q
def tUn (r:V→Hp→VK→Prop) (ta:TE):TE:=fun σ H Q=>ta σ H fun x H1=>r x H1 Q
def rI (C:Int→Int→Prop) (g:Int→Int→V):R2:=fun x y H Q=>∃ i j,x=.int i∧y=.int j∧C i j∧Q (g i j) H
def rI0 (g:Int→Int→V):R2:=fun x y H Q=>∃ i j,x=.int i∧y=.int j∧Q (g i j) H
def rU (g:Int→V):V→Hp→VK→Prop:=fun x H Q=>∃ i,x=.int i∧Q (g i) H
section
variable {X:Cx}{a b c:Expr}{ta tb tc:TE}{pos:Pos}
theorem binT (ha:PE X a ta) (hb:PE X b tb) {pins:Pnn}{s:Shared}{σ:St}{H:Hp}{R:V→V→Hp→Prop}(I:Inv X pins σ H s)
  (h:ta σ H fun x H1=>tb σ H1 fun y H2=>R x y H2) {Q:Value→Shared→Prop}{f:Value→Value→Sem Value}
  (hf:∀ v u s2 x y H2,Inv X pins σ H2 s2→RelV x v→RelV y u→R x y H2→wpAny (model X.prog X.w) X.A (f v u) Q X.xe s2) :
  wpAny (model X.prog X.w) X.A (eval a X.env) (fun v s₁=>wpAny (model X.prog X.w) X.A (eval b X.env) (fun u s₂=>wpAny (model X.prog X.w) X.A (f v u) Q X.xe s₂) X.xe s₁) X.xe s:=by
 refine thn (ha pins s σ H _ I h) fun v s1 hq_=>?_
 obtain ⟨x,H1,I1,r1,q1⟩:=hq_
 refine thn (hb pins s1 σ H1 _ I1 q1) fun u s2 hq_=>?_
 obtain ⟨y,H2,I2,r2,q2⟩:=hq_
 exact hf v u s2 x y H2 I2 r1 r2 q2
theorem zR_ {op:Operator}{r:R2}(ho:OpR X (binaryOp op) r) (ha:PE X a ta) (hb:PE X b tb):PE X (.BinOp a op b pos) (tOp r ta tb):=by
 intro pins s σ H Q I h
 exact wpAny_BinOp (binT ha hb I h fun v u s2 x y H2 I2 rx ry q=>ho pins s2 σ H2 x y v u Q I2 rx ry q)
theorem opI {f:Value→Value→Sem Value}{C:Int→Int→Prop}{g:Int→Int→Int}
  (rule:∀ (i j:Int) (t u:Tok) (s:Shared) (Q:Value→Shared→Prop) (E:Value→Shared→Prop),C i j→Q (.int (g i j) s.toks) { s with toks:=s.toks+1 }→wpAny (model X.prog X.w) X.A (f (.int i t) (.int j u)) Q E s) :
  OpR X f (rI C fun i j=>.int (g i j)):=by
 intro pins s σ H x y v u Q I rx ry h
 obtain ⟨i,j,rfl,rfl,hc,q⟩:=h
 obtain ⟨t,rfl⟩:=rx
 obtain ⟨t',rfl⟩:=ry
 exact rule i j t t' s _ _ hc ⟨.int (g i j),H,I.tok _,⟨_,rfl⟩,q⟩
theorem opI0 {f:Value→Value→Sem Value}{g:Int→Int→Int}
  (rule:∀ (i j:Int) (t u:Tok) (s:Shared) (Q:Value→Shared→Prop) (E:Value→Shared→Prop),Q (.int (g i j) s.toks) { s with toks:=s.toks+1 }→wpAny (model X.prog X.w) X.A (f (.int i t) (.int j u)) Q E s) :
  OpR X f (rI0 fun i j=>.int (g i j)):=by
 intro pins s σ H x y v u Q I rx ry h
 obtain ⟨i,j,rfl,rfl,q⟩:=h
 obtain ⟨t,rfl⟩:=rx
 obtain ⟨t',rfl⟩:=ry
 exact rule i j t t' s _ _ ⟨.int (g i j),H,I.tok _,⟨_,rfl⟩,q⟩
theorem opB0 {f:Value→Value→Sem Value}{g:Int→Int→Bool}
  (rule:∀ (i j:Int) (t u:Tok) (s:Shared) (Q:Value→Shared→Prop) (E:Value→Shared→Prop),Q (.bool (g i j)) s→wpAny (model X.prog X.w) X.A (f (.int i t) (.int j u)) Q E s) :
  OpR X f (rI0 fun i j=>.bl (g i j)):=by
 intro pins s σ H x y v u Q I rx ry h
 obtain ⟨i,j,rfl,rfl,q⟩:=h
 obtain ⟨t,rfl⟩:=rx
 obtain ⟨t',rfl⟩:=ry
 exact rule i j t t' s _ _ ⟨.bl (g i j),H,I,rfl,q⟩
def CDiv (i j:Int):Prop:=0<j∧j<1073741824
def CPow (i j:Int):Prop:=0≤j∧j≤1000000∧i.natAbs<2 ^ 64
def CMul (i j:Int):Prop:=(-(2 ^ 64)<i∧i<2 ^ 64)∨(-(2 ^ 64)<j∧j<2 ^ 64)
theorem CMul.ok {i j:Int}(h:CMul i j):IntMulOk i j:=by
 rcases h with ⟨h1,h2⟩ | ⟨h1,h2⟩
 ·exact .of_left (intBits_le_64 h1 h2)
 ·exact .of_right (intBits_le_64 h1 h2)
theorem zpR_:OpR X (binaryOp .Add) (rI0 fun i j=>.int (i+j)):=opI0 fun _ _ _ _ _ _ _ q=>add_int q
theorem zp3_:OpR X (binaryOp .Sub) (rI0 fun i j=>.int (i-j)):=opI0 fun _ _ _ _ _ _ _ q=>sub_int q
theorem zo8_:OpR X (binaryOp .Mod) (rI (fun _ j=>0<j) fun i j=>.int (i % j)):=opI fun i j _ _ _ _ _ hc q=>by
 have h1:(0:Int)<j:=hc
 exact mod_int' (by lia) (by rw [Int.fmod_eq_emod_of_nonneg i (by lia)]; exact q)
theorem unI {f:Value→Sem Value}{g:Int→Int}
  (rule:∀ (i:Int) (t:Tok) (s:Shared) (Q:Value→Shared→Prop) (E:Value→Shared→Prop),Q (.int (g i) s.toks) { s with toks:=s.toks+1 }→wpAny (model X.prog X.w) X.A (f (.int i t)) Q E s) :
  UnR X f (rU fun i=>.int (g i)):=by
 intro pins s σ H x v Q I rx h
 obtain ⟨i,rfl,q⟩:=h
 obtain ⟨t,rfl⟩:=rx
 exact rule i t s _ _ ⟨.int (g i),H,I.tok _,⟨_,rfl⟩,q⟩
theorem zo9_:UnR X (unaryOp .USub) (rU fun i=>.int (-i)):=unI fun _ _ _ _ _ q=>neg_int q
end
def scal:V→V→Bool
 | .non,.non=>true | .non,.int _=>true | .int _,.non=>true | .non,.bl _=>true | .bl _,.non=>true | .non,.str _=>true | .str _,.non=>true
 | .int _,.int _=>true | .bl _,.bl _=>true | .str _,.str _=>true | .byt _,.byt _=>true
 | .int _,.str _=>true | .str _,.int _=>true | .bl _,.str _=>true | .str _,.bl _=>true
 | _,_=>false
def rEq:R2:=fun x y H Q=>scal x y=true∧Q (.bl (decide (x=y))) H
def rNe:R2:=fun x y H Q=>scal x y=true∧Q (.bl (!decide (x=y))) H
theorem zlv_ {i j:Int}:decide (V.int i=V.int j)=(i == j):=by
 rw [Bool.eq_iff_iff]
 simp
theorem zn9_ {i j:Bool}:decide (V.bl i=V.bl j)=(i == j):=by
 rw [Bool.eq_iff_iff]
 simp
theorem zlg_ {i j:Str}:decide (V.str i=V.str j)=(i == j):=by
 rw [Bool.eq_iff_iff]
 simp
theorem zk9_ {i j:Array UInt8}:decide (V.byt i=V.byt j)=(i.toList == j.toList):=by
 rw [Bool.eq_iff_iff]
 cases i
 cases j
 simp
section
variable {X:Cx}{a b c:Expr}{ta tb tc:TE}{pos:Pos}
theorem zag_ {pins:Pnn}{σ:St}{H:Hp}{s:Shared}{Q:VK}{k k':Bool}(I:Inv X pins σ H s) (q:Q (.bl k) H) (e:k=k'):EP X pins σ Q (.bool k') s:=by
 subst e
 exact ⟨.bl k,H,I,rfl,q⟩
theorem op_eq:OpR X (compareOp .Eq) rEq:=by
 intro pins s σ H x y v u Q I rx ry h
 obtain ⟨hs,q⟩:=h
 cases x with
 | non =>
  cases rx
  cases y with
  | non=>cases ry; exact PySem.EqNone.eq_none_none (zag_ I q (by simp))
  | bl j=>cases ry; exact PySem.EqNone.eq_none_bool (zag_ I q (by simp))
  | int j=>obtain ⟨t',rfl⟩:=ry; exact PySem.EqNone.eq_none_int (zag_ I q (by simp))
  | str j=>obtain ⟨t',rfl⟩:=ry; exact PySem.EqNone.eq_none_str (zag_ I q (by simp))
  | _=>exact absurd (show false=true from hs) Bool.false_ne_true
 | bl i =>
  cases rx
  cases y with
  | non=>cases ry; exact PySem.EqNone.eq_bool_none (zag_ I q (by simp))
  | bl j=>cases ry; exact eq_bool (zag_ I q zn9_)
  | str j=>obtain ⟨t',rfl⟩:=ry; exact PySem.EqMixed.eq_bool_str (zag_ I q (by simp))
  | _=>exact absurd (show false=true from hs) Bool.false_ne_true
 | int i =>
  obtain ⟨t,rfl⟩:=rx
  cases y with
  | non=>cases ry; exact PySem.EqNone.eq_int_none (zag_ I q (by simp))
  | int j=>obtain ⟨t',rfl⟩:=ry; exact eq_int (zag_ I q zlv_)
  | str j=>obtain ⟨t',rfl⟩:=ry; exact PySem.EqMixed.eq_int_str (zag_ I q (by simp))
  | _=>exact absurd (show false=true from hs) Bool.false_ne_true
 | str i =>
  obtain ⟨t,rfl⟩:=rx
  cases y with
  | non=>cases ry; exact PySem.EqNone.eq_str_none (zag_ I q (by simp))
  | bl j=>cases ry; exact PySem.EqMixed.eq_str_bool (zag_ I q (by simp))
  | int j=>obtain ⟨t',rfl⟩:=ry; exact PySem.EqMixed.eq_str_int (zag_ I q (by simp))
  | str j=>obtain ⟨t',rfl⟩:=ry; exact eq_str (zag_ I q zlg_)
  | _=>exact absurd (show false=true from hs) Bool.false_ne_true
 | byt i =>
  obtain ⟨t,rfl⟩:=rx
  cases y with
  | byt j=>obtain ⟨t',rfl⟩:=ry; exact PySem.W.eq_bytes (zag_ I q zk9_)
  | _=>exact absurd (show false=true from hs) Bool.false_ne_true
 | _=>cases y<;>exact absurd (show false=true from hs) Bool.false_ne_true
theorem op_ne:OpR X (compareOp .NotEq) rNe:=by
 intro pins s σ H x y v u Q I rx ry h
 obtain ⟨hs,q⟩:=h
 cases x with
 | non =>
  cases rx
  cases y with
  | non=>cases ry; exact PySem.EqNone.ne_none_none (zag_ I q (by simp))
  | bl j=>cases ry; exact PySem.EqNone.ne_none_bool (zag_ I q (by simp))
  | int j=>obtain ⟨t',rfl⟩:=ry; exact PySem.EqNone.ne_none_int (zag_ I q (by simp))
  | str j=>obtain ⟨t',rfl⟩:=ry; exact PySem.EqNone.ne_none_str (zag_ I q (by simp))
  | _=>exact absurd (show false=true from hs) Bool.false_ne_true
 | bl i =>
  cases rx
  cases y with
  | non=>cases ry; exact PySem.EqNone.ne_bool_none (zag_ I q (by simp))
  | bl j=>cases ry; exact ne_bool (zag_ I q (congrArg not zn9_))
  | str j=>obtain ⟨t',rfl⟩:=ry; exact PySem.EqMixed.ne_bool_str (zag_ I q (by simp))
  | _=>exact absurd (show false=true from hs) Bool.false_ne_true
 | int i =>
  obtain ⟨t,rfl⟩:=rx
  cases y with
  | non=>cases ry; exact PySem.EqNone.ne_int_none (zag_ I q (by simp))
  | int j=>obtain ⟨t',rfl⟩:=ry; exact ne_int (zag_ I q (congrArg not zlv_))
  | str j=>obtain ⟨t',rfl⟩:=ry; exact PySem.EqMixed.ne_int_str (zag_ I q (by simp))
  | _=>exact absurd (show false=true from hs) Bool.false_ne_true
 | str i =>
  obtain ⟨t,rfl⟩:=rx
  cases y with
  | non=>cases ry; exact PySem.EqNone.ne_str_none (zag_ I q (by simp))
  | bl j=>cases ry; exact PySem.EqMixed.ne_str_bool (zag_ I q (by simp))
  | int j=>obtain ⟨t',rfl⟩:=ry; exact PySem.EqMixed.ne_str_int (zag_ I q (by simp))
  | str j=>obtain ⟨t',rfl⟩:=ry; exact ne_str (zag_ I q (congrArg not zlg_))
  | _=>exact absurd (show false=true from hs) Bool.false_ne_true
 | byt i =>
  obtain ⟨t,rfl⟩:=rx
  cases y with
  | byt j=>obtain ⟨t',rfl⟩:=ry; exact PySem.W.ne_bytes (zag_ I q (congrArg not zk9_))
  | _=>exact absurd (show false=true from hs) Bool.false_ne_true
 | _=>cases y<;>exact absurd (show false=true from hs) Bool.false_ne_true
theorem op_lt:OpR X (compareOp .Lt) (rI0 fun i j=>.bl (decide (i<j))):=opB0 fun _ _ _ _ _ _ _ q=>lt_int q
theorem op_gt:OpR X (compareOp .Gt) (rI0 fun i j=>.bl (decide (j<i))):=opB0 fun _ _ _ _ _ _ _ q=>gt_int q
theorem op_ge:OpR X (compareOp .GtE) (rI0 fun i j=>.bl (decide (j≤i))):=opB0 fun _ _ _ _ _ _ _ q=>ge_int q
theorem zk5_:OpR X (compareOp .In) (fun x y H Q=>∃ i j,x=.str i∧y=.str j∧Q (.bl (!(Builtin.Str.occurrences j i 0 j.length 1).isEmpty)) H):=by
 intro pins s σ H x y v u Q I rx ry h
 obtain ⟨i,j,rfl,rfl,q⟩:=h
 obtain ⟨t,rfl⟩:=rx
 obtain ⟨t',rfl⟩:=ry
 exact in_str (zag_ I q rfl)
theorem zp0_:OpR X (compareOp .Is) (fun x y H Q=>y=.non∧Q (.bl (decide (x=.non))) H):=by
 intro pins s σ H x y v u Q I rx ry h
 obtain ⟨rfl,q⟩:=h
 cases ry
 refine is_none_gen (zag_ I q ?_)
 cases x<;>first
  | (cases rx; rfl)
  | (obtain ⟨t,rfl⟩:=rx; rfl)
theorem znB_:OpR X (compareOp .IsNot) (fun x y H Q=>y=.non∧Q (.bl (!decide (x=.non))) H):=by
 intro pins s σ H x y v u Q I rx ry h
 obtain ⟨rfl,q⟩:=h
 cases ry
 refine isnot_none_gen (zag_ I q ?_)
 cases x<;>first
  | (cases rx; rfl)
  | (obtain ⟨t,rfl⟩:=rx; rfl)
theorem zm8_ {op:CmpOp}{r:R2}(ho:OpR X (compareOp op) r) (ha:PE X a ta) (hb:PE X b tb) (hm:behindInMarks op b=false):PE X (.Compare a [op] [b] pos) (tOp r ta tb):=by
 intro pins s σ H Q I h
 exact wpAny_Compare1 (binT ha hb I h fun v u s2 x y H2 I2 rx ry q=>ho pins s2 σ H2 x y v u Q I2 rx ry q) hm
theorem line63:(sizeLine:Nat)<2 ^ 63:=by rw [sizeLine_eq]; decide
theorem ziE_:OpR X (binaryOp .Add) (fun x y H Q=>∃ i j,x=.str i∧y=.str j∧i.length+j.length≤sizeLine∧Q (.str (i++j)) H):=by
 intro pins s σ H x y v u Q I rx ry h
 obtain ⟨i,j,rfl,rfl,hz,q⟩:=h
 obtain ⟨t,rfl⟩:=rx
 obtain ⟨t',rfl⟩:=ry
 exact add_str (fun t' tk=>⟨.str (i++j),H,I.tok _,⟨_,rfl⟩,q⟩) hz
theorem vals1 {x:V}{us:List Value}(r:Vals [x] us):∃ u,us=[u]∧RelV x u:=by
 cases r with
 | cons r1 r2=>cases r2; exact ⟨_,rfl,r1⟩
theorem vals2 {x y:V}{us:List Value}(r:Vals [x,y] us):∃ u w',us=[u,w']∧RelV x u∧RelV y w':=by
 cases r with
 | cons r1 r2 =>
  cases r2 with
  | cons r3 r4=>cases r4; exact ⟨_,_,rfl,r1,r3⟩
theorem zjZ_ (hc:X.calm=true):CallR X (.builtin "max") (fun xs H Q=>∃ i j,xs=[.int i,.int j]∧Q (.int (if j > i then j else i)) H):=by
 intro pins s σ H xs us Q I r h
 obtain ⟨i,j,rfl,q⟩:=h
 obtain ⟨u,w',rfl,⟨t,rfl⟩,⟨t',rfl⟩⟩:=vals2 r
 refine max_two_ints (I.ok.hd hc) fun h' tk k=>⟨_,H,I.kept k,?_,q⟩
 by_cases hj:j > i
 ·rw [if_pos hj,if_pos hj]; exact ⟨_,rfl⟩
 ·rw [if_neg hj,if_neg hj]; exact ⟨_,rfl⟩
theorem zkA_ (hc:X.calm=true):CallR X (.builtin "min") (fun xs H Q=>∃ i j,xs=[.int i,.int j]∧Q (.int (if j<i then j else i)) H):=by
 intro pins s σ H xs us Q I r h
 obtain ⟨i,j,rfl,q⟩:=h
 obtain ⟨u,w',rfl,⟨t,rfl⟩,⟨t',rfl⟩⟩:=vals2 r
 refine min_two_ints (I.ok.hd hc) fun h' tk k=>⟨_,H,I.kept k,?_,q⟩
 by_cases hj:j<i
 ·rw [if_pos hj,if_pos hj]; exact ⟨_,rfl⟩
 ·rw [if_neg hj,if_neg hj]; exact ⟨_,rfl⟩
theorem zgj_:CallR X (.type "str") (fun xs H Q=>∃ i,xs=[.int i]∧i.natAbs.log2<1920∧Q (.str (toString i)) H):=by
 intro pins s σ H xs us Q I r h
 obtain ⟨i,rfl,hz,q⟩:=h
 obtain ⟨u,rfl,t,rfl⟩:=vals1 r
 exact PySem.P.str_of_int hz ⟨.str _,H,I.tok _,⟨_,rfl⟩,q⟩
end
end L2
namespace L2
open PySem PySem.Spec PyProof.Rows
structure ObjM (h:Heap) (x dx C:Addr) (mA:Str→Option Value):Prop where
 obj:h.get? x=some (PySem.W.instObj C dx)
 ns:h.Ns1 dx mA
 ne:dx≠x
theorem zkW_ {h:Heap}{dx:Addr}{mA:Str→Option Value}(n:h.Ns1 dx mA):∃ od,h.get? dx=some od∧∀ name,PySem.W.lookIn name od=some (mA name):=by
 obtain ⟨o,es,ep,ho,hd,hk,_,hm⟩:=n
 refine ⟨o,ho,fun name=>?_⟩
 have e:=hm name
 unfold nsFind findBy at e
 rw [← Array.find?_toList] at e
 unfold PySem.W.lookIn
 rw [hd]
 dsimp only
 split
 ·rename_i y q
  rw [q] at e
  exact congrArg some e
 ·rename_i q
  rw [q] at e
  have a:es.toList.any (·.refKey)=false:=by
   rw [List.any_eq_false]
   intro y hy
   obtain ⟨z,t,hkey⟩:=hk y (Array.mem_toList_iff.mp hy)
   simp [DictEntry.refKey,hkey]
  have a':¬ es.toList.any (·.refKey)=true:=by rw [a]; exact Bool.false_ne_true
  rw [if_neg a']
  exact congrArg some e
theorem ObjM.look {h:Heap}{x dx C:Addr}{mA:Str→Option Value}(I:ObjM h x dx C mA):∃ od,PySem.W.InstAt h x (PySem.W.instObj C dx) C (some od)∧∀ name,PySem.W.lookIn name od=some (mA name) :=
 let ⟨od,ho,hl⟩:=zkW_ I.ns
 ⟨od,⟨I.obj,rfl,rfl,ho⟩,hl⟩
section
variable {prog:Program}{w:World}{A:Around}{E:Value→Shared→Prop}{s:Shared}{K:Fgg}{x dx C f:Addr}{mA:Str→Option Value}{name:Str}{v:Value}
theorem zot_ {expr:Bool}{Q:Value→Shared→Prop}(X:K.In s.heap) (I:ObjM s.heap x dx C mA) (hg:PySem.W.plainGet K C name=true) (hh:PySem.W.hasDictIn K C=true)
  (ha:PySem.W.findIn K (.ref C) name=some none) (hv:mA name=some v) (hv':PySem.W.handedIn v=true) (h:Q v { s with toks:=s.toks+1 }) :
  wpAny (model prog w) A (getAttr (.ref x) name expr) Q E s:=by
 obtain ⟨od,J,hl⟩:=I.look
 exact PySem.W.get_value X J (PySem.W.plainGet_of hg).1 (PySem.W.findObj_own hh ha rfl (by rw [hl,hv])) hv' h
theorem zmS_ {pl:Sem Bool}{Q:Value×List Value→Shared→Prop}(X:K.In s.heap) (I:ObjM s.heap x dx C mA) (hg:PySem.W.plainGet K C name=true)
  (hf:PySem.W.findIn K (.ref C) name=some (some (.ref f))) (ht:PySem.W.isFn K (.ref f)=true) (hv:mA name=none) (h:Q (.ref f,[.ref x]) s) :
  wpAny (model prog w) A (getMethod (.ref x) name pl) Q E s:=by
 obtain ⟨od,J,hl⟩:=I.look
 exact PySem.W.method_fn X J (PySem.W.plainGet_of hg).1 (PySem.W.plainGet_of hg).2 hf (beq_iff_eq.mp ht) (by show (PySem.W.lookIn name od).map (·.isSome)=some false; rw [hl,hv]; rfl) h
theorem zm7_ {ns:List Str}{Q:Unit→Shared→Prop}(X:K.In s.heap) (I:ObjM s.heap x dx C mA)
  (hs:PySem.W.findIn K (.ref C) "__setattr__" = some (some (.builtin "object.__setattr__"))) (hp:PySem.W.plainOver K C=true) (ht:PySem.W.takerIn K C name=some none) (hh:PySem.W.hasDictIn K C=true)
  (hw:PySem.Within mA ns) (hsz:ns.length≤sizeLine)
  (h:∀ h',ObjM h' x dx C (fun y=>if y=name then some v else mA y)→Heap.SameBut dx s.heap h'→Q () { s with heap:=h',toks:=s.toks+2 }) :
  wpAny (model prog w) A (setAttr (.ref x) name v) Q E s:=by
 obtain ⟨od,J,hl⟩:=I.look
 refine PySem.W.set_plain X J hs (PySem.W.osa_open (s:={ s with toks:=s.toks+1 }) (r:=none) X J hp ht fun b=>?_)
 obtain ⟨cd,hc,hd'⟩:=PySem.W.any_some hh
 have hx:s.heap.get? x=some ⟨.ref C,some dx,.plain,#[]⟩:=I.obj
 refine wpAny_bind (wpAny_pure (wpAny_bind (wpAny_bind (wpAny_loadPart hx (wpAny_bind (PySem.W.Looks.here (s:={ s with toks:=s.toks+1 }) (PySem.W.looks_clsIn X hc) ?_))))))
 rw [hd']
 refine wpAny_pure (a:=some dx) (wpAny_bind (wpAny_pure (wpAny_bind ?_)))
 refine wpAny_nsSet1 (s:={ s with toks:=s.toks+1 }) I.ns fun h' hn2 hs2=>?_
 obtain ⟨oD,esD,epD,hoD,hdD,hcD⟩:=hn2.count (PySem.Within.cons name v hw)
 refine wpAny_bind (wpAny_lookBehind hoD (by rw [hdD]; exact pastItsLine_dict (Nat.le_trans hcD (by rw [List.length_cons]; lia))) ?_)
 exact wpAny_pure (h _ ⟨(hs2.2 _ (Ne.symm I.ne)).trans I.obj,hn2,I.ne⟩ hs2)
theorem zlN_ {R:Result→Shared→Prop}{vs:List Value}{kw:List (Str×Value)}(X:K.In s.heap) (hm:PySem.W.makesIn K C=true)
  (hi:PySem.W.findIn K (.ref C) "__init__" = some (some (.ref f))) (hf:PySem.W.typeIn K (.ref f)=some (.type "function"))
  (h:codeAny (model prog w) (A.under (.builtin "type.__call__" ⟨.ref C::vs,kw⟩)) (.call (.ref f) ⟨.ref (s.heap.objs.size+1)::vs,kw⟩) (PySem.W.InitBack (s.heap.objs.size+1) R)
   { s with heap:=(s.heap.push PySem.W.emptyDict).push (PySem.W.instObj C s.heap.objs.size) }) :
  codeAny (model prog w) A (.call (.ref C) ⟨vs,kw⟩) R s:=by
 obtain ⟨hh,g,d,t,os⟩:=s
 exact PySem.W.make_core (PySem.W.makes_of X hm) (PySem.W.looks_findIn X hi) (fun self=>PySem.W.bind_fn X self hf) (.inl rfl) h
end
def putF (f:Str) (v:V):List (Str×V)→List (Str×V)
 | []=>[(f,v)]
 | (g,x)::r=>if g=f then (g,v)::r else (g,x)::putF f v r
theorem zeB_ (f g:Str) (v:V):∀ fs:List (Str×V),(putF f v fs).lookup g=if g=f then some v else fs.lookup g
 | []=>by
  show List.lookup g [(f,v)]=_
  by_cases h:g=f
  ·have hb:(g == f)=true:=beq_iff_eq.mpr h
   simp only [List.lookup,hb,if_pos h]
  ·have hb:(g == f)=false:=beq_eq_false_iff_ne.mpr h
   simp only [List.lookup,hb,if_neg h]
 | (k,x)::r=>by
  have ih:=zeB_ f g v r
  rw [show putF f v ((k,x)::r)=(if k=f then (k,v)::r else (k,x)::putF f v r) from rfl]
  by_cases hk:k=f
  ·rw [if_pos hk]
   by_cases h:g=k
   ·have hb:(g == k)=true:=beq_iff_eq.mpr h
    simp only [List.lookup,hb,if_pos (h.trans hk)]
   ·have hb:(g == k)=false:=beq_eq_false_iff_ne.mpr h
    simp only [List.lookup,hb,if_neg (fun e:g=f=>h (e.trans hk.symm))]
  ·rw [if_neg hk]
   by_cases h:g=k
   ·have hb:(g == k)=true:=beq_iff_eq.mpr h
    simp only [List.lookup,hb,if_neg (fun e:g=f=>hk (h.symm.trans e))]
   ·have hb:(g == k)=false:=beq_eq_false_iff_ne.mpr h
    simp only [List.lookup,hb]
    exact ih
theorem zff_ (f:Str) (v:V):∀ fs:List (Str×V),f∈(putF f v fs).map (·.1)∧∀ g,g∈fs.map (·.1)→g∈(putF f v fs).map (·.1)
 | []=>⟨by simp [putF],fun g h=>by simp at h⟩
 | (k,x)::r=>by
  obtain ⟨i1,i2⟩:=zff_ f v r
  rw [show putF f v ((k,x)::r)=(if k=f then (k,v)::r else (k,x)::putF f v r) from rfl]
  by_cases hk:k=f
  ·rw [if_pos hk]
   subst hk
   exact ⟨by simp,fun g h=>by simpa using h⟩
  ·rw [if_neg hk]
   refine ⟨?_,fun g h=>?_⟩
   ·rw [List.map_cons]
    exact List.mem_cons_of_mem _ i1
   ·rw [List.map_cons] at h ⊢
    rcases List.mem_cons.mp h with e | e
    ·exact List.mem_cons.mpr (.inl e)
    ·exact List.mem_cons_of_mem _ (i2 g e)
theorem zeC_ (f:Str) (v:V):∀ fs:List (Str×V),(putF f v fs).length≤fs.length+1
 | []=>by simp [putF]
 | (k,x)::r=>by
  have ih:=zeC_ f v r
  rw [show putF f v ((k,x)::r)=(if k=f then (k,v)::r else (k,x)::putF f v r) from rfl]
  by_cases hk:k=f
  ·rw [if_pos hk,List.length_cons,List.length_cons]; lia
  ·rw [if_neg hk,List.length_cons,List.length_cons]; lia
theorem RelO.some_of {v:V}{o:Option Value}(r:RelO (some v) o):∃ u,o=some u∧RelV v u:=by
 cases o with
 | none=>exact (show False from r).elim
 | some u=>exact ⟨u,rfl,r⟩
theorem RelO.none_of {o:Option Value}(r:RelO none o):o=none:=by
 cases o with
 | none=>rfl
 | some u=>exact (show False from r).elim
theorem zkf_ {v:V}{u:Value}(r:RelV v u):PySem.W.handedIn u=true:=by
 cases v with
 | non=>cases (show u=Value.none from r); rfl
 | bl b=>cases (show u=Value.bool b from r); rfl
 | int i=>obtain ⟨t,e⟩:=(show ∃ t,u=Value.int i t from r); cases e; rfl
 | str x=>obtain ⟨t,e⟩:=(show ∃ t,u=Value.str x t from r); cases e; rfl
 | byt b=>obtain ⟨t,e⟩:=(show ∃ t,u=Value.bytes b t from r); cases e; rfl
 | flt b=>obtain ⟨t,e⟩:=(show ∃ t,u=Value.float b t from r); cases e; rfl
 | ref a=>cases (show u=Value.ref a from r); rfl
 | ty n=>cases (show u=Value.type n from r); rfl
section
variable {P:Program}{w:World}{H H':Hp}{h h':Heap}{a C dx:Addr}{fs fs':List (Str×V)}
theorem zhh_ (hok:HOk P w H h) (e:H a=some (.ins C dx fs)):∃ mA,ObjM h a dx C mA∧(∀ f,RelO (fs.lookup f) (mA f))∧PySem.Within mA (fs.map (·.1))∧fs.length≤1000∧H dx=some (.own a):=by
 obtain ⟨d,z,ne,ob,mA,n,r,q⟩:=(show ObjOk P w H h a (.ins C dx fs) from hok a _ e)
 exact ⟨mA,⟨ob,n,ne⟩,r,q,z,d⟩
end
structure Cls (K:Fgg) (C:Addr):Prop where
 pg:PySem.W.plainGet K C Str.empty=true
 hd:PySem.W.hasDictIn K C=true
 po:PySem.W.plainOver K C=true
 sa:PySem.W.findIn K (.ref C) "__setattr__" = some (some (.builtin "object.__setattr__"))
theorem Cls.get {K:Fgg}{C:Addr}(c:Cls K C) (f:Str):PySem.W.plainGet K C f=true:=c.pg
def NoAttr (K:Fgg) (C:Addr) (f:Str):Prop:=PySem.W.findIn K (.ref C) f=some none
theorem NoAttr.taker {K:Fgg}{C:Addr}{f:Str}(n:NoAttr K C f):PySem.W.takerIn K C f=some none:=by
 unfold PySem.W.takerIn
 rw [show PySem.W.findIn K (.ref C) f=some none from n]
 rfl
structure Meth (K:Fgg) (C:Addr) (m:Str) (f:Addr):Prop where
 at_:PySem.W.findIn K (.ref C) m=some (some (.ref f))
 fn:PySem.W.isFn K (.ref f)=true
 kp:PySem.W.keepIn K (.ref f)=true
section
variable {X:Cx}{pins:Pnn}{σ:St}{H:Hp}{s:Shared}{a C dx:Addr}{fs:List (Str×V)}{f:Str}{v:V}{A:Around}{E:Value→Shared→Prop}
theorem zjz_ {b:Bool}{Q:Value→Shared→Prop}(I:Inv X pins σ H s) (e:H a=some (.ins C dx fs)) (c:Cls X.K C) (n:NoAttr X.K C f) (l:fs.lookup f=some v)
  (h:∀ u s',Inv X pins σ H s'→RelV v u→Q u s'):wpAny (model X.prog X.w) A (getAttr (.ref a) f b) Q E s:=by
 obtain ⟨mA,O,r,_,_,_⟩:=zhh_ I.hok e
 obtain ⟨u,hu,ru⟩:=RelO.some_of (v:=v) (o:=mA f) (by rw [← l]; exact r f)
 exact zot_ I.kIn O (c.get f) c.hd n hu (zkf_ ru) (h u _ (I.tok _) ru)
theorem zd8_ {m:Str}{g:Addr}{pl:Sem Bool}{Q:Value×List Value→Shared→Prop}(I:Inv X pins σ H s) (e:H a=some (.ins C dx fs)) (c:Cls X.K C) (k:Meth X.K C m g) (l:fs.lookup m=none)
  (h:Q (.ref g,[.ref a]) s):wpAny (model X.prog X.w) A (getMethod (.ref a) m pl) Q E s:=by
 obtain ⟨mA,O,r,_,_,_⟩:=zhh_ I.hok e
 have hn:mA m=none:=RelO.none_of (by rw [← l]; exact r m)
 exact zmS_ I.kIn O (c.get m) k.at_ k.fn hn h
theorem zjs_ {y:V}{u:Value}{Q:Unit→Shared→Prop}(I:Inv X pins σ H s) (e:H a=some (.ins C dx fs)) (c:Cls X.K C) (n:NoAttr X.K C f) (hl:fs.length<1000) (ry:RelV y u)
  (h:∀ s',Inv X pins σ (upd H a (.ins C dx (putF f y fs))) s'→Q () s'):wpAny (model X.prog X.w) A (setAttr (.ref a) f u) Q E s:=by
 obtain ⟨mA,O,r,wi,_,ho⟩:=zhh_ I.hok e
 have hz:(fs.map (·.1)).length≤sizeLine:=by rw [List.length_map,sizeLine_eq]; lia
 refine zm7_ I.kIn O c.sa c.po n.taker c.hd wi hz fun h' O' sb=>h _ ?_
 have hd:∃ o,h'.get? dx=some o:=let ⟨o,_,_,e',_⟩:=O'.ns; ⟨o,e'⟩
 refine I.write (x:=a) (e:=dx) (by rw [e]; exact True.intro) (.inr ho) (fun b q hb z=>(sb.2 b hb).trans z) hd ?_
 refine ⟨by rw [zW_ O.ne]; exact ho,?_,O.ne,O'.obj,_,O'.ns,fun g=>?_,fun g hg=>?_⟩
 ·have:=zeC_ f y fs; lia
 ·show RelO ((putF f y fs).lookup g) (if g=f then some u else mA g)
  rw [zeB_]
  by_cases q:g=f
  ·rw [if_pos q,if_pos q]; exact ry
  ·rw [if_neg q,if_neg q]; exact r g
 ·by_cases q:g=f
  ·rw [q]; exact (zff_ f y fs).1
  ·refine (zff_ f y fs).2 g (wi g fun z=>hg ?_)
   show (if g=f then some u else mA g)=none
   rw [if_neg q]; exact z
theorem Inv.made (I:Inv X pins σ H s):Inv X pins σ (upd (upd H s.heap.objs.size (.own (s.heap.objs.size+1))) (s.heap.objs.size+1) (.ins C s.heap.objs.size []))
  { s with heap:=(s.heap.push PySem.W.emptyDict).push (PySem.W.instObj C s.heap.objs.size) }:=by
 have e1:(s.heap.push PySem.W.emptyDict).get? s.heap.objs.size=some PySem.W.emptyDict:=Heap.get?_push_size s.heap rfl
 have e2:((s.heap.push PySem.W.emptyDict).push (PySem.W.instObj C s.heap.objs.size)).get? (s.heap.objs.size+1)=some (PySem.W.instObj C s.heap.objs.size):=by
  have:=Heap.get?_push_size (s.heap.push PySem.W.emptyDict) (o:=PySem.W.instObj C s.heap.objs.size) rfl
  rwa [Heap.size_push] at this
 have e3:(s.heap.push PySem.W.emptyDict).Ns s.heap.objs.size (fun _=>none):=⟨PySem.W.emptyDict,#[],_,e1,rfl,(fun e he=>absurd he (by simp)),fun _=>rfl⟩
 have I1:=I.laid (a:=s.heap.objs.size) (o:=.own (s.heap.objs.size+1)) (h':=s.heap.push PySem.W.emptyDict) (t':=s.toks) (fun b u q=>Heap.get?_push_of_some _ q) (Nat.le_refl _) ⟨_,e1⟩
 refine I1.laid (a:=s.heap.objs.size+1) (o:=.ins C s.heap.objs.size []) (t':=s.toks) (fun b u q=>Heap.get?_push_of_some _ q) (Nat.le_of_eq (Heap.size_push _ _)) ?_
 have ne:s.heap.objs.size≠s.heap.objs.size+1:=Nat.ne_of_lt (Nat.lt_succ_self _)
 refine ⟨by rw [zW_ ne,zai_],Nat.zero_le _,ne,e2,fun _=>none,(Heap.Ns1.of_empty e3).at fun o q=>Heap.get?_push_of_some _ q,fun _=>True.intro,fun y hy=>absurd rfl hy⟩
theorem zof_ {prog:Program}{w:World}{env:Env}{e:Expr}{f:Str}{pos:Pos}{s:Shared}{Q:Value→Shared→Prop}(hb:attributeBase e f env (eval e env)=eval e env)
  (h:wpAny (model prog w) A (eval e env) (fun o s₁=>wpAny (model prog w) A (getAttr o f true) Q E s₁) E s):wpAny (model prog w) A (eval (.Attribute e f pos) env) Q E s :=
 Attribute_any_ h (by rw [arm_eval_Attribute,hb])
end
section
variable {X:Cx}{o e value:Expr}{f:Str}{pos pos' tpos:Pos}{ta tv:TE}
theorem zm1_ {pl:Sem Bool}{m:Str}{apos:Pos}{args:List Expr}{pins:Pnn}{s:Shared}{σ:St}{H:Hp}{Q:Value→Shared→Prop}{te:TE}(he:PE X e te) (I:Inv X pins σ H s)
  (h:te σ H fun x H1=>∃ a C dx fs g,x=.ref a∧H1 a=some (.ins C dx fs)∧Cls X.K C∧Meth X.K C m g∧fs.lookup m=none ∧
   ∀ s1,Inv X pins σ H1 s1→wpAny (model X.prog X.w) X.A (callWith pos (.ref g) [.ref a] (backTo pos (starEach args X.env)) (backToKw pos (keywordEach [] X.env))) Q X.xe s1)
  (ht:eval (.Call (.Attribute e m apos) args [] pos) X.env=(do
   let ov ← eval e X.env
   standAt apos.atName
   let (f,first) ← holding [ov] (getMethod ov m pl)
   callWith pos f first (backTo pos (starEach args X.env)) (backToKw pos (keywordEach [] X.env)))) :
  wpAny (model X.prog X.w) X.A (eval (.Call (.Attribute e m apos) args [] pos) X.env) Q X.xe s:=by
 refine PySem.W.methodCall_KW (pl:=pl) (thn (he pins s σ H _ I h) fun u s1 hq_=>?_) ht
 obtain ⟨x,H1,I1,rx,a,C,dx,fs,g,ex,ea,c,k,l,q⟩:=hq_
 subst ex
 obtain rfl:u=Value.ref a:=rx
 exact zd8_ I1 ea c k l (q s1 I1)
end
section
variable {X:Cx}{pins:Pnn}{σ:St}{H:Hp}{s:Shared}{A:Around}{E:Value→Shared→Prop}{Q:Value→Shared→Prop}{c:Value}{b:Bool}
inductive TyOf (K:Fgg) (H:Hp):V→Value→Prop where
 | non:TyOf K H .non (.type "NoneType")
 | bl (x:Bool):TyOf K H (.bl x) (.type "bool")
 | int (i:Int):TyOf K H (.int i) (.type "int")
 | str (x:Str):TyOf K H (.str x) (.type "str")
 | flt (x:UInt64):TyOf K H (.flt x) (.type "float")
 | lst {a:Addr}{xs:List V}(e:H a=some (.lst xs)):TyOf K H (.ref a) (.type "list")
 | frz {a:Addr}{o:Obj}{xs:List V}(e:H a=some (.frz o (.lst xs))):TyOf K H (.ref a) (.type "list")
 | tup {a:Addr}{xs:List V}(e:H a=some (.tup xs)):TyOf K H (.ref a) (.type "tuple")
 | dK {a:Addr}{kvs:List (Key×V)}(e:H a=some (.dK kvs)):TyOf K H (.ref a) (.type "dict")
 | dT {a:Addr}{kvs:List (List Key×V)}(e:H a=some (.dT kvs)):TyOf K H (.ref a) (.type "dict")
 | ins {a C dx:Addr}{fs:List (Str×V)}(e:H a=some (.ins C dx fs)) (cl:Cls K C) (ha:PySem.W.findIn K (.ref C) "__class__" = some (some (.builtin "object.__class__")))
   (hn:PySem.W.specialIn K (.builtin "object.__class__") "__get__" = some (some (.builtin "getset_descriptor.__get__"))) (htk:PySem.W.takesIn K (.builtin "object.__class__")=some true)
   (hm:PySem.W.mroIn K C (.type "object")=some true):TyOf K H (.ref a) (.ref C)
theorem zkB_ {x:V}{u t:Value}(I:Inv X pins σ H s) (rx:RelV x u) (ty:TyOf X.K H x t) (e:PySem.W.kitOne X.K t c=some b) (h:∀ tk,Q (.bool b) { s with toks:=tk }) :
  wpAny (model X.prog X.w) A (call (.builtin "isinstance") [u,c]) Q E s:=by
 cases ty with
 | non=>cases (show u=Value.none from rx); exact PySem.W.kia_one PySem.W.kitx_none I.kIn True.intro e (fun z=>nomatch z) h
 | bl y=>cases (show u=Value.bool y from rx); exact PySem.W.kia_one PySem.W.kitx_bool I.kIn True.intro e (fun z=>nomatch z) h
 | int i=>obtain ⟨t,q⟩:=(show ∃ t,u=Value.int i t from rx); cases q; exact PySem.W.kia_one PySem.W.kitx_int I.kIn True.intro e (fun z=>nomatch z) h
 | str y=>obtain ⟨t,q⟩:=(show ∃ t,u=Value.str y t from rx); cases q; exact PySem.W.kia_one PySem.W.kitx_str I.kIn True.intro e (fun z=>nomatch z) h
 | flt y=>obtain ⟨t,q⟩:=(show ∃ t,u=Value.float y t from rx); cases q; exact PySem.W.kia_one PySem.W.kitx_float I.kIn True.intro e (fun z=>nomatch z) h
 | @lst a xs ea =>
  cases (show u=Value.ref a from rx)
  obtain ⟨_,_,n,_,h1⟩:=(show ObjOk X.prog X.w H s.heap a (.lst xs) from I.hok a _ ea)
  exact PySem.W.kia_one PySem.W.kitx_list I.kIn ⟨_,h1,rfl⟩ e (fun z=>nomatch z) h
 | @frz a ob xs ea =>
  cases (show u=Value.ref a from rx)
  obtain ⟨_,_,_,n,_,h1⟩:=(show ObjOk X.prog X.w H s.heap a (.frz ob (.lst xs)) from I.hok a _ ea)
  exact PySem.W.kia_one PySem.W.kitx_list I.kIn ⟨_,h1,rfl⟩ e (fun z=>nomatch z) h
 | @tup a xs ea =>
  cases (show u=Value.ref a from rx)
  obtain ⟨_,_,_,p⟩:=(show ObjOk X.prog X.w H s.heap a (.tup xs) from I.hok a _ ea)
  obtain ⟨o,h1,h2,_⟩:=p
  exact PySem.W.kia_one PySem.W.kitx_tuple I.kIn ⟨o,h1,h2⟩ e (fun z=>nomatch z) h
 | @dK a kvs ea =>
  cases (show u=Value.ref a from rx)
  obtain ⟨_,_,vs,_,p⟩:=(show ObjOk X.prog X.w H s.heap a (.dK kvs) from I.hok a _ ea)
  obtain ⟨o,es,ep,h1,h2,_⟩:=p
  exact PySem.W.kia_one PySem.W.kitx_dict I.kIn ⟨o,h1,h2.1⟩ e (fun z=>nomatch z) h
 | @dT a kvs ea =>
  cases (show u=Value.ref a from rx)
  obtain ⟨_,_,xs,_,o,es,ep,h1,h2,_⟩:=(show ObjOk X.prog X.w H s.heap a (.dT kvs) from I.hok a _ ea)
  exact PySem.W.kia_one PySem.W.kitx_dict I.kIn ⟨o,h1,h2.1⟩ e (fun z=>nomatch z) h
 | @ins a C dx fs ea cl ha hn htk hm =>
  cases (show u=Value.ref a from rx)
  obtain ⟨mA,O,_⟩:=zhh_ I.hok ea
  obtain ⟨od,J,_⟩:=O.look
  exact PySem.W.kia_one (PySem.W.kitx_own (cl.get _) cl.hd ha hn htk hm) I.kIn J e (fun z=>nomatch z) h
end
end L2
namespace L2
open PySem PySem.Spec PyProof.Rows
structure Room (k:Nat) (A:Around):Prop where
 hd:A.handled=none
 dp:A.depth+3*k+5<recursionLimit
 un:A.units+16*k+200<cLine
theorem Room.mono {j k:Nat}{A:Around}(r:Room k A) (h:j≤k):Room j A:=⟨r.hd,by have:=r.dp; lia,by have:=r.un; lia⟩
theorem Room.deeper {k:Nat}{A:Around}(r:Room (k+1) A) (env:Env):Room k (A.deeper env) :=
 ⟨r.hd,by have:=r.dp; show A.depth+1+3*k+5<_; lia,by have:=r.un; show A.units+3+16*k+200<_; lia⟩
theorem zjA_ {A:Around}{C:Addr}{us:List Value}{kw:List (Str×Value)}:(A.under (.builtin "type.__call__" ⟨.ref C::us,kw⟩)).depth=A.depth+1:=by
 first | rfl | simp [Around.under,Code.weight,Code.isCreation,Code.isGuard,Code.isCaller,Code.frames,Code.isFrame,guardIds]
theorem zjk_ {A:Around}{C:Addr}{us:List Value}{kw:List (Str×Value)}:(A.under (.builtin "type.__call__" ⟨.ref C::us,kw⟩)).units=A.units+1:=by
 first | rfl | simp [Around.under,Code.cUnits,Code.frames,Code.isFrame]
theorem Room.make {k:Nat}{A:Around}(r:Room (k+1) A) (C:Addr) (us:List Value) (kw:List (Str×Value)):Room k (A.under (.builtin "type.__call__" ⟨.ref C::us,kw⟩)) :=
 ⟨r.hd,by have:=r.dp; rw [zjA_]; lia,by have:=r.un; rw [zjk_]; lia⟩
theorem Room.depth {k:Nat}{A:Around}(r:Room k A):A.depth<recursionLimit:=by have:=r.dp; lia
theorem Room.units {k:Nat}{A:Around}(r:Room k A):A.units+64<cLine:=by have:=r.un; lia
def tNil:TA:=fun _ H Q=>Q [] H
def tCons (ta:TE) (tr:TA):TA:=fun σ H Q=>ta σ H fun x H1=>tr σ H1 fun xs H2=>Q (x::xs) H2
section
variable {X:Cx}{e:Expr}{es:List Expr}{te:TE}{t:TA}{pos:Pos}
theorem zg_:PA X [] tNil:=fun _ _ _ _ H Q I h=>Calls.spliced_nil ⟨[],H,I,.nil,h⟩
theorem zb_ (ha:PE X e te) (hr:PA X es t) (hs:starEach (e::es) X.env=(false,eval e X.env)::starEach es X.env:=by rfl):PA X (e::es) (tCons te t):=by
 intro pos pins s σ H Q I h
 rw [hs]
 show wpAny _ _ (spliced ((false,eval e X.env)::backTo pos (starEach es X.env))) _ _ s
 refine Calls.spliced_cons (thn (ha pins s σ H _ I h) fun u s1 hq_=>?_)
 obtain ⟨x,H1,I1,r1,q1⟩:=hq_
 exact thn (hr pos pins s1 σ H1 _ I1 q1) fun us s2 ⟨xs,H2,I2,r2,q2⟩=>⟨x::xs,H2,I2,.cons r1 r2,q2⟩
def tTup (t:TA):TE:=fun σ H Q=>t σ H fun xs H1=>xs.length≤sizeLine∧∀ p,H1 p=none→Q (.ref p) (upd H1 p (.tup xs))
def tLst (t:TA):TE:=fun σ H Q=>t σ H fun xs H1=>xs.length≤sizeLine∧∀ p,H1 p=none→Q (.ref p) (upd H1 p (.lst xs))
theorem zpT_ {x1} (h:PA X es t):PE X (.Tuple es x1 pos) (tTup t):=by
 intro pins s σ H Q I hq
 refine wpAny_Tuple_spliced (thn (h pos pins s σ H _ I hq) fun us s1 ⟨xs,H1,I1,r,z,q⟩=>⟨by rw [← r.length]; exact z,?_⟩)
 have hf:H1 s1.heap.objs.size=none:=I1.hok.fresh (Nat.le_refl _)
 refine ⟨.ref s1.heap.objs.size,upd H1 s1.heap.objs.size (.tup xs),I1.laid (t':=s1.toks) (fun b u e=>Heap.get?_push_of_some _ e) (Nat.le_refl _) ?_,rfl,q _ hf⟩
 exact ⟨z,us,r,⟨_,Heap.get?_push_size _ rfl,rfl,_,rfl⟩⟩
theorem zcv_ (h:PA X es t):PE X (.List es pos) (tLst t):=by
 intro pins s σ H Q I hq
 refine wpAny_List_spliced (thn (h pos pins s σ H _ I hq) fun us s1 ⟨xs,H1,I1,r,z,q⟩=>⟨by rw [← r.length]; exact z,?_⟩)
 have hf:H1 s1.heap.objs.size=none:=I1.hok.fresh (Nat.le_refl _)
 refine ⟨.ref s1.heap.objs.size,upd H1 s1.heap.objs.size (.lst xs),I1.laid (t':=s1.toks) (fun b u e=>Heap.get?_push_of_some _ e) (Nat.le_refl _) ?_,rfl,q _ hf⟩
 exact ⟨z,us,0,r,Heap.get?_push_size _ rfl⟩
end
abbrev Sp:=List V→Hp→VK→XK→Prop
abbrev CXT:=List Env→Hp→Shared→XK→Value→Shared→Prop
structure Env0 (P:Program) (w:World) (K:Fgg) (mg:Str→Option Value) (base:Heap) (A:Around) (outer:List Env) (s:Shared) (H:Hp):Prop where
 frames:A.frames=some outer
 mod:Mod K mg base
 bs:∀ b o,base.get? b=some o→s.heap.get? b=some o∧H b=none
 bsz:base.objs.size≤s.heap.objs.size
 funs:s.heap.FunFrames base outer
 frf:∀ b∈frs outer,H b=none
 hok:HOk P w H s.heap
 bare:AllBare s.gens
def CE (outer:List Env) (P:Program) (w:World) (H:Hp) (s:Shared) (Q:VK) (u:Value) (s':Shared):Prop :=
 ∃ v H',s'.os=s.os∧AllBare s'.gens∧Un (frs outer) [] H H' s.heap s'.heap∧HOk P w H' s'.heap∧RelV v u∧Q v H'
def CR (CX:CXT) (outer:List Env) (P:Program) (w:World) (H:Hp) (s:Shared) (Q:VK) (E:XK) (r:Result) (s':Shared):Prop :=
 match r with
 | .ok (.ret u)=>CE outer P w H s Q u s'
 | .ok _=>False
 | .error e=>CX outer H s E e s'
structure FnOk (P:Program) (w:World) (K:Fgg) (mg:Str→Option Value) (base:Heap) (CX:CXT) (k:Nat) (f:Addr) (fd:FuncData) (ps:List Str) (sp:Sp):Prop where
 len:∀ vs H Q E,sp vs H Q E→vs.length=ps.length
 run:∀ (A:Around) (outer:List Env) (s:Shared) (H:Hp) (args:Args) (us:List Value) (vs:List V) (Q:VK) (E:XK),Room k A→Env0 P w K mg base A outer s H→BindsTo s fd args (ps.zip us)→Vals vs us→sp vs H Q E →
  codeAny (model P w) A (.call (.ref f) args) (CR CX outer P w H s Q E) s
theorem Env0.make {P:Program}{w:World}{K:Fgg}{mg:Str→Option Value}{base:Heap}{A:Around}{outer:List Env}{s:Shared}{H:Hp}(e:Env0 P w K mg base A outer s H) (C:Addr) (us:List Value) (kw:List (Str×Value)) :
  Env0 P w K mg base (A.under (.builtin "type.__call__" ⟨.ref C::us,kw⟩)) outer s H:=⟨by first | exact e.frames | (simpa [Around.under,Code.envs,Code.isFrame,pushEnvs] using e.frames),e.mod,e.bs,e.bsz,e.funs,e.frf,e.hok,e.bare⟩
section
variable {X:Cx}{pins:Pnn}{σ:St}{H:Hp}{s s':Shared}
theorem Inv.env0 (I:Inv X pins σ H s):Env0 X.prog X.w X.K X.mg X.base X.A X.stack s H :=
 ⟨I.ok.frames,I.ok.mod,I.bs,Nat.le_trans I.ok.bsz I.sz,I.stack,I.stkFree,I.hok,I.bare⟩
theorem Inv.after {Q:VK}{u:Value}(I:Inv X pins σ H s) (h:CE X.stack X.prog X.w H s Q u s'):EP X pins σ Q u s':=by
 obtain ⟨v,H',os,bare,un,hok,r,q⟩:=h
 obtain ⟨hh,g,d,t,os'⟩:=s'
 obtain rfl:os'=s.os:=os
 exact ⟨v,H',I.call (h':=hh) (g':=g) (d':=d) (t':=t) (ch:=[]) un hok bare (fun b z=>absurd z (by simp)),r,q⟩
end
def tCall (sp:Sp) (dvs:List V) (E:XK) (t:TA):TE:=fun σ H Q=>t σ H fun vs H1=>sp (vs++dvs) H1 Q E
def tMeth (C:Addr) (m:Str) (sp:Sp) (dvs:List V) (E:XK) (ta:TE) (t:TA):TE:=fun σ H Q=>ta σ H fun x H1=>∃ a dx fs,x=.ref a∧H1 a=some (.ins C dx fs)∧fs.lookup m=none ∧
 t σ H1 fun vs H2=>sp (x::(vs++dvs)) H2 Q E
def tMake (C:Addr) (sp:Sp) (dvs:List V) (E:XK) (t:TA):TE:=fun σ H Q=>t σ H fun vs H1=>∀ x dx,H1 x=none→H1 dx=none→dx≠x →
 sp (.ref x::(vs++dvs)) (upd (upd H1 dx (.own x)) x (.ins C dx [])) (fun v H2=>v=.non∧Q (.ref x) H2) E
def Binds (K:Fgg) (fd:FuncData) (ps:List Str) (ds:List Value):Prop :=
 ∀ (s:Shared) (us:List Value),K.In s.heap→(us++ds).length=ps.length→BindsTo s fd ⟨us,[]⟩ (ps.zip (us++ds))
theorem Binds.all {K:Fgg}{fd:FuncData}{ps:List Str}(h:∀ us:List Value,us.length=ps.length→bindArgs fd ⟨us,[]⟩=pure (ps.zip us)):Binds K fd ps []:=fun s us _ hl=>by
 rw [List.append_nil] at hl ⊢
 exact .of_eq (h us hl)
def Passes (CX:CXT) (X:Cx) (E:XK):Prop:=∀ (pins:Pnn) (σ:St) (H:Hp) (s:Shared) (e:Value) (s':Shared),Inv X pins σ H s→CX X.stack H s E e s'→X.xe e s'
section
variable {X:Cx}{CX:CXT}{k:Nat}{f C:Addr}{fd:FuncData}{ps:List Str}{sp:Sp}{dvs:List V}{ds:List Value}{E:XK}{x m:Str}{p pos apos:Pos}{e o:Expr}{es:List Expr}{ta:TE}{t:TA}
theorem zl8_ {pins:Pnn}{σ:St}{H:Hp}{s:Shared}{Q:VK}{us:List Value}{vs:List V}(F:FnOk X.prog X.w X.K X.mg X.base CX k f fd ps sp) (hr:Room k X.A) (hb:Binds X.K fd ps ds) (hd:Vals dvs ds) (hx:Passes CX X E)
  (I:Inv X pins σ H s) (r:Vals vs us) (h:sp (vs++dvs) H Q E):wpAny (model X.prog X.w) X.A (call (.ref f) us) (EP X pins σ Q) X.xe s:=by
 have r2:Vals (vs++dvs) (us++ds):=r.append hd
 have hl:(us++ds).length=ps.length:=by rw [← r2.length]; exact F.len _ _ _ _ h
 refine wpAny_call (codeAny_mono (F.run X.A X.stack s H ⟨us,[]⟩ (us++ds) (vs++dvs) Q E hr I.env0 (hb s us I.kIn hl) r2 h) fun r s' hq=>?_)
 cases r with
 | error e=>exact hx pins σ H s e s' I hq
 | ok fl =>
  cases fl with
  | ret u=>exact I.after hq
  | next=>exact False.elim hq
  | brk=>exact False.elim hq
  | cont=>exact False.elim hq
theorem zm4_ (F:FnOk X.prog X.w X.K X.mg X.base CX k f fd ps sp) (hr:Room k X.A) (hg:Gl X x) (hm:X.mg x=some (.ref f)) (hk:PySem.W.keepIn X.K (.ref f)=true) (hb:Binds X.K fd ps ds) (hd:Vals dvs ds) (hx:Passes CX X E)
  (ha:PA X (e::es) t) (hdb:(x == ("__debug__" : Str))=false:=by decide) (he:starEach (e::es) X.env=(false,eval e X.env)::starEach es X.env:=by rfl) (hpl:(backTo pos (starEach es X.env)).any (·.1)=false:=by rfl) :
  PE X (.Call (.Name x p) (e::es) [] pos) (tCall sp dvs E t):=by
 intro pins s σ H Q I h
 refine wpAny_Call_Name_kw (zjS_ I hg hm ?_ hdb)
 refine PySem.W.callWith_K (h₀:=X.base) I.ok.mod.kin hk (thn (ha pos pins s σ H _ I h) fun us s1 ⟨vs,H1,I1,r,q⟩=>⟨I1.kIn,?_⟩) he hpl
 exact zl8_ F hr hb hd hx I1 r q
theorem znh_ {pl:Sem Bool}(he:PE X o ta) (c:Cls X.K C) (hm:Meth X.K C m f) (F:FnOk X.prog X.w X.K X.mg X.base CX k f fd ps sp) (hr:Room k X.A) (hb:Binds X.K fd ps ds) (hd:Vals dvs ds) (hx:Passes CX X E) (ha:PA X (e::es) t)
  (hst:starEach (e::es) X.env=(false,eval e X.env)::starEach es X.env:=by rfl) (hpl:(backTo pos (starEach es X.env)).any (·.1)=false:=by rfl)
  (ht:eval (.Call (.Attribute o m apos) (e::es) [] pos) X.env=(do
   let ov ← eval o X.env
   standAt apos.atName
   let (f,first) ← holding [ov] (getMethod ov m pl)
   callWith pos f first (backTo pos (starEach (e::es) X.env)) (backToKw pos (keywordEach [] X.env))):=by rfl) :
  PE X (.Call (.Attribute o m apos) (e::es) [] pos) (tMeth C m sp dvs E ta t):=by
 intro pins s σ H Q I h
 refine PySem.W.methodCall_KW (pl:=pl) (thn (he pins s σ H _ I h) fun u s1 hq_=>?_) ht
 obtain ⟨x,H1,I1,rx,a,dx,fs,ex,ea,l,q⟩:=hq_
 subst ex
 obtain rfl:u=Value.ref a:=rx
 refine zd8_ I1 ea c hm l ?_
 refine PySem.W.callWith_K (first:=[.ref a]) (h₀:=X.base) I.ok.mod.kin hm.kp (thn (ha pos pins s1 σ H1 _ I1 q) fun us s2 ⟨vs,H2,I2,r,q2⟩=>⟨I2.kIn,?_⟩) hst hpl
 exact zl8_ (us:=.ref a::us) (vs:=.ref a::vs) F hr hb hd hx I2 (.cons rfl r) q2
theorem zmH_ {pl:Sem Bool}(he:PE X o ta) (c:Cls X.K C) (hm:Meth X.K C m f) (F:FnOk X.prog X.w X.K X.mg X.base CX k f fd ps sp) (hr:Room k X.A) (hb:Binds X.K fd ps ds) (hd:Vals dvs ds) (hx:Passes CX X E)
  (ht:eval (.Call (.Attribute o m apos) [] [] pos) X.env=(do
   let ov ← eval o X.env
   standAt apos.atName
   let (f,first) ← holding [ov] (getMethod ov m pl)
   callWith pos f first (backTo pos (starEach [] X.env)) (backToKw pos (keywordEach [] X.env))):=by rfl) :
  PE X (.Call (.Attribute o m apos) [] [] pos) (tMeth C m sp dvs E ta tNil):=by
 intro pins s σ H Q I h
 refine PySem.W.methodCall_KW (pl:=pl) (thn (he pins s σ H _ I h) fun u s1 hq_=>?_) ht
 obtain ⟨x,H1,I1,rx,a,dx,fs,ex,ea,l,q⟩:=hq_
 subst ex
 obtain rfl:u=Value.ref a:=rx
 refine zd8_ I1 ea c hm l ?_
 exact PySem.W.callWith_K0 (first:=[.ref a]) I1.kIn hm.kp (zl8_ (us:=[.ref a]) (vs:=[.ref a]) F hr hb hd hx I1 (.cons rfl .nil) q)
structure Mk (K:Fgg) (C f:Addr):Prop where
 makes:PySem.W.makesIn K C=true
 init:PySem.W.findIn K (.ref C) "__init__" = some (some (.ref f))
 fn:PySem.W.isFn K (.ref f)=true
 kp:PySem.W.keepIn K (.ref C)=true
theorem zlL_ {pins:Pnn}{σ:St}{H:Hp}{s:Shared}{Q:VK}{us:List Value}{vs:List V}(M:Mk X.K C f) (F:FnOk X.prog X.w X.K X.mg X.base CX k f fd ps sp) (hr:Room (k+1) X.A) (hb:Binds X.K fd ps ds) (hd:Vals dvs ds)
  (hx:Passes CX X E) (I:Inv X pins σ H s) (r:Vals vs us)
  (h:∀ x dx,H x=none→H dx=none→dx≠x→sp (.ref x::(vs++dvs)) (upd (upd H dx (.own x)) x (.ins C dx [])) (fun v H2=>v=.non∧Q (.ref x) H2) E) :
  wpAny (model X.prog X.w) X.A (call (.ref C) us) (EP X pins σ Q) X.xe s:=by
 have hq:=h (s.heap.objs.size+1) s.heap.objs.size (I.hok.fresh (Nat.le_succ _)) (I.hok.fresh (Nat.le_refl _)) (Nat.ne_of_lt (Nat.lt_succ_self _))
 have I2:=Inv.made (C:=C) I
 have r2:Vals (V.ref (s.heap.objs.size+1)::(vs++dvs)) (Value.ref (s.heap.objs.size+1)::(us++ds)):=.cons rfl (r.append hd)
 have hl:(Value.ref (s.heap.objs.size+1)::us++ds).length=ps.length:=by
  have e:=r2.length
  rw [F.len _ _ _ _ hq] at e
  exact e.symm
 refine wpAny_call (zlN_ (f:=f) I.kIn M.makes M.init (beq_iff_eq.mp M.fn) (codeAny_mono (F.run _ X.stack _ _ ⟨Value.ref (s.heap.objs.size+1)::us,[]⟩ (Value.ref (s.heap.objs.size+1)::(us++ds)) _ _ E (hr.make C us [])
  (I2.env0.make C us []) (hb _ (Value.ref (s.heap.objs.size+1)::us) I2.kIn hl) r2 hq) fun r s' hq'=>?_))
 cases r with
 | error e=>exact hx pins σ _ _ e s' I2 hq'
 | ok fl =>
  cases fl with
  | ret u =>
   obtain ⟨v,H',I3,rv,ev,q3⟩:=I2.after hq'
   subst ev
   exact ⟨rv,⟨V.ref (s.heap.objs.size+1),H',I3,rfl,q3⟩⟩
  | next=>exact False.elim hq'
  | brk=>exact False.elim hq'
  | cont=>exact False.elim hq'
theorem znU_ (M:Mk X.K C f) (F:FnOk X.prog X.w X.K X.mg X.base CX k f fd ps sp) (hr:Room (k+1) X.A) (hg:Gl X x) (hm:X.mg x=some (.ref C)) (hb:Binds X.K fd ps ds) (hd:Vals dvs ds) (hx:Passes CX X E)
  (ha:PA X (e::es) t) (hdb:(x == ("__debug__" : Str))=false:=by decide) (he:starEach (e::es) X.env=(false,eval e X.env)::starEach es X.env:=by rfl) (hpl:(backTo pos (starEach es X.env)).any (·.1)=false:=by rfl) :
  PE X (.Call (.Name x p) (e::es) [] pos) (tMake C sp dvs E t):=by
 intro pins s σ H Q I h
 refine wpAny_Call_Name_kw (zjS_ I hg hm ?_ hdb)
 refine PySem.W.callWith_K (h₀:=X.base) I.ok.mod.kin M.kp (thn (ha pos pins s σ H _ I h) fun us s1 ⟨vs,H1,I1,r,q⟩=>⟨I1.kIn,?_⟩) he hpl
 exact zlL_ M F hr hb hd hx I1 r q
end
section
variable {X:Cx}{CX:CXT}{k:Nat}{f C:Addr}{fd:FuncData}{ps ks:List Str}{sp:Sp}{E:XK}{x m:Str}{p pos apos kpos:Pos}{e o:Expr}{es:List Expr}{kws:List Keyword}{te ta:TE}{t tk:TA}{nm:Option Str}
variable {g:List Value→List Value→List Value}{gV:List V→List V→List V}
end
structure FnScope (N P:List Str) (sc:Scope):Prop where
 kind:sc.kind=.function
 co:sc.isCoroutine=false
 gen:sc.isGenerator=false
 nd:N.Nodup
 pre:N.take P.length=P
 par:∀ x∈P,sc.names.lookup x=some .local∨sc.names.lookup x=some .cell
 nofree:∀ y∈sc.names,y.2≠.free
theorem zhw_ {kindOf:Str→Option NameKind}{x:Str}:∀ {binds:List (Str×Value)}{m:Str→Option Value},(∀ v,(x,v)∉binds)→bindL kindOf binds m x=m x
 | [],_,_=>rfl
 | (n,v)::r,m,h=>by
  unfold bindL
  rw [zhw_ fun w hw=>h w (List.mem_cons_of_mem _ hw)]
  split
  ·have:x≠n:=by rintro rfl; exact h v List.mem_cons_self
   simp [this]
  ·rfl
theorem zho_ {kindOf:Str→Option NameKind}{x:Str}:∀ {binds:List (Str×Value)}{m:Str→Option Value},(∀ v,(x,v)∉binds)→bindC kindOf binds m x=m x
 | [],_,_=>rfl
 | (n,v)::r,m,h=>by
  unfold bindC
  rw [zho_ fun w hw=>h w (List.mem_cons_of_mem _ hw)]
  split
  ·rfl
  ·have:x≠n:=by rintro rfl; exact h v List.mem_cons_self
   simp [this]
theorem zgY_ {kindOf:Str→Option NameKind}{x:Str}{v:Value}:∀ {P:List Str}{vs:List Value}{i:Nat}{m:Str→Option Value},P.Nodup→P[i]?=some x→vs[i]?=some v→kindOf x=some .local →
  bindL kindOf (P.zip vs) m x=some v
 | [],_,_,_,_,h,_,_=>by simp at h
 | _::_,[],_,_,_,_,h,_=>by simp at h
 | p::P,w::vs,0,m,nd,h1,h2,hk=>by
  simp at h1 h2; subst h1; subst h2
  show bindL kindOf ((p,w)::P.zip vs) m p=_
  unfold bindL
  rw [zhw_ fun v hv=>(List.nodup_cons.mp nd).1 (List.of_mem_zip hv).1,if_pos hk]
  simp
 | p::P,w::vs,i+1,m,nd,h1,h2,hk=>by
  show bindL kindOf ((p,w)::P.zip vs) m x=_
  unfold bindL
  exact zgY_ (i:=i) (List.nodup_cons.mp nd).2 (by simpa using h1) (by simpa using h2) hk
theorem zhq_ {kindOf:Str→Option NameKind}{x:Str}{v:Value}:∀ {P:List Str}{vs:List Value}{i:Nat}{m:Str→Option Value},P.Nodup→P[i]?=some x→vs[i]?=some v→kindOf x≠some .local →
  bindC kindOf (P.zip vs) m x=some v
 | [],_,_,_,_,h,_,_=>by simp at h
 | _::_,[],_,_,_,_,h,_=>by simp at h
 | p::P,w::vs,0,m,nd,h1,h2,hk=>by
  simp at h1 h2; subst h1; subst h2
  show bindC kindOf ((p,w)::P.zip vs) m p=_
  unfold bindC
  rw [zho_ fun v hv=>(List.nodup_cons.mp nd).1 (List.of_mem_zip hv).1,if_neg hk]
  simp
 | p::P,w::vs,i+1,m,nd,h1,h2,hk=>by
  show bindC kindOf ((p,w)::P.zip vs) m x=_
  unfold bindC
  exact zhq_ (i:=i) (List.nodup_cons.mp nd).2 (by simpa using h1) (by simpa using h2) hk
def start (N:List Str) (vs:List V):St:=vs.map some++List.replicate (N.length-vs.length) none
def cxOf (CX:CXT) (P:Program) (w:World) (K:Fgg) (mg:Str→Option Value) (base:Heap) (N:List Str) (qual:Str) (scope:Scope) (f:Addr) (cd:Value) (A:Around) (outer:List Env) (s:Shared) (H:Hp) (E:XK):Cx where
 prog:=P
 w:=w
 K:=K
 mg:=mg
 base:=base
 A:=A.deeper (envOfC qual scope s.heap.objs.size f cd)
 N:=N
 s₀:=s
 H₀:=H
 env:=envOfC qual scope s.heap.objs.size f cd
 outer:=outer
 stack:=envOfC qual scope s.heap.objs.size f cd::outer
 ex:=[]
 calm:=true
 fn:=fun _=>true
 pn:=[]
 xe:=fun e s'=>wpAny (model P w) (A.deeper (envOfC qual scope s.heap.objs.size f cd)) (leaving (envOfC qual scope s.heap.objs.size f cd) e) (fun _ s''=>CX outer H s E e s'') (fun e' s''=>CX outer H s E e' s'') s'
theorem ziV_ {sc:Scope}{n:Nat}{x:Str}(h:sc.names.lookup x=some .cell):∃ c,(cellsFrom n sc.names []).lookup x=some c:=by
 have q:=PySem.W.cellsFrom_some sc.names n [] (.inl h)
 exact Option.isSome_iff_exists.mp q
theorem zkx_ {CX:CXT}{P:Program}{w:World}{K:Fgg}{mg:Str→Option Value}{base:Heap}{N ps:List Str}{qual:Str}{scope:Scope}{f:Addr}{cd:Value}{A:Around}{outer:List Env}{s s1:Shared}{H:Hp}{E:XK}{us:List Value}{vs:List V}
  (S:FnScope N ps scope) (hd:A.handled=none) (e0:Env0 P w K mg base A outer s H) (hl:vs.length=ps.length) (r:Vals vs us)
  (x:InCallC s s.heap.objs.size (bindL (envOfC qual scope s.heap.objs.size f cd).kindOf (ps.zip us) fun _=>none) (cellsFrom (s.heap.objs.size+1) scope.names []) (bindC (envOfC qual scope s.heap.objs.size f cd).kindOf (ps.zip us) fun _=>none) s1) :
  Inv (cxOf CX P w K mg base N qual scope f cd A outer s H E) [] (start N vs) H s1:=by
 have hpl:ps.length≤N.length:=by have:=congrArg List.length S.pre; rw [List.length_take] at this; lia
 obtain ⟨h1,tk,rfl,hk⟩:=x.done
 have noA:∀ b:Addr,b∉(cxOf CX P w K mg base N qual scope f cd A outer s H E).ex:=fun b z=>absurd (show b∈([]:List Addr) from z) (by simp)
 refine ⟨⟨e0.mod,S.kind,rfl,rfl,Nat.le_refl _,fun y z c h1 h2=>?_,fun y hy=>?_,fun y c _ h=>?_,fun _=>hd,Around.frames_deeper e0.frames,.inr ⟨rfl,rfl⟩,fun b z=>absurd z (noA b),e0.bs,e0.bsz,fun b _ _=>noA b,fun b z=>absurd z (noA b),e0.funs,e0.frf⟩,
  rfl,e0.bare,Un.kept hk,⟨_,x.toInCall.ns,fun i y v h1 h2 h3=>?_⟩,fun y c h=>⟨_,x.cell y c h⟩,e0.hok.fresh (Nat.le_refl _),fun y c h=>?_,fun p hp=>absurd (show p∈([]:Pnn) from hp) (by simp),e0.hok.kept hk,?_⟩
 ·exact name_of_addr x.apart (PySem.mem_of_lookup h1) (PySem.mem_of_lookup h2)
 ·have hy:scope.names.lookup y=some .cell∨scope.names.lookup y=some .free:=hy
  rcases hy with hy | hy
  ·exact ziV_ hy
  ·exact absurd rfl (S.nofree _ (PySem.mem_of_lookup hy))
 ·exact Nat.le_of_lt (x.above y c (PySem.mem_of_lookup h))
 ·have hi:i<vs.length:=by
   unfold start at h2
   by_cases hi:i<vs.length
   ·exact hi
   ·rw [List.getElem?_append_right (by simpa using hi)] at h2
    rw [List.getElem?_replicate] at h2
    split at h2<;>cases h2
  have ha:vs[i]?=some v:=by
   unfold start at h2
   rw [List.getElem?_append_left (by simpa using hi),List.getElem?_map] at h2
   cases e:vs[i]? with
   | none=>rw [e] at h2; cases h2
   | some a=>rw [e] at h2; cases h2; rfl
  obtain ⟨u,hu,rv⟩:=r.get ha
  have hp:ps[i]?=some y:=by
   rw [← S.pre,List.getElem?_take_of_lt (by lia)]; exact h1
  have ndP:ps.Nodup:=by rw [← S.pre]; exact S.nd.sublist (List.take_sublist _ _)
  refine ⟨u,rv,?_⟩
  rcases S.par y (List.mem_of_getElem? hp) with k | k
  ·exact .inl ⟨k,zgY_ ndP hp hu k⟩
  ·obtain ⟨c,e⟩:=ziV_ (n:=s.heap.objs.size+1) k
   refine .inr ⟨.inl k,c,e,?_⟩
   have q:=x.cell y c e
   rw [zhq_ ndP hp hu (by show scope.names.lookup y≠_; rw [k]; decide)] at q
   exact q
 ·exact e0.hok.fresh (Nat.le_of_lt (x.above y c (PySem.mem_of_lookup h)))
 ·unfold start
  show _=N.length
  rw [List.length_append,List.length_map,List.length_replicate]
  lia
theorem fn_of {CX:CXT}{P:Program}{w:World}{K:Fgg}{mg:Str→Option Value}{base:Heap}{k:Nat}{f:Addr}{name qual:Str}{params:Arguments}{body:List Stmt}{scope:Scope}{dV kV doc pm cdv ct oc:Value}{an od:Option Addr}
  {osl:Array (Option Value)}{N ps:List Str}{sp:Sp}(lk:K.lookup f=some ⟨oc,od,.func (PySem.W.fnOf name qual params body scope dV kV doc pm an cdv ct),osl⟩) (hcd:PySem.W.codeIn K cdv qual=true) (S:FnScope N ps scope)
  (len:∀ vs H Q E,sp vs H Q E→vs.length=ps.length)
  (hbody:∀ (A:Around) (outer:List Env) (s:Shared) (H:Hp) (vs:List V) (Q:VK) (E:XK),Room k (A.deeper (envOfC qual scope s.heap.objs.size f cdv))→sp vs H Q E →
   ∃ t,PSs (cxOf CX P w K mg base N qual scope f cdv A outer s H E) body t∧t { nx:=fun _ H'=>Q .non H',rt:=Q } (start N vs) H) :
  FnOk P w K mg base CX (k+1) f (PySem.W.fnOf name qual params body scope dV kV doc pm an cdv ct) ps sp:=by
 refine ⟨len,fun A outer s H args us vs Q E hr e0 hb r hsp=>?_⟩
 have hl:=len _ _ _ _ hsp
 have KX:K.In s.heap:=e0.mod.kin.keeps fun b o e=>(e0.bs b o e).1
 have lim:s.heap.NoLimit:=e0.mod.nolimit.keeps fun b o e=>(e0.bs b o e).1
 have hkind:∀ y∈ps.zip us,scope.names.lookup y.1=some .local∨(scope.names.lookup y.1=some .cell∧((cellsFrom (s.heap.objs.size+1) scope.names []).lookup y.1).isSome=true):=fun ⟨n,v⟩ hy=>by
  rcases S.par n (List.of_mem_zip hy).1 with q | q
  ·exact .inl q
  ·exact .inr ⟨q,PySem.W.cellsFrom_some _ _ _ (.inl q)⟩
 refine codeAny_call_function hr.depth (KX _ _ lk) rfl S.co S.gen rfl (PySem.W.codeRec_of KX hcd) (hb _ _ _ _ ?_)
 refine wpAny_newFunctionEnv_cells S.kind hkind fun env he s1 x=>?_
 subst he
 refine ⟨lim.keeps x.toInCall.keep,codeAny_func ?_⟩
 obtain ⟨t,ht,hq⟩:=hbody A outer s H vs Q E (hr.deeper _) hsp
 have I:Inv (cxOf CX P w K mg base N qual scope f cdv A outer s H E) [] (start N vs) H s1:=zkx_ S hr.hd e0 hl r x
 refine wpAny_mono (ht [] s1 (start N vs) H _ I hq) (fun fl s' hs=>?_) fun e s' hs=>hs
 have fin:∀ {σ':St}{H':Hp}{v:V}{u:Value},Inv (cxOf CX P w K mg base N qual scope f cdv A outer s H E) [] σ' H' s'→RelV v u→Q v H'→CE outer P w H s Q u s' :=
  fun {σ' H' v u} J rv q=>⟨v,H',J.os,J.bare,J.base,J.hok,rv,q⟩
 cases fl with
 | ret u =>
  obtain ⟨v,σ',H',J,rv,q⟩:=hs
  exact fin J rv q
 | next =>
  obtain ⟨σ',H',J,q⟩:=hs
  exact fin (v:=V.non) (u:=Value.none) J rfl q
 | brk =>
  obtain ⟨_,_,_,q⟩:=hs
  exact False.elim q
 | cont =>
  obtain ⟨_,_,_,q⟩:=hs
  exact False.elim q
end L2
namespace L2
open PySem PySem.Spec PyProof.Rows
section
variable {X:Cx}{x:Str}{p pos:Pos}{e:Expr}{es:List Expr}{t:TA}{id T:String}{r:List V→Hp→VK→Prop}
def tCB (r:List V→Hp→VK→Prop) (t:TA):TE:=fun σ H Q=>t σ H fun vs H1=>r vs H1 Q
theorem zms_ (hc:CallR X (.builtin id) r) (hg:Gl X x) (hm:X.mg x=none) (hv:bootBuiltins x=some (.builtin id)) (ha:PA X (e::es) t) (hn:x ≠ "__name__" := by decide) (hdb:(x == ("__debug__" : Str))=false:=by decide)
  (he:starEach (e::es) X.env=(false,eval e X.env)::starEach es X.env:=by rfl) (hpl:(backTo pos (starEach es X.env)).any (·.1)=false:=by rfl):PE X (.Call (.Name x p) (e::es) [] pos) (tCB r t):=by
 intro pins s σ H Q I h
 refine wpAny_Call_Name_kw (zgU_ I hg hm hv ?_ hn hdb)
 exact PyProof.Rows.callWith_builtin1 (thn (ha pos pins s σ H _ I h) fun us s1 ⟨vs,H1,I1,r1,q1⟩=>hc pins s1 σ H1 vs us Q I1 r1 q1) he hpl
theorem zkV_ (hc:CallR X (.type T) r) (hg:Gl X x) (hm:X.mg x=none) (hv:bootBuiltins x=some (.type T)) (ha:PA X (e::es) t) (hn:x ≠ "__name__" := by decide) (hdb:(x == ("__debug__" : Str))=false:=by decide)
  (he:starEach (e::es) X.env=(false,eval e X.env)::starEach es X.env:=by rfl) (hpl:(backTo pos (starEach es X.env)).any (·.1)=false:=by rfl):PE X (.Call (.Name x p) (e::es) [] pos) (tCB r t):=by
 intro pins s σ H Q I h
 refine wpAny_Call_Name_kw (zgU_ I hg hm hv ?_ hn hdb)
 exact PyProof.Rows.callWith_type1 (thn (ha pos pins s σ H _ I h) fun us s1 ⟨vs,H1,I1,r1,q1⟩=>hc pins s1 σ H1 vs us Q I1 r1 q1) he hpl
end
end L2
namespace HT
open PySem PyProof.Rows
section
open PySem.SeqAt
open PySem.AutoSeq1 (wpAny_loadPart')
open PySem.MeetsSeq PySem.MeetsSeq2 PySem.MeetsSeq3
end
section
variable {prog:Program}{w:World}{A:Around}{E:Value→Shared→Prop}{s:Shared}
def sIx (n d:Nat):Option Int→Nat
 | none=>d
 | some v=>if v<0 then (v+(n:Int)).toNat else min v.toNat n
theorem sIx_le (n d:Nat) (hd:d≤n) (o:Option Int):sIx n d o≤n:=by
 cases o with
 | none=>exact hd
 | some v =>
  show (if v<0 then (v+(n:Int)).toNat else min v.toNat n)≤n
  by_cases hv:v<0
  ·rw [if_pos hv]; lia
  ·rw [if_neg hv]; exact Nat.min_le_right _ _
end
end HT
namespace L2
open PySem PySem.Spec PyProof.Rows
abbrev TO:=St→Hp→(Option Int→Hp→Prop)→Prop
def PO (X:Cx) (e:Option Expr) (t:TO):Prop :=
 ∀ (pins:Pnn) (s:Shared) (σ:St) (H:Hp) (Q:Option Int→Hp→Prop),Inv X pins σ H s→t σ H Q →
  wpAny (model X.prog X.w) X.A (evalPart e X.env) (fun u s'=>∃ o H',Inv X pins σ H' s'∧IsPart u o∧Q o H') X.xe s
def tNoPart:TO:=fun _ H Q=>Q none H
section
variable {X:Cx}{e:Expr}{te:TE}{lo hi:Option Expr}{tl th:TO}{pos p2:Pos}
theorem zlC_:PO X none tNoPart:=by
 intro pins s σ H Q I h
 rw [evalPart_none]
 exact wpAny_pure ⟨none,H,I,.none,h⟩
def SlR (X:Cx) (r:V→Option Int→Option Int→Hp→VK→Prop):Prop :=
 ∀ (pins:Pnn) (s:Shared) (σ:St) (H:Hp) (x:V) (v vl vu:Value) (lo hi:Option Int) (sl:Addr) (Q:VK),Inv X pins σ H s→RelV x v→s.heap.IsSliceOf sl vl vu .none→IsPart vl lo→IsPart vu hi→r x lo hi H Q →
  ∃ T id,typeLookup (.type T) "__getitem__" = pure (some (.builtin id))∧s.TypeIs v T∧wpAny (model X.prog X.w) X.A (getItem v (.ref sl)) (EP X pins σ Q) X.xe s
def tSl (r:V→Option Int→Option Int→Hp→VK→Prop) (te:TE) (tl th:TO):TE:=fun σ H Q=>te σ H fun x H1=>tl σ H1 fun l H2=>th σ H2 fun u H3=>r x l u H3 Q
theorem zcZ_ {r:V→Option Int→Option Int→Hp→VK→Prop}(hr:SlR X r) (he:PE X e te) (hl:PO X lo tl) (hu:PO X hi th):PE X (.Subscript e (.Slice lo hi none p2) pos) (tSl r te tl th):=by
 intro pins s σ H Q I h
 refine Subscript_ (thn (he pins s σ H _ I h) fun v s1 hq_=>?_)
 obtain ⟨x,H1,I1,r1,q1⟩:=hq_
 refine wpAny_Slice (thn (hl pins s1 σ H1 _ I1 q1) fun vl s2 ⟨l,H2,I2,pl,q2⟩=>thn (hu pins s2 σ H2 _ I2 q2) fun vu s3 hq_=>?_)
 obtain ⟨u,H3,I3,pu,q3⟩:=hq_
 rw [evalPart_none]
 refine wpAny_pure ?_
 have I4:Inv X pins σ H3 { s3 with heap:=s3.heap.push { cls:=.type "slice",data:=.fields #[vl,vu,.none] } }:=I3.kept (t':=s3.toks) fun b ob q=>Heap.get?_push_of_some _ q
 obtain ⟨T,id,hT,ht,hg⟩:=hr pins { s3 with heap:=s3.heap.push { cls:=.type "slice",data:=.fields #[vl,vu,.none] } } σ H3 x v vl vu l u s3.heap.objs.size Q I4 r1 (Heap.IsSliceOf.new ..) pl pu q3
 show wpAny (model X.prog X.w) X.A (subscriptTail e (.Slice lo hi none p2) v (.ref s3.heap.objs.size)) (EP X pins σ Q) X.xe { s3 with heap:=s3.heap.push { cls:=.type "slice",data:=.fields #[vl,vu,.none] } }
 exact tail_any (ops:=[.ref s3.heap.objs.size,v]) ht hT hg (by with_unfolding_all rfl)
def cutV (xs:List V) (lo hi:Option Int):List V:=(xs.drop (HT.sIx xs.length 0 lo)).take (HT.sIx xs.length xs.length hi-HT.sIx xs.length 0 lo)
theorem zic_ (xs:List V) (lo hi:Option Int):(cutV xs lo hi).length≤xs.length:=by
 unfold cutV
 rw [List.length_take,List.length_drop]
 lia
end
end L2
namespace L2
open PySem PySem.Spec PyProof.Rows
def ixN (n:Nat) (i:Int):Option Nat:=if 0≤i then (if i<n then some i.toNat else none) else if -(n:Int)≤i then some (i+n).toNat else none
def atI {α:Type}(xs:List α) (i:Int):Option α:=(ixN xs.length i).bind fun j=>xs[j]?
theorem zli_ {n:Nat}{i:Int}{j:Nat}(h:ixN n i=some j):seqIndex? i n=some j∧j<n ∧ -(n:Int)≤i∧i<n:=by
 unfold ixN at h
 by_cases h0:0≤i
 ·rw [if_pos h0] at h
  by_cases h1:i<n
  ·rw [if_pos h1] at h
   have e:i.toNat=j:=Option.some.inj h
   exact ⟨by rw [seqIndex_of h0 h1,e],by lia,by lia,h1⟩
  ·rw [if_neg h1] at h; cases h
 ·rw [if_neg h0] at h
  by_cases h1 : -(n:Int)≤i
  ·rw [if_pos h1] at h
   have e:(i+n).toNat=j:=Option.some.inj h
   exact ⟨by rw [seqIndex_neg (by lia) h1,e],by lia,h1,by lia⟩
  ·rw [if_neg h1] at h; cases h
theorem zjU_ {α:Type}{xs:List α}{i:Int}{v:α}(h:atI xs i=some v):∃ j,seqIndex? i xs.length=some j∧xs[j]?=some v∧j<xs.length ∧ -(xs.length:Int)≤i∧i<xs.length:=by
 unfold atI at h
 cases e:ixN xs.length i with
 | none=>rw [e] at h; cases h
 | some j =>
  rw [e] at h
  obtain ⟨h1,h2,h3,h4⟩:=zli_ e
  exact ⟨j,h1,h,h2,h3,h4⟩
def PlainIx (b:Expr):Prop:=∀ o i,subscripted b false o i=operate [o,i] (getItem o i)
def IxR (X:Cx) (r:R2):Prop :=
 ∀ (value slice:Expr) (pins:Pnn) (s:Shared) (σ:St) (H:Hp) (x y:V) (v u:Value) (Q:VK),Inv X pins σ H s→RelV x v→RelV y u→r x y H Q →
  subscripted slice false v u=operate [v,u] (getItem v u)→wpAny (model X.prog X.w) X.A (subscriptTail value slice v u) (EP X pins σ Q) X.xe s
def MtR (X:Cx) (id:String) (r:V→List V→Hp→VK→Prop):Prop :=
 ∀ (pins:Pnn) (s:Shared) (σ:St) (H:Hp) (x:V) (xs:List V) (v:Value) (us:List Value) (Q:VK),Inv X pins σ H s→RelV x v→Vals xs us→r x xs H Q →
  wpAny (model X.prog X.w) X.A (call (.builtin id) (v::us)) (EP X pins σ Q) X.xe s
section
variable {X:Cx}{a b:Expr}{ta tb:TE}{pos:Pos}
theorem zbd_ {r:R2}(hr:IxR X r) (ha:PE X a ta) (hb:PE X b tb) (hs:PlainIx b):PE X (.Subscript a b pos) (tOp r ta tb):=by
 intro pins s σ H Q I h
 exact Subscript_ (binT ha hb I h fun v u s2 x y H2 I2 rx ry q=>hr a b pins s2 σ H2 x y v u Q I2 rx ry q (hs _ _))
def rIxL (K:Fgg):R2:=fun x y H Q=>∃ p xs i v,x=.ref p∧y=.int i∧SqL K H p xs∧atI xs i=some v∧Q v H
def rIxT (K:Fgg):R2:=fun x y H Q=>∃ p xs i v,x=.ref p∧y=.int i∧SqT K H p xs∧atI xs i=some v∧Q v H
def rIxS:R2:=fun x y H Q=>∃ z i c,x=.str z∧y=.int i∧z.length≤sizeLine∧atI z.cps.toList i=some c∧Q (.str ⟨#[c]⟩) H
theorem zoA_:IxR X (rIxL X.K):=by
 intro value slice pins s σ H x y v u Q I rx ry h hs
 obtain ⟨p,xs,i,z,rfl,rfl,hq,he,q⟩:=h
 cases rx
 obtain ⟨t,rfl⟩:=ry
 obtain ⟨its,r,pl,hz⟩:=I.list hq
 obtain ⟨j,h1,h2,h3,h4,h5⟩:=zjU_ he
 obtain ⟨w,ew,rw'⟩:=r.get h2
 have hl:=r.length
 have hn:=line63
 have fin:EP X pins σ Q w s:=⟨z,H,I,rw',q⟩
 by_cases h0:0≤i
 ·have hj:i.toNat=j:=by
   rw [seqIndex_of h0 h5] at h1
   exact Option.some.inj h1
  exact item_listR pl.isList h0 (by lia) (by rw [hj]; simpa using ew) fin hs
 ·have hj:(i+(its.toArray.size:Int)).toNat=j:=by
   rw [seqIndex_neg (by lia) h4] at h1
   rw [List.size_toArray,← hl]
   exact Option.some.inj h1
  exact subscriptTail_builtinR (x:=w) pl.isList.typeIs slot_list_getitem.lookup
   (wpAny_getItem_list_neg (Q:=fun r s'=>r=w∧EP X pins σ Q r s') pl.isList (by lia) (by rw [List.size_toArray]<;>lia) (by lia) (by rw [hj]; simpa using ew) ⟨rfl,fin⟩) hs
theorem zqb_:IxR X (rIxT X.K):=by
 intro value slice pins s σ H x y v u Q I rx ry h hs
 obtain ⟨p,xs,i,z,rfl,rfl,hq,he,q⟩:=h
 cases rx
 obtain ⟨t,rfl⟩:=ry
 obtain ⟨its,r,pl,hz⟩:=I.tuple hq
 obtain ⟨j,h1,h2,h3,h4,h5⟩:=zjU_ he
 obtain ⟨w,ew,rw'⟩:=r.get h2
 have hl:=r.length
 have hn:=line63
 have fin:EP X pins σ Q w s:=⟨z,H,I,rw',q⟩
 exact subscriptTail_builtinR (x:=w) pl.typeIs slot_tuple_getitem.lookup
  (getItem_tuple (j:=j) (Q:=fun r s'=>r=w∧EP X pins σ Q r s') pl (by lia) (by lia) (by rw [List.size_toArray,← hl]; exact h1) (by simpa using ew) ⟨rfl,fin⟩) hs
theorem zpz_:IxR X rIxS:=by
 intro value slice pins s σ H x y v u Q I rx ry h hs
 obtain ⟨z,i,c,rfl,rfl,hz,he,q⟩:=h
 obtain ⟨t,rfl⟩:=rx
 obtain ⟨t',rfl⟩:=ry
 obtain ⟨j,h1,h2,h3,h4,h5⟩:=zjU_ he
 have hl:z.cps.toList.length=z.length:=by simp [Str.length]
 rw [hl] at h1 h4 h5
 have hn:=line63
 exact tail_any (typeIs_str s z t) slot_str_getitem.lookup (getItem_str (c:=c) (by
  have e1:decide (i < -(2 ^ 63:Int))=false:=decide_eq_false (by lia)
  have e2:decide (i ≥ 2 ^ 63)=false:=decide_eq_false (by lia)
  rw [e1,e2,Bool.or_false]) (by rw [h1]; simpa using h2) ⟨.str ⟨#[c]⟩,H,I.tok _,⟨_,rfl⟩,q⟩) hs
theorem zjl_ (its:List Value) (n j:Nat) (u:Value):Obj.mapSeq (·.setIfInBounds j u) { cls:=.type "list",data:=.seq its.toArray n }={ cls:=.type "list",data:=.seq (its.set j u).toArray n }:=by
 simp [Obj.mapSeq]
theorem Inv.lst {pins:Pnn}{σ:St}{H:Hp}{s:Shared}{p:Addr}{xs:List V}(I:Inv X pins σ H s) (h:H p=some (.lst xs)) :
  ∃ (its:List Value) (n:Nat),Vals xs its∧s.heap.get? p=some { cls:=.type "list",data:=.seq its.toArray n }∧xs.length≤sizeLine:=by
 obtain ⟨z,its,n,r,e⟩:=I.hok p _ h
 exact ⟨its,n,r,e,z⟩
theorem Inv.lstUpd {pins:Pnn}{σ:St}{H:Hp}{s:Shared}{p:Addr}{xs ys:List V}{its its':List Value}{n n':Nat}{f:Obj→Obj}(I:Inv X pins σ H s) (h:H p=some (.lst xs))
  (ho:s.heap.get? p=some { cls:=.type "list",data:=.seq its.toArray n }) (hf:f { cls:=.type "list",data:=.seq its.toArray n }={ cls:=.type "list",data:=.seq its'.toArray n' }) (r:Vals ys its') (hz:ys.length≤sizeLine) (t:Nat) :
  Inv X pins σ (upd H p (.lst ys)) { s with heap:=s.heap.update p f,toks:=t }:=by
 have e:(s.heap.update p f).get? p=some { cls:=.type "list",data:=.seq its'.toArray n' }:=by
  rw [Heap.get?_update_self f ho (by rw [hf]<;>rfl),hf]
 refine I.write (x:=p) (e:=p) (by rw [h]; trivial) (.inl rfl) (fun b u hb q=>(Heap.get?_update_other _ _ (Ne.symm hb)).trans q) ⟨_,e⟩ ?_
 exact ⟨hz,its',n',r,e⟩
def rSetL:V→V→V→Hp→(Hp→Prop)→Prop:=fun o i v H Q=>∃ p xs k j,o=.ref p∧i=.int k∧H p=some (.lst xs)∧ixN xs.length k=some j∧Q (upd H p (.lst (xs.set j v)))
theorem zmK_:PSet X rSetL:=by
 intro pins s σ H o i v ov iv u Q I ro ri rv h
 obtain ⟨p,xs,k,j,rfl,rfl,hp,hj,q⟩:=h
 cases ro
 obtain ⟨t,rfl⟩:=ri
 obtain ⟨its,n,r,ho,hz⟩:=I.lst hp
 obtain ⟨h1,h2,h3,h4⟩:=zli_ hj
 have hl:=r.length
 have hn:=line63
 have I':Inv X pins σ (upd H p (.lst (xs.set j v))) { s with heap:=s.heap.update p (Obj.mapSeq (·.setIfInBounds j u)) } :=
  I.lstUpd hp ho (zjl_ its n j u) (r.set rv j) (by rw [List.length_set]; exact hz) s.toks
 by_cases h0:0≤k
 ·have hk:k.toNat=j:=by
   rw [seqIndex_of h0 h4] at h1
   exact Option.some.inj h1
  exact PySem.W.ki_setAt ho h0 (by lia) (by rw [List.size_toArray,← hl]; exact h4) (by rw [hk]; exact ⟨_,I',q⟩)
 ·have hk:(k+(its.toArray.size:Int)).toNat=j:=by
   rw [seqIndex_neg (by lia) h3] at h1
   rw [List.size_toArray,← hl]
   exact Option.some.inj h1
  exact PySem.W.ki_setBack ho (by lia) (by rw [List.size_toArray,← hl]; exact h3) (by lia) (by rw [hk]; exact ⟨_,I',q⟩)
theorem zgB_ (lo hi:Option Int) (n:Nat):(sliceBounds lo hi none n).1=((HT.sIx n 0 lo:Nat):Int)∧(sliceBounds lo hi none n).2.1=((HT.sIx n n hi:Nat):Int)∧(sliceBounds lo hi none n).2.2=1:=by
 refine ⟨?_,?_,rfl⟩
 ·cases lo with
  | none=>simp [sliceBounds,HT.sIx]
  | some i =>
   simp only [sliceBounds,HT.sIx,Option.getD_none,show (1:Int) > 0 by decide,if_true]
   by_cases h:i<0
   ·simp only [h,if_true]<;>lia
   ·simp only [h,if_false]<;>lia
 ·cases hi with
  | none=>simp [sliceBounds,HT.sIx]
  | some i =>
   simp only [sliceBounds,HT.sIx,Option.getD_none,show (1:Int) > 0 by decide,if_true]
   by_cases h:i<0
   ·simp only [h,if_true]<;>lia
   ·simp only [h,if_false]<;>lia
theorem zfA_ (its:List Value) (lo hi:Option Int):slicePick its.toArray lo hi none=((its.drop (HT.sIx its.length 0 lo)).take (HT.sIx its.length its.length hi-HT.sIx its.length 0 lo)).toArray:=by
 obtain ⟨h1,h2,h3⟩:=zgB_ lo hi its.toArray.size
 unfold slicePick
 rw [h1,h2,h3]
 simp only [sliceRange_one,pick_run,List.size_toArray]<;>rfl
def rSlL (K:Fgg):V→Option Int→Option Int→Hp→VK→Prop:=fun x lo hi H Q=>∃ a xs,x=.ref a∧SqL K H a xs∧∀ p,H p=none→Q (.ref p) (upd H p (.lst (cutV xs lo hi)))
theorem zom_:SlR X (rSlL X.K):=by
 intro pins s σ H x v vl vu lo hi sl Q I rx hs pl pu h
 obtain ⟨a,xs,rfl,hx,q⟩:=h
 cases rx
 obtain ⟨its,r,ht,hz⟩:=I.list hx
 have hlen:=r.length
 refine ⟨"list",_,slot_list_getitem.lookup,ht.isList.typeIs,?_⟩
 refine wpAny_getItem_list_slice ht.isList hs pl pu .none (by simp) ?_ (by rw [List.size_toArray]<;>lia)
 rw [zfA_,← hlen]
 refine ⟨.ref s.heap.objs.size,_,I.laid (t':=s.toks) (o:=.lst (cutV xs lo hi)) (fun b ob q=>Heap.get?_push_of_some _ q) (Nat.le_refl _) ?_,rfl,q _ (I.hok.fresh (Nat.le_refl _))⟩
 exact ⟨Nat.le_trans (zic_ xs lo hi) hz,_,0,(r.drop (HT.sIx xs.length 0 lo)).take (HT.sIx xs.length xs.length hi-HT.sIx xs.length 0 lo),Heap.get?_push_size _ rfl⟩
def flatV:V→Bool
 | .non=>true
 | .bl _=>true
 | .int _=>true
 | .str _=>true
 | _=>false
def eqV:V→V→Bool
 | .non,.non=>true
 | .bl a,.bl b=>a == b
 | .bl a,.int b=>(if a then 1 else 0) == b
 | .int a,.bl b=>a == (if b then 1 else 0)
 | .int a,.int b=>a == b
 | .str a,.str b=>a == b
 | _,_=>false
theorem zoc_ {A:Around}{s:Shared}{y x:V}{u v:Value}(ry:RelV y u) (rx:RelV x v) (fy:flatV y=true) (fx:flatV x=true):SeqAt.EqAt A s u v (eqV y x):=by
 cases y with
 | non =>
  cases ry
  cases x with
  | non=>cases rx; exact SeqAt.EqAt.same _
  | bl b=>cases rx; exact SeqAt.EqAt.none_bool b
  | int b=>obtain ⟨t,rfl⟩:=rx; exact SeqAt.EqAt.none_int b t
  | str b=>obtain ⟨t,rfl⟩:=rx; exact SeqAt.EqAt.none_str b t
  | _=>exact absurd (show false=true from fx) Bool.false_ne_true
 | bl a =>
  cases ry
  cases x with
  | non=>cases rx; exact SeqAt.EqAt.bool_none a
  | bl b=>cases rx; exact SeqAt.EqAt.bool_bool a b
  | int b=>obtain ⟨t,rfl⟩:=rx; exact SeqAt.EqAt.bool_int a b t
  | str b=>obtain ⟨t,rfl⟩:=rx; exact SeqAt.EqAt.bool_str a b t
  | _=>exact absurd (show false=true from fx) Bool.false_ne_true
 | int a =>
  obtain ⟨t',rfl⟩:=ry
  cases x with
  | non=>cases rx; exact SeqAt.EqAt.int_none a t'
  | bl b=>cases rx; exact SeqAt.EqAt.int_bool a t' b
  | int b=>obtain ⟨t,rfl⟩:=rx; exact SeqAt.EqAt.int_int a t' b t
  | str b=>obtain ⟨t,rfl⟩:=rx; exact SeqAt.EqAt.int_str a t' b t
  | _=>exact absurd (show false=true from fx) Bool.false_ne_true
 | str a =>
  obtain ⟨t',rfl⟩:=ry
  cases x with
  | non=>cases rx; exact SeqAt.EqAt.str_none a t'
  | bl b=>cases rx; exact SeqAt.EqAt.str_bool a t' b
  | int b=>obtain ⟨t,rfl⟩:=rx; exact SeqAt.EqAt.str_int a t' b t
  | str b=>obtain ⟨t,rfl⟩:=rx; exact SeqAt.EqAt.str_str a t' b t
  | _=>exact absurd (show false=true from fx) Bool.false_ne_true
 | _=>exact absurd (show false=true from fy) Bool.false_ne_true
def eqU (x:V) (u:Value):Bool:=match u with
 | .none=>eqV .non x
 | .bool b=>eqV (.bl b) x
 | .int i _=>eqV (.int i) x
 | .str z _=>eqV (.str z) x
 | _=>false
theorem zox_ {x y:V}{u:Value}(r:RelV y u) (f:flatV y=true):eqU x u=eqV y x:=by
 cases y with
 | non=>cases r; rfl
 | bl b=>cases r; rfl
 | int i=>obtain ⟨t,rfl⟩:=r; rfl
 | str z=>obtain ⟨t,rfl⟩:=r; rfl
 | _=>exact absurd (show false=true from f) Bool.false_ne_true
theorem zjC_ {x:V}:∀ {xs:List V}{us:List Value},Vals xs us→xs.all flatV=true→us.any (eqU x)=xs.any fun y=>eqV y x
 | _,_,.nil,_=>rfl
 | y::xs,u::us,.cons r t,f=>by
  rw [List.all_cons,Bool.and_eq_true] at f
  rw [List.any_cons,List.any_cons,zox_ r f.1,zjC_ t f.2]
theorem zgo_ {A:Around}{s:Shared}{x:V}{v:Value}(rx:RelV x v) (fx:flatV x=true):∀ {xs:List V}{us:List Value},Vals xs us→xs.all flatV=true→∀ u∈us,SeqAt.EqAt A s u v (eqU x u)
 | _,_,.nil,_=>fun u hu=>by cases hu
 | y::xs,u::us,.cons r t,f=>fun u' hu=>by
  rw [List.all_cons,Bool.and_eq_true] at f
  rcases List.mem_cons.mp hu with rfl | hu
  ·rw [zox_ r f.1]; exact zoc_ r rx f.1 fx
  ·exact zgo_ rx fx t f.2 u' hu
def inV (x:V) (xs:List V):Bool:=xs.any fun y=>eqV y x
def rIn (K:Fgg) (neg:Bool):R2:=fun x y H Q=>∃ p xs,y=.ref p∧(SqL K H p xs∨SqT K H p xs)∧flatV x=true∧xs.all flatV=true∧Q (.bl (if neg then !inV x xs else inV x xs)) H
theorem zkq_:OpR X (compareOp .In) (rIn X.K false):=by
 intro pins s σ H x y v u Q I rx ry h
 obtain ⟨p,xs,rfl,hq,fx,fs,q⟩:=h
 cases ry
 rcases hq with hq | hq
 ·obtain ⟨its,r,pl,hz⟩:=I.list hq
  refine SeqAt.in_listAt (eqU x) pl.isList (fun w hw=>zgo_ rx fx r fs w (by simpa using hw)) ⟨.bl _,H,I,rfl,?_⟩
  rw [show its.toArray.any (eqU x)=its.any (eqU x) by simp,zjC_ r fs]
  exact q
 ·obtain ⟨its,r,pl,hz⟩:=I.tuple hq
  refine SeqAt.in_tupleAt (eqU x) pl (fun w hw=>zgo_ rx fx r fs w (by simpa using hw)) ⟨.bl _,H,I,rfl,?_⟩
  rw [show its.toArray.any (eqU x)=its.any (eqU x) by simp,zjC_ r fs]
  exact q
theorem zf2_:CallR X (.builtin "len") (fun xs H Q=>∃ p ys,xs=[.ref p]∧(SqL X.K H p ys∨SqT X.K H p ys)∧Q (.int ys.length) H):=by
 intro pins s σ H xs us Q I r h
 obtain ⟨p,ys,rfl,hq,q⟩:=h
 obtain ⟨u,rfl,rx⟩:=vals1 r
 cases rx
 have hn:=line63
 rcases hq with hq | hq
 ·obtain ⟨its,r',pl,hz⟩:=I.list hq
  have hlen:=r'.length
  exact Calls.call_len_list pl.isList (by simp only [List.size_toArray]<;>lia) ⟨.int ys.length,H,I.tok _,⟨s.toks+1,by rw [List.size_toArray,hlen]⟩,q⟩
 ·obtain ⟨its,r',pl,hz⟩:=I.tuple hq
  have hlen:=r'.length
  exact len_tuple pl (by simp only [List.size_toArray]<;>lia) ⟨.int ys.length,H,I.tok _,⟨s.toks+1,by rw [List.size_toArray,hlen]⟩,q⟩
theorem zgn_:CallR X (.builtin "len") (fun xs H Q=>∃ z,xs=[.str z]∧z.length≤sizeLine∧Q (.int z.length) H):=by
 intro pins s σ H xs us Q I r h
 obtain ⟨z,rfl,hz,q⟩:=h
 obtain ⟨u,rfl,t,rfl⟩:=vals1 r
 have hn:=line63
 exact len_str (by lia) ⟨.int z.length,H,I.tok _,⟨_,rfl⟩,q⟩
theorem zgT_:CallR X (.type "list") (fun xs H Q=>∃ p ys,xs=[.ref p]∧(SqL X.K H p ys∨SqT X.K H p ys)∧∀ l,H l=none→Q (.ref l) (upd H l (.lst ys))):=by
 intro pins s σ H xs us Q I r h
 obtain ⟨p,ys,rfl,hq,q⟩:=h
 obtain ⟨u,rfl,rx⟩:=vals1 r
 cases rx
 have fin:∀ (its:List Value),Vals ys its→ys.length≤sizeLine→∀ (h':Heap) (c':Nat),(∀ b o',s.heap.get? b=some o'→h'.get? b=some o') →
   h'.get? s.heap.objs.size=some { cls:=.type "list",dict:=none,data:=.seq its.toArray c',slots:=#[] }→EP X pins σ Q (.ref s.heap.objs.size) { s with heap:=h' }:=fun its r' hz h' c' kp e =>
  ⟨.ref s.heap.objs.size,_,I.laid (t':=s.toks) kp (Nat.le_refl _) (show ObjOk X.prog X.w _ h' _ (.lst ys) from ⟨hz,its,c',r',e⟩),rfl,q _ (I.hok.fresh (Nat.le_refl _))⟩
 rcases hq with hq | hq
 ·obtain ⟨its,r',pl,hz⟩:=I.list hq
  have hlen:=r'.length
  obtain ⟨o,ho,hc,n,hd⟩:=pl.isList
  exact call_list_seq p (.inl rfl) ho hc hd (fun h' c' kp e=>fin its r' hz h' c' kp e) (by simp only [List.size_toArray]<;>lia)
 ·obtain ⟨its,r',pl,hz⟩:=I.tuple hq
  have hlen:=r'.length
  obtain ⟨o,ho,hc,n,hd⟩:=pl
  exact call_list_seq p (.inr rfl) ho hc hd (fun h' c' kp e=>fin its r' hz h' c' kp e) (by simp only [List.size_toArray]<;>lia)
def tyV (K:Fgg) (T:String) (x:V) (H:Hp):Prop:=match x with
 | .str _=>T = "str"
 | .int _=>T = "int"
 | .ref p=>(T = "list" ∧ ∃ xs,SqL K H p xs)∨(T = "tuple" ∧ ∃ o,K.lookup p=some o∧o.cls=.type "tuple" ∧ o.dict=none) ∨
   (T = "dict" ∧ ((∃ kvs,H p=some (.dK kvs))∨∃ kvs,H p=some (.dT kvs)))∨(T = "set" ∧ ∃ S n,H p=some (.set S n))
 | _=>False
theorem zpE_ {pins:Pnn}{σ:St}{H:Hp}{s:Shared}{T:String}{x:V}{v:Value}(I:Inv X pins σ H s) (r:RelV x v) (ty:tyV X.K T x H) :
  s.TypeIs v T∧∀ a,v=.ref a→∃ ob,s.heap.get? a=some ob∧ob.dict=none:=by
 cases x with
 | str z =>
  obtain ⟨t,rfl⟩:=r
  cases (show T = "str" from ty)
  exact ⟨typeIs_str s z t,fun _ e=>nomatch e⟩
 | int i =>
  obtain ⟨t,rfl⟩:=r
  cases (show T = "int" from ty)
  exact ⟨typeIs_int s i t,fun _ e=>nomatch e⟩
 | ref p =>
  cases r
  rcases ty with ⟨rfl,xs,hq⟩ | ⟨rfl,o,hk,hc,hd⟩ | ⟨rfl,hk⟩ | ⟨rfl,S,n,hk⟩
  ·obtain ⟨its,_,pl,_⟩:=I.list hq
   refine ⟨pl.isList.typeIs,fun a e=>?_⟩
   cases e
   obtain ⟨o,n,e,c,hd,_⟩:=pl
   exact ⟨o,e,hd⟩
  ·refine ⟨⟨o,I.kIn p o hk,hc⟩,fun a e=>?_⟩
   cases e
   exact ⟨o,I.kIn _ o hk,hd⟩
  ·have z:∃ o,s.heap.get? p=some o∧o.ExactDict:=by
    rcases hk with ⟨kvs,hk⟩ | ⟨kvs,hk⟩
    ·obtain ⟨_,_,_,_,o,_,_,e,ex,_⟩:=I.hok p _ hk
     exact ⟨o,e,ex⟩
    ·obtain ⟨_,_,_,_,o,_,_,e,ex,_⟩:=I.hok p _ hk
     exact ⟨o,e,ex⟩
   obtain ⟨o,e,ex⟩:=z
   refine ⟨⟨o,e,ex.1⟩,fun a e2=>?_⟩
   cases e2
   exact ⟨o,e,ex.2.1⟩
  ·obtain ⟨o,_,_,_,e,ex,_⟩:=I.hok p _ hk
   refine ⟨⟨o,e,ex.1⟩,fun a e2=>?_⟩
   cases e2
   exact ⟨o,e,ex.2.1⟩
 | _=>exact False.elim ty
def tBM (K:Fgg) (T:String) (r:V→List V→Hp→VK→Prop) (to:TE) (t:TA):TE:=fun σ H Q=>to σ H fun x H1=>tyV K T x H1∧t σ H1 fun xs H2=>r x xs H2 Q
variable {o e:Expr}{es:List Expr}{to:TE}{t:TA}{name:Str}{apos cpos:Pos}{T id:String}{r:V→List V→Hp→VK→Prop}
theorem zlD_ (pa:PlainAttrs T) (slot:Slot T name id) (hty:typeOf (.builtin id)=pure (.type "method_descriptor")) (hm:MtR X id r) (ho:PE X o to) (ha:PA X (e::es) t)
  (hbase:attributeBase o name X.env (eval o X.env)=eval o X.env:=by rfl)
  (hfew:((backTo cpos (starEach (e::es) X.env)).all (fun x=>!x.1) && (backToKw cpos (keywordEach [] X.env)).all (fun x=>x.1.isSome)
   && decide ((e::es).length+([]:List Keyword).length+(if ([]:List Keyword).isEmpty then 0 else 1)<30))=true:=by rfl)
  (hline:(apos.endLine == cpos.line)=true:=by rfl) (hs:starEach (e::es) X.env=(false,eval e X.env)::starEach es X.env:=by rfl) (hplain:(backTo cpos (starEach es X.env)).any (·.1)=false:=by rfl) :
  PE X (.Call (.Attribute o name apos) (e::es) [] cpos) (tBM X.K T r to t):=by
 intro pins s σ H Q I h
 refine wpAny_Call_method_late hbase hfew hline rfl (thn (ho pins s σ H _ I h) fun v s1 hq_=>?_)
 obtain ⟨x,H1,I1,r1,ty,q1⟩:=hq_
 obtain ⟨h1,h2⟩:=zpE_ I1 r1 ty
 refine ⟨T,id,pa,slot,hty,h1,h2,?_⟩
 have hA:=ha cpos pins s1 σ H1 _ I1 q1
 rw [hs] at hA ⊢
 refine Calls.callWith_builtin (by show (false || (backTo cpos (starEach es X.env)).any (·.1))=false; rw [hplain]<;>rfl) (Calls.evalArgs_plain ?_)
 exact thn hA fun us s2 ⟨vs,H2,I2,r2,q2⟩=>hm pins s2 σ H2 x vs v us Q I2 r1 r2 q2
end
end L2
namespace L2
open PySem PySem.Spec PyProof.Rows
def MtM (X:Cx) (id:String) (r:V→List V→Hp→VK→Prop):Prop :=
 ∀ (pins:Pnn) (s:Shared) (σ:St) (H:Hp) (x:V) (xs:List V) (v:Value) (us:List Value) (Q:VK),Inv X pins σ H s→RelV x v→Vals xs us→r x xs H Q →
  wpAny (model X.prog X.w) X.A (call (.builtin id) (v::us)) (EP X pins σ Q) X.xe s
theorem Vals.one:∀ {x:V}{us:List Value},Vals [x] us→∃ u,us=[u]∧RelV x u
 | _,_,.cons r .nil=>⟨_,rfl,r⟩
theorem Vals.dropLast {xs:List V}{us:List Value}(h:Vals xs us):Vals xs.dropLast us.dropLast:=by
 induction h with
 | nil=>exact .nil
 | cons r t ih =>
  cases t with
  | nil=>exact .nil
  | cons q t'=>exact .cons r ih
theorem Vals.rep {xs:List V}{us:List Value}(h:Vals xs us):∀ k:Nat,Vals (List.replicate k xs).flatten (List.replicate k us).flatten
 | 0=>.nil
 | k+1=>by
  rw [List.replicate_succ,List.replicate_succ,List.flatten_cons,List.flatten_cons]
  exact Vals.append h (Vals.rep h k)
theorem zoP_ {α:Type}(l:List α):l.eraseIdx (l.length-1)=l.dropLast:=by
 induction l with
 | nil=>rfl
 | cons a r ih =>
  cases r with
  | nil=>rfl
  | cons b r =>
   have e:(a::b::r).length-1=((b::r).length-1)+1:=by
    have h1:(a::b::r).length=r.length+2:=rfl
    have h2:(b::r).length=r.length+1:=rfl
    lia
   rw [e,List.eraseIdx_cons_succ,ih]
   all_goals rfl
theorem zhu_ (its:List Value):∀ (k:Nat) (acc:List Value),
  List.foldl (fun x1 x2=>x1++x2) acc.toArray (List.replicate k its.toArray)=(acc++(List.replicate k its).flatten).toArray
 | 0,acc=>by simp
 | k+1,acc=>by
  have e:acc.toArray++its.toArray=(acc++its).toArray:=by simp
  have e2:(acc++its)++(List.replicate k its).flatten=acc++(List.replicate (k+1) its).flatten:=by
   rw [List.replicate_succ,List.flatten_cons,List.append_assoc]
  rw [← e2,← zhu_ its k (acc++its),← e,List.replicate_succ,List.foldl_cons]
section
variable {X:Cx}{pins:Pnn}{σ:St}{H:Hp}{s:Shared}{l b:Addr}{xs ys zs:List V}
theorem Inv.lset {its its':List Value}{n:Nat}{f:Array Value→Array Value}{t':Nat}(I:Inv X pins σ H s) (hH:H l=some (.lst xs))
  (e:s.heap.get? l=some { cls:=.type "list",data:=.seq its.toArray n }) (hf:f its.toArray=its'.toArray) (hv:Vals ys its') (hz:ys.length≤sizeLine) :
  Inv X pins σ (upd H l (.lst ys)) { s with heap:=s.heap.update l (Obj.mapSeq f),toks:=t' }:=by
 have q:=PySem.IsL.update e f
 rw [hf] at q
 refine I.write (x:=l) (e:=l) (by rw [hH]; exact trivial) (.inl rfl) (fun b' u hb hu=>(Heap.get?_update_other s.heap (Obj.mapSeq f) (Ne.symm hb)).trans hu) ⟨_,q⟩ ?_
 exact ⟨hz,its',_,hv,q⟩
theorem Inv.lnew {its:List Value}{t':Nat}(I:Inv X pins σ H s) (hv:Vals ys its) (hz:ys.length≤sizeLine) :
  Inv X pins σ (upd H s.heap.objs.size (.lst ys)) { s with heap:=s.heap.push { cls:=.type "list",data:=.seq its.toArray },toks:=t' } :=
 I.laid (fun _ _ q=>Heap.get?_push_of_some _ q) (Nat.le_refl _) ⟨hz,its,0,hv,Heap.get?_push_size _ rfl⟩
theorem Inv.fresh (I:Inv X pins σ H s):H s.heap.objs.size=none:=I.hok.fresh (Nat.le_refl _)
theorem Inv.lstM (I:Inv X pins σ H s) (hH:H l=some (.lst xs)):xs.length≤sizeLine∧∃ (its:List Value) (n:Nat),Vals xs its∧xs.length=its.length∧s.heap.get? l=some { cls:=.type "list",data:=.seq its.toArray n }:=by
 obtain ⟨z,its,n,r,e⟩:=I.hok l _ hH
 exact ⟨z,its,n,r,r.length,e⟩
theorem notLongL {n:Nat}(h:n≤sizeLine):Builtin.List.listTooLong n=false:=by
 unfold Builtin.List.listTooLong
 exact decide_eq_false (by lia)
end
section
variable {X:Cx}
def rAppend:V→List V→Hp→VK→Prop:=fun x vs H Q=>∃ l xs y,x=.ref l∧vs=[y]∧H l=some (.lst xs)∧xs.length<sizeLine∧Q .non (upd H l (.lst (xs++[y])))
theorem zb8_:MtM X "list.append" rAppend:=by
 intro pins s σ H x vs v us Q I rx rv h
 obtain ⟨l,xs,y,rfl,rfl,hH,hz,q⟩:=h
 cases rx
 obtain ⟨u,rfl,ru⟩:=rv.one
 obtain ⟨z,its,n,r,hl,e⟩:=I.lstM hH
 refine call_meets F.slot_list_append ⟨_,e,rfl⟩ F.entry_list_append (F.args_list_append_2 _ _) (PySem.list_append l its.toArray n u (by rw [List.size_toArray]; lia)) ⟨e,?_⟩
 refine ⟨.non,_,I.lset (its':=its++[u]) hH e (by simp) (r.append (.cons ru .nil)) ?_,rfl,q⟩
 rw [List.length_append,List.length_singleton]
 lia
def rExtend:V→List V→Hp→VK→Prop:=fun x vs H Q=>∃ l b xs zs,x=.ref l∧vs=[.ref b]∧H l=some (.lst xs)∧H b=some (.lst zs)∧xs.length+zs.length≤sizeLine∧Q .non (upd H l (.lst (xs++zs)))
theorem zgV_:MtM X "list.extend" rExtend:=by
 intro pins s σ H x vs v us Q I rx rv h
 obtain ⟨l,b,xs,zs,rfl,rfl,hH,hB,hz,q⟩:=h
 cases rx
 obtain ⟨u,rfl,ru⟩:=rv.one
 cases ru
 obtain ⟨z,its,n,r,hl,e⟩:=I.lstM hH
 obtain ⟨z2,its2,n2,r2,hl2,e2⟩:=I.lstM hB
 have hsz:its.toArray.size+its2.toArray.size≤sizeLine:=by rw [List.size_toArray,List.size_toArray]; lia
 have hlong:¬ (!its.toArray.isEmpty && Builtin.List.listTooLong (its.toArray.size+its2.toArray.size))=true:=by
  rw [notLongL hsz,Bool.and_false]
  exact Bool.false_ne_true
 refine call_meets F.slot_list_extend ⟨_,e,rfl⟩ F.entry_list_extend (F.args_list_extend_2 _ _)
  (AutoSeq1.list_extend_list_list_0 l its.toArray n b its2.toArray n2 hlong (by rw [List.size_toArray]; lia) (by lia)) ⟨e,e2,?_⟩
 refine ⟨.non,_,I.lset (its':=its++its2) hH e (by simp) (r.append r2) ?_,rfl,q⟩
 rw [List.length_append]
 lia
def rCat:R2:=fun x y H Q=>∃ l b xs zs,x=.ref l∧y=.ref b∧H l=some (.lst xs)∧H b=some (.lst zs)∧xs.length+zs.length≤sizeLine∧∀ p,H p=none→Q (.ref p) (upd H p (.lst (xs++zs)))
theorem zpu_:OpR X (binaryOp .Add) rCat:=by
 intro pins s σ H x y v u Q I rx ry h
 obtain ⟨l,b,xs,zs,rfl,rfl,hH,hB,hz,q⟩:=h
 cases rx
 cases ry
 obtain ⟨z,its,n,r,hl,e⟩:=I.lstM hH
 obtain ⟨z2,its2,n2,r2,hl2,e2⟩:=I.lstM hB
 refine PySem.P.add_list e e2 ?_ (by rw [List.size_toArray,List.size_toArray]; lia)
 have ea:its.toArray++its2.toArray=(its++its2).toArray:=by simp
 rw [ea]
 exact ⟨.ref _,_,I.lnew (t':=s.toks) (r.append r2) (by rw [List.length_append]; lia),rfl,q _ I.fresh⟩
def rRep:R2:=fun x y H Q=>∃ l k xs,x=.ref l∧y=.int k∧H l=some (.lst xs) ∧ -(2 ^ 63)≤k∧k<2 ^ 63∧xs.length*k.toNat≤sizeLine ∧
 ∀ p,H p=none→Q (.ref p) (upd H p (.lst (List.replicate k.toNat xs).flatten))
theorem zlr_ {α:Type}(xs:List α) (k:Nat):(List.replicate k xs).flatten.length=k*xs.length:=by
 induction k with
 | zero=>simp
 | succ k ih=>rw [List.replicate_succ,List.flatten_cons,List.length_append,ih,Nat.succ_mul,Nat.add_comm]
theorem zpf_:OpR X (binaryOp .Mult) rRep:=by
 intro pins s σ H x y v u Q I rx ry h
 obtain ⟨l,k,xs,rfl,rfl,hH,h1,h2,hz,q⟩:=h
 cases rx
 obtain ⟨t,rfl⟩:=ry
 obtain ⟨z,its,n,r,hl,e⟩:=I.lstM hH
 have hlen:its.toArray.size*k.toNat≤sizeLine:=by rw [List.size_toArray,← hl]; exact hz
 have hcap:¬ its.toArray.size*k.toNat > (2 ^ 63-1) / 8:=by
  have:(sizeLine:Nat)≤(2 ^ 63-1) / 8:=by decide
  lia
 have hfit:¬ (!Builtin.List.listFitsIndex k)=true:=by
  rw [fitsIndex_both h1 h2]
  exact Bool.false_ne_true
 have hlong:¬ Builtin.List.listTooLong (its.toArray.size*k.toNat)=true:=by
  rw [notLongL hlen]
  exact Bool.false_ne_true
 have hnew:List.foldl (fun x1 x2=>x1++x2) #[] (List.replicate (if its.toArray.isEmpty=true then 0 else k.toNat) its.toArray)=(List.replicate k.toNat its).flatten.toArray:=by
  have f0:∀ m:Nat,List.foldl (fun x1 x2=>x1++x2) #[] (List.replicate m its.toArray)=(List.replicate m its).flatten.toArray:=fun m=>by
   have:=zhu_ its m []
   rw [List.nil_append] at this
   exact this
  rw [f0]
  cases its with
  | nil=>simp
  | cons a r'=>rw [if_neg (by simp)]
 refine wpAny_binaryOp_repeat_ref (T := "list") (U := "int") (by decide) ⟨_,e,rfl⟩ (fun s'=>typeIs_int s' k t) noFill_list_mul F.fills_int_mul F.slot_int_rmul repeat_list F.slot_int_index.lookup
  (call_meets F.slot_int_rmul (typeIs_int s k t) F.entry_int_rmul (F.args_int_rmul_2 _ _) (int___rmul___int_list k t l its.toArray n)
   ⟨e,rfl,⟨_,e,rfl⟩,call_meets F.slot_list_mul ⟨_,e,rfl⟩ F.entry_list_mul (F.args_list_mul_2 _ _) (AutoListH.list___mul___list_int_3 l its.toArray n k t hfit hcap hlong) ⟨e,?_⟩⟩)
 rw [hnew]
 exact ⟨.ref _,_,I.lnew (t':=s.toks) (r.rep k.toNat) (by rw [zlr_,Nat.mul_comm]; exact hz),rfl,q _ I.fresh⟩
end
section
variable {prog:Program}{w:World}{A:Around}{E:Value→Shared→Prop}{s:Shared}
end
section
variable {X:Cx}
end
end L2
namespace Att
open PySem PySem.W PySem.Calls PyProof.Rows
theorem zer_ {P:Params}{h:Heap}:∀ (ns:List Int) (vs:List Value),WellAll P h vs (ns.map WData.int)→IntsAre vs ns:=by
 intro ns
 induction ns with
 | nil =>
  intro vs w
  rw [List.map_nil] at w
  cases w
  exact .nil
 | cons n ns ih =>
  intro vs w
  rw [List.map_cons] at w
  cases w with
  | cons a b =>
   cases a
   exact .cons _ _ (ih _ b)
theorem zko_ {l:OpenLaw}{n:Nat}(hn:l.most=some n) {P:Params}{h:Heap}{args:List WData}{vals:List Value}
  (hpre:l.row.toRowW.claim.pre args=true) (hwl:WellAll P h vals args) :
  ∃ a vs ns,vals=[Value.ref a]∧args=[WData.list (ns.map WData.int)]∧h.get? a=some { cls:=.type "list",data:=.seq vs.toArray }∧IntsAre vs ns∧ns.length≤n:=by
 have hsh:WShape.hasAll [] args [.list .int]=true:=(pre_splitW hpre).1
 have hc:l.pre.holds [] { args:=args }=true:=(pre_splitW hpre).2
 obtain ⟨d,r,rfl,h1,h2⟩:=hasAllW_cons hsh
 obtain rfl:=hasAllW_nil h2
 obtain ⟨xs,rfl,h3⟩:=hasW_list h1
 obtain ⟨ns,rfl⟩:=items_int h3
 have hlen:ns.length≤n:=by
  unfold OpenLaw.pre at hc
  have h4:(WTm.not (.lt (.lit (.int (n:Int))) (.len (.arg 0)))).holds [] { args:=[.list (ns.map .int)] }=true:=by
   have h4:=(holds_andW hc).1
   rw [hn] at h4
   exact h4
  have h5:=condW_of h4 (w_not (w_lt w_lit (w_len_list (w_arg rfl))))
  rw [List.length_map] at h5
  refine Nat.le_of_not_lt fun q=>?_
  have q':(n:Int)<((ns.length:Nat):Int):=by lia
  first
   | (rw [decide_eq_true q'] at h5; exact absurd h5 (by decide))
   | (simp at h5; lia)
 cases hwl with
 | cons w1 w2 =>
  cases w2
  cases w1 with
  | list ho hall=>exact ⟨_,_,ns,rfl,rfl,ho,zer_ ns _ hall,hlen⟩
theorem zkc_ (l:OpenLaw) (args:List WData):l.row.toRowW.claim.post args (.bool true) args=true :=
 postW_of (r:=l.row.toRowW) (X:=(true == true))
  (show WShape.has [] (.bool true) .bool=true by first | rfl | decide | simp [WShape.has,WShape.arms,WShape.armsAll])
  (show (WTm.eq .res (.lit (.bool true))).value [] { args:=args,res:=some (.bool true),after:=args }=some (.bool (true == true)) from w_eq_bool (w_res rfl) w_lit) rfl
section
variable {prog:Program}{w:World}{A:Around}{E:Value→Shared→Prop}{s:Shared}{K:Frag}
end
end Att
namespace L2
open PySem PySem.Spec PyProof.Rows
theorem zg7_:∀ {vs:List Value}{ns:List Int},IntsAre vs ns→Vals (ns.map V.int) vs
 | _,_,.nil=>.nil
 | _,_,.cons n t h=>.cons ⟨t,rfl⟩ (zg7_ h)
def Only (H:Hp):Prop:=∀ b,H b=none∨∃ o xs,H b=some (.frz o (.lst xs))
theorem zmt_ {P:Program}{w:World}{K:Fgg}{mg mb:Str→Option Value}{CX:CXT}{k:Nat}{fa a:Addr}{fd:FuncData}{x:Str}{sp:Sp}{s₁:Shared}{vs:List Value}{ns:List Int}
  (KX:K.In s₁.heap) (hns:s₁.heap.Ns mainGlobals mg) (hb:s₁.heap.Ns builtinsNs mb) (hbb:∀ x:Str,x ≠ "__name__" → mb x=bootBuiltins x) (hlim:s₁.heap.NoLimit) (hg:s₁.gens=#[])
  (ha:s₁.heap.get? a=some { cls:=.type "list",data:=.seq vs.toArray }) (hi:IntsAre vs ns) (hl:ns.length≤sizeLine) (hr:Room k callerA)
  (F:∀ base:Heap,K.In base→base.Ns mainGlobals mg→FnOk P w K mg base CX k fa fd [x] sp) (hbind:∀ (s:Shared) (u:Value),BindsTo s fd ⟨[u],[]⟩ [(x,u)])
  (hsp:∀ H:Hp,Only H→SqL K H a (ns.map V.int)→sp [.ref a] H (fun v _=>v=.bl true) fun _ _ _=>False)
  (hCX:∀ H e s',CX [] H s₁ (fun _ _ _=>False) e s'→False) :
  codeAny (model P w) callerA (.call (.ref fa) ⟨[.ref a],[]⟩) (fun r s'=>r=.ok (.ret (.bool true))∧OldK s₁.heap s'.heap∧s'.os=s₁.os∧AllBare s'.gens) s₁:=by
 have rv:=zg7_ hi
 have lenV:=hi.length
 have core:∀ H:Hp,Only H→SqL K H a (ns.map V.int)→HOk P w H s₁.heap→(∀ b,H b≠none→b=a)→(H a≠none→K.lookup a=none) →
   codeAny (model P w) callerA (.call (.ref fa) ⟨[.ref a],[]⟩) (fun r s'=>r=.ok (.ret (.bool true))∧OldK s₁.heap s'.heap∧s'.os=s₁.os∧AllBare s'.gens) s₁:=by
  intro H hO hS hok hA hK
  have base_of:∀ {b:Addr}{o:Obj},s₁.heap.get? b=some o→H b=none→(hidT s₁.heap H).get? b=some o:=fun e n=>zl0_ e n
  have noA:∀ {b:Addr}{o:Obj}{es:Array DictEntry}{ep:Nat},s₁.heap.get? b=some o→o.data=.dict es ep→H b=none:=fun {b o es ep} e d=>by
   cases q:H b with
   | none=>rfl
   | some u =>
    have e':b=a:=hA b (by rw [q]; simp)
    subst e'
    rw [ha] at e; cases e
    have d':Data.seq vs.toArray _=Data.dict es ep:=d
    cases d'
  have nsK:∀ {b:Addr}{m:Str→Option Value},s₁.heap.Ns b m→(hidT s₁.heap H).Ns b m:=fun {b m} ⟨o,es,ep,e,d,r⟩=>⟨o,es,ep,base_of e (noA e d),d,r⟩
  have hKb:K.In (hidT s₁.heap H):=fun b o e=>base_of (KX b o e) (by
   cases q:H b with
   | none=>rfl
   | some u =>
    have e':b=a:=hA b (by rw [q]; simp)
    subst e'
    rw [hK (by rw [q]; simp)] at e; cases e)
  have hM:Mod K mg (hidT s₁.heap H):=⟨hKb,nsK hns,⟨mb,nsK hb,hbb⟩,let ⟨mc,h1,h2⟩:=hlim; ⟨mc,nsK h1,h2⟩⟩
  have e0:Env0 P w K mg (hidT s₁.heap H) callerA [] s₁ H:=⟨rfl,hM,fun b o e=>zoe_ e,Nat.le_of_eq (zkO_ _ _),trivial,fun b hb=>absurd (show b∈([]:List Addr) from hb) (by simp),hok,.of_eq hg⟩
  refine codeAny_mono ((F _ hKb (nsK hns)).run callerA [] s₁ H ⟨[.ref a],[]⟩ [.ref a] [.ref a] _ _ hr e0 (hbind s₁ (.ref a)) (.cons rfl .nil) (hsp H hO hS)) fun r s' h=>?_
  cases r with
  | error e=>exact (hCX H e s' h).elim
  | ok fl =>
   cases fl with
   | next=>exact False.elim h
   | brk=>exact False.elim h
   | cont=>exact False.elim h
   | ret u =>
    obtain ⟨v,H',os,bare,un,hok',r',q⟩:=h
    have q':v=.bl true:=q
    subst q'
    obtain rfl:u=Value.bool true:=r'
    refine ⟨rfl,OldK.of_keep fun b o e=>?_,os,bare⟩
    cases q:H b with
    | none=>exact un.keep b o e q (by intro z; exact absurd (show b∈([]:List Addr) from z) (by simp)) (by simp)
    | some u =>
     rcases hO b with z | ⟨ob,xs,z⟩
     ·rw [q] at z; cases z
     ·have z2:=un.frzs b ob _ z
      obtain ⟨e1,_⟩:=hok b _ z
      obtain ⟨e2,_⟩:=hok' b _ z2
      rw [e] at e1; cases e1
      exact e2
 cases hk:K.lookup a with
 | some o =>
  have e:=KX a o hk
  rw [ha] at e
  cases e
  refine core (fun _=>none) (fun _=>.inl rfl) (.inr ⟨_,vs.toArray,_,hk,rfl,rfl,rfl,by rw [List.size_toArray,lenV]; exact hl,by simpa using rv⟩) (fun b u z=>by have z':(none:Option HO)=some u:=z; cases z') (fun b z=>absurd rfl z) fun z=>absurd rfl z
 | none =>
  refine core (fun b=>if b=a then some (.frz { cls:=.type "list",data:=.seq vs.toArray } (.lst (ns.map V.int))) else none) (fun b=>?_) (.inl (.inr ⟨{ cls:=.type "list",data:=.seq vs.toArray },if_pos rfl⟩)) (fun b u z=>?_) (fun b z=>?_) fun _=>hk
  ·by_cases hb:b=a
   ·exact .inr ⟨_,_,if_pos hb⟩
   ·exact .inl (if_neg hb)
  ·by_cases hb:b=a
   ·have z':=(if_pos hb).symm.trans z
    cases z'
    subst hb
    exact ⟨ha,by rw [List.length_map]; exact hl,vs,_,rv,ha⟩
   ·have z':=(if_neg hb).symm.trans z
    cases z'
  ·by_cases hb:b=a
   ·exact hb
   ·exact absurd (if_neg hb) z
end L2
namespace L2
open PySem PySem.Spec PyProof.Rows
end L2
namespace L2
open PySem PySem.Spec PyProof.Rows
def inClass (s:Stmt) (j:Nat):Stmt:=match s with
 | .ClassDef _ _ _ body _ _ _ _ _ _ _=>body.getD j (.Pass ⟨0,0,0,0⟩)
 | _=>.Pass ⟨0,0,0,0⟩
def defArgs (s:Stmt):Arguments:=match s with
 | .FunctionDef _ a _ _ _ _ _ _ _ _=>a
 | _=>{ posonlyargs:=[],args:=[],vararg:=none,kwonlyargs:=[],kw_defaults:=[],kwarg:=none,defaults:=[] }
def defBody (s:Stmt):List Stmt:=match s with
 | .FunctionDef _ _ b _ _ _ _ _ _ _=>b
 | _=>[]
def defScope (s:Stmt):Scope:=match s with
 | .FunctionDef _ _ _ _ _ _ sc _ _ _=>sc
 | _=>{ kind:=.function,names:=[],isGenerator:=false,isCoroutine:=false }
abbrev CX0:CXT:=fun _ _ _ _ _ _=>False
abbrev E0:XK:=fun _ _ _=>False
theorem pass0 {X:Cx}:Passes CX0 X E0:=fun _ _ _ _ _ _ _ h=>h.elim
structure Fun (K:Fgg) (x qual:Str) (st:Stmt) (f:Addr) (fd:FuncData):Prop where
 ex:∃ (oc:Value) (od:Option Addr) (kV doc pm:Value) (an:Option Addr) (cdv ct:Value) (osl:Array (Option Value)),
  fd=PySem.W.fnOf x qual (defArgs st) (defBody st) (defScope st) .none kV doc pm an cdv ct∧K.lookup f=some ⟨oc,od,.func fd,osl⟩∧PySem.W.codeIn K cdv qual=true
 kp:PySem.W.keepIn K (.ref f)=true
section
variable {P:Program}{w:World}{K:Fgg}{mg:Str→Option Value}{base:Heap}
theorem Fun.ok {x qual:Str}{st:Stmt}{f:Addr}{fd:FuncData}{N ps:List Str}{k:Nat}{sp:Sp}(F:Fun K x qual st f fd) (S:FnScope N ps (defScope st)) (len:∀ vs H Q E,sp vs H Q E→vs.length=ps.length)
  (hbody:∀ (cdv:Value) (A:Around) (outer:List Env) (s:Shared) (H:Hp) (vs:List V) (Q:VK) (E:XK),Room k (A.deeper (envOfC qual (defScope st) s.heap.objs.size f cdv))→sp vs H Q E →
   ∃ t,PSs (cxOf CX0 P w K mg base N qual (defScope st) f cdv A outer s H E).nox (defBody st) t∧t { nx:=fun _ H'=>Q .non H',rt:=Q } (start N vs) H):FnOk P w K mg base CX0 (k+1) f fd ps sp:=by
 obtain ⟨oc,od,kV,doc,pm,an,cdv,ct,osl,rfl,lk,hcd⟩:=F.ex
 refine fn_of lk hcd S len fun A outer s H vs Q E hr hsp=>?_
 obtain ⟨t,h,q⟩:=hbody cdv A outer s H vs Q E hr hsp
 exact ⟨t,h.nox,q⟩
theorem Fun.binds {x qual:Str}{st:Stmt}{f:Addr}{fd:FuncData}{ps:List Str}(F:Fun K x qual st f fd)
  (h:∀ (kV doc pm:Value) (an:Option Addr) (cdv ct:Value) (us:List Value),us.length=ps.length→bindArgs (PySem.W.fnOf x qual (defArgs st) (defBody st) (defScope st) .none kV doc pm an cdv ct) ⟨us,[]⟩=pure (ps.zip us)):Binds K fd ps []:=by
 obtain ⟨oc,od,kV,doc,pm,an,cdv,ct,osl,rfl,lk,hcd⟩:=F.ex
 exact .all (h kV doc pm an cdv ct)
theorem zn8_ {x qual:Str}{st:Stmt}{f:Addr}{oc:Value}{od an:Option Addr}{osl:Array (Option Value)}{kV doc pm cdv ct:Value}(l:K.lookup f=some ⟨oc,od,.func (PySem.W.fnOf x qual (defArgs st) (defBody st) (defScope st) .none kV doc pm an cdv ct),osl⟩)
  (c:PySem.W.codeIn K cdv qual=true) (k:PySem.W.keepIn K (.ref f)=true):Fun K x qual st f (PySem.W.fnOf x qual (defArgs st) (defBody st) (defScope st) .none kV doc pm an cdv ct):=⟨⟨oc,od,kV,doc,pm,an,cdv,ct,osl,rfl,l,c⟩,k⟩
end
section
variable {X:Cx}
end
def Same (H H':Hp):Prop:=∀ b o,H b=some o→H' b=some o
theorem Same.refl (H:Hp):Same H H:=fun _ _ h=>h
theorem Same.trans {H H1 H2:Hp}(a:Same H H1) (b:Same H1 H2):Same H H2:=fun c o h=>b c o (a c o h)
theorem Same.free {H H':Hp}(e:Same H H') {l:Addr}(h:H' l=Option.none):H l=Option.none:=by
 cases q:H l with
 | none=>rfl
 | some o =>
  rw [e l o q] at h
  cases h
theorem Same.seq {K:Fgg}{H H':Hp}{a:Addr}{xs:List V}(e:Same H H') (h:SqL K H a xs):SqL K H' a xs:=by
 rcases h with (h | ⟨o,h⟩) | h
 ·exact .inl (.inl (e _ _ h))
 ·exact .inl (.inr ⟨o,e _ _ h⟩)
 ·exact .inr h
end L2
namespace L2
open PySem PySem.Spec PyProof.Rows
def Itp (n:Nat) (f:Nat→V):It:=⟨fun i _=>i<n,fun i H x H'=>H'=H∧x=f i,fun i _=>n≤i⟩
def ownTups:List String:=["enumerate", "zip", "dict_itemiterator", "dict_reverseitemiterator", "odict_iterator", "itertools.zip_longest", "itertools.pairwise"]
theorem zgX_ {P:Program}{w:World}{K:Fgg}{tg:Expr}{it:Addr}{n:Nat}{f:Nat→V}{Pw:Nat→Value→Prop}{St:Nat→Heap→Prop}
  (W:∀ A:Around,A.handled=none→Walks P w A it [it] [it] n Pw St) (hv:∀ i v,i<n→Pw i v→RelV (f i) v)
  (ho:∀ i h,St i h→∃ o nm vs,h.get? it=some o∧o.cls=.type nm∧o.data=.fields vs∧ownTups.contains nm=false)
  (hself:∀ (A:Around) (i:Nat) (s:Shared) (Q:Value→Shared→Prop) (E:Value→Shared→Prop),St i s.heap→Q (.ref it) s→wpAny (model P w) A (pyIter (.ref it)) Q E s)
  (hkeep:∀ i h h',St i h→(∀ b∈[it],∀ o,h.get? b=some o→h'.get? b=some o)→St i h') :
  Turn P w K tg (Itp n f) [it] it (fun i h=>i≤n∧St i h) where
 mem:=by simp
 obj:=fun i h st b hb=>by
  have e:b=it:=by simpa using hb
  subst e
  obtain ⟨o,nm,vs,e,c,d,_⟩:=ho i h st.2
  exact ⟨o,e,fun v z=>by rw [d] at z; cases z⟩
 keep:=fun i h h' st k=>⟨st.1,hkeep i h h' st.2 k⟩
 item:=by
  intro X hP hw hK hc i pins s σ H E I hf st hg
  subst hP hw hK
  obtain ⟨f0,f1,f2,f3,f4,f5⟩:=hf it (by simp)
  have hi:i<n:=hg
  refine (W X.A (I.ok.hd hc)).item i s _ _ hi st.2 fun v h' tk hv' st' kk=>?_
  have I1:Inv X pins σ H { s with heap:=h',toks:=tk }:=I.turned (fun b o hb e=>kk b o (by simpa using hb) e) f0 f1 f3 f4 f5
  obtain ⟨o,nm,vs,e,c,d,hn⟩:=ho _ _ st'
  exact ⟨_,rfl,zoR_ (s:={ s with heap:=h',toks:=tk }) (n:=nm) e c d hn ⟨f i,H,I1,hv i v hi hv',⟨rfl,rfl⟩,⟨hi,st'⟩,fun b hb=>(hf b hb).1⟩⟩
 done:=by
  intro X hP hw hK hc i pins s σ H E I hf st hg
  subst hP hw hK
  obtain ⟨f0,f1,f2,f3,f4,f5⟩:=hf it (by simp)
  have hi:n≤i:=hg
  have e:i=n:=Nat.le_antisymm st.1 hi
  subst e
  exact (W X.A (I.ok.hd hc)).done s _ _ st.2 fun h' tk kk=>⟨rfl,I.turned (fun b o hb e=>kk b o (by simpa using hb) e) f0 f1 f3 f4 f5⟩
 self:=fun A i s Q E st h=>hself A i s Q E st.2 h
def sgn (x:Str) (i:Nat):V:=.str ⟨#[x.cps.getD i 0]⟩
theorem zj2_ {P:Program}{w:World}{it:Addr}{x:Str}{t:Tok}(A:Around) (hA:A.handled=none):Walks P w A it [it] [it] x.cps.size (SignAt x) (fun i h=>h.IsStrIter it (strIterType x) x t i):=by
 cases ha:x.cps.all (·<128)
 ·have e:strIterType x = "str_iterator" := by simp [strIterType,ha]
  rw [e]; exact Walks.strWide hA it x t
 ·have e:strIterType x = "str_ascii_iterator" := by simp [strIterType,ha]
  rw [e]; exact Walks.strAscii hA it x t
theorem zjI_ {x:Str}{i:Nat}{v:Value}(h:SignAt x i v):RelV (sgn x i) v:=by
 obtain ⟨c,u,e,rfl⟩:=h
 refine ⟨u,?_⟩
 have:x.cps.getD i 0=c:=by simp [Array.getD_eq_getD_getElem?,e]
 rw [this]
theorem zeZ_ (x:Str):ownTups.contains (strIterType x)=false:=by
 unfold strIterType; split<;>decide
theorem zl3_ {P:Program}{w:World}{K:Fgg}{tg:Expr}(it:Addr) (x:Str) (t:Tok):Turn P w K tg (Itp x.cps.size (sgn x)) [it] it (fun i h=>i≤x.cps.size∧h.IsStrIter it (strIterType x) x t i):=by
 refine zgX_ (Pw:=SignAt x) (fun A hA=>zj2_ A hA) (fun i v _ h=>zjI_ h) (fun i h st=>?_) (fun A i s Q E st h=>?_) (fun i h h' st k=>?_)
 ·obtain ⟨o,e,c,d⟩:=st
  exact ⟨o,_,_,e,c,d,zeZ_ x⟩
 ·cases ha:x.cps.all (·<128)
  ·have e:strIterType x = "str_iterator" := by simp [strIterType,ha]
   rw [e] at st; exact wpAny_pyIter_striter_wide st h
  ·have e:strIterType x = "str_ascii_iterator" := by simp [strIterType,ha]
   rw [e] at st; exact wpAny_pyIter_striter_ascii st h
 ·obtain ⟨o,e,r⟩:=st
  exact ⟨o,k it (by simp) o e,r⟩
section
variable {X:Cx}{tg:Expr}
end
end L2
namespace L2
open PySem PySem.Spec PyProof.Rows
theorem Inv.turnedL {X:Cx}{pins:Pnn}{σ:St}{H:Hp}{s:Shared}{h':Heap}{t':Nat}{ch:List Addr}(I:Inv X pins σ H s) (k:∀ b o,b∉ch→s.heap.get? b=some o→h'.get? b=some o)
  (hf:∀ b∈ch,FpOk X pins H b):Inv X pins σ H { s with heap:=h',toks:=t' }:=by
 have nit:∀ b u,H b=some u→b∉ch:=fun b u e z=>by rw [(hf b z).1] at e; cases e
 refine I.step (g':=s.gens) (d':=s.drawn) (ch:=ch) (fun b hb=>?_) (fun b o _ _ hc e _=>k b o hc e) (fun b o _ _ hc e _=>⟨o.slots,k b o hc e⟩) (fun _ _ _ _ n=>n)
  (fun b o hc e=>⟨o,k b o hc e⟩) (fun _ _ e=>e) (fun _ _ _ e=>e) (fun b ps e=>⟨#[],by rw [e]; simp⟩) (fun m hm=>?_) (fun b u e=>?_) I.bare
 ·obtain ⟨f0,f1,f2,f3,f4,f5⟩:=hf b hb
  exact ⟨f3,f1,f4,f5⟩
 ·obtain ⟨o,es,ep,ho,r⟩:=hm
  exact ⟨o,es,ep,k _ o (fun z=>(hf _ z).2.1 rfl) ho,r⟩
 ·refine (I.hok b u e).stay (fun c v hc q=>k c v ?_ q) (fun _ q=>q) fun _ _ q=>q
  rcases hc with z | z
  ·rw [z]; exact nit b u e
  ·exact nit c _ z
theorem zkI_ {X:Cx}{pins:Pnn}{σ:St}{H:Hp}{s:Shared}{h1:Heap}{tk:Nat}{tk':Tok}{e it:Addr}{i:Nat}{x:Value}{y:V}{St:Heap→Prop}{elts:List Expr}{kk:Nat}{pos:Pos}{E:Value→Shared→Prop}
  (I:Inv X pins σ H s) (hf:∀ b∈[e,it],FpOk X pins H b) (he:e<s.heap.objs.size) (hit:it<s.heap.objs.size) (hei:e≠it) (heo:IsEnumOut h1 e it ((i:Int)+1) x s.heap.objs.size) (ry:RelV y x)
  (ht:h1.get? s.heap.objs.size=some { cls:=.type "tuple",data:=.seq #[.int i tk',x] }) (hz:h1.objs.size=s.heap.objs.size+1) (hk:∀ b o,b≠e→b≠it→s.heap.get? b=some o→h1.get? b=some o)
  (hSt:∀ h2,Heap.SameBut e h1 h2→St h2) :
  wpAny (model X.prog X.w) X.A (letOwnedTupleGo (.Tuple elts kk pos) (.ref e) (.ref s.heap.objs.size)) (fun _ s2=>∃ z H',Inv X pins σ H' s2∧RelV z (.ref s.heap.objs.size) ∧
   (∃ p,H p=none∧z=.ref p∧H'=upd H p (.tup [.int i,y]))∧(IsEnum s2.heap e it ((i+1:Nat):Int) x∧St s2.heap)∧∀ b∈[e,it],H' b=none) E { s with heap:=h1,toks:=tk }:=by
 refine wpAny_letOwnedTupleGo_enum heo fun h2 he2 hs2=>?_
 replace hs2:Heap.SameBut e h1 h2:=hs2
 have hp:H s.heap.objs.size=none:=I.hok.fresh (Nat.le_refl _)
 have hne:s.heap.objs.size≠e:=Nat.ne_of_gt he
 have hni:s.heap.objs.size≠it:=Nat.ne_of_gt hit
 have I1:Inv X pins σ (upd H s.heap.objs.size (.tup [.int i,y])) { s with heap:=s.heap.push { cls:=.type "tuple",data:=.seq #[.int i tk',x] },toks:=tk }:=by
  refine I.laid (fun b u q=>Heap.get?_push_of_some _ q) (Nat.le_refl _) ⟨?_,[.int i tk',x],.cons ⟨_,rfl⟩ (.cons ry .nil),⟨_,Heap.get?_push_size _ rfl,rfl,_,rfl⟩⟩
  show 2≤sizeLine
  decide
 have hf1:∀ b∈[e,it],FpOk X pins (upd H s.heap.objs.size (.tup [.int i,y])) b:=fun b hb=>by
  obtain ⟨f0,r⟩:=hf b hb
  refine ⟨?_,r⟩
  rw [zW_ (by rcases List.mem_cons.mp hb with rfl | hb; exact hne.symm; rcases List.mem_cons.mp hb with rfl | hb; exact hni.symm; cases hb)]
  exact f0
 have I2:Inv X pins σ (upd H s.heap.objs.size (.tup [.int i,y])) { s with heap:=h2,toks:=tk }:=by
  refine Inv.turnedL (s:={ s with heap:=s.heap.push { cls:=.type "tuple",data:=.seq #[.int i tk',x] },toks:=tk }) (ch:=[e,it]) I1 (fun b o hb q=>?_) hf1
  have nbe:b≠e:=fun z=>hb (by simp [z])
  have nbi:b≠it:=fun z=>hb (by simp [z])
  refine (hs2.2 b nbe).trans ?_
  rcases Heap.get?_push_cases q with ⟨rfl,rfl⟩ | q'
  ·exact ht
  ·exact hk b o nbe nbi q'
 refine ⟨.ref s.heap.objs.size,_,I2,rfl,⟨s.heap.objs.size,hp,rfl,rfl⟩,⟨?_,hSt h2 hs2⟩,fun b hb=>(hf1 b hb).1⟩
 have:((i+1:Nat):Int)=(i:Int)+1:=by push_cast; rfl
 rw [this]; exact he2
def Ite (K:Fgg) (l:Addr):It :=
 ⟨fun i H=>∃ xs x,SqL K H l xs∧xs[i]?=some x,fun i H y H'=>∃ p x,(∀ xs,SqL K H l xs→xs[i]?=some x)∧H p=none∧y=.ref p∧H'=upd H p (.tup [.int i,x]),fun i H=>∃ xs,SqL K H l xs∧xs.length≤i⟩
theorem ziF_ {P:Program}{w:World}{K:Fgg}{elts:List Expr}{kk:Nat}{pos:Pos}(e it l:Addr) (hei:e≠it) :
  Turn P w K (.Tuple elts kk pos) (Ite K l) [e,it] e (fun i h=>(∃ old,IsEnum h e it (i:Nat) old)∧h.IsListIter it l i) where
 mem:=by simp
 obj:=fun i h st b hb=>by
  obtain ⟨⟨old,he⟩,o,ho,c,d⟩:=st
  rcases List.mem_cons.mp hb with rfl | hb
  ·exact ⟨_,he,fun v z=>by cases z⟩
  ·have e:b=it:=by simpa using hb
   subst e
   exact ⟨o,ho,fun v z=>by rw [d] at z; cases z⟩
 keep:=fun i h h' st k=>by
  obtain ⟨⟨old,he⟩,hit⟩:=st
  exact ⟨⟨old,k e (by simp) _ he⟩,hit.at fun o q=>k it (by simp) o q⟩
 item:=by
  intro X hP hw hK hc i pins s σ H E I hf st hg
  subst hP hw hK
  obtain ⟨xs,x,hq,hx⟩:=hg
  obtain ⟨its,rv,p,hz⟩:=I.list hq
  obtain ⟨u,hu,ru⟩:=rv.get hx
  obtain ⟨⟨old,he⟩,hit⟩:=st
  refine wpAny_pyNext_enum_item he hit p.isList (x:=u) (by simpa using hu) hei fun h1 heo hit1 ht1 hz1 hk1=>?_
  refine ⟨_,rfl,?_⟩
  have hel:e<s.heap.objs.size:=Heap.lt_size he
  have hil:it<s.heap.objs.size:=by obtain ⟨o,ho,_⟩:=id hit; exact Heap.lt_size ho
  refine thn (zkI_ (St:=fun h2=>h2.IsListIter it l (i+1)) I hf hel hil hei heo ru ht1 hz1 hk1 fun h2 hs=>hit1.extBut hs.extBut hei.symm) fun _ s2 q=>?_
  obtain ⟨z,H',I2,rz,⟨p,hp,rfl,rfl⟩,⟨he2,hit2⟩,fr⟩:=q
  exact ⟨.ref p,_,I2,rz,⟨p,x,fun ys hy=>by rw [I.list_inj hy hq]; exact hx,hp,rfl,rfl⟩,⟨⟨u,he2⟩,hit2⟩,fr⟩
 done:=by
  intro X hP hw hK hc i pins s σ H E I hf st hg
  subst hP hw hK
  obtain ⟨xs,hq,hx⟩:=hg
  obtain ⟨its,rv,p,hz⟩:=I.list hq
  obtain ⟨⟨old,he⟩,hit⟩:=st
  have hl:=rv.length
  obtain ⟨f0,f1,f2,f3,f4,f5⟩:=hf it (by simp)
  exact wpAny_pyNext_enum_end (I.ok.hd hc) he hit p.isList (by simp; lia) fun h' eb=>⟨rfl,I.turned (t':=s.toks) (fun b o hb e=>eb b o hb e) f0 f1 f3 f4 f5⟩
 self:=fun _ _ _ _ _ st h=>by
  obtain ⟨⟨old,he⟩,_⟩:=st
  exact wpAny_pyIter_enum he h
section
variable {X:Cx}{elts:List Expr}{kk:Nat}{tpos:Pos}
def iEnumL (K:Fgg) (ta:TA):TI:=fun σ H R=>ta σ H fun vs H1=>∃ a,vs=[.ref a]∧(∃ xs,SqL K H1 a xs)∧R (Ite K a) H1
theorem zf6_ {a:Expr}{ta:TA}{p pos:Pos}(hg:Gl X "enumerate") (hm:X.mg "enumerate" = none) (ha:PA X [a] ta) (hs:starEach [a] X.env=[(false,eval a X.env)]:=by rfl) :
  PI X (.Tuple elts kk tpos) (.Call (.Name "enumerate" p) [a] [] pos) (iEnumL X.K ta):=by
 intro pins s σ H R I h
 refine Call_ (zgU_ I hg hm (u:=.type "enumerate") (by rfl) (PyProof.Rows.callWith_type1 (thn (ha pos pins s σ H _ I h) fun us s1 hq_=>?_) hs rfl))
 obtain ⟨vs,H1,I1,r1,q1⟩:=hq_
 obtain ⟨l,e,⟨xs,hq⟩,q⟩:=q1
 subst e
 cases r1 with
 | cons r rr =>
  cases rr
  cases r
  obtain ⟨its,rv,p,hz⟩:=I1.list hq
  refine call_enumerate_list p.isList fun h' he hit hsz hk=>?_
  refine wpAny_pyIter_enum (s:={ s1 with heap:=h' }) he ?_
  have I2:Inv X pins σ H1 { s1 with heap:=h' }:=I1.kept (t':=s1.toks) hk
  refine ⟨s1.heap.objs.size+1,[s1.heap.objs.size+1,s1.heap.objs.size],_,_,H1,rfl,I2,ziF_ _ _ l (by simp),⟨⟨_,he⟩,hit⟩,fun b hb=>?_,q⟩
  have hb':s1.heap.objs.size≤b:=by
   rcases List.mem_cons.mp hb with rfl | hb
   ·exact Nat.le_succ _
   ·have e:b=s1.heap.objs.size:=by simpa using hb
    subst e; exact Nat.le_refl _
  exact I1.fpOk hb' (I1.hok.fresh hb')
end
end L2
namespace L2
open PySem PySem.Spec PyProof.Rows
section
variable {prog:Program}{w:World}{A:Around}{R:Result→Shared→Prop}{s:Shared}
theorem zhJ_ {elt target iter:Expr}{ifs:List Expr}{scope:Scope}{pos:Pos}{it acc:Value}{env:Env}(I:Nat→Shared→Prop)
  (turn:∀ n s,I n s→wpAny (model prog w) A (pyNext it) (fun r s₁=>match r with
   | none=>R (.ok .next) s₁
   | some v=>wpAny (model prog w) A (letOwnedTupleGo target it v) (fun _ s₂=>wpAny (model prog w) A (assign target env v) (fun _ s₃ =>
     wpAny (model prog w) A (forIn ifs true fun c r=>if r=true then do let ok ← isTrue c env (eval c env); pure (ForInStep.yield ok) else pure (ForInStep.yield r)) (fun ok s₄ =>
      if ok=true then wpAny (model prog w) A (eval elt env) (fun x s₅ =>
       wpAny (model prog w) A (call (.builtin "list.append") [acc,x]) (fun _ s₆=>∃ m,m<n∧I m s₆) (fun _ _=>False) s₅) (fun _ _=>False) s₄
      else ∃ m,m<n∧I m s₄) (fun _ _=>False) s₃) (fun _ _=>False) s₂) (fun _ _=>False) s₁) (fun _ _=>False) s)
  (n:Nat) (h:I n s) :
  codeAny (model prog w) A (.compLoop (.ListComp elt [⟨target,iter,ifs,0⟩] scope pos) 0 it acc env) R s:=by
 refine codeAny_loop rfl I (fun n s hI=>?_) n h
 show wpAny _ A ((compTurn (.ListComp elt [⟨target,iter,ifs,0⟩] scope pos) 0 it acc env).onRaise (fun x=>do noteFrame x env; theTreesLotGoes x)) _ _ s
 refine wpAny_noted ?_
 rw [compTurn_list]
 refine wpAny_bind (wpAny_standAt (wpAny_bind (wpAny_mono (turn n s hI) (fun r s₁ h₁=>?_) fun _ _ h'=>h'.elim)))
 cases r with
 | none=>exact wpAny_pure h₁
 | some v =>
  refine wpAny_bind (wpAny_mono h₁ (fun _ s₂ h₂=>?_) fun _ _ h'=>h'.elim)
  refine wpAny_bind (wpAny_mono h₂ (fun _ s₃ h₃=>wpAny_bind (wpAny_mono h₃ (fun ok s₄ h₄=>?_) fun _ _ h'=>h'.elim)) fun _ _ h'=>h'.elim)
  cases ok with
  | false=>exact wpAny_pure ⟨rfl,h₄⟩
  | true =>
   exact wpAny_bind (wpAny_bind (wpAny_mono h₄ (fun x s₅ h₅=>wpAny_bind (wpAny_mono h₅ (fun _ s₆ h₆=>wpAny_pure (wpAny_pure ⟨rfl,h₆⟩)) fun _ _ h'=>h'.elim)) fun _ _ h'=>h'.elim))
end
def closeL (cells:List (Str×Addr)):List (Str×NameKind)→List (Str×Addr)→Option (List (Str×Addr))
 | [],acc=>some acc
 | (n,k)::r,acc=>if (k == .free)=true then (match cells.lookup n with | some c=>closeL cells r ((n,c)::acc) | none=>none) else closeL cells r acc
theorem zec_ {env:Env}{f:Str×NameKind→List (Str×Addr)→Sem (ForInStep (List (Str×Addr)))}
  (hf:∀ n k cs,f (n,k) cs=if (k == NameKind.free)=true then (do let c ← cellOf env n; pure (ForInStep.yield ((n,c)::cs))) else pure (ForInStep.yield cs)) :
  ∀ (names:List (Str×NameKind)) (acc cl:List (Str×Addr)),closeL env.cells names acc=some cl→(forIn names acc f:Sem (List (Str×Addr)))=pure cl
 | [],acc,cl,h=>by cases h; rfl
 | (n,k)::r,acc,cl,h=>by
  rw [List.forIn_cons,hf]
  unfold closeL at h
  by_cases hk:(k == NameKind.free)=true
  ·rw [if_pos hk] at h
   rw [if_pos hk]
   cases hc:env.cells.lookup n with
   | none=>rw [hc] at h; cases h
   | some c =>
    rw [hc] at h
    have e:cellOf env n=pure c:=by unfold cellOf; rw [hc]
    rw [e]
    simp only [pure_bind]
    exact zec_ hf r _ cl h
  ·rw [if_neg hk] at h
   rw [if_neg hk]
   simp only [pure_bind]
   exact zec_ hf r _ cl h
theorem zhr_ {env:Env}{scope:Scope}{cl:List (Str×Addr)}(h:closeL env.cells scope.names []=some cl):closureFor scope env=pure cl:=by
 unfold closureFor
 dsimp only
 rw [zec_ (env:=env) (fun n k cs=>rfl) scope.names [] cl h]
 rfl
theorem zcN_ {cells:List (Str×Addr)}:∀ (names:List (Str×NameKind)) (acc cl:List (Str×Addr)),closeL cells names acc=some cl→(∀ x c,acc.lookup x=some c→cells.lookup x=some c) →
  (∀ x c,cl.lookup x=some c→cells.lookup x=some c)
 | [],acc,cl,h,ha=>by cases h; exact ha
 | (n,k)::r,acc,cl,h,ha=>by
  unfold closeL at h
  by_cases hk:(k == NameKind.free)=true
  ·rw [if_pos hk] at h
   cases hc:cells.lookup n with
   | none=>rw [hc] at h; cases h
   | some c =>
    rw [hc] at h
    refine zcN_ r _ cl h fun x c' e=>?_
    rw [List.lookup_cons] at e
    cases hx:x == n with
    | true=>rw [hx] at e; cases e; rw [eq_of_beq hx]; exact hc
    | false=>rw [hx] at e; exact ha x c' e
  ·rw [if_neg hk] at h
   exact zcN_ r _ cl h ha
theorem zek_ {cells:List (Str×Addr)}:∀ (names:List (Str×NameKind)) (acc cl:List (Str×Addr)),closeL cells names acc=some cl→∀ x,((x,NameKind.free)∈names∨∃ c,acc.lookup x=some c)→∃ c,cl.lookup x=some c
 | [],acc,cl,h,x,hx=>by
  cases h
  rcases hx with hx | hx
  ·cases hx
  ·exact hx
 | (n,k)::r,acc,cl,h,x,hx=>by
  unfold closeL at h
  by_cases hk:(k == NameKind.free)=true
  ·rw [if_pos hk] at h
   cases hc:cells.lookup n with
   | none=>rw [hc] at h; cases h
   | some c =>
    rw [hc] at h
    refine zek_ r _ cl h x ?_
    rcases hx with hx | ⟨c',e⟩
    ·rcases List.mem_cons.mp hx with e | hx
     ·cases e; exact .inr ⟨c,by rw [List.lookup_cons,beq_self_eq_true]⟩
     ·exact .inl hx
    ·refine .inr ?_
     rw [List.lookup_cons]
     cases hxn:x == n with
     | true=>exact ⟨c,rfl⟩
     | false=>exact ⟨c',e⟩
  ·rw [if_neg hk] at h
   refine zek_ r _ cl h x ?_
   rcases hx with hx | hx
   ·rcases List.mem_cons.mp hx with e | hx
    ·cases e; exact absurd rfl hk
    ·exact .inl hx
   ·exact .inr hx
theorem zeL_ {scope:Scope}{env:Env}{x:Str}{k:NameKind}(h:(relabel scope env).names.lookup x=some k) (hk:k=.cell∨k=.free) (hcell:∀ y∈scope.names,y.2≠.cell):(x,NameKind.free)∈scope.names:=by
 have m:=PySem.mem_of_lookup h
 obtain ⟨⟨n,k0⟩,hm,e⟩:=List.mem_map.mp m
 dsimp only at e
 split at e
 ·rename_i hc
  cases e
  have:k0=.free:=by
   simp only [Bool.and_eq_true,beq_iff_eq] at hc
   exact hc.1.1
  subst this; exact hm
 ·cases e
  rcases hk with rfl | rfl
  ·exact absurd rfl (hcell _ hm)
  ·exact hm
def cxComp (X:Cx) (scope:Scope) (cl:List (Str×Addr)) (C:Addr) (N:List Str) (fp:List Addr) (s2:Shared) (H2:Hp):Cx where
 prog:=X.prog
 w:=X.w
 K:=X.K
 mg:=X.mg
 base:=X.base
 A:=X.A
 N:=N
 s₀:=s2
 H₀:=H2
 env:=compEnvC scope cl C X.env
 outer:=X.stack
 stack:=X.stack
 ex:=fp
 fn:=fun _=>false
 calm:=X.calm
 pn:=[]
 xe:=fun _ _=>False
structure CScope (X:Cx) (scope:Scope) (cl:List (Str×Addr)) (lv:List Str) (fr:List (Str×Nat)):Prop where
 clos:closeL X.env.cells scope.names []=some cl
 cell:∀ y∈scope.names,y.2≠.cell
 kind:scope.kind=.function
 names:∀ z∈scope.names,z.2=.local→scope.names.lookup z.1=some .local
 fr:∀ q∈fr,X.N[q.2]?=some q.1∧(q.1,NameKind.free)∈scope.names∧(X.env.kindOf q.1=some .cell∨X.env.kindOf q.1=some .free) ∧
  ((relabel scope X.env).names.lookup q.1=some .cell∨(relabel scope X.env).names.lookup q.1=some .free)
def cN (lv:List Str) (fr:List (Str×Nat)):List Str:=lv++fr.map (·.1)
def cS (lv:List Str) (fr:List (Str×Nat)) (σ:St):St:=lv.map (fun _=>none)++fr.map fun q=>(σ[q.2]?).join
theorem zmq_ {X:Cx}{pins:Pnn}{σ:St}{H2:Hp}{s2:Shared}{scope:Scope}{cl:List (Str×Addr)}{lv:List Str}{fr:List (Str×Nat)}{fp:List Addr}{h4:Heap}{tk:Nat}{m:Str→Option Value}{n:Nat}
  (I:Inv X pins σ H2 s2) (S:CScope X scope cl lv fr) (hf:∀ b∈fp,FpOk X pins H2 b) (hlt:∀ b∈fp,b<s2.heap.objs.size) (hC:h4.Ns (s2.heap.objs.size+1) m) (hD:h4.get? s2.heap.objs.size=some { cls:=.type "list",data:=.seq #[] n })
  (hk:∀ b o,s2.heap.get? b=some o→h4.get? b=some o) :
  Inv (cxComp X scope cl (s2.heap.objs.size+1) (cN lv fr) fp s2 H2) [] (cS lv fr σ) (upd H2 s2.heap.objs.size (.lst [])) { s2 with heap:=h4,toks:=tk }:=by
 have hcl:=zcN_ scope.names [] cl S.clos (fun x c e=>by cases e)
 have hhas:=zek_ scope.names [] cl S.clos
 have hDn:H2 s2.heap.objs.size=none:=I.hok.fresh (Nat.le_refl _)
 have hCn:H2 (s2.heap.objs.size+1)=none:=I.hok.fresh (Nat.le_succ _)
 have hCD:s2.heap.objs.size+1≠s2.heap.objs.size:=Nat.ne_of_gt (Nat.lt_succ_self _)
 have fpC:∀ b∈fp,(b∈X.ex∨X.s₀.heap.objs.size≤b):=fun b hb=>(hf b hb).2.2.2.1
 have cellLt:∀ x c,cl.lookup x=some c→c<s2.heap.objs.size:=fun x c e=>by
  obtain ⟨v,o,ho,_⟩:=I.cell x c (hcl x c e)
  exact Heap.lt_size ho
 refine ⟨⟨I.ok.mod,S.kind,I.ok.glob,I.ok.blt,Nat.le_succ _,fun x y c h1 h2=>I.ok.inj x y c (hcl x c h1) (hcl y c h2),fun x hx=>?_,fun x c hfn=>(by cases hfn),I.ok.hd,I.ok.frames,.inl rfl,fun b hb=>?_,I.bs,Nat.le_trans I.ok.bsz I.sz,fun b o e hb=>?_,fun b hb z=>?_,I.stack,I.stkFree⟩,
  rfl,I.bare,?_,⟨m,hC,fun i x v h1 h2 h3=>?_⟩,fun x c e=>?_,?_,fun x c e=>?_,fun p hp=>absurd (show p∈([]:Pnn) from hp) (by simp),?_,?_⟩
 ·-- has
  have hx':(relabel scope X.env).names.lookup x=some .cell∨(relabel scope X.env).names.lookup x=some .free:=hx
  have hm:(x,NameKind.free)∈scope.names:=hx'.elim (fun z=>zeL_ z (.inl rfl) S.cell) fun z=>zeL_ z (.inr rfl) S.cell
  exact hhas x (.inl hm)
 ·-- exf
  obtain ⟨f0,f1,f2,f3,f4,f5⟩:=hf b hb
  refine ⟨fun z=>?_,fun x c e=>f4 x c (hcl x c e)⟩
  have z':b=s2.heap.objs.size+1:=z
  have:=hlt b hb
  rw [z'] at this
  exact absurd this (Nat.not_lt.mpr (Nat.le_succ _))
 ·rcases fpC b hb with z | z
  ·exact I.ok.noex b o e z
  ·exact absurd (Nat.lt_of_lt_of_le (Nat.lt_of_lt_of_le (Heap.lt_size e) I.ok.bsz) z) (Nat.lt_irrefl _)
 ·obtain ⟨f0,f1,f2,_⟩:=hf b hb
  rcases List.mem_cons.mp (I.stkSub b z) with q | q
  ·exact f1 q
  ·exact f2 q
 ·exact Un.laid hk (Nat.le_refl _) hDn
 ·-- loc
  have h1':(lv++fr.map (·.1))[i]?=some x:=h1
  have h2':(lv.map (fun _=>none)++fr.map fun q=>(σ[q.2]?).join:St)[i]?=some (some v):=h2
  by_cases hi:i<lv.length
  ·rw [List.getElem?_append_left (by simpa using hi),List.getElem?_map] at h2'
   cases hq:lv[i]? with
   | none=>rw [hq] at h2'; cases h2'
   | some z=>rw [hq] at h2'; cases h2'
  ·rw [List.getElem?_append_right (by simpa using hi),List.getElem?_map] at h2'
   rw [List.getElem?_append_right (by lia),List.getElem?_map] at h1'
   simp only [List.length_map] at h2'
   cases hq:fr[i-lv.length]? with
   | none=>rw [hq] at h1'; cases h1'
   | some q =>
    rw [hq] at h1' h2'
    have e1:q.1=x:=Option.some.inj h1'
    have e2:(σ[q.2]?).join=some v:=Option.some.inj h2'
    have e3:σ[q.2]?=some (some v):=by
     cases hz:σ[q.2]? with
     | none=>rw [hz] at e2; cases e2
     | some z=>rw [hz] at e2; exact congrArg some e2
    obtain ⟨g1,g2,g3,g4⟩:=S.fr q (List.mem_of_getElem? hq)
    obtain ⟨m0,hn0,hl0⟩:=I.loc
    have vis:Vis X.env.scope q.1:=by
     rcases g3 with g3 | g3
     ·exact .inr (.inl g3)
     ·exact .inr (.inr g3)
    obtain ⟨u,r,l⟩:=hl0 q.2 q.1 v g1 e3 vis
    refine ⟨u,r,.inr ⟨?_,?_⟩⟩
    ·rw [← e1]; exact g4
    ·rcases l with ⟨lk,_⟩ | ⟨_,c,ec,ic⟩
     ·rcases g3 with g3 | g3<;>(rw [lk] at g3; cases g3)
     ·obtain ⟨c',ec'⟩:=hhas q.1 (.inl g2)
      have:c'=c:=by
       have:=hcl q.1 c' ec'
       rw [ec] at this; exact (Option.some.inj this).symm
      subst this
      obtain ⟨o,ho,hd⟩:=ic
      exact ⟨c',by rw [← e1]; exact ec',o,hk _ _ ho,hd⟩
 ·obtain ⟨v,o,ho,hd⟩:=I.cell x c (hcl x c e)
  exact ⟨v,o,hk _ _ ho,hd⟩
 ·show upd H2 _ _ (s2.heap.objs.size+1)=none
  rw [zW_ hCD]; exact hCn
 ·have:=cellLt x c e
  rw [zW_ (Nat.ne_of_lt this)]
  exact I.freeC x c (hcl x c e)
 ·exact I.hok.laid hk (Nat.le_refl _) ⟨Nat.zero_le _,[],n,.nil,hD⟩
 ·show (cS lv fr σ).length=(cN lv fr).length
  simp [cS,cN]
end L2
namespace L2
open PySem PySem.Spec PyProof.Rows
def PIf (X:Cx) (ifs:List Expr) (t:TT):Prop :=
 ∀ (pins:Pnn) (s:Shared) (σ:St) (H:Hp) (Q:Bool→Hp→Prop),Inv X pins σ H s→t σ H Q →
  wpAny (model X.prog X.w) X.A (forIn ifs true fun c r=>if r=true then do let ok ← isTrue c X.env (eval c X.env); pure (ForInStep.yield ok) else pure (ForInStep.yield r)) (TP X pins σ Q) X.xe s
def tTrue:TT:=fun _ H Q=>Q true H
theorem za3_ {X:Cx}:PIf X [] tTrue:=fun pins s σ H Q I h=>wpAny_tests_nil ⟨H,I,h⟩
def tCompR (J:It) (g:TG) (tt:TT) (te:TE) (σ0:St) (H1:Hp) (Q:VK):Prop :=
 ∀ D,H1 D=none→∃ W:Nat→Nat→List V→St→Hp→Prop,(∃ m,W 0 m [] σ0 (upd H1 D (.lst [])))∧∀ i m ys σ H,W i m ys σ H →
  (J.stop i H∧Q (.ref D) H)∨(J.go i H∧∃ N:List V→St→Hp→Prop,(∀ ys' σ' H',N ys' σ' H'→∃ m',m'<m∧W (i+1) m' ys' σ' H') ∧
   ∀ x H',J.yld i H x H'→g x σ H' fun σ2 H2=>tt σ2 H2 fun b H3=>if b=true then te σ2 H3 fun v H4=>H4 D=some (.lst ys)∧ys.length<sizeLine∧N (ys++[v]) σ2 (upd H4 D (.lst (ys++[v]))) else N ys σ2 H3)
section
variable {X:Cx}{scope:Scope}{cl:List (Str×Addr)}{lv:List Str}{fr:List (Str×Nat)}{elt tg iter:Expr}{ifs:List Expr}{pos:Pos}{g:TG}{tt:TT}{te:TE}
theorem zfS_ {pins:Pnn}{σ:St}{H2:Hp}{s2:Shared}{it:Addr}{fp:List Addr}{tn:Nat→Heap→Prop}{J:It}{Q:VK}{E:Value→Shared→Prop}{use:Option (Value→Sem Unit)}{Q':Value→Shared→Prop}
  (I:Inv X pins σ H2 s2) (S:CScope X scope cl lv fr) (T:Turn X.prog X.w X.K tg J fp it tn) (st:tn 0 s2.heap) (hf:∀ b∈fp,FpOk X pins H2 b) (hc:X.calm=true)
  (hg:∀ C fp s2 H2,PG (cxComp X scope cl C (cN lv fr) fp s2 H2) tg g) (ht:∀ C fp s2 H2,PIf (cxComp X scope cl C (cN lv fr) fp s2 H2) ifs tt) (he:∀ C fp s2 H2,PE (cxComp X scope cl C (cN lv fr) fp s2 H2) elt te)
  (hq:tCompR J g tt te (cS lv fr σ) H2 Q)
  (fin:∀ D C oC H' s',Inv X (pins++[(C,oC)]) σ H' s'→(∀ h:Heap,h.get? C=some oC→∃ m,h.Ns C m)→FpOk X pins H' C→Q (.ref D) H'→compPost (model X.prog X.w) X.A E use Q' (.ref D) C (.ok .next) s') :
  wpAny (model X.prog X.w) X.A (newList []) (fun acc s₃=>wpAny (model X.prog X.w) X.A (newFunctionEnv scope X.env.globals cl [] X.env.qual none .none (some X.env)) (fun cenv s₄ =>
   codeAny (model X.prog X.w) X.A (.compStart (.ListComp elt [⟨tg,iter,ifs,0⟩] scope pos) 0 (.ref it) acc { cenv with scope:=relabel scope X.env }) (compPost (model X.prog X.w) X.A E use Q' acc cenv.locals) s₄) E s₃) E s2:=by
 have hlt:∀ b∈fp,b<s2.heap.objs.size:=fun b hb=>by
  obtain ⟨o,ho,_⟩:=T.obj 0 _ st b hb
  exact Heap.lt_size ho
 refine wpAny_newList (wpAny_newFunctionEnv S.cell (by intro y hy; simp at hy) (fun h₁ hns₁ hsb₁=>?_) S.kind)
 dsimp only at hns₁ hsb₁ ⊢
 have hsz:(s2.heap.push { cls:=.type "list",data:=.seq ([]:List Value).toArray }).objs.size=s2.heap.objs.size+1:=Heap.size_push ..
 rw [hsz] at hns₁ hsb₁ ⊢
 have old:∀ b o,s2.heap.get? b=some o→h₁.get? b=some o:=fun b o e=>hsb₁.extBut b o (Nat.ne_of_lt (Nat.lt_succ_of_lt (Heap.lt_size e))) (Heap.get?_push_of_some _ (Heap.get?_push_of_some _ e))
 have hacc:h₁.get? s2.heap.objs.size=some { cls:=.type "list",data:=.seq #[] }:=hsb₁.extBut _ _ (Nat.ne_of_lt (Nat.lt_succ_self _)) (Heap.get?_push_of_some _ (Heap.get?_push_size _ rfl))
 have I4:Inv (cxComp X scope cl (s2.heap.objs.size+1) (cN lv fr) fp s2 H2) [] (cS lv fr σ) (upd H2 s2.heap.objs.size (.lst [])) { s2 with heap:=h₁,toks:=s2.toks+([]:List (Str×Value)).length } :=
  zmq_ I S hf hlt hns₁ hacc old
 generalize hX':cxComp X scope cl (s2.heap.objs.size+1) (cN lv fr) fp s2 H2=X' at I4
 have eP:X'.prog=X.prog:=by rw [← hX']; rfl
 have ew:X'.w=X.w:=by rw [← hX']; rfl
 have eK:X'.K=X.K:=by rw [← hX']; rfl
 have eA:X'.A=X.A:=by rw [← hX']; rfl
 have ec:X'.calm=true:=by rw [← hX']; exact hc
 have ex:X'.xe=fun _ _=>False:=by rw [← hX']; rfl
 have een:X'.env=compEnvC scope cl (s2.heap.objs.size+1) X.env:=by rw [← hX']; rfl
 have hg':PG X' tg g:=hX' ▸ hg _ _ _ _
 have ht':PIf X' ifs tt:=hX' ▸ ht _ _ _ _
 have he':PE X' elt te:=hX' ▸ he _ _ _ _
 obtain ⟨W,⟨m0,w0⟩,turn⟩:=hq s2.heap.objs.size (I.hok.fresh (Nat.le_refl _))
 have st1:tn 0 h₁:=T.keep _ _ _ st fun b _ o e=>old b o e
 have f4:∀ b∈fp,FpOk X' [] (upd H2 s2.heap.objs.size (.lst [])) b:=fun b hb=>by
  obtain ⟨f0,f1,f2,f3,f4,f5⟩:=hf b hb
  have:=hlt b hb
  refine ⟨?_,?_,?_,.inl ?_,?_,?_⟩
  ·rw [zW_ (Nat.ne_of_lt this)]; exact f0
  ·rw [een]; exact Nat.ne_of_lt (Nat.lt_succ_of_lt this)
  ·intro z
   have z':b∈frs X.stack:=by rw [← hX'] at z; exact z
   rcases List.mem_cons.mp (I.stkSub b z') with q | q
   ·exact f1 q
   ·exact f2 q
  ·rw [← hX']; exact hb
  ·intro x c e
   rw [een] at e
   exact f4 x c (zcN_ scope.names [] cl S.clos (fun x c e=>by cases e) x c e)
  ·intro p hp
   rw [← hX'] at hp
   exact absurd (show p∈([]:Pnn) from hp) (by simp)
 have stat:∀ {H':Hp},(∀ b∈fp,H' b=none)→∀ b∈fp,FpOk X' [] H' b:=fun hn b hb=>⟨hn b hb,(f4 b hb).2⟩
 have loop:∀ s₃:Shared,s₃={ s2 with heap:=h₁,toks:=s2.toks+([]:List (Str×Value)).length } →
   codeAny (model X.prog X.w) X.A (.compLoop (.ListComp elt [⟨tg,iter,ifs,0⟩] scope pos) 0 (.ref it) (.ref s2.heap.objs.size) (compEnvC scope cl (s2.heap.objs.size+1) X.env))
    (compPost (model X.prog X.w) X.A E use Q' (.ref s2.heap.objs.size) (s2.heap.objs.size+1)) s₃:=by
  rintro s₃ rfl
  refine zhJ_ (fun n s'=>∃ i ys σ' H',Inv X' [] σ' H' s'∧tn i s'.heap∧(∀ b∈fp,H' b=none)∧W i n ys σ' H') ?_ m0 ⟨0,[],_,_,I4,st1,fun b hb=>(f4 b hb).1,w0⟩
  rintro n s3 ⟨i,ys,σ3,H3,I3,st3,fr3,w3⟩
  rcases turn i n ys σ3 H3 w3 with ⟨stop,qn⟩ | ⟨go,N,hN,step⟩
  ·have a0:=T.done X' eP ew eK ec i [] s3 σ3 H3 (fun _ _=>False) I3 (stat fr3) st3 stop
   rw [eA] at a0
   refine thn a0 fun r s4 hq_=>?_
   obtain ⟨hr,I4'⟩:=hq_
   subst hr
   have un:Un (frs X.stack) fp H2 H3 s2.heap s4.heap:=by
    have:=I4'.base
    rw [← hX'] at this
    exact this
   have os:s4.os=s2.os:=by
    have:=I4'.os
    rw [← hX'] at this
    exact this
   have hok:HOk X.prog X.w H3 s4.heap:=by
    have:=I4'.hok
    rw [← hX'] at this
    exact this
   have J1:Inv X pins σ H3 s4:=I.call' os un hok I4'.bare fun b hb=>by
    obtain ⟨f0,f1,f2,f3,f4,f5⟩:=hf b hb
    exact ⟨f3,f1,f4,f5⟩
   obtain ⟨m,hn,_⟩:=I4'.loc
   have hn':s4.heap.Ns (s2.heap.objs.size+1) m:=by rw [een] at hn; exact hn
   have hCn:H3 (s2.heap.objs.size+1)=none:=by
    have:=I4'.free
    rw [een] at this; exact this
   have fC:FpOk X pins H3 (s2.heap.objs.size+1):=I.fpOk (Nat.le_succ _) hCn
   obtain ⟨oC,es,ep,hoC,hdC,rC⟩:=id hn'
   have J2:Inv X (pins++[(s2.heap.objs.size+1,oC)]) σ H3 s4:=J1.pins_of fun p hp=>by
    rcases List.mem_append.mp hp with hp | hp
    ·exact J1.pin p (List.mem_append_right _ hp)
    ·have e:p=(s2.heap.objs.size+1,oC):=by simpa using hp
     subst e
     exact ⟨hoC,hCn,fC.2.1,fC.2.2.1,fun v z=>by rw [hdC] at z; cases z⟩
   exact fin _ _ oC H3 s4 J2 (fun h e=>⟨m,oC,es,ep,e,hdC,rC⟩) fC qn
  ·have a0:=T.item X' eP ew eK ec i [] s3 σ3 H3 (fun _ _=>False) I3 (stat fr3) st3 go
   rw [eA] at a0
   refine thn a0 fun r s4 hq_=>?_
   obtain ⟨u,hr,h4⟩:=hq_
   subst hr
   refine thn h4 fun _ s5 hq_=>?_
   obtain ⟨x,H5,I5,r5,y5,st5,fr5⟩:=hq_
   have I5':=I5.pinned (stat fr5) (T.obj _ _ st5)
   have a1:=hg' _ s5 σ3 H5 x u _ I5' r5 (step x H5 y5)
   rw [eP,ew,eA,een,ex] at a1
   refine thn a1 fun _ s6 hq_=>?_
   obtain ⟨σ6,H6,I6,q6⟩:=hq_
   have a2:=ht' _ s6 σ6 H6 _ I6 q6
   rw [eP,ew,eA,een,ex] at a2
   refine thn a2 fun ok s7 hq_=>?_
   obtain ⟨H7,I7,q7⟩:=hq_
   have again:∀ {ys7:List V}{H7:Hp}{s7:Shared},Inv X' ([]++pinsAt fp s5.heap) σ6 H7 s7→N ys7 σ6 H7→∃ m,m<n∧∃ i ys σ' H',Inv X' [] σ' H' s7∧tn i s7.heap∧(∀ b∈fp,H' b=none)∧W i m ys σ' H':=fun {ys7 H7 s7} I7 n7=>by
    obtain ⟨m',hm,w7⟩:=hN ys7 σ6 H7 n7
    refine ⟨m',hm,i+1,ys7,σ6,H7,I7.unpinned,T.keep _ _ _ st5 fun b hb o e=>(I7.pin (b,o) (List.mem_append_right _ (List.mem_append_right _ (zcW_ hb e)))).1,fun b hb=>?_,w7⟩
    obtain ⟨o,e,d⟩:=T.obj _ _ st5 b hb
    exact (I7.pin (b,o) (List.mem_append_right _ (List.mem_append_right _ (zcW_ hb e)))).2.1
   cases ok with
   | false=>exact again I7 q7
   | true =>
    have a3:=he' _ s7 σ6 H7 _ I7 q7
    rw [eP,ew,eA,een,ex] at a3
    refine thn a3 fun y s8 hq_=>?_
    obtain ⟨v,H8,I8,r8,hD8,hl8,n8⟩:=hq_
    have a4:=zb8_ (X:=X') _ s8 σ6 H8 (.ref s2.heap.objs.size) [v] (.ref s2.heap.objs.size) [y] (fun _ H9=>N (ys++[v]) σ6 H9) I8 rfl (.cons r8 .nil) ⟨_,_,_,rfl,rfl,hD8,hl8,n8⟩
    rw [eP,ew,eA,ex] at a4
    refine thn a4 fun _ s9 hq_=>?_
    obtain ⟨v9,H9,I9,_,n9⟩:=hq_
    exact again I9 n9
 exact codeAny_compStart_list (loop _ rfl) (T.self _ 0 _ _ _ st1 (loop _ rfl))
def tComp (lv:List Str) (fr:List (Str×Nat)) (wi:TI) (g:TG) (tt:TT) (te:TE):TE:=fun σ H Q=>wi σ H fun J H1=>tCompR J g tt te (cS lv fr σ) H1 Q
theorem zci_ {wi:TI}(hc:X.calm=true) (S:CScope X scope cl lv fr) (hi:PI X tg iter wi)
  (hg:∀ C fp s2 H2,PG (cxComp X scope cl C (cN lv fr) fp s2 H2) tg g) (ht:∀ C fp s2 H2,PIf (cxComp X scope cl C (cN lv fr) fp s2 H2) ifs tt) (he:∀ C fp s2 H2,PE (cxComp X scope cl C (cN lv fr) fp s2 H2) elt te)
  (hs:∀ x,foldedSetIterable iter X.env x=pure x:=by intro _; rfl):PE X (.ListComp elt [⟨tg,iter,ifs,0⟩] scope pos) (tComp lv fr wi g tt te):=by
 intro pins s σ H Q I h
 rw [eval_ListComp]
 refine wpAny_comprehension_free (use:=none) rfl hs (zhr_ S.clos) S.kind S.names ?_
 refine thn (hi pins s σ H _ I h) fun v s1 h1=>thn h1 fun itv s2 h2=>?_
 obtain ⟨it,fp,tn,J,H2,e,I2,T,st2,f2,q⟩:=h2
 subst e
 refine zfS_ I2 S T st2 f2 hc hg ht he q fun D C oC H' s' J1 hNs fC qD=>?_
 have hp:=J1.pin (C,oC) (List.mem_append_right _ (List.mem_append_right _ (List.mem_singleton.mpr rfl)))
 obtain ⟨m,hm⟩:=hNs s'.heap hp.1
 refine ⟨m,hm,fun h' hs'=>?_⟩
 exact ⟨.ref D,H',J1.unpinned.turned (t':=s'.toks) (fun b o hb e=>(hs'.2 b hb).trans e) fC.1 fC.2.1 fC.2.2.2.1 fC.2.2.2.2.1 fC.2.2.2.2.2,rfl,qD⟩
theorem zcP_ {wi:TI}{j:Nat}{y:Str}{py spos:Pos}(hc:X.calm=true) (S:CScope X scope cl lv fr) (hi:PI X tg iter wi)
  (hg:∀ C fp s2 H2,PG (cxComp X scope cl C (cN lv fr) fp s2 H2) tg g) (ht:∀ C fp s2 H2,PIf (cxComp X scope cl C (cN lv fr) fp s2 H2) ifs tt) (he:∀ C fp s2 H2,PE (cxComp X scope cl C (cN lv fr) fp s2 H2) elt te)
  (hy:PG X (.Name y py) (gName j))
  (hsw:swapsWith (.ListComp elt [⟨tg,iter,ifs,0⟩] scope pos) (some (.Name y py)) spos.line X.env=pure true:=by rfl)
  (hs:∀ x,foldedSetIterable iter X.env x=pure x:=by intro _; rfl):PS X (.Assign [.Name y py] (.ListComp elt [⟨tg,iter,ifs,0⟩] scope pos) spos) (tAsg (tComp lv fr wi g tt te) (gName j)):=by
 intro pins s σ H D I h
 rw [exec_Assign_Name_used _ _ _ _ hsw]
 refine wpAny_bind (wpAny_standAt (wpAny_bind ?_))
 show wpAny _ X.A (do let _ ← comprehension (.ListComp elt [⟨tg,iter,ifs,0⟩] scope pos) scope X.env _ (newList []) false (eval iter X.env) (some (assign (.Name y py) X.env))) _ _ s
 refine wpAny_bind (wpAny_mono (wpAny_comprehension_free (use:=some (assign (.Name y py) X.env)) (Q:=fun _ s'=>SP X pins D .next s') rfl hs (zhr_ S.clos) S.kind S.names ?_) (fun _ s' hq=>wpAny_pure (wpAny_pure hq)) fun _ _ e=>e)
 refine thn (hi pins s σ H _ I h) fun v s1 h1=>thn h1 fun itv s2 h2=>?_
 obtain ⟨it,fp,tn,J,H2,e,I2,T,st2,f2,q⟩:=h2
 subst e
 refine zfS_ I2 S T st2 f2 hc hg ht he q fun D' C oC H' s' J1 hNs fC qD=>?_
 show wpAny _ X.A (assign (.Name y py) X.env (.ref D')) _ _ _
 refine thn (hy _ s' σ H' (.ref D') (.ref D') _ J1 rfl qD) fun _ s3 hq_=>?_
 obtain ⟨σ3,H3,I3,q3⟩:=hq_
 have hp:=I3.pin (C,oC) (List.mem_append_right _ (List.mem_append_right _ (List.mem_singleton.mpr rfl)))
 obtain ⟨m,hm⟩:=hNs s3.heap hp.1
 refine ⟨m,hm,fun h' hs'=>?_⟩
 have fC':FpOk X pins H3 C:=⟨hp.2.1,fC.2⟩
 exact ⟨σ3,H3,I3.unpinned.turned (t':=s3.toks) (fun b o hb e=>(hs'.2 b hb).trans e) fC'.1 fC'.2.1 fC'.2.2.2.1 fC'.2.2.2.2.1 fC'.2.2.2.2.2,q3⟩
end
end L2
namespace L2
open PySem PySem.Spec PyProof.Rows
abbrev tx (l:List Nat):V:=.str ⟨l.toArray⟩
def br (b:Bool) (A B:Prop):Prop:=(b=true→A)∧(b=false→B)
theorem zjQ_ (a b:Str):a++b=⟨(a.cps.toList++b.cps.toList).toArray⟩:=by
 cases a; cases b
 show Str.mk (_++_)=_
 simp
theorem zaK_ (a:Str):a=⟨a.cps.toList.toArray⟩:=by cases a; simp
def cutL (l:List Nat) (lo hi:Option Int):List Nat:=(l.drop (HT.sIx l.length 0 lo)).take (HT.sIx l.length l.length hi-HT.sIx l.length 0 lo)
theorem zed_ (lo hi:Option Int) (n:Nat):Builtin.Str.strSliceIndices lo hi 1 n=sliceRange ((HT.sIx n 0 lo:Nat):Int) ((HT.sIx n n hi:Nat):Int) 1:=by
 unfold Builtin.Str.strSliceIndices
 simp only [show (1:Int) > 0 by decide,if_true]
 congr 1
 ·cases lo with
  | none=>simp [HT.sIx]
  | some i =>
   simp only [HT.sIx]
   by_cases h:i<0
   ·simp only [h,if_true]<;>lia
   ·simp only [h,if_false]<;>lia
 ·cases hi with
  | none=>simp [HT.sIx]
  | some i =>
   simp only [HT.sIx]
   by_cases h:i<0
   ·simp only [h,if_true]<;>lia
   ·simp only [h,if_false]<;>lia
theorem zja_ (x:Str) (lo hi:Option Int):(Builtin.Str.strSliceIndices lo hi 1 x.length).filterMap (x.cps[·]?)=cutL x.cps.toList lo hi:=by
 rw [zed_,sliceRange_one,pick_run]
 unfold cutL Str.length
 simp only [Array.length_toList]
theorem ze0_ (l:List Nat) (lo hi:Option Int):(cutL l lo hi).length≤l.length:=by
 unfold cutL
 rw [List.length_take,List.length_drop]
 lia
theorem zky_ {l:List Nat}{lo hi:Option Int}(h:(cutL l lo hi).length=l.length):cutL l lo hi=l:=by
 unfold cutL at h ⊢
 rw [List.length_take,List.length_drop] at h
 have h1:HT.sIx l.length l.length hi≤l.length:=HT.sIx_le _ _ (Nat.le_refl _) _
 by_cases hl:l.length=0
 ·have:l=[]:=List.length_eq_zero_iff.mp hl
  subst this
  simp
 ·have h2:HT.sIx l.length 0 lo=0:=by lia
  rw [h2,List.drop_zero,List.take_of_length_le]
  lia
section
variable {X:Cx}
def rSlS:V→Option Int→Option Int→Hp→VK→Prop:=fun x lo hi H Q=>match x with | .str z=>z.length≤sizeLine∧Q (tx (cutL z.cps.toList lo hi)) H | _=>False
theorem zen_ {v:Value}{o:Option Int}(p:IsPart v o):∃ l:Option (Int×Tok),v=partValue l∧l.map (·.1)=o:=by
 cases p with
 | none=>exact ⟨none,rfl,rfl⟩
 | int i t=>exact ⟨some (i,t),rfl,rfl⟩
theorem zpa_:SlR X rSlS:=by
 intro pins s σ H x v vl vu lo hi sl Q I rx hs pl pu h
 cases x with
 | str z =>
  obtain ⟨hz,q⟩:=h
  obtain ⟨t,rfl⟩:=rx
  obtain ⟨l,rfl,rfl⟩:=zen_ pl
  obtain ⟨u,rfl,rfl⟩:=zen_ pu
  refine ⟨"str",_,F.slot_str_getitem.lookup,typeIs_str _ _ _,?_⟩
  refine wpAny_getItem_str_slice (l:=l) (u:=u) (st:=none) hs rfl ?_
  unfold sliceMade
  have e:slicePicked z l u none=Builtin.Str.strSliceIndices (l.map (·.1)) (u.map (·.1)) 1 z.length:=rfl
  rw [e]
  have hlen:(Builtin.Str.strSliceIndices (l.map (·.1)) (u.map (·.1)) 1 z.length).length=(cutL z.cps.toList (l.map (·.1)) (u.map (·.1))).length:=by
   rw [zed_,sliceRange_one,List.length_map,List.length_range]
   unfold cutL
   rw [List.length_take,List.length_drop]
   have h1:HT.sIx z.length z.length (u.map (·.1))≤z.length:=HT.sIx_le _ _ (Nat.le_refl _) _
   have h2:z.cps.toList.length=z.length:=by simp [Str.length]
   rw [h2]
   lia
  split
  ·rename_i hc
   have hc':(cutL z.cps.toList (l.map (·.1)) (u.map (·.1))).length=z.cps.toList.length:=by
    rw [← hlen]
    simpa [Str.length] using hc
   rw [zky_ hc'] at q
   have q':Q (.str z) H:=by rw [zaK_ z]; exact q
   exact ⟨.str z,H,I,⟨_,rfl⟩,q'⟩
  ·rw [zja_]
   have h3:=ze0_ z.cps.toList (l.map (·.1)) (u.map (·.1))
   have h2:z.cps.toList.length=z.length:=by simp [Str.length]
   refine ⟨?_,tx (cutL z.cps.toList (l.map (·.1)) (u.map (·.1))),H,I.tok _,⟨_,rfl⟩,q⟩
   show (cutL z.cps.toList (l.map (·.1)) (u.map (·.1))).toArray.size≤sizeLine
   rw [List.size_toArray]
   exact Nat.le_trans h3 (by rw [h2]; exact hz)
 | _=>exact h.elim
end
end L2
namespace L2
open PySem PySem.Spec PyProof.Rows
def mVar (i:Nat):TE:=fun σ H Q=>match σ[i]? with | some (some v)=>Q v H | _=>False
section
variable {X:Cx}{a b c:Expr}{ta tb tc:TE}{pos:Pos}
theorem za_ (i:Nat) {x:Str}{pos:Pos}(hN:X.N[i]?=some x:=by rfl) (hv:Vis X.env.scope x:=by first | exact Or.inl rfl | exact Or.inr (Or.inl rfl) | exact Or.inr (Or.inr rfl)) (hd:(x == ("__debug__" : Str))=false:=by decide)
  (hcd:(x == ("__classdict__" : Str))=false:=by decide):PE X (.Name x pos) (mVar i):=by
 intro pins s σ H Q I h
 unfold mVar at h
 cases e:σ[i]? with
 | none=>rw [e] at h; exact h.elim
 | some o =>
  rw [e] at h
  cases o with
  | none=>exact h.elim
  | some v=>exact zpc_ hN hv hd hcd pins s σ H Q I ⟨v,e,h⟩
theorem zcD_ {x:Str}{l:List Nat}{j pos} (h:x=⟨l.toArray⟩:=by rfl):PE X (.Constant (.str x) j pos) (tC (tx l)):=h ▸ zpt_
def mAdd:R2:=fun x y H Q=>match x,y with
 | .int i,.int j=>Q (.int (i+j)) H
 | .str a,.str b=>a.cps.toList.length+b.cps.toList.length≤sizeLine∧Q (tx (a.cps.toList++b.cps.toList)) H
 | .ref a,.ref b=>∃ xs zs,H a=some (.lst xs)∧H b=some (.lst zs)∧xs.length+zs.length≤sizeLine∧∀ p,H p=none→Q (.ref p) (upd H p (.lst (xs++zs)))
 | _,_=>False
theorem zK_:OpR X (binaryOp .Add) mAdd:=by
 intro pins s σ H x y v u Q I rx ry h
 cases x<;>cases y<;>first
  | exact h.elim
  | exact zpR_ pins s σ H _ _ v u Q I rx ry ⟨_,_,rfl,rfl,h⟩
  | exact ziE_ pins s σ H _ _ v u Q I rx ry ⟨_,_,rfl,rfl,by simpa [Str.length] using h.1,by rw [zjQ_]; exact h.2⟩
  | (obtain ⟨xs,zs,h1,h2,h3,h4⟩:=h; exact zpu_ pins s σ H _ _ v u Q I rx ry ⟨_,_,xs,zs,rfl,rfl,h1,h2,h3,h4⟩)
def mI (C:Int→Int→Prop) (g:Int→Int→V):R2:=fun x y H Q=>match x,y with | .int i,.int j=>C i j∧Q (g i j) H | _,_=>False
def mI0 (g:Int→Int→V):R2:=fun x y H Q=>match x,y with | .int i,.int j=>Q (g i j) H | _,_=>False
theorem opM {f:Value→Value→Sem Value}{C:Int→Int→Prop}{g:Int→Int→V}(h:OpR X f (rI C g)):OpR X f (mI C g):=by
 intro pins s σ H x y v u Q I rx ry q
 cases x<;>cases y<;>first | exact q.elim | exact h pins s σ H _ _ v u Q I rx ry ⟨_,_,rfl,rfl,q.1,q.2⟩
theorem opM0 {f:Value→Value→Sem Value}{g:Int→Int→V}(h:OpR X f (rI0 g)):OpR X f (mI0 g):=by
 intro pins s σ H x y v u Q I rx ry q
 cases x<;>cases y<;>first | exact q.elim | exact h pins s σ H _ _ v u Q I rx ry ⟨_,_,rfl,rfl,q⟩
abbrev mSub:R2:=mI0 fun i j=>.int (i-j)
abbrev mMod:R2:=mI (fun _ j=>0<j) fun i j=>.int (i % j)
theorem zbC_:OpR X (binaryOp .Sub) mSub:=opM0 zp3_
theorem zac_:OpR X (binaryOp .Mod) mMod:=opM zo8_
def mEqB (x y:V):Option Bool:=match x,y with
 | .int i,.int j=>some (decide (i=j))
 | .str a,.str b=>some (decide (a.cps.toList=b.cps.toList))
 | .bl a,.bl b=>some (decide (a=b))
 | .non,.non=>some true
 | .non,.int _=>some false | .int _,.non=>some false | .non,.bl _=>some false | .bl _,.non=>some false | .non,.str _=>some false | .str _,.non=>some false
 | .int _,.str _=>some false | .str _,.int _=>some false | .bl _,.str _=>some false | .str _,.bl _=>some false
 | _,_=>none
theorem zjh_ {x y:V}{b:Bool}(h:mEqB x y=some b):scal x y=true∧decide (x=y)=b:=by
 cases x<;>cases y<;>first
  | (cases (show (none:Option Bool)=some b from h); done)
  | (refine ⟨rfl,?_⟩; have h':=Option.some.inj h; rw [← h']; first | rfl | (simp; done))
  | (rename_i a b'
     refine ⟨rfl,?_⟩
     have h':=Option.some.inj h
     rw [← h',decide_eq_decide]
     constructor
     ·intro e; cases e; rfl
     ·intro e; rw [zaK_ a,zaK_ b',e])
def mEq:R2:=fun x y H Q=>match mEqB x y with | some b=>Q (.bl b) H | none=>False
def mNe:R2:=fun x y H Q=>match mEqB x y with | some b=>Q (.bl (!b)) H | none=>False
theorem zpy_:OpR X (compareOp .Eq) mEq:=by
 intro pins s σ H x y v u Q I rx ry h
 unfold mEq at h
 cases e:mEqB x y with
 | none=>rw [e] at h; exact h.elim
 | some b =>
  rw [e] at h
  obtain ⟨h1,h2⟩:=zjh_ e
  exact op_eq pins s σ H x y v u Q I rx ry ⟨h1,by rw [h2]; exact h⟩
theorem zp6_:OpR X (compareOp .NotEq) mNe:=by
 intro pins s σ H x y v u Q I rx ry h
 unfold mNe at h
 cases e:mEqB x y with
 | none=>rw [e] at h; exact h.elim
 | some b =>
  rw [e] at h
  obtain ⟨h1,h2⟩:=zjh_ e
  exact op_ne pins s σ H x y v u Q I rx ry ⟨h1,by rw [h2]; exact h⟩
abbrev mLt:R2:=mI0 fun i j=>.bl (decide (i<j))
abbrev mGt:R2:=mI0 fun i j=>.bl (decide (j<i))
abbrev mGe:R2:=mI0 fun i j=>.bl (decide (j≤i))
theorem zov_:OpR X (compareOp .Lt) mLt:=opM0 op_lt
theorem zlU_:OpR X (compareOp .Gt) mGt:=opM0 op_gt
theorem zow_:OpR X (compareOp .GtE) mGe:=opM0 op_ge
def mIsB (x y:V):Option Bool:=match y with
 | .non=>some (decide (x=.non))
 | .bl b=>(match x with | .bl a=>some (decide (a=b)) | _=>none)
 | _=>none
def mIs:R2:=fun x y H Q=>match mIsB x y with | some b=>Q (.bl b) H | none=>False
def mIsNot:R2:=fun x y H Q=>match mIsB x y with | some b=>Q (.bl (!b)) H | none=>False
theorem zmO_ {M:Model}{A:Around}{E:Value→Shared→Prop}{s:Shared}{a b:Bool}{Q:Value→Shared→Prop}(h:Q (.bool (decide (a=b))) s):wpAny M A (compareOp .Is (.bool a) (.bool b)) Q E s:=by
 cases a<;>cases b<;>exact wpAny_pure h
theorem zhZ_ {M:Model}{A:Around}{E:Value→Shared→Prop}{s:Shared}{a b:Bool}{Q:Value→Shared→Prop}(h:Q (.bool (!decide (a=b))) s):wpAny M A (compareOp .IsNot (.bool a) (.bool b)) Q E s:=by
 cases a<;>cases b<;>exact wpAny_pure h
theorem zpq_:OpR X (compareOp .Is) mIs:=by
 intro pins s σ H x y v u Q I rx ry h
 unfold mIs mIsB at h
 cases y with
 | non=>exact zp0_ pins s σ H x _ v u Q I rx ry ⟨rfl,h⟩
 | bl b =>
  cases x with
  | bl a=>cases rx; cases ry; exact zmO_ ⟨.bl _,H,I,rfl,h⟩
  | _=>exact h.elim
 | _=>exact h.elim
theorem zj3_:OpR X (compareOp .IsNot) mIsNot:=by
 intro pins s σ H x y v u Q I rx ry h
 unfold mIsNot mIsB at h
 cases y with
 | non=>exact znB_ pins s σ H x _ v u Q I rx ry ⟨rfl,h⟩
 | bl b =>
  cases x with
  | bl a=>cases rx; cases ry; exact zhZ_ ⟨.bl _,H,I,rfl,h⟩
  | _=>exact h.elim
 | _=>exact h.elim
def inS (l:List Nat) (t:List Nat):Bool:=match l with | [c]=>decide (c∈t) | _=>!(Builtin.Str.occurrences ⟨t.toArray⟩ ⟨l.toArray⟩ 0 t.length 1).isEmpty
theorem znk_ (a b:Str):(!(Builtin.Str.occurrences b a 0 b.length 1).isEmpty)=inS a.cps.toList b.cps.toList:=by
 have e:b.length=b.cps.toList.length:=by simp [Str.length]
 unfold inS
 split
 ·rename_i c hc
  have ea:a=⟨#[c]⟩:=by rw [zaK_ a,hc]
  rw [ea]
  exact StrLaws.found_one b c
 ·rw [← zaK_,← zaK_,e]
def mIn (K:Fgg) (neg:Bool):R2:=fun x y H Q=>match y with
 | .str b=>(match x with | .str a=>Q (.bl (if neg then !inS a.cps.toList b.cps.toList else inS a.cps.toList b.cps.toList)) H | _=>False)
 | .ref p=>∃ xs,(SqL K H p xs∨SqT K H p xs)∧flatV x=true∧xs.all flatV=true∧Q (.bl (if neg then !inV x xs else inV x xs)) H
 | _=>False
theorem zo2_:OpR X (compareOp .In) (mIn X.K false):=by
 intro pins s σ H x y v u Q I rx ry h
 unfold mIn at h
 cases y with
 | str b =>
  cases x with
  | str a=>exact zk5_ pins s σ H _ _ v u Q I rx ry ⟨_,_,rfl,rfl,by rw [znk_]; exact h⟩
  | _=>exact h.elim
 | ref p =>
  obtain ⟨xs,h1,h2,h3,h4⟩:=h
  exact zkq_ pins s σ H _ _ v u Q I rx ry ⟨_,xs,rfl,h1,h2,h3,h4⟩
 | _=>exact h.elim
def mTest (t:TE):TT:=fun σ H Q=>t σ H fun x H'=>match x with | .bl k=>Q k H' | _=>False
def mAndV (ta tb:TE):TE:=fun σ H Q=>ta σ H fun x H1=>match x with | .bl c=>br c (tb σ H1 Q) (Q (.bl false) H1) | _=>False
def mNotV (ta:TE):TE:=fun σ H Q=>ta σ H fun x H1=>match x with | .bl c=>Q (.bl (!c)) H1 | _=>False
def mOr (t u:TT):TT:=fun σ H Q=>t σ H fun c H1=>br c (Q true H1) (u σ H1 Q)
variable {rest:List Expr}{tA tB':TT}
theorem zjM_ (ha:PE X a ta) (hb:PE X (.BoolOp .And (b::rest) pos) tb):PE X (.BoolOp .And (a::b::rest) pos) (mAndV ta tb):=by
 intro pins s σ H Q I h
 refine BoolOp_and (thn (ha pins s σ H _ I h) fun v s1 hq_=>?_)
 obtain ⟨x,H1,I1,r1,q1⟩:=hq_
 cases x with
 | bl c =>
  cases r1
  refine wpAny_truthy_bool ?_
  cases c with
  | true=>exact hb pins s1 σ H1 Q I1 (q1.1 rfl)
  | false=>exact ⟨.bl false,H1,I1,rfl,q1.2 rfl⟩
 | _=>exact q1.elim
theorem zor_ (ha:PE X a ta):PE X (.UnaryOp .Not a pos) (mNotV ta):=by
 intro pins s σ H Q I h
 refine UnaryOp_ (thn (ha pins s σ H _ I h) fun v s1 hq_=>?_)
 obtain ⟨x,H1,I1,r1,q1⟩:=hq_
 cases x with
 | bl c=>cases r1; exact not_of (wpAny_truthy_bool ⟨.bl (!c),H1,I1,rfl,q1⟩)
 | _=>exact q1.elim
theorem ziR_ (ha:PT X a tA) (hb:PW X (.BoolOp .Or (b::rest) pos) tB'):PW X (.BoolOp .Or (a::b::rest) pos) (mOr tA tB'):=by
 intro wh pins s σ H Q I h
 refine isTrue_or (thn (ha pins s σ H _ I h) fun c s1 hq_=>?_)
 obtain ⟨H1,I1,q1⟩:=hq_
 cases c with
 | true=>exact ⟨H1,I1,q1.1 rfl⟩
 | false=>exact hb wh pins s1 σ H1 Q I1 (q1.2 rfl)
theorem zcL_ {e:Expr}{t:TE}(h:PE X e t) (he:∀ whole,isTrue e X.env whole=(do let v ← whole; standAt e.pos; holding [v] (truthy v)):=by intro _; rfl):PT X e (mTest t):=by
 intro pins s σ H Q I hw
 refine isTrue_plain (thn (h pins s σ H _ I hw) fun v s1 hq_=>?_) (he _)
 obtain ⟨x,H1,I1,r1,q1⟩:=hq_
 cases x with
 | bl c=>cases r1; exact wpAny_truthy_bool ⟨H1,I1,q1⟩
 | _=>exact q1.elim
theorem zaY_ {op:CmpOp}{r:R2}(ho:OpR X (compareOp op) r) (ha:PE X a ta) (hb:PE X b tb) (hm:behindInMarks op b=false:=by first | exact nobehind _ (by decide) (by decide) | rfl):PT X (.Compare a [op] [b] pos) (mTest (tOp r ta tb)):=by
 intro pins s σ H Q I hw
 refine wpAny_isTrue_Compare1 (binT ha hb I hw fun v u s2 x y H2 I2 rx ry q=>?_) hm
 refine thn (ho pins s2 σ H2 x y v u _ I2 rx ry q) fun c s3 hq_=>?_
 obtain ⟨z,H3,I3,r3,q3⟩:=hq_
 cases z with
 | bl k=>cases r3; exact wpAny_truthy_bool ⟨H3,I3,q3⟩
 | _=>exact q3.elim
theorem zoi_ {op:CmpOp}{r:R2}(ho:OpR X (compareOp op) r) (ha:PE X a ta) (hb:PE X b tb) (hm:behindInMarks op b=false:=by first | exact nobehind _ (by decide) (by decide) | rfl):PE X (.Compare a [op] [b] pos) (tOp r ta tb):=zm8_ ho ha hb hm
def mIf (t:TT) (ta tb:TE):TE:=fun σ H Q=>t σ H fun c H1=>br c (ta σ H1 Q) (tb σ H1 Q)
theorem zpB_ {c:Expr}(hc:PT X c tA) (ha:PE X a ta) (hb:PE X b tb):PE X (.IfExp c a b pos) (mIf tA ta tb):=by
 intro pins s σ H Q I h
 refine wpAny_IfExp (thn (hc pins s σ H _ I h) fun d s1 hq_=>?_)
 obtain ⟨H1,I1,q1⟩:=hq_
 cases d with
 | true=>exact ha pins s1 σ H1 Q I1 (q1.1 rfl)
 | false=>exact hb pins s1 σ H1 Q I1 (q1.2 rfl)
def mIfS (c:TT) (t u:TS):TS:=fun D σ H=>c σ H fun b H1=>br b (t D σ H1) (u D σ H1)
theorem zbG_ {c:Expr}{a b:List Stmt}{tc:TT}{t u:TS}(hc:PT X c tc) (ha:PSs X a t) (hb:PSs X b u):PS X (.If c a b pos) (mIfS tc t u):=by
 intro pins s σ H D I h
 refine wpAny_If (thn (hc pins s σ H _ I h) fun d s1 hq_=>?_)
 obtain ⟨H1,I1,q1⟩:=hq_
 cases d with
 | true=>exact ha pins s1 σ H1 D I1 (q1.1 rfl)
 | false=>exact hb pins s1 σ H1 D I1 (q1.2 rfl)
end
end L2
namespace L2
open PySem PySem.Spec PyProof.Rows
section
variable {X:Cx}{a b c e o:Expr}{es:List Expr}{ta tb tc:TE}{t:TA}{pos:Pos}
def mIx (K:Fgg):R2:=fun x y H Q=>match y with
 | .int i=>(match x with
  | .ref p=>∃ xs,(SqL K H p xs∨SqT K H p xs)∧(match atI xs i with | some v=>Q v H | none=>False)
  | .str z=>z.cps.toList.length≤sizeLine∧(match atI z.cps.toList i with | some c=>Q (tx [c]) H | none=>False)
  | _=>False)
 | _=>False
theorem ix_M:IxR X (mIx X.K):=by
 intro value slice pins s σ H x y v u Q I rx ry h hs0
 unfold mIx at h
 cases y with
 | int i =>
  cases x with
  | ref p =>
   obtain ⟨xs,hs,h⟩:=h
   cases ev:atI xs i with
   | none=>rw [ev] at h; exact h.elim
   | some w' =>
    rw [ev] at h
    rcases hs with hs | hs
    ·exact zoA_ value slice pins s σ H _ _ v u Q I rx ry ⟨p,xs,i,w',rfl,rfl,hs,ev,h⟩ hs0
    ·exact zqb_ value slice pins s σ H _ _ v u Q I rx ry ⟨p,xs,i,w',rfl,rfl,hs,ev,h⟩ hs0
  | str z =>
   obtain ⟨hz,h⟩:=h
   cases ev:atI z.cps.toList i with
   | none=>rw [ev] at h; exact h.elim
   | some w' =>
    rw [ev] at h
    exact zpz_ value slice pins s σ H _ _ v u Q I rx ry ⟨z,i,w',rfl,rfl,by simpa [Str.length] using hz,ev,h⟩ hs0
  | _=>exact h.elim
 | _=>exact h.elim
def mSl (K:Fgg):V→Option Int→Option Int→Hp→VK→Prop:=fun x lo hi H Q=>match x with
 | .str z=>z.cps.toList.length≤sizeLine∧Q (tx (cutL z.cps.toList lo hi)) H
 | .ref a=>∃ xs,SqL K H a xs∧∀ p,H p=none→Q (.ref p) (upd H p (.lst (cutV xs lo hi)))
 | _=>False
theorem sl_M:SlR X (mSl X.K):=by
 intro pins s σ H x v vl vu lo hi sl Q I rx hs pl pu h
 unfold mSl at h
 cases x with
 | str z=>exact zpa_ pins s σ H _ v vl vu lo hi sl Q I rx hs pl pu ⟨by simpa [Str.length] using h.1,h.2⟩
 | ref p =>
  obtain ⟨xs,h1,h2⟩:=h
  exact zom_ pins s σ H _ v vl vu lo hi sl Q I rx hs pl pu ⟨p,xs,rfl,h1,h2⟩
 | _=>exact h.elim
def mPart (t:TE):TO:=fun σ H Q=>t σ H fun x H1=>match x with | .int i=>Q (some i) H1 | _=>False
theorem po_M (h:PE X e ta):PO X (some e) (mPart ta):=by
 intro pins s σ H Q I hw
 rw [evalPart_some]
 refine thn (h pins s σ H _ I hw) fun u s1 hq_=>?_
 obtain ⟨x,H1,I1,r1,q1⟩:=hq_
 cases x with
 | int i=>obtain ⟨t,rfl⟩:=r1; exact ⟨some i,H1,I1,.int i t,q1⟩
 | _=>exact q1.elim
def mLen (K:Fgg):List V→Hp→VK→Prop:=fun xs H Q=>match xs with
 | [.str z]=>z.cps.toList.length≤sizeLine∧Q (.int z.cps.toList.length) H
 | [.ref p]=>∃ ys,(SqL K H p ys∨SqT K H p ys)∧Q (.int ys.length) H
 | _=>False
theorem zmE_ {K:Fgg}{xs:List V}{H:Hp}{Q:VK}(h:mLen K xs H Q):(∃ z,xs=[.str z]∧z.cps.toList.length≤sizeLine∧Q (.int z.cps.toList.length) H)∨∃ p ys,xs=[.ref p]∧(SqL K H p ys∨SqT K H p ys)∧Q (.int ys.length) H:=by
 rcases xs with _ | ⟨x,_ | ⟨y,t⟩⟩
 ·exact False.elim h
 ·cases x with
  | str z=>exact .inl ⟨z,rfl,h⟩
  | ref p=>obtain ⟨ys,h⟩:=h; exact .inr ⟨p,ys,rfl,h⟩
  | _=>exact False.elim h
 ·cases x<;>exact False.elim h
theorem zE_:CallR X (.builtin "len") (mLen X.K):=by
 intro pins s σ H xs us Q I r h
 rcases zmE_ h with ⟨z,rfl,h⟩ | ⟨p,ys,rfl,h1,h2⟩
 ·exact zgn_ pins s σ H _ us Q I r ⟨_,rfl,by simpa [Str.length] using h.1,by simpa [Str.length] using h.2⟩
 ·exact zf2_ pins s σ H _ us Q I r ⟨_,ys,rfl,h1,h2⟩
def mTwo (g:Int→Int→Int):List V→Hp→VK→Prop:=fun xs H Q=>match xs with | [.int i,.int j]=>Q (.int (g i j)) H | _=>False
theorem zih_ {g:Int→Int→Int}{xs:List V}{H:Hp}{Q:VK}(h:mTwo g xs H Q):∃ i j,xs=[.int i,.int j]∧Q (.int (g i j)) H:=by
 rcases xs with _ | ⟨x,_ | ⟨y,_ | ⟨w,t⟩⟩⟩
 ·exact False.elim h
 ·cases x<;>exact False.elim h
 ·cases x with
  | int i=>cases y with
   | int j=>exact ⟨i,j,rfl,h⟩
   | _=>exact False.elim h
  | _=>exact False.elim h
 ·cases x with
  | int i=>cases y<;>exact False.elim h
  | _=>exact False.elim h
theorem zk6_ (hc:X.calm=true):CallR X (.builtin "max") (mTwo max):=by
 intro pins s σ H xs us Q I r h
 obtain ⟨i,j,rfl,h⟩:=zih_ h
 refine zjZ_ hc pins s σ H _ us Q I r ⟨i,j,rfl,?_⟩
 have e:(if j > i then j else i)=max i j:=by split<;>lia
 rw [e]; exact h
theorem zkF_ (hc:X.calm=true):CallR X (.builtin "min") (mTwo min):=by
 intro pins s σ H xs us Q I r h
 obtain ⟨i,j,rfl,h⟩:=zih_ h
 refine zkA_ hc pins s σ H _ us Q I r ⟨i,j,rfl,?_⟩
 have e:(if j<i then j else i)=min i j:=by split<;>lia
 rw [e]; exact h
def tyS (K:Fgg) (H:Hp):V→String→Prop:=fun x T=>match x with
 | .non=>T = "NoneType" | .bl _=>T = "bool" | .int _=>T = "int" | .str _=>T = "str"
 | .ref p=>(T = "list" ∧ ∃ xs,H p=some (.lst xs))∨(T = "tuple" ∧ ∃ xs,H p=some (.tup xs))
 | _=>False
theorem zo5_ {K:Fgg}{H:Hp}{x:V}{T:String}(h:tyS K H x T):TyOf K H x (.type T):=by
 unfold tyS at h
 cases x with
 | non=>subst h; exact .non
 | bl b=>subst h; exact .bl b
 | int i=>subst h; exact .int i
 | str z=>subst h; exact .str z
 | ref p =>
  rcases h with ⟨rfl,xs,h⟩ | ⟨rfl,xs,h⟩
  ·exact .lst h
  ·exact .tup h
 | _=>exact h.elim
def isaB (T c:String):Option Bool :=
 if T=c then some true else if T = "bool" ∧ c = "int" then some true
 else if (T = "bool" ∨ T = "int" ∨ T = "str" ∨ T = "list" ∨ T = "tuple" ∨ T = "NoneType")∧(c = "bool" ∨ c = "int" ∨ c = "str" ∨ c = "list" ∨ c = "tuple" ∨ c = "dict") then some false else none
theorem zno_ {K:Fgg}{T c:String}{b:Bool}(h:isaB T c=some b):PySem.W.kitOne K (.type T) (.type c)=some b:=by
 unfold isaB at h
 split at h
 ·rename_i e; subst e; cases h
  unfold PySem.W.kitOne
  rw [if_pos (by simp)]
 ·split at h
  ·rename_i e; obtain ⟨rfl,rfl⟩:=e; cases h; rfl
  ·split at h
   ·rename_i h1 h2 e
    cases h
    obtain ⟨e1,e2⟩:=e
    rcases e1 with rfl | rfl | rfl | rfl | rfl | rfl<;>rcases e2 with rfl | rfl | rfl | rfl | rfl | rfl<;>first | rfl | exact absurd rfl h1 | exact absurd ⟨rfl,rfl⟩ h2
   ·cases h
def mIsa (K:Fgg):List V→Hp→VK→Prop:=fun xs H Q=>match xs with
 | [.int _,.ty c]=>(match isaB "int" c with | some b=>Q (.bl b) H | none=>False)
 | [.bl _,.ty c]=>(match isaB "bool" c with | some b=>Q (.bl b) H | none=>False)
 | [.str _,.ty c]=>(match isaB "str" c with | some b=>Q (.bl b) H | none=>False)
 | [.non,.ty c]=>(match isaB "NoneType" c with | some b=>Q (.bl b) H | none=>False)
 | [.ref p,.ty c]=>∃ T,tyS K H (.ref p) T∧(match isaB T c with | some b=>Q (.bl b) H | none=>False)
 | _=>False
theorem zee_:CallR X (.builtin "isinstance") (mIsa X.K):=by
 intro pins s σ H xs us Q I r h
 have key:∀ (x:V) (T c:String),xs=[x,.ty c]→tyS X.K H x T→(match isaB T c with | some b=>Q (.bl b) H | none=>False)→wpAny (model X.prog X.w) X.A (call (.builtin "isinstance") us) (EP X pins σ Q) X.xe s:=by
  intro x T c e ht hq
  subst e
  obtain ⟨u,w',rfl,r1,r2⟩:=vals2 r
  cases r2
  cases eb:isaB T c with
  | none=>rw [eb] at hq; exact hq.elim
  | some b =>
   rw [eb] at hq
   exact zkB_ I r1 (zo5_ ht) (zno_ eb) fun tk=>⟨.bl b,H,I.tok tk,rfl,hq⟩
 unfold mIsa at h
 split at h
 ·exact key _ "int" _ rfl rfl h
 ·exact key _ "bool" _ rfl rfl h
 ·exact key _ "str" _ rfl rfl h
 ·exact key _ "NoneType" _ rfl rfl h
 ·obtain ⟨T,h1,h2⟩:=h
  exact key _ T _ rfl h1 h2
 ·exact h.elim
def findS (l:List Nat) (t:List Nat):Int:=Txt.find ⟨l.toArray⟩ ⟨t.toArray⟩
theorem zi6_ (l:List Nat) (c:Nat):findS l [c]=(match l.findIdx? (· == c) with | some i=>(i:Int) | none => -1):=by
 unfold findS
 rcases find_whole ⟨l.toArray⟩ ⟨[c].toArray⟩ with ⟨h1,h2⟩ | ⟨i,h1,h2,h3⟩
 ·rw [h1]
  have:l.findIdx? (· == c)=none:=by
   rw [List.findIdx?_eq_none_iff]
   intro x hx
   obtain ⟨j,hj⟩:=List.mem_iff_getElem?.mp hx
   by_cases hxc:x=c
   ·subst hxc
    exact absurd ((StrLaws.subAt_one ⟨l.toArray⟩ x j).mpr (by simpa using hj)) (h2 j)
   ·simpa using hxc
  rw [this]
 ·rw [h1]
  have hi:l[i]?=some c:=by simpa using (StrLaws.subAt_one ⟨l.toArray⟩ c i).mp h2
  have:l.findIdx? (· == c)=some i:=by
   obtain ⟨hlt,hget⟩:=List.getElem?_eq_some_iff.mp hi
   rw [List.findIdx?_eq_some_iff_getElem]
   refine ⟨hlt,by simp [hget],fun j hj=>?_⟩
   have hjl:j<l.length:=Nat.lt_trans hj hlt
   have hn:=h3 j hj
   intro hc
   have hc':l[j]=c:=by simpa using hc
   exact hn ((StrLaws.subAt_one ⟨l.toArray⟩ c j).mpr (by simp [hjl,hc']))
  rw [this]
def mFind:V→List V→Hp→VK→Prop:=fun x xs H Q=>match x,xs with | .str l,[.str t]=>Q (.int (findS l.cps.toList t.cps.toList)) H | _,_=>False
theorem zkX_ {x:V}{xs:List V}{H:Hp}{Q:VK}(h:mFind x xs H Q):∃ l t,x=.str l∧xs=[.str t]∧Q (.int (findS l.cps.toList t.cps.toList)) H:=by
 cases x with
 | str l =>
  rcases xs with _ | ⟨y,_ | ⟨z,t⟩⟩
  ·exact False.elim h
  ·cases y with
   | str t=>exact ⟨l,t,rfl,rfl,h⟩
   | _=>exact False.elim h
  ·cases y<;>exact False.elim h
 | _=>exact False.elim h
theorem znv_:MtR X "str.find" mFind:=by
 intro pins s σ H x xs v us Q I rx rv h
 obtain ⟨l,t,rfl,rfl,h⟩:=zkX_ h
 obtain ⟨k,rfl⟩:=rx
 obtain ⟨u,rfl,ru⟩:=rv.one
 obtain ⟨k',rfl⟩:=ru
 refine SC.find ?_
 have e:Txt.find l t=findS l.cps.toList t.cps.toList:=by unfold findS; rw [← zaK_,← zaK_]
 rw [e]
 exact ⟨.int _,H,I.tok _,⟨_,rfl⟩,h⟩
def mIndex:V→List V→Hp→VK→Prop:=fun x xs H Q=>match x,xs with | .str l,[.str t]=>findS l.cps.toList t.cps.toList ≠ -1∧Q (.int (findS l.cps.toList t.cps.toList)) H | _,_=>False
theorem zmF_:MtR X "str.index" mIndex:=by
 intro pins s σ H x xs v us Q I rx rv h
 unfold mIndex at h
 split at h
 ·rename_i l t
  obtain ⟨k,rfl⟩:=rx
  obtain ⟨u,rfl,ru⟩:=rv.one
  obtain ⟨k',rfl⟩:=ru
  have e:Txt.find l t=findS l.cps.toList t.cps.toList:=by unfold findS; rw [← zaK_,← zaK_]
  rw [← e] at h
  unfold Txt.find at h
  cases ho:Builtin.Str.occurrences l t 0 l.length 1 with
  | nil=>rw [ho] at h; exact absurd rfl h.1
  | cons i rest =>
   rw [ho] at h
   exact SC.index ho ⟨.int _,H,I.tok _,⟨_,rfl⟩,h.2⟩
 ·exact h.elim
def strsOf:List V→Option (List Str)
 | []=>some []
 | .str z::r=>(strsOf r).map (z::·)
 | _::_=>none
theorem ziP_ {vs:List V}{zs:List Str}:strsOf vs=some zs→vs=zs.map V.str:=by
 induction vs generalizing zs with
 | nil=>intro h; cases h; rfl
 | cons v r ih =>
  intro h
  cases v with
  | str z =>
   unfold strsOf at h
   cases e:strsOf r with
   | none=>rw [e] at h; cases h
   | some y=>rw [e] at h; cases h; rw [ih e]; rfl
  | _=>cases h
def joinS (sep:List Nat) (zs:List Str):List Nat:=(Txt.join ⟨sep.toArray⟩ zs).cps.toList
def mJoin (K:Fgg):V→List V→Hp→VK→Prop:=fun x xs H Q=>match x,xs with
 | .str l,[.ref D]=>∃ vs,(SqL K H D vs)∧(match strsOf vs with | some zs=>JoinOk l zs=true∧Q (tx (joinS l.cps.toList zs)) H | none=>False)
 | _,_=>False
theorem zhn_:∀ {zs:List Str}{us:List Value},Vals (zs.map V.str) us→∃ l:List (Str×Tok),us=strValues l∧l.map (·.1)=zs
 | [],us,r=>by cases r; exact ⟨[],rfl,rfl⟩
 | z::zs,us,r=>by
  cases r with
  | cons r rr =>
   obtain ⟨t,rfl⟩:=r
   obtain ⟨l,rfl,hl⟩:=zhn_ rr
   exact ⟨(z,t)::l,rfl,by rw [List.map_cons,hl]⟩
theorem zkG_ {K:Fgg}{x:V}{xs:List V}{H:Hp}{Q:VK}(h:mJoin K x xs H Q):∃ l D,x=.str l∧xs=[.ref D]∧∃ vs,(SqL K H D vs)∧(match strsOf vs with | some zs=>JoinOk l zs=true∧Q (tx (joinS l.cps.toList zs)) H | none=>False):=by
 cases x with
 | str l =>
  rcases xs with _ | ⟨y,_ | ⟨z,t⟩⟩
  ·exact False.elim h
  ·cases y with
   | ref t=>exact ⟨l,t,rfl,rfl,h⟩
   | _=>exact False.elim h
  ·cases y<;>exact False.elim h
 | _=>exact False.elim h
theorem zi5_:MtR X "str.join" (mJoin X.K):=by
 intro pins s σ H x xs v us Q I rx rv h
 obtain ⟨l,D,rfl,rfl,h⟩:=zkG_ h
 ·obtain ⟨k,rfl⟩:=rx
  obtain ⟨u,rfl,ru⟩:=rv.one
  cases ru
  obtain ⟨vs,hs,h⟩:=h
  cases ez:strsOf vs with
  | none=>rw [ez] at h; exact h.elim
  | some zs =>
   rw [ez] at h
   have ev:=ziP_ ez
   subst ev
   obtain ⟨its,r,p,hz⟩:=I.list hs
   obtain ⟨lz,e1,e2⟩:=zhn_ r
   subst e1
   refine SC.join p.isList e2 h.1 fun t' k'=>⟨tx (joinS l.cps.toList zs),H,I.tok _,⟨t',?_⟩,h.2⟩
   unfold joinS
   rw [← zaK_,← zaK_]
end
theorem zm0_ (zs:List Str):joinS [] zs=(zs.map fun z=>z.cps.toList).flatten:=by
 unfold joinS Txt.join Builtin.Str.glued
 cases zs with
 | nil=>rfl
 | cons z r =>
  show ((r.foldl (fun acc p=>acc++#[]++p.cps) z.cps)).toList=_
  have:∀ (acc:Array Nat),(r.foldl (fun acc p=>acc++#[]++p.cps) acc).toList=acc.toList++(r.map fun z=>z.cps.toList).flatten:=by
   induction r with
   | nil=>intro acc; simp
   | cons y r ih=>intro acc; rw [List.foldl_cons,ih]; simp
  rw [this]
  simp
end L2
namespace L2
open PySem PySem.Spec PyProof.Rows
def Gd (P:Program) (w:World) (K:Fgg) (mg:Str→Option Value) (base:Heap) (CX:CXT) (k:Nat) (x:Str) (ps:List Str) (sp:Sp):Prop :=
 ∃ f fd,FnOk P w K mg base CX k f fd ps sp∧mg x=some (.ref f)∧PySem.W.keepIn K (.ref f)=true∧Binds K fd ps []
def Gc (mg:Str→Option Value) (x:Str) (v:V):Prop:=∃ u,mg x=some u∧RelV v u
abbrev Gb (mg:Str→Option Value) (x:Str):Prop:=mg x=none
section
variable {X:Cx}{CX:CXT}{k:Nat}{x:Str}{ps:List Str}{sp:Sp}{p pos:Pos}{e:Expr}{es:List Expr}{t:TA}{tg:Expr}
theorem zr_ (G:Gd X.prog X.w X.K X.mg X.base CX0 k x ps sp) (hr:Room k X.A) (ha:PA X (e::es) t) (hg:Gl X x:=by rfl) (hdb:(x == ("__debug__" : Str))=false:=by decide)
  (he:starEach (e::es) X.env=(false,eval e X.env)::starEach es X.env:=by rfl) (hpl:(backTo pos (starEach es X.env)).any (·.1)=false:=by rfl) :
  PE X (.Call (.Name x p) (e::es) [] pos) (tCall sp [] E0 t):=by
 obtain ⟨f,fd,F,hm,hk,hb⟩:=G
 exact zm4_ F hr hg hm hk hb .nil pass0 ha hdb he hpl
theorem zoW_ {v:V}(h:Gc X.mg x v) (hg:Gl X x:=by rfl) (hd:(x == ("__debug__" : Str))=false:=by decide):PE X (.Name x pos) (tC v):=by
 obtain ⟨u,hm,r⟩:=h
 exact zou_ hg hm r hd
theorem znI_ (T:String) (hm:Gb X.mg x) (hg:Gl X x:=by rfl) (hv:bootBuiltins x=some (.type T):=by rfl) (hn:x ≠ "__name__" := by decide) (hd:(x == ("__debug__" : Str))=false:=by decide):PE X (.Name x pos) (tC (.ty T)) :=
 znY_ hg hm hv rfl hn hd
theorem zcO_ {id:String}{r:List V→Hp→VK→Prop}(hc:CallR X (.builtin id) r) (hm:Gb X.mg x) (ha:PA X (e::es) t) (hg:Gl X x:=by rfl) (hv:bootBuiltins x=some (.builtin id):=by rfl) (hn:x ≠ "__name__" := by decide) (hdb:(x == ("__debug__" : Str))=false:=by decide)
  (hs:starEach (e::es) X.env=(false,eval e X.env)::starEach es X.env:=by rfl) (hpl:(backTo pos (starEach es X.env)).any (·.1)=false:=by rfl):PE X (.Call (.Name x p) (e::es) [] pos) (tCB r t) :=
 zms_ hc hg hm hv ha hn hdb hs hpl
theorem zlm_ {o:Expr}{to:TE}{name:Str}{id:String}{r:V→List V→Hp→VK→Prop}{apos cpos:Pos}(slot:Slot "str" name id) (hty:typeOf (.builtin id)=pure (.type "method_descriptor")) (hm:MtR X id r) (ho:PE X o to) (ha:PA X (e::es) t)
  (h1:attributeBase o name X.env (eval o X.env)=eval o X.env:=by rfl) (h2:((((backTo cpos (starEach (e::es) X.env)).all fun x=>!x.fst) && (backToKw cpos (keywordEach [] X.env)).all fun x=>x.fst.isSome) && decide (((e::es).length+([]:List Keyword).length+if ([]:List Keyword).isEmpty=true then 0 else 1)<30))=true:=by rfl)
  (h3:(apos.endLine == cpos.line)=true:=by rfl) (h4:starEach (e::es) X.env=(false,eval e X.env)::starEach es X.env:=by rfl) (h5:((backTo cpos (starEach es X.env)).any fun x=>x.fst)=false:=by rfl) :
  PE X (.Call (.Attribute o name apos) (e::es) [] cpos) (tBM X.K "str" r to t):=zlD_ PySem.F.plainAttrs_str slot hty hm ho ha h1 h2 h3 h4 h5
def iAny (K:Fgg) (tl:TE):TI:=fun σ H R=>tl σ H fun x H1=>match x with
 | .str z=>R (Itp z.cps.toList.length (fun i=>tx [z.cps.toList.getD i 0])) H1
 | .ref a=>((∃ xs,SqL K H1 a xs)∧R (Itl K a) H1)∨((∃ xs,SqT K H1 a xs)∧R (Itt K a) H1)
 | _=>False
theorem zpC_ (z:Str):sgn z=fun i=>tx [z.cps.toList.getD i 0]:=by
 funext i
 unfold sgn
 simp [Array.getD_eq_getD_getElem?,List.getD_eq_getElem?_getD]
theorem zca_ {l:Expr}{tl:TE}(hl:PE X l tl):PI X tg l (iAny X.K tl):=by
 intro pins s σ H R I h
 refine thn (hl pins s σ H _ I h) fun v s1 hq_=>?_
 obtain ⟨x,H1,I1,r1,q1⟩:=hq_
 have pt:∀ (v:V),PE X l (tC v)→PE X l (tC v):=fun _ h=>h
 cases x with
 | str z =>
  obtain ⟨t,rfl⟩:=r1
  refine wpAny_pyIter_strU ?_
  have q:R (Itp z.cps.size (sgn z)) H1:=by
   have e:z.cps.toList.length=z.cps.size:=by simp
   rw [zpC_,← e]
   exact q1
  refine ⟨s1.heap.objs.size,[s1.heap.objs.size],_,_,H1,rfl,I1.kept (t':=s1.toks) fun b o e=>Heap.get?_push_of_some _ e,zl3_ _ z t,⟨Nat.zero_le _,⟨_,Heap.get?_push_size _ rfl,rfl,rfl⟩⟩,fun b hb=>?_,q⟩
  have e:b=s1.heap.objs.size:=by simpa using hb
  subst e
  exact I1.fpOk (Nat.le_refl _) (I1.hok.fresh (Nat.le_refl _))
 | ref a =>
  cases r1
  rcases q1 with ⟨⟨xs,hq⟩,q⟩ | ⟨⟨xs,hq⟩,q⟩
  ·obtain ⟨its,rv,p,hz⟩:=I1.list hq
   refine wpAny_pyIter_list p.isList ?_
   refine ⟨s1.heap.objs.size,[s1.heap.objs.size],_,_,H1,rfl,I1.kept (t':=s1.toks) fun b o e=>Heap.get?_push_of_some _ e,zk2_ a _,⟨_,Heap.get?_push_size _ rfl,rfl,rfl⟩,fun b hb=>?_,q⟩
   have e:b=s1.heap.objs.size:=by simpa using hb
   subst e
   exact I1.fpOk (Nat.le_refl _) (I1.hok.fresh (Nat.le_refl _))
  ·obtain ⟨its,rv,p,hz⟩:=I1.tuple hq
   refine wpAny_pyIter_tuple (show s1.heap.IsTuple a its.toArray from p) ?_
   refine ⟨s1.heap.objs.size,[s1.heap.objs.size],_,_,H1,rfl,I1.kept (t':=s1.toks) fun b o e=>Heap.get?_push_of_some _ e,zjf_ a _,⟨_,Heap.get?_push_size _ rfl,rfl,rfl⟩,fun b hb=>?_,q⟩
   have e:b=s1.heap.objs.size:=by simpa using hb
   subst e
   exact I1.fpOk (Nat.le_refl _) (I1.hok.fresh (Nat.le_refl _))
 | _=>exact q1.elim
def mRng1 (ta:TA):TI:=fun σ H R=>ta σ H fun vs H1=>match vs with | [.int j] => -(2 ^ 62)≤j∧j<2 ^ 62∧R (Itr 0 j.toNat) H1 | _=>False
end
section
variable {X:Cx}{tg:Expr}
theorem zaT_ {a:Expr}{ta:TA}{p pos:Pos}(hm:Gb X.mg "range") (ha:PA X [a] ta) (hg:Gl X "range" := by rfl) (hs:starEach [a] X.env=[(false,eval a X.env)]:=by rfl):PI X tg (.Call (.Name "range" p) [a] [] pos) (mRng1 ta):=by
 intro pins s σ H R I h
 refine Call_ (zgU_ I hg hm boot_range (PyProof.Rows.callWith_type1 (thn (ha pos pins s σ H _ I h) fun us s1 hq_=>?_) hs rfl))
 obtain ⟨vs,H1,I1,r1,q1⟩:=hq_
 try dsimp only at q1
 split at q1
 ·obtain ⟨q2,q3,q⟩:=q1
  cases r1 with
  | cons r rr =>
   cases rr
   obtain ⟨t,rfl⟩:=r
   exact call_range_1 (zl5_ I1 (by lia) (by lia) q2 q3 (by simpa using q))
 ·exact q1.elim
variable {elts:List Expr}{kk:Nat}{tpos:Pos}
def gNilM:TGs:=fun vs σ H Q=>match vs with | []=>Q σ H | _=>False
def gConsM (t:TG) (u:TGs):TGs:=fun vs σ H Q=>match vs with | v::r=>t v σ H fun σ' H'=>u r σ' H' Q | []=>False
theorem ze6_:PGs X [] gNilM:=by
 intro pins s σ H vs us Q I r h
 cases vs with
 | nil=>exact zoE_ pins s σ H [] us Q I r ⟨rfl,h⟩
 | cons _ _=>exact h.elim
theorem za2_ {e:Expr}{es:List Expr}{t:TG}{u:TGs}(h1:PG X e t) (h2:PGs X es u)
  (hs:(assignEach (e::es) X.env).map (·.2)=assign e X.env::(assignEach es X.env).map (·.2):=by rfl):PGs X (e::es) (gConsM t u):=by
 intro pins s σ H vs us Q I r h
 cases vs with
 | nil=>exact h.elim
 | cons v vr=>exact zmw_ h1 h2 hs pins s σ H _ us Q I r ⟨v,vr,rfl,h⟩
def gTupM (K:Fgg) (n:Nat) (t:TGs):TG:=fun v σ H Q=>match v with | .ref a=>∃ xs,SqT K H a xs∧xs.length=n∧t xs σ H Q | _=>False
theorem zhd_ {es:List Expr}{k:Nat}{t:TGs}{n:Nat}{pos:Pos}(hc:X.calm=true) (h:PGs X es t)
  (hn:(assignEach es X.env).length=n:=by rfl) (hst:(assignEach es X.env).findIdx? (·.1)=none:=by rfl):PG X (.Tuple es k pos) (gTupM X.K n t):=by
 intro pins s σ H v u Q I r hw
 cases v with
 | ref a =>
  obtain ⟨xs,h1,h2,h3⟩:=hw
  exact zp7_ hc h hn hst pins s σ H _ u Q I r ⟨a,xs,rfl,h1,h2,h3⟩
 | _=>exact hw.elim
def mNeg (ta:TE):TE:=fun σ H Q=>ta σ H fun x H1=>match x with | .int i=>Q (.int (-i)) H1 | _=>False
theorem znc_ {a:Expr}{ta:TE}{pos:Pos}(ha:PE X a ta):PE X (.UnaryOp .USub a pos) (mNeg ta):=by
 intro pins s σ H Q I h
 refine UnaryOp_ (thn (ha pins s σ H _ I h) fun v s1 hq_=>?_)
 obtain ⟨x,H1,I1,r1,q1⟩:=hq_
 cases x with
 | int i=>exact zo9_ pins s1 σ H1 _ v Q I1 r1 ⟨i,rfl,q1⟩
 | _=>exact q1.elim
end
theorem zei_ {H:Hp}{p:Addr}(h:H p=none) (o:HO):Same H (upd H p o):=fun b u q=>by rw [zW_ (zbj_ q h)]; exact q
end L2
namespace L2
open PySem PySem.Spec PyProof.Rows
theorem zd6_ {n:Nat}(h:n≤100000):n≤sizeLine:=by rw [sizeLine_eq]; lia
theorem zdT_ {zs:List Str}{sep:Str}(h:zs.length*(sep.length+1)≤100000) (h1:∀ z∈zs,z.length≤1):JoinOk sep zs=true:=by
 unfold JoinOk
 have key:∀ (l:List Str) (acc:Nat),(∀ z∈l,z.length≤1)→l.foldl (fun x1 x2=>x1+x2.length+sep.length) acc≤acc+l.length*(sep.length+1):=by
  intro l
  induction l with
  | nil=>intro acc _; simp
  | cons z r ih =>
   intro acc hz
   rw [List.foldl_cons]
   have h2:=ih (acc+z.length+sep.length) fun y hy=>hz y (List.mem_cons_of_mem _ hy)
   have h3:=hz z List.mem_cons_self
   rw [List.length_cons,Nat.add_mul]
   omega
 have q:=key zs 0 h1
 rw [List.foldl_toArray]
 unfold Builtin.Str.tooLong
 simp only [Bool.not_eq_true',decide_eq_false_iff_not]
 have:zs.foldl (fun x1 x2=>x1+x2.length+sep.length) 0≤100000:=by omega
 have hl:(100000:Nat)≤sizeLine:=by rw [sizeLine_eq]; omega
 omega
end L2
namespace L2
open PySem PySem.Spec PyProof.Rows
section
variable {X:Cx}{tg:Expr}
theorem zhG_ {P:Program}{w:World}{K:Fgg}{tg:Expr}(it:Addr) (lo c:Int) (n:Nat) :
  Turn P w K tg (Itp n fun i=>.int (lo+i*c)) [it] it (fun i h=>i≤n∧IsRangeIter h it (lo+(i:Nat)*c) ((n:Int)-(i:Nat)) c):=by
 refine zgX_ (Pw:=fun i v=>∃ t,v=.int (lo+i*c) t) (fun A hA=>Walks.range hA it lo c n) (fun i v _ h=>h) (fun i h st=>⟨_,_,_,st,rfl,rfl,by decide⟩) (fun A i s Q E st h=>wpAny_pyIter_rangeiter st h) (fun i h h' st k=>k it (by simp) _ st)
theorem zcI_ (a b:Int):Builtin.Range.rangeSize a b (-1)=(((a-b).toNat:Nat):Int):=by
 unfold Builtin.Range.rangeSize
 rw [if_neg (by decide)]
 split
 ·have e:(a-b-1) / (- -1)=a-b-1:=by
   have:(- -1:Int)=1:=by decide
   rw [this,Int.ediv_one]
  rw [e]; lia
 ·lia
theorem zjK_ {a b:Int}(ha : -(2 ^ 61)≤a) (ha':a<2 ^ 61) (hb : -(2 ^ 61)≤b) (hb':b<2 ^ 61):Builtin.Range.small a b (-1)=true:=by
 unfold Builtin.Range.small
 rw [zcI_]
 simp only [Builtin.Range.rangeFitsLong,Bool.and_eq_true,Bool.or_eq_true,decide_eq_true_eq,beq_iff_eq,show ¬ ((-1:Int) > 0) by decide,if_false]
 omega
def mRng3 (ta:TA):TI:=fun σ H R=>ta σ H fun vs H1=>match vs with
 | [.int i,.int j,.int c]=>c = -1∧(-(2 ^ 61)≤i∧i<2 ^ 61 ∧ -(2 ^ 61)≤j∧j<2 ^ 61)∧R (Itp (i-j).toNat fun k=>.int (i+k*(-1))) H1
 | _=>False
theorem zi4_ {a b c:Expr}{ta:TA}{p pos:Pos}(hm:Gb X.mg "range") (ha:PA X [a,b,c] ta) (hg:Gl X "range" := by rfl)
  (hs:starEach [a,b,c] X.env=(false,eval a X.env)::starEach [b,c] X.env:=by rfl) (hpl:(backTo pos (starEach [b,c] X.env)).any (·.1)=false:=by rfl) :
  PI X tg (.Call (.Name "range" p) [a,b,c] [] pos) (mRng3 ta):=by
 intro pins s σ H R I h
 refine Call_ (zgU_ I hg hm boot_range (PyProof.Rows.callWith_type1 (thn (ha pos pins s σ H _ I h) fun us s1 hq_=>?_) hs hpl))
 obtain ⟨vs,H1,I1,r1,q1⟩:=hq_
 try dsimp only at q1
 split at q1
 ·rename_i i j c
  obtain ⟨rfl,⟨q1,q2,q3,q4⟩,q⟩:=q1
  cases r1 with
  | cons r rr =>
   cases rr with
   | cons r' rr =>
    cases rr with
    | cons r'' rr =>
     cases rr
     obtain ⟨t,rfl⟩:=r
     obtain ⟨t',rfl⟩:=r'
     obtain ⟨t'',rfl⟩:=r''
     refine call_range_3 (by decide) ?_ (.inl (PyProof.noPylong_small (by decide)))
     refine wpAny_pyIter_range (IsRange.new ..) (zjK_ q1 q2 q3 q4) ?_
     have I2:Inv X pins σ H1 { s1 with heap:=s1.heap.push { cls:=.type "range",data:=.fields #[.int i t,.int j t',.int (-1) t''] },toks:=s1.toks }:=I1.kept fun b o e=>Heap.get?_push_of_some _ e
     refine ⟨(s1.heap.push { cls:=.type "range",data:=.fields #[.int i t,.int j t',.int (-1) t''] }).objs.size,[(s1.heap.push { cls:=.type "range",data:=.fields #[.int i t,.int j t',.int (-1) t''] }).objs.size],_,_,H1,rfl,
      I2.kept (t':=s1.toks) fun b o e=>Heap.get?_push_of_some _ e,zhG_ _ i (-1) (i-j).toNat,⟨Nat.zero_le _,?_⟩,fun b hb=>?_,q⟩
     ·have e1:i+((0:Nat):Int)*(-1)=i:=by simp
      have e2:(((i-j).toNat:Nat):Int)-((0:Nat):Int)=Builtin.Range.rangeSize i j (-1):=by rw [zcI_]; simp
      rw [e1,e2]
      exact Heap.get?_push_size _ rfl
     ·have e:b=(s1.heap.push { cls:=.type "range",data:=.fields #[.int i t,.int j t',.int (-1) t''] }).objs.size:=by simpa using hb
      subst e
      exact I2.fpOk (Nat.le_refl _) (I2.hok.fresh (Nat.le_refl _))
 ·exact q1.elim
def mSet:TSet:=fun o i v H Q=>match i with
 | .int k=>(match o with
  | .ref p=>∃ xs,H p=some (.lst xs)∧(match ixN xs.length k with | some j=>Q (upd H p (.lst (xs.set j v))) | none=>False)
  | _=>False)
 | _=>False
theorem zoZ_:PSet X mSet:=by
 intro pins s σ H o i v ov iv u Q I ro ri rv h
 unfold mSet at h
 cases i with
 | int k =>
  cases o with
  | ref p =>
   obtain ⟨xs,h1,h⟩:=h
   cases e:ixN xs.length k with
   | none=>rw [e] at h; exact h.elim
   | some j =>
    rw [e] at h
    exact zmK_ pins s σ H _ _ v ov iv u Q I ro ri rv ⟨p,xs,k,j,rfl,rfl,h1,e,h⟩
  | _=>exact h.elim
 | _=>exact h.elim
theorem zdY_ {n:Nat}{k:Int}(h0:0≤k) (h1:k<n):ixN n k=some k.toNat:=by unfold ixN; rw [if_pos h0,if_pos h1]
def strI (i:Int):List Nat:=(Str.ofString (toString i)).cps.toList
def mStr:List V→Hp→VK→Prop:=fun xs H Q=>match xs with | [.int i]=>i.natAbs.log2<1920∧Q (tx (strI i)) H | _=>False
theorem zkd_:CallR X (.type "str") mStr:=by
 intro pins s σ H xs us Q I r h
 unfold mStr at h
 split at h
 ·rename_i i
  refine zgj_ pins s σ H _ us Q I r ⟨i,rfl,h.1,?_⟩
  have e:tx (strI i)=V.str (Str.ofString (toString i)):=by unfold strI tx; rw [← zaK_]
  rw [← e]
  exact h.2
 ·exact h.elim
def mZfill:V→List V→Hp→VK→Prop:=fun x xs H Q=>match x,xs with | .str l,[.int i]=>PadOk i=true∧Q (tx (Txt.zfill l i).cps.toList) H | _,_=>False
theorem zmz_:MtR X "str.zfill" mZfill:=by
 intro pins s σ H x xs v us Q I rx rv h
 have hi:∃ l i,x=.str l∧xs=[.int i]∧PadOk i=true∧Q (tx (Txt.zfill l i).cps.toList) H:=by
  cases x with
  | str l =>
   rcases xs with _ | ⟨y,_ | ⟨z,t⟩⟩
   ·exact False.elim h
   ·cases y with
    | int t=>exact ⟨l,t,rfl,rfl,h⟩
    | _=>exact False.elim h
   ·cases y<;>exact False.elim h
  | _=>exact False.elim h
 obtain ⟨l,i,rfl,rfl,h⟩:=hi
 obtain ⟨k,rfl⟩:=rx
 obtain ⟨u,rfl,ru⟩:=rv.one
 obtain ⟨k',rfl⟩:=ru
 exact SC.zfill h.1 fun t' k=>⟨tx (Txt.zfill l i).cps.toList,H,I.tok _,⟨t',by rw [← zaK_]⟩,h.2⟩
end
section
variable {X:Cx}{x:Str}{p pos:Pos}{e:Expr}{es:List Expr}{t:TA}
theorem zoK_ (T:String) {r:List V→Hp→VK→Prop}(hc:CallR X (.type T) r) (hm:Gb X.mg x) (ha:PA X (e::es) t) (hg:Gl X x:=by rfl) (hv:bootBuiltins x=some (.type T):=by rfl) (hn:x ≠ "__name__" := by decide) (hdb:(x == ("__debug__" : Str))=false:=by decide)
  (hs:starEach (e::es) X.env=(false,eval e X.env)::starEach es X.env:=by rfl) (hpl:(backTo pos (starEach es X.env)).any (·.1)=false:=by rfl):PE X (.Call (.Name x p) (e::es) [] pos) (tCB r t) :=
 zkV_ hc hg hm hv ha hn hdb hs hpl
end
def digs:Nat→Nat→List Nat
 | 0,_=>[]
 | w+1,n=>digs w (n / 10)++[48+n % 10]
theorem zbo_:∀ (w n:Nat),(digs w n).length=w
 | 0,_=>rfl
 | w+1,n=>by rw [digs,List.length_append,zbo_ w]; rfl
theorem zg5_:∀ (w:Nat),digs w 0=List.replicate w 48
 | 0=>rfl
 | w+1=>by rw [digs,zg5_ w,List.replicate_succ']
end L2
namespace L2
open PySem PySem.Spec PyProof.Rows
def dg (m:Nat):List Nat:=(Nat.toDigits 10 m).map Char.toNat
theorem zjE_ (m:Nat):strI (m:Int)=dg m:=PySem.W.KIN.signs_num m
theorem zfw_:∀ d:Nat,d<10→(Nat.digitChar d).toNat=48+d:=by decide
theorem zpW_ {m:Nat}(h:m<10):dg m=[48+m]:=by
 unfold dg
 rw [Nat.toDigits_of_lt_base h]
 show [(Nat.digitChar m).toNat]=_
 rw [zfw_ m h]
theorem dg_ge {m:Nat}(h:¬ m<10):dg m=dg (m / 10)++[48+m % 10]:=by
 unfold dg
 have hm:m % 10<10:=Nat.mod_lt m (by decide)
 have t:Nat.toDigits 10 (m / 10)++Nat.toDigits 10 (m % 10)=Nat.toDigits 10 (10*(m / 10)+m % 10):=Nat.toDigits_append_toDigits (by decide) (by lia) hm
 rw [Nat.div_add_mod] at t
 rw [← t,List.map_append,Nat.toDigits_of_lt_base hm]
 show _++[(Nat.digitChar (m % 10)).toNat]=_
 rw [zfw_ _ hm]
theorem zni_:∀ (w m:Nat),m<10 ^ (w+1)→(dg m).length≤w+1∧List.replicate (w+1-(dg m).length) 48++dg m=digs (w+1) m
 | w,m,h=>by
  by_cases hm:m<10
  ·rw [zpW_ hm]
   refine ⟨by show 1≤w+1; lia,?_⟩
   rw [digs,show m / 10=0 by lia,zg5_,show m % 10=m by lia]
   rfl
  ·cases w with
   | zero=>exact absurd h (by simpa using hm)
   | succ w =>
    have hd:m / 10<10 ^ (w+1):=by
     rw [Nat.div_lt_iff_lt_mul (by decide)]
     rw [Nat.pow_succ] at h
     exact h
    obtain ⟨h1,h2⟩:=zni_ w (m / 10) hd
    rw [dg_ge hm]
    refine ⟨by rw [List.length_append]; show _+1≤_; lia,?_⟩
    have e:digs (w+1+1) m=digs (w+1) (m / 10)++[48+m % 10]:=rfl
    rw [e,← h2,List.append_assoc,List.length_append]
    have e2:w+1+1-((dg (m / 10)).length+[48+m % 10].length)=w+1-(dg (m / 10)).length:=by
     show w+1+1-((dg (m / 10)).length+1)=_
     lia
    rw [e2]
theorem zos_ (m:Nat):∃ c r,dg m=c::r∧48≤c:=by
 induction m using Nat.strongRecOn with
 | _ m ih =>
  by_cases h:m<10
  ·exact ⟨48+m,[],zpW_ h,by lia⟩
  ·obtain ⟨c,r,e,hc⟩:=ih (m / 10) (by lia)
   exact ⟨c,r++[48+m % 10],by rw [dg_ge h,e]; rfl,hc⟩
theorem zjc_ {w m:Nat}(hw:1≤w) (h:m<10 ^ w):(Txt.zfill ⟨(dg m).toArray⟩ (w:Int)).cps.toList=digs w m:=by
 obtain ⟨w',rfl⟩:∃ w',w=w'+1:=⟨w-1,by lia⟩
 obtain ⟨h1,h2⟩:=zni_ w' m h
 have hl:(⟨(dg m).toArray⟩:Str).length=(dg m).length:=by simp [Str.length]
 unfold Txt.zfill
 rw [hl]
 by_cases he:((w'+1:Nat):Int)≤((dg m).length:Int)
 ·rw [if_pos he]
  have e:(dg m).length=w'+1:=by lia
  rw [← h2,e,Nat.sub_self]
  simp
 ·rw [if_neg he]
  obtain ⟨c,r,ec,hc⟩:=zos_ m
  have e:zfilled ⟨(dg m).toArray⟩ ((((w'+1:Nat):Int)).toNat-(dg m).length)=Builtin.Str.padded ⟨(dg m).toArray⟩ ((((w'+1:Nat):Int)).toNat-(dg m).length) 0 48:=by
   unfold zfilled
   have e0:((⟨(dg m).toArray⟩:Str).cps)[0]?=some c:=by rw [ec]; simp
   rw [e0]
   split
   ·rename_i h'; cases h'; lia
   ·rename_i h'; cases h'; lia
   ·rfl
  rw [e]
  unfold Builtin.Str.padded
  rw [← h2]
  simp
theorem zfH_:∀ (j n:Nat),digs (j+1) n=(48+n / 10 ^ j % 10)::digs j n
 | 0,n=>by simp [digs]
 | j+1,n=>by
  have e:digs (j+1+1) n=digs (j+1) (n / 10)++[48+n % 10]:=rfl
  rw [e,zfH_ j (n / 10),Nat.div_div_eq_div_mul]
  have e2:10*10 ^ j=10 ^ (j+1):=by rw [Nat.pow_succ,Nat.mul_comm]
  rw [e2]
  rfl
theorem zk1_ (l:List Nat):joinS [] (l.map fun c=>(⟨#[c]⟩:Str))=l:=by
 rw [L2.zm0_,List.map_map]
 induction l with
 | nil=>rfl
 | cons c r ih=>rw [List.map_cons,List.flatten_cons,ih]; rfl
end L2
namespace L2
open PySem PySem.Spec PyProof.Rows
def fig (c:Nat):Nat:=if 48≤c∧c≤57 then c else 48
def numL (l:List Nat):Int:=l.foldl (fun (v:Int) (c:Nat)=>v*10+((c:Int)-48)) 0
theorem zfV_ {c:Nat}(h:48≤c∧c≤57):findS [48,49,50,51,52,53,54,55,56,57] [c]=(c:Int)-48:=by
 rw [zi6_]
 obtain ⟨h1,h2⟩:=h
 have:c=48∨c=49∨c=50∨c=51∨c=52∨c=53∨c=54∨c=55∨c=56∨c=57:=by lia
 rcases this with rfl | rfl | rfl | rfl | rfl | rfl | rfl | rfl | rfl | rfl<;>rfl
theorem zfZ_ {c:Nat}(h:¬ (48≤c∧c≤57)):findS [48,49,50,51,52,53,54,55,56,57] [c] = -1:=by
 rw [zi6_]
 have:List.findIdx? (· == c) [48,49,50,51,52,53,54,55,56,57]=none:=by
  rw [List.findIdx?_eq_none_iff]
  intro x hx
  simp only [List.mem_cons,List.not_mem_nil,or_false] at hx
  simp only [beq_eq_false_iff_ne,ne_eq]
  omega
 rw [this]
theorem zkn_ (c:Nat):inS [c] [48,49,50,51,52,53,54,55,56,57]=decide (48≤c∧c≤57):=by
 show decide (c∈[48,49,50,51,52,53,54,55,56,57])=_
 have h1:∀ x∈[48,49,50,51,52,53,54,55,56,57],48≤x∧x≤57:=by decide
 have h2:∀ k,k<10→48+k∈[48,49,50,51,52,53,54,55,56,57]:=by decide
 rw [decide_eq_decide]
 refine ⟨h1 c,fun h=>?_⟩
 have e:48+(c-48)=c:=Nat.add_sub_cancel' h.1
 rw [← e]
 exact h2 _ (Nat.lt_succ_of_le (Nat.sub_le_of_le_add h.2))
theorem zg6_ (c:Nat):48≤fig c∧fig c≤57:=by unfold fig; split<;>omega
end L2
namespace L2
open PySem PySem.Spec PyProof.Rows
def Dc (x:Addr) (d:Option Addr) (h:Heap):Prop:=∃ o,h.get? x=some o∧o.dict=d∧∀ vs,o.data=.fields vs→vs[2]?=some .none
section
variable {M:Model}{A:Around}{E:Value→Shared→Prop}{s:Shared}{base:Heap}{env:Env}{outer l:List Env}{L e:Addr}{cls a0 fl:Value}{d:Option Addr}{Q:Unit→Shared→Prop}
end
def DAt (dx:Addr) (fs:List (Str×V)) (h:Heap):Prop:=∃ mA,h.Ns1 dx mA∧(∀ f,RelO (fs.lookup f) (mA f))∧PySem.Within mA (fs.map (·.1))
abbrev XDO (dx:Addr) (fs:List (Str×V)):HO:=.ext (DAt dx fs)
structure FlyX (x T C:Addr) (d:Option Addr) (H:Hp) (hb h:Heap):Prop where
 obj:∃ oe vs a0 oT ts,h.get? x=some oe∧(oe.cls=.ref C∧vs[0]?=some a0)∧oe.data=.fields vs∧vs[1]?=some (.ref T)∧T≠x∧h.get? T=some oT∧oT.data=.fields ts∧ts[3]?=some .none
 dc:Dc x d h
 hx:H x=none
 hT:H T=none
 nx:hb.get? x=none
 nT:hb.get? T=none
def CXx (P:Program) (w:World):CXT:=fun outer H s E e s'=>∃ x T C d H',e=.ref x∧s'.os=s.os∧AllBare s'.gens∧Un (frs outer) [] H H' s.heap s'.heap∧HOk P w H' s'.heap ∧
 FlyX x T C d H' s.heap s'.heap∧E (.ref C) d H'
section
variable {X:Cx}{pins:Pnn}{σ:St}{H:Hp}{s:Shared}
end
section
variable {P:Program}{w:World}{K:Fgg}{mg:Str→Option Value}{base:Heap}{N:List Str}{qual:Str}{scope:Scope}{f:Addr}{cd:Value}{A:Around}{outer:List Env}{s0:Shared}{H0:Hp}{E:XK}
end
end L2
namespace L2
open PySem PySem.Spec PyProof.Rows
def gA (K:Fgg) (x:Str):Addr:=match PySem.W.nsIn K mainGlobals x with | some (some (.ref c))=>c | _=>0
theorem zoI_ {K:Fgg}{x:Str}{c:Addr}(h:PySem.W.nsIn K mainGlobals x=some (some (.ref c))):gA K x=c:=by unfold gA; rw [h]
section
variable {X:Cx}{E:XK}{C:Addr}{x:Str}{e:Expr}{es:List Expr}{t:TA}{np cpos pos:Pos}
end
section
variable {X:Cx}{a:Expr}{ta:TE}{pos:Pos}
def mFmt:V→Hp→VK→Prop:=fun x H Q=>match x with | .str z=>z.length≤sizeLine∧Q (.str z) H | .int i=>i.natAbs.log2<1920∧Q (tx (strI i)) H | _=>False
theorem zoq_ (ha:PE X a ta):PE X (.FormattedValue a (-1) none pos) (tUn mFmt ta):=by
 intro pins s σ H Q I h
 refine wpAny_FormattedValue_plain (thn (ha pins s σ H _ I h) fun v s1 hq_=>?_)
 obtain ⟨x,H1,I1,r1,q1⟩:=hq_
 cases x with
 | str z =>
  obtain ⟨k,rfl⟩:=r1
  exact wpAny_formatField_str ⟨.str z,H1,I1,⟨_,rfl⟩,q1.2⟩ ⟨.str z,H1,I1.tok _,⟨_,rfl⟩,q1.2⟩ q1.1
 | int i =>
  obtain ⟨k,rfl⟩:=r1
  refine wpAny_formatField_int q1.1 ⟨tx (strI i),H1,I1.tok _,⟨s1.toks+1,?_⟩,q1.2⟩
  unfold strI
  rw [← zaK_]
 | _=>exact q1.elim
abbrev TJ:=Str→St→Hp→(Str→Hp→Prop)→Prop
def PJ (X:Cx) (vs:List Expr) (t:TJ):Prop:=∀ (acc:Str) (pins:Pnn) (s:Shared) (σ:St) (H:Hp) (Q:Str→Shared→Prop) (R:Str→Hp→Prop),Inv X pins σ H s→t acc σ H R→(∀ out s1 H1,Inv X pins σ H1 s1→R out H1→Q out s1) →
 Joins (model X.prog X.w) X.A X.xe (evalEach vs X.env) acc Q s
def tJ0:TJ:=fun acc _ H R=>R acc H
def tJ1 (ta:TE) (tr:TJ):TJ:=fun acc σ H R=>ta σ H fun x H1=>match x with | .str z=>(acc++z).length≤sizeLine∧tr (acc++z) σ H1 R | _=>False
theorem zo3_:PJ X [] tJ0:=fun acc pins s σ H Q R I h hq=>hq acc s H I h
theorem zi9_ {vs:List Expr}{tr:TJ}(ha:PE X a ta) (hr:PJ X vs tr) (he:evalEach (a::vs) X.env=eval a X.env::evalEach vs X.env:=by rfl):PJ X (a::vs) (tJ1 ta tr):=by
 intro acc pins s σ H Q R I h hq
 rw [he]
 refine wpAny_mono (ha pins s σ H _ I h) (fun v s1 q=>?_) fun _ _ y=>y
 obtain ⟨x,H1,I1,r1,q1⟩:=q
 cases x with
 | str z =>
  obtain ⟨k,rfl⟩:=r1
  exact ⟨z,k,rfl,q1.1,hr (acc++z) pins s1 σ H1 Q R I1 q1.2 hq⟩
 | _=>exact q1.elim
def tJoin (tj:TJ):TE:=fun σ H Q=>tj Str.empty σ H fun out H1=>out.length≤sizeLine∧Q (.str out) H1
theorem zkD_ {b:Expr}{vs:List Expr}{tj:TJ}(h:PJ X (a::b::vs) tj):PE X (.JoinedStr (a::b::vs) pos) (tJoin tj):=by
 intro pins s σ H Q I q
 refine wpAny_JoinedStr (h Str.empty pins s σ H _ _ I q fun out s1 H1 I1 q1=>⟨q1.1,.str out,H1,I1.tok _,⟨_,rfl⟩,q1.2⟩)
end
end L2
namespace LX
open PySem PySem.W PySem.Calls PyProof.Rows Builtin Builtin.ObjectAttr Builtin.Getset_descriptor
section
variable {prog:Program}{w:World}{A:Around}{K:Frag}{x D:Addr}{dc:Option Addr}
end
end LX
namespace L2
open PySem PySem.Spec PyProof.Rows
end L2
namespace L2
open PySem PySem.Spec PyProof.Rows
section
variable {X:Cx}{k:Nat}{x:Str}{ps:List Str}{sp:Sp}{E:XK}{p pos:Pos}{e:Expr}{es:List Expr}{t:TA}
end
def XP (X:Cx) (pins:Pnn) (W:St→XK) (e:Value) (s':Shared):Prop:=∃ σ' Hb sb,Inv X pins σ' Hb sb∧CXx X.prog X.w X.stack Hb sb (W σ') e s'
abbrev TX:=Ends→(St→XK)→St→Hp→Prop
section
variable {X:Cx}{st:Stmt}{rest:List Stmt}{t u:TX}{k:Nat}{x:Str}{ps:List Str}{sp:Sp}{p pos pos':Pos}{e:Expr}{es:List Expr}{ta:TA}
end
section
variable {X:Cx}{pins:Pnn}{σ:St}{Hb H':Hp}{sb s1:Shared}{x T C:Addr}{d:Option Addr}
end
end L2
namespace L2
open PySem PySem.Spec PyProof.Rows
section
variable {X:Cx}{body:List Stmt}{tb:TX}{ts:TS}{S:Addr}{sx n:Str}{i:Nat}{b₀:Stmt}{suite:List Stmt}{np hpos pos:Pos}
abbrev TH:=Addr→Option Addr→Ends→St→Hp→Prop
variable {th rest:TH}{hs:List ExceptHandler}
end
end L2
namespace L2
open PySem PySem.Spec PyProof.Rows
section
variable {P:Program}{w:World}{K:Fgg}{mg:Str→Option Value}{base:Heap}
end
section
variable {X:Cx}{k:Nat}{x:Str}{ps:List Str}{sp:Sp}{p pos:Pos}{e:Expr}{es:List Expr}{t:TA}
end
end L2
namespace L2
open PySem PySem.Spec PyProof.Rows
section
variable {X:Cx}{k:Nat}{x:Str}{ps:List Str}{sp:Sp}{p pos pos':Pos}{e:Expr}{es:List Expr}{ta:TA}{i:Nat}{y:Str}{py:Pos}
end
def SG:List Nat:=[32,48,49,50,51,52,53,54,55,56,57,65,66,67,68,69,70,71,72,73,74,75,76,77,78,79,80,81,82,83,84,85,86,87,88,89,90]
def rk (l:List Nat):Option Nat:=match l with | [c]=>SG.findIdx? (· == c) | _=>none
end L2
namespace L2
open PySem PySem.Spec PyProof.Rows
section
variable {X:Cx}
end
section
variable {X:Cx}
end
inductive EqD (K:Fgg) (H:Hp):Nat→V→V→Bool→Prop
 | flat {x y:V}(hx:flatV x=true) (hy:flatV y=true):EqD K H 0 x y (eqV x y)
 | lst {n:Nat}{p q:Addr}{xs ys:List V}(e:Nat→Bool) (hp:SqL K H p xs) (hq:SqL K H q ys) (hl:xs.length=ys.length) (h:∀ (i:Nat) x y,xs[i]?=some x→ys[i]?=some y→EqD K H n x y (e i)):EqD K H (n+1) (.ref p) (.ref q) ((List.range xs.length).all e)
 | lstN {n:Nat}{p q:Addr}{xs ys:List V}(hp:SqL K H p xs) (hq:SqL K H q ys) (hl:xs.length≠ys.length):EqD K H n (.ref p) (.ref q) false
 | tup {n:Nat}{p q:Addr}{xs ys:List V}(e:Nat→Bool) (hp:SqT K H p xs) (hq:SqT K H q ys) (h:∀ (i:Nat) x y,xs[i]?=some x→ys[i]?=some y→EqD K H n x y (e i)):EqD K H (n+1) (.ref p) (.ref q) ((List.range (min xs.length ys.length)).all e && xs.length == ys.length)
 | lt {n:Nat}{p q:Addr}{xs ys:List V}(hp:SqL K H p xs) (hq:SqT K H q ys):EqD K H n (.ref p) (.ref q) false
 | tl {n:Nat}{p q:Addr}{xs ys:List V}(hp:SqT K H p xs) (hq:SqL K H q ys):EqD K H n (.ref p) (.ref q) false
 | lf {n:Nat}{p:Addr}{xs:List V}{y:V}(hp:SqL K H p xs) (hy:flatV y=true):EqD K H n (.ref p) y false
 | fl {n:Nat}{p:Addr}{xs:List V}{y:V}(hp:SqL K H p xs) (hy:flatV y=true):EqD K H n y (.ref p) false
 | tf {n:Nat}{p:Addr}{xs:List V}{y:V}(hp:SqT K H p xs) (hy:flatV y=true):EqD K H n (.ref p) y false
 | ft {n:Nat}{p:Addr}{xs:List V}{y:V}(hp:SqT K H p xs) (hy:flatV y=true):EqD K H n y (.ref p) false
 | up {n:Nat}{x y:V}{b:Bool}(h:EqD K H n x y b):EqD K H (n+1) x y b
section
variable {X:Cx}{pins:Pnn}{σ:St}{H:Hp}{s:Shared}
theorem zdn_ {xs:List V}{us:List Value}(r:Vals xs us) {i:Nat}(h:i<us.toArray.size):∃ x,xs[i]?=some x∧RelV x us.toArray[i]:=by
 have hi:i<us.length:=by simpa using h
 have hl:=r.length
 obtain ⟨u,hu,ru⟩:=r.get (List.getElem?_eq_getElem (show i<xs.length by lia))
 refine ⟨_,List.getElem?_eq_getElem (by lia),?_⟩
 rw [List.getElem?_eq_getElem hi] at hu
 cases hu
 simpa using ru
theorem zik_ (I:Inv X pins σ H s) {n:Nat}{x y:V}{b:Bool}(h:EqD X.K H n x y b):x=y→b=true:=by
 induction h with
 | flat hx hy =>
  rename_i x y
  rintro rfl
  cases x<;>first | (cases hx; done) | (simp [eqV]; done) | rfl
 | lst e hp hq hl h ih =>
  rename_i n p q xs ys
  intro e0
  cases e0
  have exy:=I.list_inj hp hq
  subst exy
  rw [List.all_eq_true]
  intro i hi
  have hi:=List.mem_range.mp hi
  exact ih i _ _ (List.getElem?_eq_getElem hi) (List.getElem?_eq_getElem hi) rfl
 | lstN hp hq hl =>
  intro e0
  cases e0
  exact absurd (by rw [I.list_inj hp hq]) hl
 | tup e hp hq h ih =>
  rename_i n p q xs ys
  intro e0
  cases e0
  have exy:=I.tuple_inj hp hq
  subst exy
  rw [Bool.and_eq_true,List.all_eq_true]
  refine ⟨?_,by simp⟩
  intro i hi
  have hi:=List.mem_range.mp hi
  have hi:i<xs.length:=by lia
  exact ih i _ _ (List.getElem?_eq_getElem hi) (List.getElem?_eq_getElem hi) rfl
 | lt hp hq =>
  intro e0
  cases e0
  obtain ⟨its,r1,p1,z1⟩:=I.list hp
  obtain ⟨its2,r2,p2,z2⟩:=I.tuple hq
  exact absurd rfl (SeqAt.ne_of_list_tuple p1.isList p2)
 | tl hp hq =>
  intro e0
  cases e0
  obtain ⟨its,r1,p1,z1⟩:=I.tuple hp
  obtain ⟨its2,r2,p2,z2⟩:=I.list hq
  exact absurd rfl (SeqAt.ne_of_list_tuple p2.isList p1)
 | lf hp hy=>rintro rfl; cases hy
 | fl hp hy=>rintro rfl; cases hy
 | tf hp hy=>rintro rfl; cases hy
 | ft hp hy=>rintro rfl; cases hy
 | up h ih=>exact ih
theorem zl6_ (I:Inv X pins σ H s) {n:Nat}{x y:V}{b:Bool}(h:EqD X.K H n x y b):∀ (A:Around) (v u:Value),A.units+n<cLine→RelV x v→RelV y u →
  SeqAt.EqAt A s v u b∧(∀ p q,x=.ref p→y=.ref q→SeqAt.RcAt A s v u b):=by
 induction h with
 | flat hx hy =>
  intro A v u _ rx ry
  refine ⟨zoc_ rx ry hx hy,fun p q e _=>?_⟩
  subst e; cases hx
 | lst e hp hq hl h ih =>
  rename_i n p q xs ys
  intro A v u hu rx ry
  cases rx; cases ry
  obtain ⟨its,r1,p1,z1⟩:=I.list hp
  obtain ⟨its2,r2,p2,z2⟩:=I.list hq
  have l1:=r1.length
  have l2:=r2.length
  have rc:SeqAt.RcAt A s (.ref p) (.ref q) ((List.range xs.length).all e):=by
   have:=SeqAt.RcAt.lists (A:=A) (e:=e) p1.isList p2.isList (by simp only [List.size_toArray]; lia) (by lia) (fun j h1 h2=>by
    obtain ⟨x,ex,rx⟩:=zdn_ r1 h1
    obtain ⟨y,ey,ry⟩:=zdn_ r2 h2
    exact (ih j x y ex ey A.in1 _ _ (by show A.units+1+n<_; lia) rx ry).1)
   rw [List.size_toArray,← l1] at this
   exact this
  refine ⟨?_,fun _ _ _ _=>rc⟩
  by_cases hpq:p=q
  ·subst hpq
   have exy:=I.list_inj hp hq
   subst exy
   have:(List.range xs.length).all e=true:=by
    rw [List.all_eq_true]
    intro i hi
    have hi:=List.mem_range.mp hi
    exact zik_ I (h i _ _ (List.getElem?_eq_getElem hi) (List.getElem?_eq_getElem hi)) rfl
   rw [this]
   exact SeqAt.EqAt.same _
  ·exact .of_refs hpq rc
 | lstN hp hq hl =>
  rename_i n p q xs ys
  intro A v u hu rx ry
  cases rx; cases ry
  obtain ⟨its,r1,p1,z1⟩:=I.list hp
  obtain ⟨its2,r2,p2,z2⟩:=I.list hq
  have l1:=r1.length
  have l2:=r2.length
  have rc:SeqAt.RcAt A s (.ref p) (.ref q) false:=SeqAt.RcAt.lists_lengths p1.isList p2.isList (by simp only [List.size_toArray,bne_iff_ne,ne_eq]; lia) (by lia)
  refine ⟨.of_refs (fun e=>?_) rc,fun _ _ _ _=>rc⟩
  subst e
  exact hl (by rw [I.list_inj hp hq])
 | tup e hp hq h ih =>
  rename_i n p q xs ys
  intro A v u hu rx ry
  cases rx; cases ry
  obtain ⟨its,r1,p1,z1⟩:=I.tuple hp
  obtain ⟨its2,r2,p2,z2⟩:=I.tuple hq
  have l1:=r1.length
  have l2:=r2.length
  have rc:SeqAt.RcAt A s (.ref p) (.ref q) ((List.range (min xs.length ys.length)).all e && xs.length == ys.length):=by
   have:=SeqAt.RcAt.tuples (A:=A) (e:=e) (show s.heap.IsTuple p its.toArray from p1) (show s.heap.IsTuple q its2.toArray from p2) (by lia) (fun j h1 h2=>by
    obtain ⟨x,ex,rx⟩:=zdn_ r1 h1
    obtain ⟨y,ey,ry⟩:=zdn_ r2 h2
    exact (ih j x y ex ey A.in1 _ _ (by show A.units+1+n<_; lia) rx ry).1)
   rw [List.size_toArray,List.size_toArray,← l1,← l2] at this
   exact this
  refine ⟨?_,fun _ _ _ _=>rc⟩
  by_cases hpq:p=q
  ·subst hpq
   have exy:=I.tuple_inj hp hq
   subst exy
   have:((List.range (min xs.length xs.length)).all e && xs.length == xs.length)=true:=by
    rw [Bool.and_eq_true,List.all_eq_true]
    refine ⟨?_,by simp⟩
    intro i hi
    have hi:=List.mem_range.mp hi
    have hi:i<xs.length:=by lia
    exact zik_ I (h i _ _ (List.getElem?_eq_getElem hi) (List.getElem?_eq_getElem hi)) rfl
   rw [this]
   exact SeqAt.EqAt.same _
  ·exact .of_refs hpq rc
 | lt hp hq =>
  intro A v u hu rx ry
  cases rx; cases ry
  obtain ⟨its,r1,p1,z1⟩:=I.list hp
  obtain ⟨its2,r2,p2,z2⟩:=I.tuple hq
  exact ⟨.list_tuple p1.isList p2 (by lia),fun _ _ _ _=>.list_tuple p1.isList p2 (by lia)⟩
 | tl hp hq =>
  intro A v u hu rx ry
  cases rx; cases ry
  obtain ⟨its,r1,p1,z1⟩:=I.tuple hp
  obtain ⟨its2,r2,p2,z2⟩:=I.list hq
  exact ⟨.tuple_list p1 p2.isList (by lia),fun _ _ _ _=>.tuple_list p1 p2.isList (by lia)⟩
 | lf hp hy =>
  rename_i n p xs y
  intro A v u hu rx ry
  cases rx
  obtain ⟨its,r1,p1,z1⟩:=I.list hp
  refine ⟨?_,fun _ _ _ e=>by subst e; cases hy⟩
  cases y with
  | non=>cases ry; exact .list_none p1.isList (by lia)
  | bl b=>cases ry; exact .list_bool b p1.isList (by lia)
  | int b=>obtain ⟨t,rfl⟩:=ry; exact .list_int b t p1.isList (by lia)
  | str b=>obtain ⟨t,rfl⟩:=ry; exact .list_str b t p1.isList (by lia)
  | _=>cases hy
 | fl hp hy =>
  rename_i n p xs y
  intro A v u hu rx ry
  cases ry
  obtain ⟨its,r1,p1,z1⟩:=I.list hp
  refine ⟨?_,fun _ _ e _=>by subst e; cases hy⟩
  cases y with
  | non=>cases rx; exact .none_list p1.isList (by lia)
  | bl b=>cases rx; exact .bool_list b p1.isList (by lia)
  | int b=>obtain ⟨t,rfl⟩:=rx; exact .int_list b t p1.isList (by lia)
  | str b=>obtain ⟨t,rfl⟩:=rx; exact .str_list b t p1.isList (by lia)
  | _=>cases hy
 | tf hp hy =>
  rename_i n p xs y
  intro A v u hu rx ry
  cases rx
  obtain ⟨its,r1,p1,z1⟩:=I.tuple hp
  refine ⟨?_,fun _ _ _ e=>by subst e; cases hy⟩
  cases y with
  | non=>cases ry; exact .tuple_none p1 (by lia)
  | bl b=>cases ry; exact .tuple_bool b p1 (by lia)
  | int b=>obtain ⟨t,rfl⟩:=ry; exact .tuple_int b t p1 (by lia)
  | str b=>obtain ⟨t,rfl⟩:=ry; exact .tuple_str b t p1 (by lia)
  | _=>cases hy
 | ft hp hy =>
  rename_i n p xs y
  intro A v u hu rx ry
  cases ry
  obtain ⟨its,r1,p1,z1⟩:=I.tuple hp
  refine ⟨?_,fun _ _ e _=>by subst e; cases hy⟩
  cases y with
  | non=>cases rx; exact .none_tuple p1 (by lia)
  | bl b=>cases rx; exact .bool_tuple b p1 (by lia)
  | int b=>obtain ⟨t,rfl⟩:=rx; exact .int_tuple b t p1 (by lia)
  | str b=>obtain ⟨t,rfl⟩:=rx; exact .str_tuple b t p1 (by lia)
  | _=>cases hy
 | up h ih =>
  intro A v u hu rx ry
  exact ih A v u (by lia) rx ry
end
section
variable {X:Cx}
def mEqK (K:Fgg):R2:=fun x y H Q=>match x,y with
 | .ref p,.ref q=>∃ n b,n≤50∧EqD K H n (.ref p) (.ref q) b∧Q (.bl b) H
 | _,_=>mEq x y H Q
def mNeK (K:Fgg):R2:=fun x y H Q=>match x,y with
 | .ref p,.ref q=>∃ n b,n≤50∧EqD K H n (.ref p) (.ref q) b∧Q (.bl (!b)) H
 | _,_=>mNe x y H Q
theorem zpM_ (hu:X.A.units+60<cLine):OpR X (compareOp .Eq) (mEqK X.K):=by
 intro pins s σ H x y v u Q I rx ry h
 unfold mEqK at h
 split at h
 ·rename_i p q
  obtain ⟨n,b,hn,h,q⟩:=h
  have:=(zl6_ I h X.A v u (by lia) rx ry).2 _ _ rfl rfl
  exact this X.prog X.w X.xe _ ⟨.bl b,H,I,rfl,q⟩
 ·exact zpy_ pins s σ H x y v u Q I rx ry h
end
section
variable {X:Cx}{pins:Pnn}{σ:St}{H:Hp}{s:Shared}
theorem zpL_ (I:Inv X pins σ H s) {n:Nat}{x y:V}{b:Bool}(h:EqD X.K H n x y b):∀ (A:Around) (v u:Value),A.units+n<cLine→RelV x v→RelV y u→∀ p q,x=.ref p→y=.ref q→SeqAt.RcNeAt A s v u (!b):=by
 induction h with
 | flat hx hy=>intro A v u _ rx ry p q e _; subst e; cases hx
 | lst e hp hq hl h ih =>
  rename_i n p q xs ys
  intro A v u hu rx ry _ _ _ _
  cases rx; cases ry
  obtain ⟨its,r1,p1,z1⟩:=I.list hp
  obtain ⟨its2,r2,p2,z2⟩:=I.list hq
  have l1:=r1.length
  have l2:=r2.length
  have:=SeqAt.RcNeAt.lists (A:=A) (e:=e) p1.isList p2.isList (by simp only [List.size_toArray]; lia) (by lia) (fun j h1 h2=>by
   obtain ⟨x,ex,rx⟩:=zdn_ r1 h1
   obtain ⟨y,ey,ry⟩:=zdn_ r2 h2
   exact (zl6_ I (h j x y ex ey) A.in1 _ _ (by show A.units+1+n<_; lia) rx ry).1)
  rw [List.size_toArray,← l1] at this
  exact this
 | lstN hp hq hl =>
  intro A v u hu rx ry _ _ _ _
  cases rx; cases ry
  obtain ⟨its,r1,p1,z1⟩:=I.list hp
  obtain ⟨its2,r2,p2,z2⟩:=I.list hq
  have l1:=r1.length
  have l2:=r2.length
  exact SeqAt.RcNeAt.lists_lengths p1.isList p2.isList (by simp only [List.size_toArray,bne_iff_ne,ne_eq]; lia) (by lia)
 | tup e hp hq h ih =>
  rename_i n p q xs ys
  intro A v u hu rx ry _ _ _ _
  cases rx; cases ry
  obtain ⟨its,r1,p1,z1⟩:=I.tuple hp
  obtain ⟨its2,r2,p2,z2⟩:=I.tuple hq
  have l1:=r1.length
  have l2:=r2.length
  have:=SeqAt.RcNeAt.tuples (A:=A) (e:=e) (show s.heap.IsTuple p its.toArray from p1) (show s.heap.IsTuple q its2.toArray from p2) (by lia) (fun j h1 h2=>by
   obtain ⟨x,ex,rx⟩:=zdn_ r1 h1
   obtain ⟨y,ey,ry⟩:=zdn_ r2 h2
   exact (zl6_ I (h j x y ex ey) A.in1 _ _ (by show A.units+1+n<_; lia) rx ry).1)
  rw [List.size_toArray,List.size_toArray,← l1,← l2] at this
  exact this
 | lt hp hq =>
  intro A v u hu rx ry _ _ _ _
  cases rx; cases ry
  obtain ⟨its,r1,p1,z1⟩:=I.list hp
  obtain ⟨its2,r2,p2,z2⟩:=I.tuple hq
  exact .list_tuple p1.isList p2 (by lia)
 | tl hp hq =>
  intro A v u hu rx ry _ _ _ _
  cases rx; cases ry
  obtain ⟨its,r1,p1,z1⟩:=I.tuple hp
  obtain ⟨its2,r2,p2,z2⟩:=I.list hq
  exact .tuple_list p1 p2.isList (by lia)
 | lf hp hy=>intro A v u hu rx ry _ _ _ e; subst e; cases hy
 | fl hp hy=>intro A v u hu rx ry _ _ e _; subst e; cases hy
 | tf hp hy=>intro A v u hu rx ry _ _ _ e; subst e; cases hy
 | ft hp hy=>intro A v u hu rx ry _ _ e _; subst e; cases hy
 | up h ih=>intro A v u hu rx ry; exact ih A v u (by lia) rx ry
theorem zii_ (hu:X.A.units+60<cLine):OpR X (compareOp .NotEq) (mNeK X.K):=by
 intro pins s σ H x y v u Q I rx ry h
 unfold mNeK at h
 split at h
 ·rename_i p q
  obtain ⟨n,b,hn,h,q⟩:=h
  have:=zpL_ I h X.A v u (by lia) rx ry _ _ rfl rfl
  exact this X.prog X.w X.xe _ ⟨.bl (!b),H,I,rfl,q⟩
 ·exact zp6_ pins s σ H x y v u Q I rx ry h
end
theorem Room.u60 {k:Nat}{A:Around}(r:Room k A):A.units+60<cLine:=by have:=r.units; lia
end L2
namespace LX
open PySem Builtin Builtin.Str
section
variable {prog:Program}{w:World}{A:Around}{E:Value→Shared→Prop}{s:Shared}{x:Str}{t:Tok}{Q:Value→Shared→Prop}
end
end LX
namespace L2
open PySem PySem.Spec PyProof.Rows
section
variable {X:Cx}
end
section
variable {X:Cx}{a b c d:Expr}{ta tb tc td:TE}{pos:Pos}
end
end L2
namespace L2
open PySem PySem.Spec PyProof.Rows
section
variable {κ:Type} [DecidableEq κ]
def valV (kvs:List (κ×V)) (k:κ):Option V:=(kvs.find? fun kv=>decide (kv.1=k)).map (·.2)
def putK (kvs:List (κ×V)) (k:κ) (v:V):List (κ×V) :=
 if (kvs.any fun kv=>decide (kv.1=k))=true then kvs.map (fun kv=>if kv.1=k then (kv.1,v) else kv) else kvs++[(k,v)]
theorem zgm_ {p:κ×V}{r:List (κ×V)}{k:κ}(e:p.1=k):valV (p::r) k=some p.2:=by simp [valV,List.find?_cons,e]
theorem zgh_ {p:κ×V}{r:List (κ×V)}{k:κ}(e:¬ p.1=k):valV (p::r) k=valV r k:=by simp [valV,List.find?_cons,e]
theorem ziD_ (k:κ):∀ kvs:List (κ×V),(kvs.any fun kv=>decide (kv.1=k))=(valV kvs k).isSome
 | []=>rfl
 | p::r=>by
  rw [List.any_cons]
  by_cases e:p.1=k
  ·simp only [zgm_ e,decide_eq_true e,Bool.true_or,Option.isSome_some]
  ·rw [zgh_ e,decide_eq_false e,Bool.false_or]; exact ziD_ k r
theorem zeP_ (kvs:List (κ×V)) (k:κ) (v:V):(putK kvs k v).length≤kvs.length+1:=by
 unfold putK
 split
 ·rw [List.length_map]; lia
 ·rw [List.length_append,List.length_cons,List.length_nil]; lia
theorem RelO.isSome_eq {o:Option V}{u:Option Value}(r:RelO o u):o.isSome=u.isSome:=by
 cases o with
 | none=>cases u with
  | none=>rfl
  | some _=>exact (show False from r).elim
 | some _=>cases u with
  | none=>exact (show False from r).elim
  | some _=>rfl
theorem KV.val {kvs:List (κ×V)}{vs:List (κ×Value)}(r:KV kvs vs) (k:κ):RelO (valV kvs k) (valueAt vs k):=by
 unfold KV at r
 induction r with
 | nil=>exact True.intro
 | @cons p q ps qs h t ih =>
  obtain ⟨h1,h2⟩:=h
  by_cases e:p.1=k
  ·have e':q.1=k:=h1.symm.trans e
   have b:valueAt (q::qs) k=some q.2:=by simp [valueAt,List.find?_cons,e']
   rw [zgm_ e,b]; exact h2
  ·have e':¬ q.1=k:=fun z=>e (h1.trans z)
   have b:valueAt (q::qs) k=valueAt qs k:=by simp [valueAt,List.find?_cons,e']
   rw [zgh_ e,b]; exact ih
theorem KV.any {kvs:List (κ×V)}{vs:List (κ×Value)}(r:KV kvs vs) (k:κ):(kvs.any fun kv=>decide (kv.1=k))=vs.any fun kv=>decide (kv.1=k):=by
 unfold KV at r
 induction r with
 | nil=>rfl
 | cons h t ih=>rw [List.any_cons,List.any_cons,ih,h.1]
theorem KV.repl {kvs:List (κ×V)}{vs:List (κ×Value)}(r:KV kvs vs) (k:κ) {y:V}{u:Value}(ry:RelV y u) :
  KV (kvs.map fun kv=>if kv.1=k then (kv.1,y) else kv) (vs.map fun kv=>if kv.1=k then (kv.1,u) else kv):=by
 unfold KV at r ⊢
 induction r with
 | nil=>exact .nil
 | @cons p q ps qs h t ih =>
  rw [List.map_cons,List.map_cons]
  refine .cons ?_ ih
  obtain ⟨h1,h2⟩:=h
  by_cases e:p.1=k
  ·rw [if_pos e,if_pos (h1.symm.trans e)]; exact ⟨h1,ry⟩
  ·rw [if_neg e,if_neg (fun z=>e (h1.trans z))]; exact ⟨h1,h2⟩
theorem KV.put {kvs:List (κ×V)}{vs:List (κ×Value)}(r:KV kvs vs) (k:κ) {y:V}{u:Value}(ry:RelV y u):KV (putK kvs k y) (stored vs k u):=by
 unfold putK stored
 rw [r.any k]
 by_cases e:(vs.any fun kv=>decide (kv.1=k))=true
 ·rw [if_pos e,if_pos e]; exact r.repl k ry
 ·rw [if_neg e,if_neg e]; exact Paired.snoc r ⟨rfl,ry⟩
theorem KV.length {kvs:List (κ×V)}{vs:List (κ×Value)}(r:KV kvs vs):kvs.length=vs.length:=Paired.length r
end
theorem zpX_ {P:Program}{w:World}{k:Key}{u:Value}(r:RelV (kV k) u):(mixKind P w).is k u=true:=by
 cases k with
 | inl i=>obtain ⟨t,e⟩:=(show ∃ t,u=Value.int i t from r); subst e; exact zhH_ P w i t
 | inr x=>obtain ⟨t,e⟩:=(show ∃ t,u=Value.str x t from r); subst e; exact zh1_ P w x t
theorem zhl_ {P:Program}{w:World}:∀ {ks:List Key}{us:List Value},Vals (ks.map kV) us→ItemsAre (mixKind P w) ks us
 | [],_,r=>by rw [List.map_nil] at r; cases r; exact .nil
 | k::ks,_,r=>by
  rw [List.map_cons] at r
  cases r with
  | cons h t=>exact .cons (zpX_ h) (zhl_ t)
abbrev KT (H:Hp):List (List Key×V)→List (List Key×Addr×Value)→Prop:=Paired fun p q=>p.1=q.1∧H q.2.1=some (.tup (p.1.map kV))∧RelV p.2 q.2.2
theorem KT.val {H:Hp}{kvs:List (List Key×V)}{xs:List (List Key×Addr×Value)}(r:KT H kvs xs) (k:List Key):RelO (valV kvs k) ((atKey xs k).map (·.2)):=by
 induction r with
 | nil=>exact True.intro
 | @cons p q ps qs h t ih =>
  obtain ⟨h1,_,h2⟩:=h
  by_cases e:p.1=k
  ·have e':q.1=k:=h1.symm.trans e
   have b:atKey (q::qs) k=some q.2:=by simp [atKey,List.find?_cons,e']
   rw [zgm_ e,b]; exact h2
  ·have e':¬ q.1=k:=fun z=>e (h1.trans z)
   have b:atKey (q::qs) k=atKey qs k:=by simp [atKey,List.find?_cons,e']
   rw [zgh_ e,b]; exact ih
theorem KT.repl {H:Hp}{kvs:List (List Key×V)}{xs:List (List Key×Addr×Value)}(r:KT H kvs xs) (k:List Key) {y:V}{u:Value}(ry:RelV y u) :
  KT H (kvs.map fun kv=>if kv.1=k then (kv.1,y) else kv) (xs.map (putAt k u)):=by
 induction r with
 | nil=>exact .nil
 | @cons p q ps qs h t ih =>
  rw [List.map_cons,List.map_cons]
  refine .cons ?_ ih
  obtain ⟨h1,h2,h3⟩:=h
  unfold putAt
  by_cases e:p.1=k
  ·rw [if_pos e,if_pos (h1.symm.trans e)]; exact ⟨h1,h2,ry⟩
  ·rw [if_neg e,if_neg (fun z=>e (h1.trans z))]; exact ⟨h1,h2,h3⟩
theorem KT.put {H:Hp}{kvs:List (List Key×V)}{xs:List (List Key×Addr×Value)}(r:KT H kvs xs) (k:List Key) {b:Addr}{y:V}{u:Value}(hb:H b=some (.tup (k.map kV))) (ry:RelV y u) :
  KT H (putK kvs k y) (storedH xs k b u):=by
 have e:(kvs.any fun kv=>decide (kv.1=k))=(atKey xs k).isSome:=by
  rw [ziD_,(r.val k).isSome_eq,Option.isSome_map]
 unfold putK storedH
 rw [e]
 by_cases q:(atKey xs k).isSome=true
 ·rw [if_pos q,if_pos q]; exact r.repl k ry
 ·rw [if_neg q,if_neg q]; exact Paired.snoc r ⟨rfl,hb,ry⟩
theorem KT.keeps {H H':Hp}{kvs:List (List Key×V)}{xs:List (List Key×Addr×Value)}(r:KT H kvs xs) (ht:∀ b ys,H b=some (.tup ys)→H' b=some (.tup ys)):KT H' kvs xs :=
 Paired.mapP r fun _ _ z=>⟨z.1,ht _ _ z.2.1,z.2.2⟩
section
variable {P:Program}{w:World}{H:Hp}{h:Heap}{a:Addr}
theorem rd_of {u:HO}(ok:HOk P w H h) (e:Rd H a u):ObjOk P w H h a u:=e.ok ok
theorem zo0_ {kvs:List (Key×V)}(ok:HOk P w H h) (e:Rd H a (.dK kvs)):kvs.length≤sizeLine∧(a == sysModules)=false∧∃ vs,KV kvs vs∧h.DictOf (mixKind P w) a vs :=
 show ObjOk P w H h a (.dK kvs) from rd_of ok e
theorem dk_of {kvs:List (Key×V)}(ok:HOk P w H h) (e:H a=some (.dK kvs)):kvs.length≤sizeLine∧(a == sysModules)=false∧∃ vs,KV kvs vs∧h.DictOf (mixKind P w) a vs:=zo0_ ok (.inl e)
theorem zmh_ {ks:List Key}(ok:HOk P w H h) (e:H a=some (.tup (ks.map kV))):(tupleKind (mixKind P w)).is h ks a:=by
 obtain ⟨_,its,r,o,h1,h2,n,h3⟩:=(show ObjOk P w H h a (.tup (ks.map kV)) from ok a _ e)
 exact ⟨o,its.toArray,n,h1,h2,h3,by simpa using zhl_ r⟩
theorem zpF_ {kvs:List (List Key×V)}(ok:HOk P w H h) (e:Rd H a (.dT kvs)):kvs.length≤sizeLine∧(a == sysModules)=false ∧
  ∃ xs,KT H kvs xs∧h.DictOfH (tupleKind (mixKind P w)) a xs:=by
 obtain ⟨z,y,xs,r,o,es,ep,h1,h2,h3,h4,h5⟩:=(show ObjOk P w H h a (.dT kvs) from rd_of ok e)
 refine ⟨z,y,xs,r,o,es,ep,h1,h2,h3,h4,fun x hx=>?_,h5⟩
 have all:∀ {l:List (List Key×V)}{m:List (List Key×Addr×Value)},KT H l m→∀ x∈m,(tupleKind (mixKind P w)).is h x.1 x.2.1:=by
  intro l m q
  induction q with
  | nil=>intro x hx; exact nomatch hx
  | @cons p q ps qs hq t ih =>
   intro x hx
   rcases List.mem_cons.mp hx with e | hx
   ·subst e
    exact zmh_ ok (by rw [← hq.1]; exact hq.2.1)
   ·exact ih x hx
 exact all r x hx
theorem dt_of {kvs:List (List Key×V)}(ok:HOk P w H h) (e:H a=some (.dT kvs)):kvs.length≤sizeLine∧(a == sysModules)=false ∧
  ∃ xs,KT H kvs xs∧h.DictOfH (tupleKind (mixKind P w)) a xs:=zpF_ ok (.inl e)
end
def DGet (H:Hp) (a:Addr) (y:V) (r:Option V):Prop :=
 (∃ kvs k,Rd H a (.dK kvs)∧y=kV k∧r=valV kvs k)∨∃ kvs k b,Rd H a (.dT kvs)∧y=.ref b∧H b=some (.tup (k.map kV))∧r=valV kvs k
def DPut (H:Hp) (a:Addr) (y v:V) (H':Hp):Prop :=
 (∃ kvs k,H a=some (.dK kvs)∧y=kV k∧kvs.length<sizeLine∧H'=upd H a (.dK (putK kvs k v))) ∨
 ∃ kvs k b,H a=some (.dT kvs)∧y=.ref b∧H b=some (.tup (k.map kV))∧kvs.length<sizeLine∧H'=upd H a (.dT (putK kvs k v))
theorem DPut.k {H:Hp}{a:Addr}{kvs:List (Key×V)}{k:Key}{v:V}(e:H a=some (.dK kvs)) (hl:kvs.length<sizeLine):DPut H a (kV k) v (upd H a (.dK (putK kvs k v))):=.inl ⟨kvs,k,e,rfl,hl,rfl⟩
section
variable {X:Cx}{pins:Pnn}{σ:St}{H:Hp}{s:Shared}{a:Addr}{y v:V}{u r:Value}{o:Option V}{A:Around}{E:Value→Shared→Prop}
theorem Inv.big (I:Inv X pins σ H s):sysModules<s.heap.objs.size:=by
 have h:mainGlobals<s.heap.objs.size:=(I.mod.glob.keeps I.bk).lt
 exact Nat.lt_trans (by decide) h
theorem zoY_ {Q:Value→Shared→Prop}(hu:A.units+1<cLine) (I:Inv X pins σ H s) (g:DGet H a y (some v)) (ry:RelV y u) (h:∀ w' s',Inv X pins σ H s'→RelV v w'→Q w' s') :
  wpAny (model X.prog X.w) A (getItem (.ref a) u) Q E s:=by
 rcases g with ⟨kvs,k,e,ey,l⟩ | ⟨kvs,k,b,e,ey,eb,l⟩
 ·subst ey
  obtain ⟨z,hd,vs,rel,dd⟩:=zo0_ I.hok e
  obtain ⟨w',hw,rw'⟩:=RelO.some_of (v:=v) (o:=valueAt vs k) (by rw [l]; exact rel.val k)
  exact wpAny_getItem_of (zpX_ ry) dd.mapOf hw (h w' _ (I.tok _) rw')
 ·subst ey
  cases (show u=Value.ref b from ry)
  obtain ⟨z,hd,xs,rel,dd⟩:=zpF_ I.hok e
  obtain ⟨w',hw,rw'⟩:=RelO.some_of (v:=v) (o:=(atKey xs k).map (·.2)) (by rw [l]; exact rel.val k)
  obtain ⟨p,hp,hp2⟩:=Option.map_eq_some_iff.mp hw
  refine wpAny_getItem_heap (tupleKind_room_in1 hu) (zmh_ I.hok eb) dd hp ?_
  rw [hp2]
  exact h w' _ (I.tok _) rw'
theorem zlf_ {h':Heap}{t':Nat}{ob:HO}(I:Inv X pins σ H s) (mu:Mut (H a)) (hs:Heap.SameBut a s.heap h') (he:∃ q,h'.get? a=some q) (new:ObjOk X.prog X.w (upd H a ob) h' a ob) :
  Inv X pins σ (upd H a ob) { s with heap:=h',toks:=t' } :=
 I.write (x:=a) (e:=a) mu (.inl rfl) (fun b q hb z=>(hs.2 b hb).trans z) he new
theorem zp8_ {P:Program}{w:World}{H':Hp}{h':Heap}{kvs:List (Key×V)}{vs:List (Key×Value)}(z:kvs.length≤sizeLine) (hd:(a == sysModules)=false) (rel:KV kvs vs) (dd:h'.DictOf (mixKind P w) a vs) :
  ObjOk P w H' h' a (.dK kvs):=⟨z,hd,vs,rel,dd⟩
theorem zk8_ {H':Hp}{Q:Unit→Shared→Prop}(hu:A.units+1<cLine) (I:Inv X pins σ H s) (g:DPut H a y v H') (ry:RelV y u) (rv:RelV v r) (h:∀ s',Inv X pins σ H' s'→Q () s') :
  wpAny (model X.prog X.w) A (setItem (.ref a) u r) Q E s:=by
 rcases g with ⟨kvs,k,e,ey,l,eH⟩ | ⟨kvs,k,b,e,ey,eb,l,eH⟩
 ·subst ey eH
  obtain ⟨z,hd,vs,rel,dd⟩:=dk_of I.hok e
  have hz:vs.length≤sizeLine:=by rw [← rel.length]; exact z
  have hl:(putK kvs k v).length≤sizeLine:=by have:=zeP_ kvs k v; lia
  refine wpAny_setItem_pairs (hsz:=hz) (zpX_ ry) dd fun h' dd' hs=>h _ ?_
  have he:∃ q,h'.get? a=some q:=let ⟨q,_,_,hq,_⟩:=dd'; ⟨q,hq⟩
  exact zlf_ I (by rw [e]; exact True.intro) hs he (zp8_ hl hd (rel.put k rv) dd')
 ·subst ey eH
  cases (show u=Value.ref b from ry)
  obtain ⟨z,hd,xs,rel,dd⟩:=dt_of I.hok e
  have hz:xs.length≤sizeLine:=by rw [← Paired.length rel]; exact z
  have hl:(putK kvs k v).length≤sizeLine:=by have:=zeP_ kvs k v; lia
  refine wpAny_setItem_heap (hsz:=hz) (tupleKind_room_in1 hu) (zmh_ I.hok eb) dd fun h' dd' hs=>h _ ?_
  obtain ⟨q,es,ep,hq,h2,h3,h4,_,h5⟩:=dd'
  refine zlf_ I (by rw [e]; exact True.intro) hs ⟨q,hq⟩ ⟨hl,hd,_,(rel.put k eb rv).keeps fun c ys ec=>?_,q,es,ep,hq,h2,h3,h4,h5⟩
  rw [zW_ (ne_of ec e (fun z=>nomatch z))]
  exact ec
end
section
variable {X:Cx}{pins:Pnn}{σ:St}{H:Hp}{s:Shared}{a:Addr}{kvs:List (Key×V)}{k:Key}{u:Value}{A:Around}{E:Value→Shared→Prop}
end
def NoSl (i:Expr):Prop:=∀ ov iv,subscripted i false ov iv=operate [ov,iv] (getItem ov iv)
theorem subD_of {prog:Program}{w:World}{A:Around}{E:Value→Shared→Prop}{s:Shared}{env:Env}{value slice:Expr}{pos:Pos}{T id:String}{Q:Value→Shared→Prop}
  (hl:typeLookup (.type T) "__getitem__" = pure (some (.builtin id))) (hs:NoSl slice)
  (h:wpAny (model prog w) A (eval value env) (fun o s₁=>wpAny (model prog w) A (eval slice env) (fun i s₂=>s₂.TypeIs o T∧wpAny (model prog w) A (getItem o i) Q E s₂) E s₁) E s) :
  wpAny (model prog w) A (eval (.Subscript value slice pos) env) Q E s:=by
 refine Subscript_ (wpAny_mono h (fun o s₁ h₁=>wpAny_mono h₁ (fun i s₂ h₂=>?_) fun _ _ x=>x) fun _ _ x=>x)
 obtain ⟨hT,h₂⟩:=h₂
 unfold subscriptTail
 refine wpAny_bind ?_
 rw [getitemInPython_of_ne hT.not_modules]
 refine wpAny_bind (wpAny_specialOf hT hl ?_)
 have fin:wpAny (model prog w) A (subscripted slice false o i) (fun r s₃=>wpAny (model prog w) A (letTemporaryGo value o r>>=fun _=>pure r) Q E s₃) E s₂:=by
  rw [hs o i]
  exact wpAny_operating (wpAny_mono h₂ (fun r s₃ h₃=>wpAny_bind (wpAny_letTemporaryGo (wpAny_pure h₃))) fun _ _ x=>x)
 first
  | exact wpAny_pure (wpAny_bind fin)
  | exact wpAny_bind (wpAny_pure (wpAny_bind fin))
  | exact wpAny_bind fin
theorem zm2_ {X:Cx}{pins:Pnn}{σ:St}{H:Hp}{s:Shared}{a:Addr}{y:V}{o:Option V}(I:Inv X pins σ H s) (g:DGet H a y o):s.TypeIs (.ref a) "dict" := by
 rcases g with ⟨kvs,k,e,_,_⟩ | ⟨kvs,k,b,e,_,_,_⟩
 ·obtain ⟨_,_,vs,_,dd⟩:=zo0_ I.hok e
  exact dd.typeIs
 ·obtain ⟨_,_,xs,_,dd⟩:=zpF_ I.hok e
  exact dd.typeIs
section
variable {X:Cx}{o i e value:Expr}{pos pos' tpos:Pos}{td ty tv:TE}
end
theorem zmp_ {P:Program}{w:World}{H:Hp}(h:Heap) (hb:sysModules<h.objs.size):ObjOk P w H (h.push { cls:=.type "dict",data:=.dict #[] }) h.objs.size (.dK []) :=
 ⟨Nat.zero_le _,beq_eq_false_iff_ne.mpr (Ne.symm (Nat.ne_of_lt hb)),[],.nil,Heap.DictOf.new h⟩
def tDNewK:TE:=fun _ H Q=>∀ p,H p=none→Q (.ref p) (upd H p (.dK []))
section
variable {X:Cx}{pos:Pos}
theorem ziz_:PE X (.Dict [] [] pos) tDNewK:=fun pins s σ H Q I h =>
 wpAny_Dict_empty ⟨.ref s.heap.objs.size,_,I.laid (a:=s.heap.objs.size) (o:=.dK []) (t':=s.toks) (fun _ _ q=>Heap.get?_push_of_some _ q) (Nat.le_refl _) (zmp_ s.heap I.big),rfl,h _ (I.hok.fresh (Nat.le_refl _))⟩
end
structure M2 (X:Cx) (o:Expr) (m:Str) (apos:Pos) (e f:Expr) (cpos:Pos):Prop where
 base:attributeBase o m X.env (eval o X.env)=eval o X.env
 few:((backTo cpos (starEach [e,f] X.env)).all (fun x=>!x.1) && (backToKw cpos (keywordEach [] X.env)).all (fun x=>x.1.isSome)
  && decide (([e,f]:List Expr).length+([]:List Keyword).length+(if ([]:List Keyword).isEmpty then 0 else 1)<30))=true
 line:(apos.endLine == cpos.line)=true
 trees:backTo cpos (starEach [e,f] X.env)=[(false,eval e X.env),(false,eval f X.env)]
section
variable {X:Cx}{pins:Pnn}{σ:St}{H:Hp}{s:Shared}{a:Addr}{y d:V}{u r:Value}{o:Option V}{A:Around}{E:Value→Shared→Prop}
end
section
variable {X:Cx}{o e f:Expr}{apos cpos:Pos}{td ty tx:TE}
end
section
variable {X:Cx}{pins:Pnn}{σ:St}{H:Hp}{s:Shared}{a:Addr}{kvs:List (Key×V)}{A:Around}{E:Value→Shared→Prop}
end
section
variable {X:Cx}{pins:Pnn}{σ:St}{H:Hp}{s:Shared}{a:Addr}{y:V}{u:Value}{A:Around}{E:Value→Shared→Prop}
namespace L2
open PySem PySem.Spec PyProof.Rows
section
variable {X:Cx}
end
section
variable {κ:Type} [DecidableEq κ]
end
end L2
end
end L2
namespace L2
open PySem PySem.Spec PyProof.Rows
section
variable {X:Cx}
end
def Itz (K:Fgg) (l m:Addr):It :=
 ⟨fun i H=>∃ xs ys x y,SqL K H l xs∧SqL K H m ys∧xs[i]?=some x∧ys[i]?=some y,
  fun i H v H'=>∃ p x y,(∀ xs,SqL K H l xs→xs[i]?=some x)∧(∀ ys,SqL K H m ys→ys[i]?=some y)∧H p=none∧v=.ref p∧H'=upd H p (.tup [x,y]),
  fun i H=>∃ xs ys,SqL K H l xs∧SqL K H m ys∧(xs.length≤i∨ys.length≤i)⟩
theorem zlQ_ {P:Program}{w:World}{K:Fgg}{elts:List Expr}{kk:Nat}{pos:Pos}(z TI TO i1 i2 l m:Addr) (D:ZipApart z TI TO i1 i2 l m) :
  Turn P w K (.Tuple elts kk pos) (Itz K l m) [z,TI,TO,i1,i2] z (fun i h=>IsZip h z TI TO .none∧IsPair h TI (.ref i1) (.ref i2)∧(∃ a b,IsPair h TO a b)∧h.IsListIter i1 l i∧h.IsListIter i2 m i) where
 mem:=by simp
 obj:=fun i h st b hb=>by
  obtain ⟨hz,hTI,⟨a,c,hTO⟩,⟨o1,ho1,c1,d1⟩,⟨o2,ho2,c2,d2⟩⟩:=st
  rcases List.mem_cons.mp hb with rfl | hb
  ·exact ⟨_,hz,fun v z=>by cases z⟩
  rcases List.mem_cons.mp hb with rfl | hb
  ·exact ⟨_,hTI,fun v z=>by cases z⟩
  rcases List.mem_cons.mp hb with rfl | hb
  ·exact ⟨_,hTO,fun v z=>by cases z⟩
  rcases List.mem_cons.mp hb with rfl | hb
  ·exact ⟨o1,ho1,fun v z=>by rw [d1] at z; cases z⟩
  ·have e:b=i2:=by simpa using hb
   subst e
   exact ⟨o2,ho2,fun v z=>by rw [d2] at z; cases z⟩
 keep:=fun i h h' st k=>by
  obtain ⟨hz,hTI,⟨a,c,hTO⟩,h1,h2⟩:=st
  exact ⟨k z (by simp) _ hz,k TI (by simp) _ hTI,⟨a,c,k TO (by simp) _ hTO⟩,h1.at fun o q=>k i1 (by simp) o q,h2.at fun o q=>k i2 (by simp) o q⟩
 item:=by
  intro X hP hw hK hc i pins s σ H E I hf st hg
  subst hP hw hK
  obtain ⟨xs,ys,x,y,hq,hq2,hx,hy⟩:=hg
  obtain ⟨its,rv,p,hz0⟩:=I.list hq
  obtain ⟨its2,rv2,p2,hz2⟩:=I.list hq2
  obtain ⟨u,hu,ru⟩:=rv.get hx
  obtain ⟨v,hv,rw'⟩:=rv2.get hy
  obtain ⟨hz,hTI,⟨a,c,hTO⟩,h1,h2⟩:=st
  have lt:∀ {c o},s.heap.get? c=some o→c<s.heap.objs.size:=fun e=>Heap.lt_size e
  have lz:=lt hz
  have lTI:=lt hTI
  have lTO:=lt hTO
  have l1:i1<s.heap.objs.size:=by obtain ⟨o,e,_⟩:=id h1; exact lt e
  have l2:i2<s.heap.objs.size:=by obtain ⟨o,e,_⟩:=id h2; exact lt e
  refine wpAny_pyNext_zip_item D hz hTI hTO h1 h2 p.isList p2.isList (x:=u) (y:=v) (by simpa using hu) (by simpa using hv) fun h3 z3 TO3 it13 it23 pr3 sz3 hk3=>?_
  refine ⟨_,rfl,?_⟩
  refine wpAny_letOwnedTupleGo_zip z3 fun h4 z4 hs4=>?_
  replace hs4:Heap.SameBut z h3 h4:=hs4
  have hp:H s.heap.objs.size=none:=I.hok.fresh (Nat.le_refl _)
  have I1:Inv X pins σ (upd H s.heap.objs.size (.tup [x,y])) { s with heap:=s.heap.push { cls:=.type "tuple",data:=.seq #[u,v] },toks:=s.toks }:=by
   refine I.laid (fun b u q=>Heap.get?_push_of_some _ q) (Nat.le_refl _) ⟨?_,[u,v],.cons ru (.cons rw' .nil),⟨_,Heap.get?_push_size _ rfl,rfl,_,rfl⟩⟩
   show 2≤sizeLine
   decide
  have hlt:∀ b∈[z,TI,TO,i1,i2],b<s.heap.objs.size:=fun b hb=>by
   rcases List.mem_cons.mp hb with rfl | hb
   ·exact lz
   rcases List.mem_cons.mp hb with rfl | hb
   ·exact lTI
   rcases List.mem_cons.mp hb with rfl | hb
   ·exact lTO
   rcases List.mem_cons.mp hb with rfl | hb
   ·exact l1
   ·have e:b=i2:=by simpa using hb
    rw [e]; exact l2
  have hf1:∀ b∈[z,TI,TO,i1,i2],FpOk X pins (upd H s.heap.objs.size (.tup [x,y])) b:=fun b hb=>by
   obtain ⟨f0,r⟩:=hf b hb
   refine ⟨?_,r⟩
   rw [zW_ (Nat.ne_of_lt (hlt b hb))]
   exact f0
  have I2:Inv X pins σ (upd H s.heap.objs.size (.tup [x,y])) { s with heap:=h4,toks:=s.toks }:=by
   refine Inv.turnedL (s:={ s with heap:=s.heap.push { cls:=.type "tuple",data:=.seq #[u,v] },toks:=s.toks }) (ch:=[z,TI,TO,i1,i2]) I1 (fun b o hb q=>?_) hf1
   have n1:b≠z:=fun e=>hb (by simp [e])
   have n2:b≠TO:=fun e=>hb (by simp [e])
   have n3:b≠i1:=fun e=>hb (by simp [e])
   have n4:b≠i2:=fun e=>hb (by simp [e])
   refine (hs4.2 b n1).trans ?_
   rcases Heap.get?_push_cases q with ⟨rfl,rfl⟩ | q'
   ·exact pr3
   ·exact hk3 b o n1 n2 n3 n4 q'
  refine ⟨.ref s.heap.objs.size,_,I2,rfl,⟨s.heap.objs.size,x,y,fun zs hy'=>by rw [I.list_inj hy' hq]; exact hx,fun zs hy'=>by rw [I.list_inj hy' hq2]; exact hy,hp,rfl,rfl⟩,⟨z4,?_,⟨u,v,?_⟩,?_,?_⟩,fun b hb=>(hf1 b hb).1⟩
  ·exact (hs4.2 TI D.TIz).trans (hk3 TI _ D.TIz D.TITO D.TIi1 D.TIi2 hTI)
  ·exact (hs4.2 TO D.TOz).trans TO3
  ·exact it13.extBut hs4.extBut D.i1z
  ·exact it23.extBut hs4.extBut D.i2z
 done:=by
  intro X hP hw hK hc i pins s σ H E I hf st hg
  subst hP hw hK
  obtain ⟨xs,ys,hq,hq2,hx⟩:=hg
  obtain ⟨its,rv,p,hz0⟩:=I.list hq
  obtain ⟨its2,rv2,p2,hz2⟩:=I.list hq2
  obtain ⟨hz,hTI,⟨a,c,hTO⟩,h1,h2⟩:=st
  have hl:=rv.length
  have hl2:=rv2.length
  refine wpAny_pyNext_zip_end (I.ok.hd hc) D hz hTI hTO h1 h2 p.isList p2.isList ?_ fun h' eb=>⟨rfl,?_⟩
  ·rcases hx with hx | hx
   ·exact .inl (by simp; lia)
   ·exact .inr (by simp; lia)
  ·refine Inv.turnedL (s:=s) (t':=s.toks) (ch:=[z,TI,TO,i1,i2]) I (fun b o hb q=>eb b o (fun e=>hb (by simp [e])) (fun e=>hb (by simp [e])) (fun e=>hb (by simp [e])) (fun e=>hb (by simp [e])) q) hf
 self:=fun _ _ _ _ _ st h=>wpAny_pyIter_zip st.1 h
theorem zkl_ {N l m:Nat}(hl:l<N) (hm:m<N):ZipApart (N+4) (N+2) (N+3) N (N+1) l m:=by
 constructor<;>(intro e; have e':(_:Nat)=_:=congrArg (fun x:Nat=>x) e; lia)
section
variable {X:Cx}{elts:List Expr}{kk:Nat}{tpos:Pos}
def iZip (K:Fgg) (ta:TA):TI:=fun σ H R=>ta σ H fun vs H1=>match vs with
 | [.ref a,.ref b]=>(∃ xs,SqL K H1 a xs)∧(∃ ys,SqL K H1 b ys)∧R (Itz K a b) H1
 | _=>False
theorem zpD_ {a b:Expr}{ta:TA}{p pos:Pos}(hm:Gb X.mg "zip") (ha:PA X [a,b] ta) (hg:Gl X "zip" := by rfl) (hs:starEach [a,b] X.env=[(false,eval a X.env),(false,eval b X.env)]:=by rfl) (hs2:starEach [b] X.env=[(false,eval b X.env)]:=by rfl) :
  PI X (.Tuple elts kk tpos) (.Call (.Name "zip" p) [a,b] [] pos) (iZip X.K ta):=by
 intro pins s σ H R I h
 refine Call_ (zgU_ I hg hm (u:=.type "zip") (by rfl) (PyProof.Rows.callWith_type1 (thn (ha pos pins s σ H _ I h) fun us s1 hq_=>?_) (by rw [hs,hs2]) (by rw [hs2]; rfl)))
 obtain ⟨vs,H1,I1,r1,q1⟩:=hq_
 try dsimp only at q1
 split at q1
 ·rename_i l m
  obtain ⟨⟨xs,hq⟩,⟨ys,hq2⟩,q⟩:=q1
  cases r1 with
  | cons r rr =>
   cases rr with
   | cons r' rr =>
    cases rr
    cases r
    cases r'
    obtain ⟨its,rv,p1,hz⟩:=I1.list hq
    obtain ⟨its2,rv2,p2,hz2⟩:=I1.list hq2
    refine call_zip_2 p1.isList p2.isList fun h' hz' hTI hTO h1 h2 hsz hk=>?_
    refine wpAny_pyIter_zip (s:={ s1 with heap:=h' }) hz' ?_
    have I2:Inv X pins σ H1 { s1 with heap:=h' }:=I1.kept (t':=s1.toks) hk
    have la:l<s1.heap.objs.size:=by obtain ⟨o,e,_⟩:=p1.isList; exact Heap.lt_size e
    have lb:m<s1.heap.objs.size:=by obtain ⟨o,e,_⟩:=p2.isList; exact Heap.lt_size e
    have DD:ZipApart (s1.heap.objs.size+4) (s1.heap.objs.size+2) (s1.heap.objs.size+3) s1.heap.objs.size (s1.heap.objs.size+1) l m:=by
     exact zkl_ la lb
    refine ⟨s1.heap.objs.size+4,[s1.heap.objs.size+4,s1.heap.objs.size+2,s1.heap.objs.size+3,s1.heap.objs.size,s1.heap.objs.size+1],_,_,H1,rfl,I2,zlQ_ _ _ _ _ _ l m DD,⟨hz',hTI,⟨_,_,hTO⟩,h1,h2⟩,fun b hb=>?_,q⟩
    have hb':s1.heap.objs.size≤b:=by
     simp only [List.mem_cons,List.not_mem_nil,or_false] at hb
     rcases hb with rfl | rfl | rfl | rfl | rfl
     ·exact Nat.le_add_right _ _
     ·exact Nat.le_add_right _ _
     ·exact Nat.le_add_right _ _
     ·exact Nat.le_refl _
     ·exact Nat.le_add_right _ _
    exact I1.fpOk hb' (I1.hok.fresh hb')
 ·exact q1.elim
end
section
variable {X:Cx}{e st:Expr}{te:TE}{ts:TO}{pos p2:Pos}
end
end L2
namespace L2
open PySem PySem.Spec PyProof.Rows
def keyV:V→Option Key
 | .int i=>some (.inl i)
 | .str z=>some (.inr z)
 | _=>none
theorem zoG_ {y:V}{k:Key}(h:keyV y=some k):y=kV k:=by
 cases y<;>first | (cases h; rfl) | cases h
def atD (x y:V) (H:Hp) (R:Addr→List (Key×V)→Key→Prop):Prop:=match x with
 | .ref a=>(match keyV y with | some k=>∃ kvs,H a=some (.dK kvs)∧R a kvs k | none=>False)
 | _=>False
theorem zo4_ {x y:V}{H:Hp}{R:Addr→List (Key×V)→Key→Prop}(h:atD x y H R):∃ a kvs k,x=.ref a∧y=kV k∧H a=some (.dK kvs)∧R a kvs k:=by
 unfold atD at h
 cases x with
 | ref a =>
  cases e:keyV y with
  | none=>rw [e] at h; exact h.elim
  | some k =>
   rw [e] at h
   obtain ⟨kvs,h1,h2⟩:=h
   exact ⟨a,kvs,k,rfl,zoG_ e,h1,h2⟩
 | _=>exact h.elim
def mDPut (td ty tv:TE):TS:=fun D σ H=>tv σ H fun v H1=>td σ H1 fun x H2=>ty σ H2 fun y H3=>atD x y H3 fun a kvs k=>kvs.length<sizeLine∧D.nx σ (upd H3 a (.dK (putK kvs k v)))
section
variable {X:Cx}{o i e value:Expr}{pos pos' tpos:Pos}{td ty tv:TE}
theorem zi7_ (hu:X.A.units+60<cLine) (ho:PE X o td) (hi:PE X i ty) (hv:PE X value tv) (hs:swapsWith value (some (.Subscript o i pos')) pos.line X.env=pure false:=by rfl) :
  PS X (.Assign [.Subscript o i pos'] value pos) (mDPut td ty tv):=by
 intro pins s σ H D I h
 refine wpAny_Assign_Subscript (thn (hv pins s σ H _ I h) fun r s1 ⟨v,H1,I1,rv,q1⟩=>thn (ho pins s1 σ H1 _ I1 q1) fun u s2 ⟨x,H2,I2,rx,q2⟩=>thn (hi pins s2 σ H2 _ I2 q2) fun iv s3 hq_=>?_) hs
 obtain ⟨y,H3,I3,ry,q3⟩:=hq_
 obtain ⟨a,kvs,k,rfl,rfl,hd,hl,q⟩:=zo4_ q3
 obtain rfl:u=Value.ref a:=rx
 exact zk8_ (by lia) I3 (DPut.k hd hl) ry rv fun s4 I4=>⟨σ,_,I4,q⟩
end
section
variable {X:Cx}{o e f:Expr}{apos cpos:Pos}{td ty tx':TE}
end
section
variable {X:Cx}{o i:Expr}{pos:Pos}{td ty:TE}
end
end L2
namespace L2
open PySem PySem.Spec PyProof.Rows
inductive Av where
 | i (n:Int) | p (a b:Int)
inductive Xc where
 | pl (c:String) | at (c:String) (as:List (Str×Av))
instance:Coe String Xc:=⟨Xc.pl⟩
inductive Mo (α:Type) where
 | ok (a:α) | ex (c:Xc) | no
namespace Mo
variable {α β γ:Type}
def bind (x:Mo α) (f:α→Mo β):Mo β:=match x with | .ok a=>f a | .ex c=>.ex c | .no=>.no
theorem ok_bind (a:α) (f:α→Mo β):(Mo.ok a).bind f=f a:=rfl
def noex (x:Mo α):Mo α:=match x with | .ok a=>.ok a | _=>.no
def lim (n:Nat) (k:Mo α):Mo α:=if n≤sizeLine then k else .no
theorem lim_ok {n:Nat}{k:Mo α}(h:n≤100000):lim n k=k:=if_pos (zd6_ h)
def grd (p:Prop) [Decidable p] (k:Mo α):Mo α:=if p then k else .no
theorem grd_ok {p:Prop} [Decidable p] {k:Mo α}(h:p):grd p k=k:=if_pos h
def opt (x:Option α):Mo α:=match x with | some a=>.ok a | none=>.no
end Mo
def un (F h:Hp):Hp:=fun p=>match F p with | some o=>some o | none=>h p
def Dj (F h:Hp):Prop:=∀ p,F p=none∨h p=none
def Jn (h1 h2 h:Hp):Prop:=∀ p,(h1 p=none∧h p=h2 p)∨(h2 p=none∧h p=h1 p)
def Ext (F H F' H':Hp):Prop:=Same F F'∧Same F' H'∧Same H H'∧∀ p,F p=none→F' p≠none→H p=none
theorem Ext.refl {F H:Hp}(h:Same F H):Ext F H F H:=⟨Same.refl _,h,Same.refl _,fun p a b=>absurd a b⟩
theorem Ext.trans {F H F1 H1 F2 H2:Hp}(a:Ext F H F1 H1) (b:Ext F1 H1 F2 H2):Ext F H F2 H2:=by
 obtain ⟨a1,a2,a3,a4⟩:=a
 obtain ⟨b1,b2,b3,b4⟩:=b
 refine ⟨a1.trans b1,b2,a3.trans b3,fun p hp hq=>?_⟩
 cases e:F1 p with
 | none=>exact a3.free (b4 p e hq)
 | some o=>exact a4 p hp (by rw [e]; exact Option.some_ne_none _)
theorem Ext.heap {F H H':Hp}(h:Same F H) (g:Same H H'):Ext F H F H':=⟨Same.refl _,h.trans g,g,fun p a b=>absurd a b⟩
theorem Ext.new {F H:Hp}(h:Same F H) {p:Addr}{o:HO}(hp:H p=none):Ext F H (upd F p o) (upd H p o):=by
 refine ⟨zei_ (h.free hp) _,fun b u e=>?_,zei_ hp _,fun q a b=>?_⟩
 ·unfold upd at e ⊢
  split
  ·rename_i z; rw [if_pos z] at e; exact e
  ·rename_i z; rw [if_neg z] at e; exact h _ _ e
 ·unfold upd at b
  split at b
  ·rename_i z; rw [z]; exact hp
  ·exact absurd a b
structure Ty (α:Type) where
 R:α→V→Hp→Prop
 mono:∀ {a v H H'},Same H H'→R a v H→R a v H'
def Tups (H H':Hp):Prop:=∀ p xs,H p=some (.tup xs)→H' p=some (.tup xs)
def Imm {α:Type}(T:Ty α):Prop:=∀ {a v H H'},Tups H H'→T.R a v H→T.R a v H'
abbrev tyInt:Ty Int:=⟨fun a v _=>v=.int a,fun _ h=>h⟩
abbrev tyStr:Ty (List Nat):=⟨fun a v _=>v=tx a,fun _ h=>h⟩
abbrev tyBl:Ty Bool:=⟨fun a v _=>v=.bl a,fun _ h=>h⟩
abbrev tyNon:Ty Unit:=⟨fun _ v _=>v=.non,fun _ h=>h⟩
theorem zc_:Imm tyInt:=fun _ h=>h
theorem zs_:Imm tyStr:=fun _ h=>h
theorem zO_:Imm tyBl:=fun _ h=>h
theorem zhy_:Imm tyNon:=fun _ h=>h
abbrev tyOpt {α:Type}(T:Ty α):Ty (Option α):=⟨fun a v H=>match a with | none=>v=.non | some x=>T.R x v H∧v≠.non,fun {a v H H'} g h=>by cases a with | none=>exact h | some x=>exact ⟨T.mono g h.1,h.2⟩⟩
theorem zbW_ {α:Type}{T:Ty α}(i:Imm T):Imm (tyOpt T):=fun {a v H H'} g h=>by cases a with | none=>exact h | some x=>exact ⟨i g h.1,h.2⟩
structure Cs (γ:Type) where
 R:γ→List V→Hp→Prop
 mono:∀ {c vs H H'},Same H H'→R c vs H→R c vs H'
def ImmC {γ:Type}(C:Cs γ):Prop:=∀ {c vs H H'},Tups H H'→C.R c vs H→C.R c vs H'
abbrev csNil:Cs Unit:=⟨fun _ vs _=>vs=[],fun _ h=>h⟩
abbrev csLast {α:Type}(T:Ty α):Cs α:=⟨fun a vs H=>∃ v,vs=[v]∧T.R a v H,fun g ⟨v,e,h⟩=>⟨v,e,T.mono g h⟩⟩
abbrev csCons {α γ:Type}(T:Ty α) (C:Cs γ):Cs (α×γ):=⟨fun a vs H=>∃ v us,vs=v::us∧T.R a.1 v H∧C.R a.2 us H,fun g ⟨v,us,e,h,q⟩=>⟨v,us,e,T.mono g h,C.mono g q⟩⟩
theorem zmf_:ImmC csNil:=fun _ h=>h
theorem zn_ {α:Type}{T:Ty α}(i:Imm T):ImmC (csLast T):=fun g ⟨v,e,h⟩=>⟨v,e,i g h⟩
theorem zq_ {α γ:Type}{T:Ty α}{C:Cs γ}(i:Imm T) (j:ImmC C):ImmC (csCons T C):=fun g ⟨v,us,e,h,q⟩=>⟨v,us,e,i g h,j g q⟩
abbrev tyTup {γ:Type}(C:Cs γ):Ty γ:=⟨fun c v H=>∃ p us,v=.ref p∧H p=some (.tup us)∧C.R c us H,fun g ⟨p,us,e,h,q⟩=>⟨p,us,e,g _ _ h,C.mono g q⟩⟩
theorem zF_ {γ:Type}{C:Cs γ}(i:ImmC C):Imm (tyTup C):=fun g ⟨p,us,e,h,q⟩=>⟨p,us,e,g _ _ h,i g q⟩
abbrev Prs {α:Type}(T:Ty α) (H:Hp) (xs:List α) (vs:List V):Prop:=Paired (fun x v=>T.R x v H) xs vs
theorem zbh_ {α β:Type}{R R':α→β→Prop}(h:∀ a b,R a b→R' a b):∀ {xs:List α}{ys:List β},Paired R xs ys→Paired R' xs ys
 | _,_,.nil=>.nil
 | _,_,.cons a t=>.cons (h _ _ a) (zbh_ h t)
theorem Prs.mono {α:Type}{T:Ty α}{H H':Hp}{xs:List α}{vs:List V}(g:Same H H') (h:Prs T H xs vs):Prs T H' xs vs:=zbh_ (fun _ _ r=>T.mono g r) h
theorem Prs.imm {α:Type}{T:Ty α}(i:Imm T) {H H':Hp}{xs:List α}{vs:List V}(g:Tups H H') (h:Prs T H xs vs):Prs T H' xs vs:=zbh_ (fun _ _ r=>i g r) h
abbrev tyL {α:Type}(T:Ty α):Ty (List α):=⟨fun xs v H=>∃ p vs,v=.ref p∧H p=some (.lst vs)∧Prs T H xs vs,fun g ⟨p,vs,e,h,q⟩=>⟨p,vs,e,g _ _ h,q.mono g⟩⟩
abbrev tySc (K:Fgg):Ty (List Int):=⟨fun xs v H=>∃ p,v=.ref p∧SqL K H p (xs.map V.int),fun g ⟨p,e,h⟩=>⟨p,e,g.seq h⟩⟩
structure Own (α:Type) where
 O:α→V→Hp→Hp→Prop
 fr:Ty α
 mono:∀ {a v F F' h},Same F F'→O a v F h→O a v F' h
 frz:∀ {a v F h},Dj F h→O a v F h→fr.R a v (un F h)
 notup:∀ {a v F h},O a v F h→∀ p xs,h p≠some (.tup xs)
def ImmO {α:Type}(O:Own α):Prop:=∀ {a v F F' h},Tups F F'→O.O a v F h→O.O a v F' h
theorem zak_ {F h:Hp}:Same F (un F h):=fun p o e=>by unfold un; rw [e]
theorem zdy_ {F h:Hp}(d:Dj F h):Same h (un F h):=fun p o e=>by
 unfold un
 rcases d p with z | z
 ·rw [z]; exact e
 ·rw [z] at e; cases e
abbrev owF {α:Type}(T:Ty α):Own α:=⟨fun a v F h=>(∀ p,h p=none)∧T.R a v F,T,fun g ⟨e,h⟩=>⟨e,T.mono g h⟩,fun _ ⟨_,h⟩=>T.mono zak_ h,fun ⟨e,_⟩ p xs z=>by rw [e] at z; cases z⟩
theorem zm_ {α:Type}{T:Ty α}(i:Imm T):ImmO (owF T):=fun g ⟨e,h⟩=>⟨e,i g h⟩
def one (p:Addr) (o:HO):Hp:=fun q=>if q=p then some o else none
theorem zz_ {p:Addr}{o:HO}:one p o p=some o:=if_pos rfl
abbrev owL {α:Type}(T:Ty α):Own (List α):=⟨fun xs v F h=>∃ p vs,v=.ref p∧h=one p (.lst vs)∧Prs T F xs vs,tyL T,fun g ⟨p,vs,e,z,q⟩=>⟨p,vs,e,z,q.mono g⟩,
 fun d ⟨p,vs,e,z,q⟩=>⟨p,vs,e,zdy_ d _ _ (by rw [z]; exact zz_),q.mono zak_⟩,
 fun ⟨p,vs,e,z,q⟩ b xs y=>by rw [z] at y; unfold one at y; split at y<;>cases y⟩
theorem zA_ {α:Type}{T:Ty α}(i:Imm T):ImmO (owL T):=fun g ⟨p,vs,e,z,q⟩=>⟨p,vs,e,z,q.imm i g⟩
inductive Sl:Type 1 where
 | dead
 | fz {α:Type}(T:Ty α) (a:α)
 | ow {α:Type}(O:Own α) (a:α)
def Sl.P:Sl→Option V→Hp→Hp→Prop
 | .dead,_,_,_=>True
 | .fz T a,o,F,_=>∃ v,o=some v∧T.R a v F
 | .ow O a,o,F,h=>∃ v,o=some v∧O.O a v F h
def Sl.Z:Sl→Option V→Hp→Prop
 | .dead,_,_=>True
 | .fz T a,o,F=>∃ v,o=some v∧T.R a v F
 | .ow O a,o,F=>∃ v,o=some v∧O.fr.R a v F
def Sl.cold:Sl→Sl
 | .ow _ _=>.dead
 | s=>s
def Hold:List Sl→St→Hp→Hp→Prop
 | [],[],_,_=>True
 | s::L,o::σ,F,h=>∃ h1 h2,Jn h1 h2 h∧s.P o F h1∧Hold L σ F h2
 | _,_,_,_=>False
def HoldF (L:List Sl) (σ:St) (F:Hp):Prop:=∀ (i:Nat) (s:Sl),L[i]?=some s→s.Z (σ[i]?.join) F
theorem Sl.P.mono {s:Sl}{o:Option V}{F F' h:Hp}(g:Same F F') (q:s.P o F h):s.P o F' h:=by
 cases s with
 | dead=>exact q
 | fz T a=>obtain ⟨v,e,r⟩:=q; exact ⟨v,e,T.mono g r⟩
 | ow O a=>obtain ⟨v,e,r⟩:=q; exact ⟨v,e,O.mono g r⟩
theorem Sl.Z.mono {s:Sl}{o:Option V}{F F':Hp}(g:Same F F') (q:s.Z o F):s.Z o F':=by
 cases s with
 | dead=>exact q
 | fz T a=>obtain ⟨v,e,r⟩:=q; exact ⟨v,e,T.mono g r⟩
 | ow O a=>obtain ⟨v,e,r⟩:=q; exact ⟨v,e,O.fr.mono g r⟩
theorem HoldF.mono {L:List Sl}{σ:St}{F F':Hp}(g:Same F F') (q:HoldF L σ F):HoldF L σ F':=fun i s e=>(q i s e).mono g
theorem Hold.mono:∀ {L:List Sl}{σ:St}{F F' h:Hp},Same F F'→Hold L σ F h→Hold L σ F' h
 | [],[],_,_,_,_,q=>q
 | s::L,o::σ,F,F',h,g,⟨h1,h2,j,p,r⟩=>⟨h1,h2,j,p.mono g,r.mono g⟩
 | [],_::_,_,_,_,_,q=>q.elim
 | _::_,[],_,_,_,_,q=>q.elim
theorem Hold.len:∀ {L:List Sl}{σ:St}{F h:Hp},Hold L σ F h→L.length=σ.length
 | [],[],_,_,_=>rfl
 | s::L,o::σ,F,h,⟨h1,h2,j,p,r⟩=>by rw [List.length_cons,List.length_cons,r.len]
 | [],_::_,_,_,q=>q.elim
 | _::_,[],_,_,q=>q.elim
theorem Jn.l {h1 h2 h:Hp}(j:Jn h1 h2 h):Same h1 h:=fun p o e=>by
 rcases j p with ⟨a,b⟩ | ⟨a,b⟩
 ·rw [a] at e; cases e
 ·rw [b]; exact e
theorem Jn.r {h1 h2 h:Hp}(j:Jn h1 h2 h):Same h2 h:=fun p o e=>by
 rcases j p with ⟨a,b⟩ | ⟨a,b⟩
 ·rw [b]; exact e
 ·rw [a] at e; cases e
theorem Jn.dj {h1 h2 h:Hp}(j:Jn h1 h2 h):Dj h1 h2:=fun p=>by
 rcases j p with ⟨a,b⟩ | ⟨a,b⟩
 ·exact .inl a
 ·exact .inr a
theorem zaM_ {h1 h2:Hp}(d:Dj h1 h2):Jn h1 h2 (un h1 h2):=fun p=>by
 unfold un
 rcases d p with a | a
 ·rw [a]; exact .inl ⟨rfl,rfl⟩
 ·refine .inr ⟨a,?_⟩
  cases h1 p with
  | none=>exact a
  | some o=>rfl
theorem Hold.at:∀ {L:List Sl}{σ:St}{F h:Hp}(i:Nat) {s:Sl},Hold L σ F h→L[i]?=some s →
  ∃ o h1 h2,σ[i]?=some o∧Jn h1 h2 h∧s.P o F h1∧∀ s' o' h1' h',Jn h1' h2 h'→s'.P o' F h1'→Hold (L.set i s') (σ.set i o') F h'
 | [],_,_,_,_,_,_,e=>by cases e
 | s::L,[],_,_,_,_,q,_=>q.elim
 | s::L,o::σ,F,h,0,t,⟨h1,h2,j,p,r⟩,e=>by
  cases e
  exact ⟨o,h1,h2,rfl,j,p,fun s' o' h1' h' j' p'=>⟨h1',h2,j',p',r⟩⟩
 | s::L,o::σ,F,h,i+1,t,⟨h1,h2,j,p,r⟩,e=>by
  obtain ⟨o1,k1,k2,e1,j1,p1,f⟩:=Hold.at i r (by simpa using e)
  have d1:Dj h1 k1:=fun p=>by
   rcases j.dj p with a | a
   ·exact .inl a
   ·exact .inr (j1.l.free a)
  have d2:Dj h1 k2:=fun p=>by
   rcases j.dj p with a | a
   ·exact .inl a
   ·exact .inr (j1.r.free a)
  refine ⟨o1,k1,un h1 k2,by simpa using e1,fun p=>?_,p1,fun s' o' k1' h' j' p'=>?_⟩
  ·rcases j p with ⟨a,b⟩ | ⟨a,b⟩
   ·rcases j1 p with ⟨c,d⟩ | ⟨c,d⟩
    ·refine .inl ⟨c,?_⟩; unfold un; rw [a,b,d]
    ·refine .inr ⟨?_,by rw [b,d]⟩; unfold un; rw [a,c]
   ·refine .inl ⟨j1.l.free a,?_⟩
    have:k2 p=none:=j1.r.free a
    unfold un; rw [b]
    cases h1 p with
    | none=>rw [this]
    | some u=>rfl
  ·have dd:Dj k1' k2:=fun p=>by
    rcases j' p with ⟨a,b⟩ | ⟨a,b⟩
    ·exact .inl a
    ·right; unfold un at a
     cases z:h1 p with
     | none=>rw [z] at a; exact a
     | some u=>rw [z] at a; cases a
   refine ⟨h1,un k1' k2,fun p=>?_,p,f s' o' k1' _ (zaM_ dd) p'⟩
   rcases j' p with ⟨a,b⟩ | ⟨a,b⟩
   ·unfold un at b ⊢
    cases z:h1 p with
    | none=>rw [z] at b; exact .inl ⟨rfl,by rw [b,a]⟩
    | some u =>
     rw [z] at b
     refine .inr ⟨?_,b⟩
     rw [a]
     rcases d2 p with y | y
     ·rw [y] at z; cases z
     ·exact y
   ·unfold un at a
    cases z:h1 p with
    | some u=>rw [z] at a; cases a
    | none =>
     rw [z] at a
     refine .inl ⟨rfl,?_⟩
     unfold un; rw [b]
     cases k1' p with
     | none=>exact a.symm
     | some u=>rfl
theorem Hold.froz {L:List Sl}{σ:St}{F h:Hp}(d:Dj F h) (q:Hold L σ F h):HoldF L σ (un F h):=by
 intro i s e
 obtain ⟨o,h1,h2,e1,j,p,_⟩:=q.at i e
 rw [e1]
 have d1:Dj F h1:=fun p=>by
  rcases d p with a | a
  ·exact .inl a
  ·exact .inr (j.l.free a)
 cases s with
 | dead=>trivial
 | fz T a=>obtain ⟨v,e2,r⟩:=p; exact ⟨v,e2,T.mono zak_ r⟩
 | ow O a =>
  obtain ⟨v,e2,r⟩:=p
  refine ⟨v,e2,O.fr.mono (fun p u z=>?_) (O.frz d1 r)⟩
  unfold un at z ⊢
  cases y:F p with
  | some w=>rw [y] at z; exact z
  | none=>rw [y] at z; exact j.l _ _ z
theorem Hold.coldF {L:List Sl}{σ:St}{F h:Hp}(q:Hold L σ F h):HoldF (L.map Sl.cold) σ F:=by
 intro i s e
 rw [List.getElem?_map] at e
 cases e1:L[i]? with
 | none=>rw [e1] at e; cases e
 | some t =>
  rw [e1] at e
  cases e
  obtain ⟨o,h1,h2,e2,j,p,_⟩:=q.at i e1
  rw [e2]
  cases t with
  | dead=>trivial
  | fz T a=>obtain ⟨v,e2,r⟩:=p; exact ⟨v,e2,r⟩
  | ow O a=>trivial
end L2
namespace L2
open PySem PySem.Spec PyProof.Rows
def Av.R:Av→V→Hp→Prop
 | .i n,v,_=>v=.int n
 | .p a b,v,H=>∃ q,v=.ref q∧H q=some (.tup [.int a,.int b])
theorem Av.imm {x:Av}{v:V}{H H':Hp}(g:Tups H H') (h:x.R v H):x.R v H':=by
 cases x with
 | i n=>exact h
 | p a b=>obtain ⟨q,e,z⟩:=h; exact ⟨q,e,g _ _ z⟩
def AtR (as:List (Str×Av)) (fs:List (Str×V)) (F:Hp):Prop:=Paired (fun a f=>a.1=f.1∧a.2.R f.2 F) as fs
theorem AtR.imm {as:List (Str×Av)}{fs:List (Str×V)}{H H':Hp}(g:Tups H H') (h:AtR as fs H):AtR as fs H':=zbh_ (fun _ _ r=>⟨r.1,Av.imm g r.2⟩) h
def Tell (K:Fgg) (E:XK) (x:Xc) (H0 F H:Hp):Prop:=match x with
 | .pl c=>E (.ref (gA K c)) none H
 | .at c as=>∀ dx fs,H0 dx=none→F dx=some (XDO dx fs)→AtR as fs F→E (.ref (gA K c)) (some dx) H
theorem Tell.up {K:Fgg}{E:XK}{x:Xc}{H0 H1 F H:Hp}(s:Same H0 H1) (h:Tell K E x H0 F H):Tell K E x H1 F H:=by
 cases x with
 | pl c=>exact h
 | «at» c as=>exact fun dx fs e=>h dx fs (s.free e)
def After {α:Type}(K:Fgg) (r:Mo α) (E:XK) (F H:Hp) (k:α→Hp→Hp→Prop):Prop:=match r with
 | .ok a=>∀ F' H',Ext F H F' H'→k a F' H'
 | .ex c=>∀ F' H',Ext F H F' H'→Tell K E c H F' H'
 | .no=>False
section
variable {K:Fgg}{E:XK}{α β γ ρ:Type}{F H:Hp}
theorem After.bind {r:Mo α}{f:α→Mo β}{k:β→Hp→Hp→Prop}(h:After K (r.bind f) E F H k):After K r E F H fun a F1 H1=>After K (f a) E F1 H1 k:=by
 cases r with
 | ok a =>
  intro F1 H1 x
  have h':After K (f a) E F H k:=h
  cases e:f a with
  | ok b=>rw [e] at h'; exact fun F2 H2 y=>h' F2 H2 (x.trans y)
  | ex c=>rw [e] at h'; exact fun F2 H2 y=>(h' F2 H2 (x.trans y)).up x.2.2.1
  | no=>rw [e] at h'; exact h'
 | ex c=>exact h
 | no=>exact h
theorem After.imp {r:Mo α}{k k':α→Hp→Hp→Prop}(h:After K r E F H k) (g:∀ a F' H',Ext F H F' H'→k a F' H'→k' a F' H'):After K r E F H k':=by
 cases r with
 | ok a=>exact fun F' H' x=>g a F' H' x (h F' H' x)
 | ex c=>exact h
 | no=>exact h
theorem After.ok {a:α}{k:α→Hp→Hp→Prop}(hs:Same F H) (h:After K (.ok a) E F H k):k a F H:=h F H (.refl hs)
theorem After.noex {r:Mo α}{k:α→Hp→Hp→Prop}(h:After K r.noex E F H k):After K r E0 F H k:=by
 cases r with
 | ok a=>exact h
 | ex c=>exact h.elim
 | no=>exact h
theorem After.lim {n:Nat}{r:Mo α}{k:α→Hp→Hp→Prop}(h:After K (Mo.lim n r) E F H k):n≤sizeLine∧After K r E F H k:=by
 unfold Mo.lim at h
 split at h
 ·exact ⟨by assumption,h⟩
 ·exact h.elim
theorem After.grd {p:Prop} [Decidable p] {r:Mo α}{k:α→Hp→Hp→Prop}(h:After K (Mo.grd p r) E F H k):p∧After K r E F H k:=by
 unfold Mo.grd at h
 split at h
 ·exact ⟨by assumption,h⟩
 ·exact h.elim
theorem After.opt {x:Option α}{k:α→Hp→Hp→Prop}(h:After K (Mo.opt x) E F H k):∃ a,x=some a∧After K (.ok a) E F H k:=by
 cases x with
 | none=>exact h.elim
 | some a=>exact ⟨a,rfl,h⟩
def EvF (K:Fgg) (e:TE) (E:XK) (L:List Sl) (r:Mo α) (T:Ty α):Prop :=
 ∀ σ F H (Q:VK),HoldF L σ F→Same F H→After K r E F H (fun a F' H'=>∀ v,T.R a v F'→Q v H')→e σ H Q
def OwnK (O:Own α) (H:Hp) (Q:VK) (a:α) (F' H':Hp):Prop:=∀ v h,(∀ p,h p≠none→H p=none)→Dj F' h→Same h H'→O.O a v F' h→Q v H'
def EvO (K:Fgg) (e:TE) (E:XK) (L:List Sl) (r:Mo α) (O:Own α):Prop :=
 ∀ σ F H (Q:VK),HoldF L σ F→Same F H→After K r E F H (OwnK O H Q)→e σ H Q
def EvT (K:Fgg) (t:TT) (E:XK) (L:List Sl) (r:Mo Bool):Prop :=
 ∀ σ F H (Q:Bool→Hp→Prop),HoldF L σ F→Same F H→After K r E F H (fun b _ H'=>Q b H')→t σ H Q
def EvA (K:Fgg) (t:TA) (E:XK) (L:List Sl) (r:Mo γ) (C:Cs γ):Prop :=
 ∀ σ F H (Q:List V→Hp→Prop),HoldF L σ F→Same F H→After K r E F H (fun c F' H'=>∀ vs,C.R c vs F'→Q vs H')→t σ H Q
variable {L:List Sl}{e e1 e2:TE}{T:Ty α}{r:Mo α}
theorem EvO.fr {O:Own α}(h:EvO K e E L r O):EvF K e E L r O.fr:=by
 intro σ F H Q hL hs q
 refine h σ F H Q hL hs ?_
 cases r with
 | ok a =>
  intro F' H' x v h' fresh d s o
  refine q (un F' h') H' ⟨x.1.trans zak_,fun p o e=>?_,x.2.2.1,fun p a b=>?_⟩ v (O.frz d o)
  ·unfold un at e
   cases z:F' p with
   | some w=>rw [z] at e; cases e; exact x.2.1 _ _ z
   | none=>rw [z] at e; exact s _ _ e
  ·unfold un at b
   cases z:F' p with
   | some w=>exact x.2.2.2 p a (by rw [z]; exact Option.some_ne_none _)
   | none=>rw [z] at b; exact fresh p b
 | ex c=>exact q
 | no=>exact q
theorem EvF.ow (h:EvF K e E L r T):EvO K e E L r (owF T):=by
 intro σ F H Q hL hs q
 refine h σ F H Q hL hs (q.imp fun a F' H' x k v hv=>?_)
 exact k v (fun _=>none) (fun p z=>absurd rfl z) (fun p=>.inr rfl) (fun p o z=>by cases z) ⟨fun _=>rfl,hv⟩
theorem ev_c {v:V}{a:α}(h:∀ F,T.R a v F):EvF K (tC v) E L (.ok a) T:=fun σ F H Q hL hs q=>q.ok hs v (h F)
theorem zl_ (i:Int):EvF K (tC (.int i)) E L (.ok i) tyInt:=ev_c fun _=>rfl
theorem zbS_ (l:List Nat):EvF K (tC (tx l)) E L (.ok l) tyStr:=ev_c fun _=>rfl
theorem zh8_ (b:Bool):EvF K (tC (.bl b)) E L (.ok b) tyBl:=ev_c fun _=>rfl
theorem zon_:EvF K (tC .non) E L (.ok ()) tyNon:=ev_c fun _=>rfl
theorem zog_ {β:Type}{T:Ty β}:EvF K (tC .non) E L (.ok (none:Option β)) (tyOpt T):=ev_c fun _=>rfl
theorem znP_ (hn:∀ a v F,T.R a v F→v≠.non) (h:EvF K e E L r T):EvF K e E L (r.bind fun a=>.ok (some a)) (tyOpt T):=by
 intro σ F H Q hL hs q
 exact h σ F H Q hL hs (q.bind.imp fun a F1 H1 x k v hv=>k.ok x.2.1 v ⟨hv,hn _ _ _ hv⟩)
theorem zd_ (i:Nat) {a:α}(h:L[i]?=some (.fz T a)):EvF K (mVar i) E L (.ok a) T:=by
 intro σ F H Q hL hs q
 obtain ⟨v,e,r⟩:=hL i _ h
 unfold mVar
 cases z:σ[i]? with
 | none=>rw [z] at e; cases e
 | some o =>
  rw [z] at e
  cases (show o=some v from e)
  exact q.ok hs v r
theorem zbf_ (i:Nat) {O:Own α}{a:α}(h:L[i]?=some (.ow O a)):EvF K (mVar i) E L (.ok a) O.fr:=by
 intro σ F H Q hL hs q
 obtain ⟨v,e,r⟩:=hL i _ h
 unfold mVar
 cases z:σ[i]? with
 | none=>rw [z] at e; cases e
 | some o =>
  rw [z] at e
  cases (show o=some v from e)
  exact q.ok hs v r
def Op2 (K:Fgg) (m:R2) (E:XK) (T1:Ty α) (T2:Ty β) (g:α→β→Mo γ) (T:Ty γ):Prop :=
 ∀ a b x y F H (Q:VK),Same F H→T1.R a x F→T2.R b y F→After K (g a b) E F H (fun c F' H'=>∀ v,T.R c v F'→Q v H')→m x y H Q
def Op2O (K:Fgg) (m:R2) (E:XK) (T1:Ty α) (T2:Ty β) (g:α→β→Mo γ) (O:Own γ):Prop :=
 ∀ a b x y F H (Q:VK),Same F H→T1.R a x F→T2.R b y F→After K (g a b) E F H (OwnK O H Q)→m x y H Q
theorem OwnK.back {O:Own α}{H H1:Hp}{Q:VK}{a:α}{F' H':Hp}(g:Same H H1) (h:OwnK O H Q a F' H'):OwnK O H1 Q a F' H' :=
 fun v k fresh d s o=>h v k (fun p z=>g.free (fresh p z)) d s o
theorem zy_ {m:R2}{T1:Ty α}{T2:Ty β}{T:Ty γ}{g:α→β→Mo γ}{r1:Mo α}{r2:Mo β}(hop:Op2 K m E T1 T2 g T) (h1:EvF K e1 E L r1 T1) (h2:EvF K e2 E L r2 T2) :
  EvF K (tOp m e1 e2) E L (r1.bind fun a=>r2.bind fun b=>g a b) T:=by
 intro σ F H Q hL hs q
 refine h1 σ F H _ hL hs (q.bind.imp fun a F1 H1 x1 k1 v1 hv1=>?_)
 refine h2 σ F1 H1 _ (hL.mono x1.1) x1.2.1 (k1.bind.imp fun b F2 H2 x2 k2 v2 hv2=>?_)
 exact hop a b v1 v2 F2 H2 Q x2.2.1 (T1.mono x2.1 hv1) hv2 k2
theorem zmB_ {m:R2}{T1:Ty α}{T2:Ty β}{O:Own γ}{g:α→β→Mo γ}{r1:Mo α}{r2:Mo β}(hop:Op2O K m E T1 T2 g O) (h1:EvF K e1 E L r1 T1) (h2:EvF K e2 E L r2 T2) :
  EvO K (tOp m e1 e2) E L (r1.bind fun a=>r2.bind fun b=>g a b) O:=by
 intro σ F H Q hL hs q
 refine h1 σ F H _ hL hs (q.bind.imp fun a F1 H1 x1 k1 v1 hv1=>?_)
 refine h2 σ F1 H1 _ (hL.mono x1.1) x1.2.1 (k1.bind.imp fun b F2 H2 x2 k2 v2 hv2=>?_)
 exact hop a b v1 v2 F2 H2 Q x2.2.1 (T1.mono x2.1 hv1) hv2 (k2.imp fun c F3 H3 x3 k3=>k3.back (x1.2.2.1.trans x2.2.2.1))
theorem zoX_ {g:Int→Int→V}{f:Int→Int→α}(h:∀ i j F,T.R (f i j) (g i j) F):Op2 K (mI0 g) E tyInt tyInt (fun i j=>.ok (f i j)) T:=by
 intro a b x y F H Q hs hx hy q
 cases hx; cases hy
 exact q.ok hs _ (h a b F)
theorem op_i {C:Int→Int→Prop} [∀ i j,Decidable (C i j)] {g:Int→Int→V}{f:Int→Int→α}(h:∀ i j F,T.R (f i j) (g i j) F):Op2 K (mI C g) E tyInt tyInt (fun i j=>.grd (C i j) (.ok (f i j))) T:=by
 intro a b x y F H Q hs hx hy q
 cases hx; cases hy
 obtain ⟨c,q⟩:=q.grd
 exact ⟨c,q.ok hs _ (h a b F)⟩
instance (i j:Int):Decidable (CMul i j):=inferInstanceAs (Decidable (_∨_))
instance (i j:Int):Decidable (CDiv i j):=inferInstanceAs (Decidable (_∧_))
instance (i j:Int):Decidable (CPow i j):=inferInstanceAs (Decidable (_∧_∧_))
theorem z5_:Op2 K mAdd E tyInt tyInt (fun i j=>.ok (i+j)) tyInt:=by
 intro a b x y F H Q hs hx hy q
 cases hx; cases hy
 exact q.ok hs _ rfl
theorem zbx_:Op2 K mSub E tyInt tyInt (fun i j=>.ok (i-j)) tyInt:=zoX_ fun _ _ _=>rfl
theorem zad_:Op2 K mMod E tyInt tyInt (fun i j=>.grd (0<j) (.ok (i % j))) tyInt:=op_i (C:=fun _ j=>0<j) fun _ _ _=>rfl
theorem zn3_:Op2 K mLt E tyInt tyInt (fun i j=>.ok (decide (i<j))) tyBl:=zoX_ fun _ _ _=>rfl
theorem zmn_:Op2 K mGt E tyInt tyInt (fun i j=>.ok (decide (j<i))) tyBl:=zoX_ fun _ _ _=>rfl
theorem znC_:Op2 K mGe E tyInt tyInt (fun i j=>.ok (decide (j≤i))) tyBl:=zoX_ fun _ _ _=>rfl
theorem zdh_:Op2 K mAdd E tyStr tyStr (fun i j=>.lim (i.length+j.length) (.ok (i++j))) tyStr:=by
 intro a b x y F H Q hs hx hy q
 cases hx; cases hy
 obtain ⟨c,q⟩:=q.lim
 exact ⟨c,q.ok hs _ rfl⟩
theorem Prs.append {xs ys:List α}{vs us:List V}(a:Prs T H xs vs) (b:Prs T H ys us):Prs T H (xs++ys) (vs++us):=by
 induction a with
 | nil=>exact b
 | cons r t ih=>exact .cons r ih
theorem Prs.len {xs:List α}{vs:List V}(a:Prs T H xs vs):xs.length=vs.length:=Paired.length a
theorem Prs.get {xs:List α}{vs:List V}(a:Prs T H xs vs) (i:Nat):(xs[i]?=none∧vs[i]?=none)∨∃ x v,xs[i]?=some x∧vs[i]?=some v∧T.R x v H:=by
 induction a generalizing i with
 | nil=>exact .inl ⟨rfl,rfl⟩
 | cons r t ih =>
  cases i with
  | zero=>exact .inr ⟨_,_,rfl,rfl,r⟩
  | succ i=>simpa using ih i
theorem Prs.take {xs:List α}{vs:List V}(a:Prs T H xs vs) (n:Nat):Prs T H (xs.take n) (vs.take n):=by
 induction a generalizing n with
 | nil=>rw [List.take_nil,List.take_nil]; exact .nil
 | cons r t ih =>
  cases n with
  | zero=>exact .nil
  | succ n=>exact .cons r (ih n)
theorem Prs.drop {xs:List α}{vs:List V}(a:Prs T H xs vs) (n:Nat):Prs T H (xs.drop n) (vs.drop n):=by
 induction a generalizing n with
 | nil=>rw [List.drop_nil,List.drop_nil]; exact .nil
 | cons r t ih =>
  cases n with
  | zero=>exact .cons r t
  | succ n=>exact ih n
theorem Prs.set {xs:List α}{vs:List V}(a:Prs T H xs vs) (i:Nat) {x:α}{v:V}(q:T.R x v H):Prs T H (xs.set i x) (vs.set i v):=by
 induction a generalizing i with
 | nil=>exact .nil
 | cons r t ih =>
  cases i with
  | zero=>exact .cons q t
  | succ i=>exact .cons r (ih i)
theorem znS_ {vs:List V}{xs:List α}{p:Addr}{F' H':Hp}{Q:VK}(hp:H p=none) (h2:H' p=some (.lst vs)) (hf:F' p=none) (hr:Prs T F' xs vs) (q:OwnK (owL T) H Q xs F' H'):Q (.ref p) H':=by
 refine q (.ref p) (one p (.lst vs)) (fun b z=>?_) (fun b=>?_) (fun b o z=>?_) ⟨p,vs,rfl,rfl,hr⟩
 ·unfold one at z; split at z
  ·rename_i e; rw [e]; exact hp
  ·exact absurd rfl z
 ·unfold one; split
  ·rename_i e; rw [e]; exact .inl hf
  ·exact .inr rfl
 ·unfold one at z; split at z
  ·rename_i e; rw [e]; cases z; exact h2
  ·cases z
theorem zdl_ {vs:List V}{xs:List α}{p:Addr}{Q:VK}(hs:Same F H) (hp:H p=none) (hr:Prs T F xs vs) (q:After K (.ok xs) E F H (OwnK (owL T) H Q)):Q (.ref p) (upd H p (.lst vs)) :=
 znS_ hp zai_ (hs.free hp) hr (q F _ (.heap hs (zei_ hp _)))
theorem zpH_:EvA K tNil E L (.ok ()) csNil:=fun σ F H Q hL hs q=>q.ok hs [] rfl
theorem zf_ (h:EvF K e E L r T):EvA K (tCons e tNil) E L r (csLast T):=by
 intro σ F H Q hL hs q
 exact h σ F H _ hL hs (q.imp fun a F1 H1 x k v hv=>k [v] ⟨v,rfl,hv⟩)
theorem zu_ {ta:TA}{r2:Mo γ}{C:Cs γ}(h:EvF K e E L r T) (h2:EvA K ta E L r2 C):EvA K (tCons e ta) E L (r.bind fun a=>r2.bind fun c=>.ok (a,c)) (csCons T C):=by
 intro σ F H Q hL hs q
 refine h σ F H _ hL hs (q.bind.imp fun a F1 H1 x1 k1 v1 hv1=>?_)
 refine h2 σ F1 H1 _ (hL.mono x1.1) x1.2.1 (k1.bind.imp fun c F2 H2 x2 k2 vs hvs=>?_)
 exact k2.ok x2.2.1 (v1::vs) ⟨v1,vs,rfl,T.mono x2.1 hv1,hvs⟩
def Ct (K:Fgg) (C:Cs γ) (f:γ→Mo ρ) (O:Own ρ):Sp:=fun vs H Q E=>∃ F c,Same F H∧C.R c vs F∧After K (f c) E F H (OwnK O H Q)
theorem zc2_ {C:Cs γ}{f:γ→Mo ρ}{O:Own ρ}{ta:TA}{r:Mo γ}(h:EvA K ta E L r C):EvO K (tCall (Ct K C f O) [] E0 ta) E L (r.bind fun c=>(f c).noex) O:=by
 intro σ F H Q hL hs q
 refine h σ F H _ hL hs (q.bind.imp fun c F1 H1 x1 k1 vs hvs=>?_)
 rw [List.append_nil]
 exact ⟨F1,c,x1.2.1,hvs,k1.noex.imp fun r F2 H2 x2 k2=>k2.back x1.2.2.1⟩
def Bl (K:Fgg) (m:List V→Hp→VK→Prop) (E:XK) (C:Cs γ) (g:γ→Mo α) (T:Ty α):Prop :=
 ∀ c vs F H (Q:VK),Same F H→C.R c vs F→After K (g c) E F H (fun c F' H'=>∀ v,T.R c v F'→Q v H')→m vs H Q
def BlO (K:Fgg) (m:List V→Hp→VK→Prop) (E:XK) (C:Cs γ) (g:γ→Mo α) (O:Own α):Prop :=
 ∀ c vs F H (Q:VK),Same F H→C.R c vs F→After K (g c) E F H (OwnK O H Q)→m vs H Q
theorem zd4_ {m:List V→Hp→VK→Prop}{C:Cs γ}{g:γ→Mo α}{ta:TA}{r:Mo γ}(hb:Bl K m E C g T) (h:EvA K ta E L r C):EvF K (tCB m ta) E L (r.bind g) T:=by
 intro σ F H Q hL hs q
 exact h σ F H _ hL hs (q.bind.imp fun c F1 H1 x1 k1 vs hvs=>hb c vs F1 H1 Q x1.2.1 hvs k1)
theorem zhI_ {m:List V→Hp→VK→Prop}{C:Cs γ}{g:γ→Mo α}{O:Own α}{ta:TA}{r:Mo γ}(hb:BlO K m E C g O) (h:EvA K ta E L r C):EvO K (tCB m ta) E L (r.bind g) O:=by
 intro σ F H Q hL hs q
 exact h σ F H _ hL hs (q.bind.imp fun c F1 H1 x1 k1 vs hvs=>hb c vs F1 H1 Q x1.2.1 hvs (k1.imp fun a F2 H2 x2 k2=>k2.back x1.2.2.1))
theorem zas_:Bl K (mLen K) E (csLast (tyL T)) (fun l=>.ok (l.length:Int)) tyInt:=by
 rintro c vs F H Q hs ⟨v,rfl,p,us,rfl,h,r⟩ q
 exact ⟨us,.inl (.of (hs _ _ h)),q.ok hs _ (by rw [r.len])⟩
theorem zmb_:Bl K (mLen K) E (csLast (tySc K)) (fun l=>.ok (l.length:Int)) tyInt:=by
 rintro c vs F H Q hs ⟨v,rfl,p,rfl,h⟩ q
 exact ⟨_,.inl (hs.seq h),q.ok hs _ (by rw [List.length_map])⟩
theorem zpm_:Bl K (mTwo max) E (csCons tyInt (csLast tyInt)) (fun c=>.ok (max c.1 c.2)) tyInt:=by
 rintro c vs F H Q hs ⟨v,us,rfl,rfl,w,rfl,rfl⟩ q
 exact q.ok hs _ rfl
theorem zp5_:Bl K (mTwo min) E (csCons tyInt (csLast tyInt)) (fun c=>.ok (min c.1 c.2)) tyInt:=by
 rintro c vs F H Q hs ⟨v,us,rfl,rfl,w,rfl,rfl⟩ q
 exact q.ok hs _ rfl
theorem zpw_:Bl K mStr E (csLast tyInt) (fun i=>.grd (i.natAbs.log2<1920) (.ok (strI i))) tyStr:=by
 rintro c vs F H Q hs ⟨v,rfl,rfl⟩ q
 obtain ⟨z,q⟩:=q.grd
 exact ⟨z,q.ok hs _ rfl⟩
theorem zlb_ {xs:List Int}:Prs tyInt H xs (xs.map V.int):=by
 induction xs with
 | nil=>exact .nil
 | cons x xs ih=>exact .cons rfl ih
theorem zgw_:Op2 K (mIx K) E tyStr tyInt (fun l i=>.lim l.length (.opt ((atI l i).map fun c=>[c]))) tyStr:=by
 rintro a b x y F H Q hs rfl rfl q
 obtain ⟨z,q⟩:=q.lim
 obtain ⟨l,e,q⟩:=q.opt
 refine ⟨z,?_⟩
 show (match atI a b with | some c=>Q (tx [c]) H | none=>False)
 cases e1:atI a b with
 | none=>rw [e1] at e; cases e
 | some c=>rw [e1] at e; cases e; exact q.ok hs _ rfl
theorem zlz_ {xs:List α}{vs:List V}(r:Prs T H xs vs) {i:Int}{x:α}(e:atI xs i=some x):∃ v,atI vs i=some v∧T.R x v H:=by
 unfold atI at e ⊢
 rw [← r.len]
 cases e1:ixN xs.length i with
 | none=>rw [e1] at e; cases e
 | some j =>
  rw [e1] at e
  rcases r.get j with ⟨a,b⟩ | ⟨y,v,a,b,c⟩
  ·have:xs[j]?=some x:=e
   rw [a] at this; cases this
  ·have:xs[j]?=some x:=e
   rw [a] at this; cases this
   exact ⟨v,b,c⟩
theorem zbl_:Op2 K (mIx K) E (tyL T) tyInt (fun l i=>.opt (atI l i)) T:=by
 rintro a b x y F H Q hs ⟨p,vs,rfl,h,r⟩ rfl q
 obtain ⟨l,e,q⟩:=q.opt
 refine ⟨vs,.inl (.of (hs _ _ h)),?_⟩
 obtain ⟨v,e2,rv⟩:=zlz_ r e
 rw [e2]
 exact q.ok hs v rv
theorem zol_:Op2 K (mIx K) E (tySc K) tyInt (fun l i=>.opt (atI l i)) tyInt:=by
 rintro a b x y F H Q hs ⟨p,rfl,h⟩ rfl q
 obtain ⟨l,e,q⟩:=q.opt
 refine ⟨_,.inl (hs.seq h),?_⟩
 obtain ⟨v,e2,rv⟩:=zlz_ (H:=F) zlb_ e
 rw [e2]
 exact q.ok hs v rv
def CsAt (C:Cs γ) (i:Nat) (T:Ty α) (pr:γ→α):Prop:=∀ {c vs H},C.R c vs H→∃ v,vs[i]?=some v∧T.R (pr c) v H
theorem zhk_:CsAt (csLast T) 0 T id:=fun ⟨v,e,h⟩=>⟨v,by rw [e]; rfl,h⟩
theorem at_0 {C:Cs γ}:CsAt (csCons T C) 0 T Prod.fst:=fun ⟨v,us,e,h,q⟩=>⟨v,by rw [e]; rfl,h⟩
theorem at_s {C:Cs γ}{i:Nat}{pr:γ→α}{T':Ty β}(h:CsAt C i T pr):CsAt (csCons T' C) (i+1) T (fun c=>pr c.2):=fun ⟨v,us,e,_,q⟩=>by
 obtain ⟨w,e2,r⟩:=h q
 exact ⟨w,by rw [e]; exact e2,r⟩
theorem zfG_ {C:Cs γ}{i:Nat}{pr:γ→α}{r:Mo γ}(ha:CsAt C i T pr) (h:EvF K e E L r (tyTup C)):EvF K (tOp (mIx K) e (tC (.int i))) E L (r.bind fun c=>.ok (pr c)) T:=by
 intro σ F H Q hL hs q
 refine h σ F H _ hL hs (q.bind.imp fun c F1 H1 x1 k1 v1 hq_=>?_)
 obtain ⟨p,us,ev,hp,hc⟩:=hq_
 subst ev
 obtain ⟨w,e2,rw'⟩:=ha hc
 refine ⟨us,.inr (.of (x1.2.1 _ _ hp)),?_⟩
 have e3:atI us (i:Int)=some w:=by
  unfold atI
  rw [zdY_ (by lia) (by have:=(List.getElem?_eq_some_iff.mp e2).1; lia)]
  simpa using e2
 rw [e3]
 exact k1.ok x1.2.1 w rw'
end
end L2
namespace L2
open PySem PySem.Spec PyProof.Rows
section
variable {K:Fgg}{E:XK}{α β γ ρ:Type}{F H:Hp}{L:List Sl}{e e1 e2:TE}{T:Ty α}{r:Mo α}
variable {t t1 t2:TT}{b b1 b2:Mo Bool}
theorem zaN_ (h:EvF K e E L b tyBl):EvT K (mTest e) E L b:=by
 intro σ F H Q hL hs q
 refine h σ F H _ hL hs (q.imp fun a F1 H1 x k v hv=>?_)
 cases hv
 exact k
theorem zfQ_ (h:EvT K t E L b):EvT K (tNot t) E L (b.bind fun c=>.ok (!c)):=by
 intro σ F H Q hL hs q
 exact h σ F H _ hL hs (q.bind.imp fun a F1 H1 x k=>k.ok x.2.1)
theorem znb_ (h1:EvT K t1 E L b1) (h2:EvT K t2 E L b2):EvT K (mOr t1 t2) E L (b1.bind fun c=>if c then .ok true else b2):=by
 intro σ F H Q hL hs q
 refine h1 σ F H _ hL hs (q.bind.imp fun a F1 H1 x k=>⟨fun c=>?_,fun c=>?_⟩)
 ·rw [if_pos c] at k; exact k.ok x.2.1
 ·rw [if_neg (by rw [c]; decide)] at k; exact h2 σ F1 H1 _ (hL.mono x.1) x.2.1 k
theorem zmX_ (h1:EvF K e1 E L b1 tyBl) (h2:EvF K e2 E L b2 tyBl):EvF K (mAndV e1 e2) E L (b1.bind fun c=>if c then b2 else .ok false) tyBl:=by
 intro σ F H Q hL hs q
 refine h1 σ F H _ hL hs (q.bind.imp fun a F1 H1 x k v hv=>?_)
 cases hv
 refine ⟨fun c=>?_,fun c=>?_⟩
 ·rw [if_pos c] at k; exact h2 σ F1 H1 _ (hL.mono x.1) x.2.1 k
 ·rw [if_neg (by rw [c]; decide)] at k; exact k.ok x.2.1 _ rfl
theorem zpv_ (h1:EvF K e1 E L b1 tyBl):EvF K (mNotV e1) E L (b1.bind fun c=>.ok (!c)) tyBl:=by
 intro σ F H Q hL hs q
 refine h1 σ F H _ hL hs (q.bind.imp fun a F1 H1 x k v hv=>?_)
 cases hv
 exact k.ok x.2.1 _ rfl
theorem znO_ {r:Mo Int}(h1:EvF K e1 E L r tyInt):EvF K (mNeg e1) E L (r.bind fun c=>.ok (-c)) tyInt:=by
 intro σ F H Q hL hs q
 refine h1 σ F H _ hL hs (q.bind.imp fun a F1 H1 x k v hv=>?_)
 cases hv
 exact k.ok x.2.1 _ rfl
theorem ev_if {r1 r2:Mo α}(ht:EvT K t E L b) (h1:EvF K e1 E L r1 T) (h2:EvF K e2 E L r2 T):EvF K (mIf t e1 e2) E L (b.bind fun c=>if c then r1 else r2) T:=by
 intro σ F H Q hL hs q
 refine ht σ F H _ hL hs (q.bind.imp fun a F1 H1 x k=>⟨fun c=>?_,fun c=>?_⟩)
 ·rw [if_pos c] at k; exact h1 σ F1 H1 _ (hL.mono x.1) x.2.1 k
 ·rw [if_neg (by rw [c]; decide)] at k; exact h2 σ F1 H1 _ (hL.mono x.1) x.2.1 k
theorem After.more {k:α→Hp→Hp→Prop}(h:After K r E F H k):After K r E F H fun a F1 H1=>∀ F2 H2,Ext F1 H1 F2 H2→k a F2 H2:=by
 cases r with
 | ok a=>exact fun F1 H1 x F2 H2 y=>h F2 H2 (x.trans y)
 | ex c=>exact h
 | no=>exact h
def CsN (C:Cs γ) (n:Nat):Prop:=∀ {c vs H},C.R c vs H→vs.length=n
theorem zht_:CsN csNil 0:=fun e=>by rw [e]; rfl
theorem z4_:CsN (csLast T) 1:=fun ⟨v,e,_⟩=>by rw [e]; rfl
theorem zap_ {C:Cs γ}{n:Nat}(h:CsN C n):CsN (csCons T C) (n+1):=fun ⟨v,us,e,_,q⟩=>by rw [e,List.length_cons,h q]
theorem zpS_ {ta:TA}{C:Cs γ}{r:Mo γ}{n:Nat}(hl:CsN C n) (h:EvA K ta E L r C) (hn:n≤100:=by decide):EvF K (tTup ta) E L r (tyTup C):=by
 intro σ F H Q hL hs q
 refine h σ F H _ hL hs (q.more.imp fun c F1 H1 x1 k1 vs hvs=>⟨zd6_ (by rw [hl hvs]; lia),fun p hp=>?_⟩)
 have x:=Ext.new (o:=.tup vs) x1.2.1 hp
 exact k1 _ _ x _ ⟨p,vs,rfl,zai_,C.mono x.1 hvs⟩
def CsL (C:Cs γ) (T:Ty α) (f:γ→List α):Prop:=∀ {c vs H},C.R c vs H→Prs T H (f c) vs
theorem zcu_:CsL (csLast T) T fun a=>[a]:=fun ⟨v,e,h⟩=>by rw [e]; exact .cons h .nil
theorem zde_ {C:Cs γ}{f:γ→List α}(h:CsL C T f):CsL (csCons T C) T fun c=>c.1::f c.2:=fun ⟨v,us,e,q,z⟩=>by rw [e]; exact .cons q (h z)
theorem zgS_ {ta:TA}{C:Cs γ}{r:Mo γ}{n:Nat}{f:γ→List α}(hl:CsN C n) (hf:CsL C T f) (h:EvA K ta E L r C) (hn:n≤100:=by decide):EvO K (tLst ta) E L (r.bind fun c=>.ok (f c)) (owL T):=by
 intro σ F H Q hL hs q
 refine h σ F H _ hL hs (q.bind.imp fun c F1 H1 x1 k1 vs hvs=>⟨zd6_ (by rw [hl hvs]; omega),fun p hp=>?_⟩)
 exact zdl_ x1.2.1 hp (hf hvs) (k1.imp fun a F2 H2 x2 k2=>k2.back x1.2.2.1)
theorem zeK_ (T:Ty α):EvO K (tLst tNil) E L (.ok []) (owL T):=by
 intro σ F H Q hL hs q
 exact ⟨Nat.zero_le _,fun p hp=>zdl_ hs hp (T:=T) .nil q⟩
def EvP (K:Fgg) (t:TO) (E:XK) (L:List Sl) (r:Mo (Option Int)):Prop :=
 ∀ σ F H (Q:Option Int→Hp→Prop),HoldF L σ F→Same F H→After K r E F H (fun b _ H'=>Q b H')→t σ H Q
theorem ep_no:EvP K tNoPart E L (.ok none):=fun σ F H Q hL hs q=>q.ok hs
theorem zjW_ {r:Mo Int}(h:EvF K e E L r tyInt):EvP K (mPart e) E L (r.bind fun i=>.ok (some i)):=by
 intro σ F H Q hL hs q
 refine h σ F H _ hL hs (q.bind.imp fun a F1 H1 x k v hv=>?_)
 cases hv
 exact k.ok x.2.1
def cutG (xs:List α) (lo hi:Option Int):List α:=(xs.drop (HT.sIx xs.length 0 lo)).take (HT.sIx xs.length xs.length hi-HT.sIx xs.length 0 lo)
theorem zlo_ {xs:List α}{vs:List V}(q:Prs T H xs vs) (lo hi:Option Int):Prs T H (cutG xs lo hi) (cutV vs lo hi):=by
 unfold cutG cutV
 rw [← q.len]
 exact (q.drop _).take _
variable {tl th:TO}{rl rh:Mo (Option Int)}
theorem zkz_ {r:Mo (List Nat)}(h:EvF K e E L r tyStr) (hl:EvP K tl E L rl) (hh:EvP K th E L rh):EvF K (tSl (mSl K) e tl th) E L (r.bind fun l=>rl.bind fun a=>rh.bind fun b=>.lim l.length (.ok (cutG l a b))) tyStr:=by
 intro σ F H Q hL hs q
 refine h σ F H _ hL hs (q.bind.imp fun l F1 H1 x1 k1 v hv=>?_)
 refine hl σ F1 H1 _ (hL.mono x1.1) x1.2.1 (k1.bind.imp fun a F2 H2 x2 k2=>?_)
 refine hh σ F2 H2 _ (hL.mono (x1.1.trans x2.1)) x2.2.1 (k2.bind.imp fun b F3 H3 x3 k3=>?_)
 cases hv
 obtain ⟨z,k3⟩:=k3.lim
 exact ⟨z,k3.ok x3.2.1 _ rfl⟩
theorem zpK_ {r:Mo (List α)}(h:EvF K e E L r (tyL T)) (hl:EvP K tl E L rl) (hh:EvP K th E L rh):EvO K (tSl (mSl K) e tl th) E L (r.bind fun l=>rl.bind fun a=>rh.bind fun b=>.ok (cutG l a b)) (owL T):=by
 intro σ F H Q hL hs q
 refine h σ F H _ hL hs (q.bind.imp fun l F1 H1 x1 k1 v hv=>?_)
 refine hl σ F1 H1 _ (hL.mono x1.1) x1.2.1 (k1.bind.imp fun a F2 H2 x2 k2=>?_)
 refine hh σ F2 H2 _ (hL.mono (x1.1.trans x2.1)) x2.2.1 (k2.bind.imp fun b F3 H3 x3 k3=>?_)
 obtain ⟨p,vs,rfl,hp,hr⟩:=hv
 have x:=x2.1.trans x3.1
 exact ⟨vs,.of (x3.2.1 _ _ (x _ _ hp)),fun q hq=>zdl_ x3.2.1 hq (zlo_ (hr.mono x) a b) (k3.imp fun _ _ _ _ z=>z.back ((x1.2.2.1.trans x2.2.2.1).trans x3.2.2.1))⟩
theorem znN_ {r:Mo (List Int)}(h:EvF K e E L r (tySc K)) (hl:EvP K tl E L rl) (hh:EvP K th E L rh):EvO K (tSl (mSl K) e tl th) E L (r.bind fun l=>rl.bind fun a=>rh.bind fun b=>.ok (cutG l a b)) (owL tyInt):=by
 intro σ F H Q hL hs q
 refine h σ F H _ hL hs (q.bind.imp fun l F1 H1 x1 k1 v hv=>?_)
 refine hl σ F1 H1 _ (hL.mono x1.1) x1.2.1 (k1.bind.imp fun a F2 H2 x2 k2=>?_)
 refine hh σ F2 H2 _ (hL.mono (x1.1.trans x2.1)) x2.2.1 (k2.bind.imp fun b F3 H3 x3 k3=>?_)
 obtain ⟨p,rfl,hp⟩:=hv
 have x:=x2.1.trans x3.1
 exact ⟨_,x3.2.1.seq (x.seq hp),fun q hq=>zdl_ x3.2.1 hq (zlo_ zlb_ a b) (k3.imp fun _ _ _ _ z=>z.back ((x1.2.2.1.trans x2.2.2.1).trans x3.2.2.1))⟩
structure EqT (K:Fgg) (T:Ty α) (n:Nat) (q:α→α→Bool):Prop where
 eq:∀ {a b x y H},T.R a x H→T.R b y H→EqD K H n x y (q a b)
theorem zns_:EqT K tyInt 0 (fun a b=>decide (a=b)):=⟨by
 rintro a b x y H rfl rfl
 have:eqV (.int a) (.int b)=decide (a=b):=by unfold eqV; exact rfl
 rw [← this]; exact .flat rfl rfl⟩
theorem zn6_:EqT K tyStr 0 (fun a b=>decide (a=b)):=⟨by
 rintro a b x y H rfl rfl
 have:eqV (tx a) (tx b)=decide (a=b):=by
  unfold eqV
  rw [Bool.eq_iff_iff,decide_eq_true_iff]
  constructor
  ·intro h
   have h:=eq_of_beq h
   injection h with h
   have:=congrArg Array.toList h
   simpa using this
  ·rintro rfl; exact beq_self_eq_true _
 rw [← this]; exact .flat rfl rfl⟩
def eqL (q:α→α→Bool):List α→List α→Bool
 | [],[]=>true
 | x::xs,y::ys=>q x y && eqL q xs ys
 | _,_=>false
theorem zlu_ {q:α→α→Bool}:∀ {xs ys:List α},xs.length≠ys.length→eqL q xs ys=false
 | [],[],h=>absurd rfl h
 | [],_::_,_=>rfl
 | _::_,[],_=>rfl
 | x::xs,y::ys,h=>by unfold eqL; rw [zlu_ (by simpa using h),Bool.and_false]
theorem zle_ {q:α→α→Bool}:∀ {xs ys:List α},xs.length=ys.length→eqL q xs ys=(List.range xs.length).all fun i=>match xs[i]?,ys[i]? with | some x,some y=>q x y | _,_=>true
 | [],[],_=>rfl
 | x::xs,y::ys,h=>by
  unfold eqL
  rw [List.length_cons,List.range_succ_eq_map,List.all_cons,List.all_map,zle_ (by simpa using h)]
  rfl
theorem eqt_l {n:Nat}{q:α→α→Bool}(h:EqT K T n q):EqT K (tyL T) (n+1) (eqL q):=⟨by
 rintro a b x y H ⟨p,vs,rfl,hp,hr⟩ ⟨p2,us,rfl,hp2,hr2⟩
 by_cases hl:a.length=b.length
 ·rw [zle_ hl,hr.len]
  refine .lst _ (.of hp) (.of hp2) (by rw [← hr.len,← hr2.len,hl]) fun i x y hx hy=>?_
  rcases hr.get i with ⟨_,z⟩ | ⟨x1,v1,e1,e2,r1⟩
  ·rw [z] at hx; cases hx
  rcases hr2.get i with ⟨_,z⟩ | ⟨x2,v2,e3,e4,r2⟩
  ·rw [z] at hy; cases hy
  rw [e2] at hx; cases hx
  rw [e4] at hy; cases hy
  simp only [e1,e3]
  exact h.eq r1 r2
 ·rw [zlu_ hl]
  exact .lstN (.of hp) (.of hp2) (by rw [← hr.len,← hr2.len]; exact hl)⟩
theorem zp4_ {n:Nat}{q:α→α→Bool}(h:EqT K T n q) (hn:n≤50:=by decide) (hr:∀ {a x H},T.R a x H→∃ p,x=.ref p):Op2 K (mNeK K) E T T (fun a b=>.ok (!(q a b))) tyBl:=by
 intro a b x y F H Q hs hx hy k
 have hd:=h.eq (T.mono hs hx) (T.mono hs hy)
 obtain ⟨p,rfl⟩:=hr hx
 obtain ⟨p2,rfl⟩:=hr hy
 exact ⟨n,_,hn,hd,k.ok hs _ rfl⟩
theorem ref_l {a:List α}{x:V}{H:Hp}(h:(tyL T).R a x H):∃ p,x=.ref p:=by obtain ⟨p,_,e,_⟩:=h; exact ⟨p,e⟩
theorem znD_ {n:Nat}{q:α→α→Bool}(h:EqT K (tyL T) n (eqL q)) (hn:n≤50:=by decide):Op2 K (mNeK K) E (tyL T) (tyL T) (fun a b=>.ok (!(eqL q a b))) tyBl:=zp4_ h hn ref_l
theorem zpA_:Op2 K (mEqK K) E tyInt tyInt (fun a b=>.ok (decide (a=b))) tyBl:=by
 rintro a b x y F H Q hs rfl rfl k
 exact k.ok hs _ rfl
theorem zpo_:Op2 K (mNeK K) E tyInt tyInt (fun a b=>.ok (!decide (a=b))) tyBl:=by
 rintro a b x y F H Q hs rfl rfl k
 exact k.ok hs _ rfl
theorem zne_:Op2 K (mNeK K) E tyStr tyStr (fun a b=>.ok (!decide (a=b))) tyBl:=by
 rintro a b x y F H Q hs rfl rfl k
 exact k.ok hs _ rfl
theorem znr_:Op2 K mIs E (tyOpt T) tyNon (fun a _=>.ok a.isNone) tyBl:=by
 rintro a b x y F H Q hs hx rfl k
 have:decide (x=.non)=a.isNone:=by
  cases a with
  | none=>cases hx; rfl
  | some a=>exact decide_eq_false hx.2
 show (match mIsB x .non with | some b=>Q (.bl b) H | none=>False)
 have e:mIsB x .non=some (decide (x=.non)):=rfl
 rw [e,this]
 exact k.ok hs _ rfl
theorem zmM_:Op2 K mIsNot E (tyOpt T) tyNon (fun a _=>.ok a.isSome) tyBl:=by
 rintro a b x y F H Q hs hx rfl k
 have:(!decide (x=.non))=a.isSome:=by
  cases a with
  | none=>cases hx; rfl
  | some a=>rw [decide_eq_false hx.2]; rfl
 show (match mIsB x .non with | some b=>Q (.bl (!b)) H | none=>False)
 have e:mIsB x .non=some (decide (x=.non)):=rfl
 rw [e]
 show Q (.bl (!decide (x=.non))) H
 rw [this]
 exact k.ok hs _ rfl
theorem zpr_:Op2 K (mIn K false) E tyStr tyStr (fun a b=>.ok (inS a b)) tyBl:=by
 rintro a b x y F H Q hs rfl rfl k
 exact k.ok hs _ rfl
def TyN (K:Fgg) (T:Ty α) (n:String):Prop:=∀ {a x H},T.R a x H→tyS K H x n
theorem znV_:TyN K tyInt "int" := fun h=>by cases h; rfl
theorem zpn_:TyN K tyStr "str" := fun h=>by cases h; rfl
theorem tn_l:TyN K (tyL T) "list" := fun ⟨p,vs,e,h,_⟩=>by subst e; exact .inl ⟨rfl,vs,h⟩
theorem zoH_ {x:V}{n c:String}{bb:Bool}{Q:VK}(h:tyS K H x n) (hb:isaB n c=some bb) (q:Q (.bl bb) H):mIsa K [x,.ty c] H Q:=by
 cases x with
 | non=>cases (show n=_ from h); show (match isaB "NoneType" c with | some b=>Q (.bl b) H | none=>False); rw [hb]; exact q
 | bl _=>cases (show n=_ from h); show (match isaB "bool" c with | some b=>Q (.bl b) H | none=>False); rw [hb]; exact q
 | int _=>cases (show n=_ from h); show (match isaB "int" c with | some b=>Q (.bl b) H | none=>False); rw [hb]; exact q
 | str _=>cases (show n=_ from h); show (match isaB "str" c with | some b=>Q (.bl b) H | none=>False); rw [hb]; exact q
 | ref p=>exact ⟨n,h,by rw [hb]; exact q⟩
 | _=>exact h.elim
theorem ziL_ {n c:String}{bb:Bool}(hn:TyN K T n) (h:EvF K e E L r T) (hb:isaB n c=some bb:=by decide):EvF K (tCB (mIsa K) (tCons e (tCons (tC (.ty c)) tNil))) E L (r.bind fun _=>.ok bb) tyBl:=by
 intro σ F H Q hL hs q
 refine h σ F H _ hL hs (q.bind.imp fun l F1 H1 x1 k1 v hv=>?_)
 exact zoH_ (hn (T.mono x1.2.1 hv)) hb (k1.ok x1.2.1 _ rfl)
def Me (K:Fgg) (m:V→List V→Hp→VK→Prop) (E:XK) (C:Cs γ) (g:List Nat→γ→Mo α) (T:Ty α):Prop :=
 ∀ l c vs F H (Q:VK),Same F H→C.R c vs F→After K (g l c) E F H (fun c F' H'=>∀ v,T.R c v F'→Q v H')→m (tx l) vs H Q
theorem zls_ {m:V→List V→Hp→VK→Prop}{C:Cs γ}{g:List Nat→γ→Mo α}{ta:TA}{r0:Mo (List Nat)}{r:Mo γ}(hb:Me K m E C g T) (h0:EvF K e E L r0 tyStr) (h:EvA K ta E L r C):EvF K (tBM K "str" m e ta) E L (r0.bind fun l=>r.bind fun c=>g l c) T:=by
 intro σ F H Q hL hs q
 refine h0 σ F H _ hL hs (q.bind.imp fun l F1 H1 x1 k1 v hv=>?_)
 cases hv
 refine ⟨rfl,h σ F1 H1 _ (hL.mono x1.1) x1.2.1 (k1.bind.imp fun c F2 H2 x2 k2 vs hvs=>hb l c vs F2 H2 Q x2.2.1 hvs k2)⟩
theorem znt_:Me K mFind E (csLast tyStr) (fun l c=>.ok (findS l c)) tyInt:=by
 rintro l c vs F H Q hs ⟨v,rfl,rfl⟩ k
 exact k.ok hs _ rfl
theorem zmY_:Me K mIndex E (csLast tyStr) (fun l c=>.grd (findS l c ≠ -1) (.ok (findS l c))) tyInt:=by
 rintro l c vs F H Q hs ⟨v,rfl,rfl⟩ k
 obtain ⟨z,k⟩:=k.grd
 exact ⟨z,k.ok hs _ rfl⟩
def zfL (l:List Nat) (i:Int):List Nat:=(Txt.zfill ⟨l.toArray⟩ i).cps.toList
theorem zmZ_:Me K mZfill E (csLast tyInt) (fun l i=>.grd (PadOk i=true) (.ok (zfL l i))) tyStr:=by
 rintro l c vs F H Q hs ⟨v,rfl,rfl⟩ k
 obtain ⟨z,k⟩:=k.grd
 exact ⟨z,k.ok hs _ rfl⟩
end
end L2
namespace L2
open PySem PySem.Spec PyProof.Rows
section
variable {K:Fgg}{E:XK}{α β γ ρ S S' B:Type}{F H:Hp}{L:List Sl}{e e1 e2:TE}{T:Ty α}{r:Mo α}
def setL (L:List Sl) (ss:List (Nat×Sl)):List Sl:=ss.foldl (fun L q=>L.set q.1 q.2) L
def setS (σ:St) (ss:List (Nat×Option V)):St:=ss.foldl (fun L q=>L.set q.1 q.2) σ
inductive Plain (F:Hp):List (Nat×Sl)→List (Nat×Option V)→Prop
 | nil:Plain F [] []
 | cons {α:Type}{T:Ty α}{a:α}{i:Nat}{v:V}{ss vs} (h:T.R a v F) (t:Plain F ss vs):Plain F ((i,.fz T a)::ss) ((i,some v)::vs)
def TgR (K:Fgg) (g:TG) (T:Ty α) (ss:α→List (Nat×Sl)):Prop :=
 ∀ a v σ F H (Q:St→Hp→Prop),Same F H→T.R a v F→(∀ vs,Plain F (ss a) vs→Q (setS σ vs) H)→g v σ H Q
theorem zI_ (i:Nat):TgR K (gName i) T fun a=>[(i,.fz T a)]:=by
 intro a v σ F H Q hs hv q
 exact q [(i,some v)] (.cons hv .nil)
def TgC (K:Fgg) (g:TGs) (C:Cs γ) (ss:γ→List (Nat×Sl)):Prop :=
 ∀ a vs σ F H (Q:St→Hp→Prop),Same F H→C.R a vs F→(∀ us,Plain F (ss a) us→Q (setS σ us) H)→g vs σ H Q
theorem zhj_ {g:TG}{ss:α→List (Nat×Sl)}(h:TgR K g T ss):TgC K (gConsM g gNilM) (csLast T) ss:=by
 rintro a vs σ F H Q hs ⟨v,rfl,hv⟩ q
 exact h a v σ F H _ hs hv fun us hu=>q us hu
theorem zhg_ (i:Nat) {g:TGs}{C:Cs γ}{ss:γ→List (Nat×Sl)}(h:TgC K g C ss):TgC K (gConsM (gName i) g) (csCons T C) fun c=>(i,.fz T c.1)::ss c.2:=by
 rintro a vs σ F H Q hs ⟨v,us,rfl,hv,hc⟩ q
 exact h a.2 us _ F H _ hs hc fun ws hw=>q ((i,some v)::ws) (.cons hv hw)
theorem zkN_ {n:Nat}{g:TGs}{C:Cs γ}{ss:γ→List (Nat×Sl)}(hn:CsN C n) (h:TgC K g C ss):TgR K (gTupM K n g) (tyTup C) ss:=by
 rintro a v σ F H Q hs ⟨p,us,rfl,hp,hc⟩ q
 exact ⟨us,.of (hs _ _ hp),hn hc,h a us σ F H Q hs hc q⟩
theorem zjm_ {σ:St}{i j:Nat}{o:Option V}(h:i<σ.length):((σ.set i o)[j]?).join=if i=j then o else (σ[j]?).join:=by
 rw [List.getElem?_set]
 split
 ·rename_i e; subst e; first | rfl | (rw [if_pos h]; rfl)
 ·rfl
theorem zj4_ {σ:St}{i:Nat}{s:Sl}{o:Option V}(hl:L.length=σ.length) (h:HoldF L σ F) (hs:s.Z o F):HoldF (L.set i s) (σ.set i o) F:=by
 intro j t e
 rw [List.getElem?_set] at e
 split at e
 ·rename_i z; subst z
  split at e
  ·rename_i y; cases e
   rw [zjm_ (by rw [← hl]; exact y),if_pos rfl]; exact hs
  ·cases e
 ·rename_i z
  by_cases y:i<σ.length
  ·rw [zjm_ y,if_neg z]; exact h j t e
  ·rw [List.set_eq_of_length_le (by lia)]; exact h j t e
theorem zhD_ {ss:List (Nat×Sl)}{vs:List (Nat×Option V)}(p:Plain F ss vs):∀ {L:List Sl}{σ:St},L.length=σ.length→HoldF L σ F→HoldF (setL L ss) (setS σ vs) F∧(setS σ vs).length=σ.length∧(setL L ss).length=L.length:=by
 induction p with
 | nil=>exact fun hl h=>⟨h,rfl,rfl⟩
 | cons hv t ih =>
  rename_i T a i v ss vs
  intro L σ hl h
  obtain ⟨a1,b,c⟩:=ih (L:=L.set i (.fz T a)) (σ:=σ.set i (some v)) (by rw [List.length_set,List.length_set]; exact hl) (zj4_ (s:=.fz T a) hl h ⟨v,rfl,hv⟩)
  exact ⟨a1,b.trans (by rw [List.length_set]),c.trans (by rw [List.length_set])⟩
def DeadAt (L:List Sl) (is:List Nat):Prop:=∀ i∈is,∀ s,L[i]?=some s→s=.dead
theorem zl1_ {ss:List (Nat×Sl)}{vs:List (Nat×Option V)}(p:Plain F ss vs) {j:Nat}:∀ {σ:St},j∉ss.map (·.1)→(setS σ vs)[j]?=σ[j]?:=by
 induction p with
 | nil=>exact fun _=>rfl
 | cons hv t ih =>
  rename_i i v ss vs
  intro σ hj
  have h1:i≠j:=fun z=>hj (by rw [← z]; exact List.mem_cons_self)
  have h2:=ih (σ:=σ.set i (some v)) fun z=>hj (List.mem_cons_of_mem _ z)
  exact h2.trans (List.getElem?_set_ne h1)
structure Yl (K:Fgg) (J:It) (xs:List α) (T:Ty α) (F1:Hp):Prop where
 go:∀ i H x,Same F1 H→xs[i]?=some x→J.go i H∧∀ v H',J.yld i H v H'→∀ F,Same F1 F→Same F H→∃ F',Ext F H F' H'∧T.R x v F'
 stop:∀ H,Same F1 H→J.stop xs.length H
def EvI (K:Fgg) (wi:TI) (E:XK) (L:List Sl) (r:Mo (List α)) (T:Ty α):Prop :=
 ∀ σ F H (R:It→Hp→Prop),HoldF L σ F→Same F H→After K r E F H (fun xs F' H'=>∀ J,Yl K J xs T F'→R J H')→wi σ H R
theorem zmv_ {r:Mo (List Nat)}(h:EvF K e E L r tyStr):EvI K (iAny K e) E L (r.bind fun l=>.ok (l.map fun c=>[c])) tyStr:=by
 intro σ F H R hL hs q
 refine h σ F H _ hL hs (q.bind.imp fun l F1 H1 x1 k1 v hv=>?_)
 cases hv
 refine k1.ok x1.2.1 _ ⟨fun i H x hH hx=>?_,fun H hH=>?_⟩
 ·rw [List.getElem?_map] at hx
  cases e:l[i]? with
  | none=>rw [e] at hx; cases hx
  | some c =>
   rw [e] at hx; cases hx
   have hi:=(List.getElem?_eq_some_iff.mp e).1
   refine ⟨hi,?_⟩
   rintro v H' ⟨rfl,rfl⟩ F _ hF
   refine ⟨F,.refl hF,?_⟩
   show tx [l.getD i 0]=tx [c]
   rw [List.getD_eq_getElem?_getD,e]; rfl
 ·show l.length≤(l.map fun c=>[c]).length
  rw [List.length_map]; exact Nat.le_refl _
theorem ei_l {r:Mo (List α)}(h:EvF K e E L r (tyL T)):EvI K (iAny K e) E L r T:=by
 intro σ F H R hL hs q
 refine h σ F H _ hL hs (q.imp fun l F1 H1 x1 k1 v hv=>?_)
 obtain ⟨p,vs,rfl,hp,hr⟩:=hv
 refine .inl ⟨⟨vs,.of (x1.2.1 _ _ hp)⟩,k1 _ ⟨fun i H x hH hx=>?_,fun H hH=>⟨vs,.of (hH _ _ hp),by rw [hr.len]; exact Nat.le_refl _⟩⟩⟩
 rcases hr.get i with ⟨a,_⟩ | ⟨y,u,a,b,c⟩
 ·rw [a] at hx; cases hx
 ·rw [a] at hx; cases hx
  refine ⟨⟨vs,u,.of (hH _ _ hp),b⟩,?_⟩
  rintro v H' ⟨rfl,z⟩ F hF hF'
  have e:=z vs (.of (hH _ _ hp))
  rw [b] at e; cases e
  exact ⟨F,.refl hF',T.mono hF c⟩
def rngI (lo:Int) (n:Nat):List Int:=(List.range n).map fun (i:Nat)=>lo+i
theorem znx_ {lo:Int}{n:Nat}{F1:Hp}:Yl K (Itr lo n) (rngI lo n) tyInt F1:=by
 refine ⟨fun i H x hH hx=>?_,fun H hH=>?_⟩
 ·unfold rngI at hx
  rw [List.getElem?_map] at hx
  cases e:(List.range n)[i]? with
  | none=>rw [e] at hx; cases hx
  | some c =>
   rw [e] at hx; cases hx
   obtain ⟨hi,e⟩:=List.getElem?_eq_some_iff.mp e
   rw [List.getElem_range] at e; subst e
   rw [List.length_range] at hi
   refine ⟨hi,?_⟩
   rintro v H' ⟨rfl,rfl⟩ F _ hF
   exact ⟨F,.refl hF,rfl⟩
 ·show n≤_
  unfold rngI; rw [List.length_map,List.length_range]; exact Nat.le_refl _
theorem zck_ {r:Mo Int}{ta:TA}(h:EvA K ta E L r (csLast tyInt)):EvI K (mRng1 ta) E L (r.bind fun j=>.grd (-(2 ^ 62)≤j∧j<2 ^ 62) (.ok (rngI 0 j.toNat))) tyInt:=by
 intro σ F H R hL hs q
 refine h σ F H _ hL hs (q.bind.imp fun l F1 H1 x1 k1 v hv=>?_)
 obtain ⟨u,rfl,rfl⟩:=hv
 obtain ⟨z,k1⟩:=k1.grd
 exact ⟨z.1,z.2,k1.ok x1.2.1 _ znx_⟩
def enumL (xs:List α):List (Int×α):=(List.range xs.length).zip xs |>.map fun q=>((q.1:Int),q.2)
theorem zdK_ (xs:List α) (i:Nat):(enumL xs)[i]?=(xs[i]?).map fun x=>((i:Int),x):=by
 unfold enumL
 rw [List.getElem?_map]
 cases e:xs[i]? with
 | none =>
  have:=List.getElem?_eq_none_iff.mp e
  rw [List.getElem?_eq_none (by rw [List.length_zip,List.length_range]; lia)]; rfl
 | some x =>
  have hi:=(List.getElem?_eq_some_iff.mp e).1
  have:((List.range xs.length).zip xs)[i]?=some (i,x):=List.getElem?_zip_eq_some.mpr ⟨by rw [List.getElem?_range hi],e⟩
  rw [this]; rfl
theorem zb4_ (xs:List α):(enumL xs).length=xs.length:=by unfold enumL; rw [List.length_map,List.length_zip,List.length_range,Nat.min_self]
theorem zo1_ {T2:Ty β}{r:Mo (List α×List β)}{ta:TA}(h:EvA K ta E L r (csCons (tyL T) (csLast (tyL T2)))):EvI K (iZip K ta) E L (r.bind fun c=>.ok (c.1.zip c.2)) (tyTup (csCons T (csLast T2))):=by
 intro σ F H R hL hs q
 refine h σ F H _ hL hs (q.bind.imp fun l F1 H1 x1 k1 vs hv=>?_)
 obtain ⟨v,ws,rfl,⟨p,us,rfl,hp,hr⟩,v2,rfl,p2,us2,rfl,hp2,hr2⟩:=hv
 refine ⟨⟨us,.of (x1.2.1 _ _ hp)⟩,⟨us2,.of (x1.2.1 _ _ hp2)⟩,k1.ok x1.2.1 _ ⟨fun i H x hH hx=>?_,fun H hH=>?_⟩⟩
 ·obtain ⟨hx1,hx2⟩:=List.getElem?_zip_eq_some.mp (show (l.1.zip l.2)[i]?=some (x.1,x.2) from hx)
  rcases hr.get i with ⟨a,_⟩ | ⟨y,u,a,b,c⟩
  ·rw [a] at hx1; cases hx1
  rcases hr2.get i with ⟨a',_⟩ | ⟨y',u',a',b',c'⟩
  ·rw [a'] at hx2; cases hx2
  rw [a] at hx1; rw [a'] at hx2
  injection hx1 with hx1
  injection hx2 with hx2
  refine ⟨⟨us,us2,u,u',.of (hH _ _ hp),.of (hH _ _ hp2),b,b'⟩,?_⟩
  rintro v H' ⟨p3,w,w',z,z',hp3,rfl,rfl⟩ F hF hF'
  have e:=z us (.of (hH _ _ hp))
  have e':=z' us2 (.of (hH _ _ hp2))
  rw [b] at e; cases e
  rw [b'] at e'; cases e'
  have x':=Ext.new (o:=.tup [u,u']) hF' hp3
  refine ⟨_,x',p3,_,rfl,zai_,_,_,rfl,?_,u',rfl,?_⟩
  ·rw [← hx1]; exact T.mono (hF.trans x'.1) c
  ·rw [← hx2]; exact T2.mono (hF.trans x'.1) c'
 ·refine ⟨us,us2,.of (hH _ _ hp),.of (hH _ _ hp2),?_⟩
  rw [List.length_zip,hr.len,hr2.len]
  omega
def compM (f:α→Mo (Option β)):List α→List β→Mo (List β)
 | [],acc=>.ok acc
 | x::xs,acc=>(f x).bind fun o=>match o with | none=>compM f xs acc | some y=>.lim (acc.length+1) (compM f xs (acc++[y]))
theorem zV_ {f:α→Mo (Option β)}{g:α→β}:∀ {xs:List α}{acc:List β},(∀ x∈xs,f x=.ok (some (g x)))→acc.length+xs.length≤100000→compM f xs acc=.ok (acc++xs.map g)
 | [],acc,_,_=>by unfold compM; rw [List.map_nil,List.append_nil]
 | x::xs,acc,h,hl=>by
  rw [List.length_cons] at hl
  unfold compM
  rw [h x List.mem_cons_self,Mo.ok_bind]
  show Mo.lim _ _=_
  rw [Mo.lim_ok (by lia),zV_ (fun y hy=>h y (List.mem_cons_of_mem _ hy)) (by rw [List.length_append,List.length_singleton]; lia)]
  simp
def cL (lv:List Str) (fr:List (Str×Nat)) (L:List Sl):List Sl:=lv.map (fun _=>Sl.dead)++fr.map fun q=>(L[q.2]?).getD .dead
theorem zix_ {lv:List Str}{fr:List (Str×Nat)}{σ:St}(h:HoldF L σ F):HoldF (cL lv fr L) (cS lv fr σ) F:=by
 intro i s e
 unfold cL at e
 unfold cS
 by_cases hi:i<lv.length
 ·rw [List.getElem?_append_left (by rw [List.length_map]; exact hi),List.getElem?_map,List.getElem?_eq_getElem hi] at e
  cases e; trivial
 ·rw [List.getElem?_append_right (by rw [List.length_map]; lia),List.length_map,List.getElem?_map] at e
  rw [List.getElem?_append_right (by rw [List.length_map]; lia),List.length_map,List.getElem?_map]
  cases z:fr[i-lv.length]? with
  | none=>rw [z] at e; cases e
  | some q =>
   rw [z] at e
   have e:(L[q.2]?).getD .dead=s:=by simpa using e
   show Sl.Z s (σ[q.2]?).join F
   cases y:L[q.2]? with
   | none=>rw [y] at e; rw [← e]; trivial
   | some t=>rw [y] at e; cases e; exact h _ _ y
theorem zmu_ {lv:List Str}{fr:List (Str×Nat)}{σ:St}:(cL lv fr L).length=(cS lv fr σ).length:=by unfold cL cS; simp
def cond1 (c:Mo Bool) (f:Mo β):Mo (Option β):=(c.bind fun b=>if b then f.bind fun y=>.ok (some y) else .ok none).noex
end
end L2
namespace L2
open PySem PySem.Spec PyProof.Rows
inductive Out (ρ B S:Type) where
 | nx (s:S) | rt (r:ρ) | bk (b:B) | ct (b:B)
def Okk (F0 H0 F h H:Hp):Prop:=Ext F0 H0 F H∧Dj F h∧Same h H∧(∀ p,h p≠none→H0 p=none)∧∀ p xs,h p≠some (.tup xs)
section
variable {K:Fgg}{E:XK}{α β γ ρ S S' B B':Type}{F0 H0 F h H:Hp}{L:List Sl}{e e1 e2:TE}{T:Ty α}{r:Mo α}{O:Own ρ}
def Fin (K:Fgg) (r:Mo (Out ρ B S)) (E:XK) (LS:S→List Sl) (LB:B→List Sl) (O:Own ρ) (F0 H0:Hp) (D:Ends):Prop:=match r with
 | .ok (.nx s)=>∀ σ F h H,Hold (LS s) σ F h→Okk F0 H0 F h H→D.nx σ H
 | .ok (.bk b)=>∀ σ F h H,Hold (LB b) σ F h→Okk F0 H0 F h H→D.bk σ H
 | .ok (.ct b)=>∀ σ F h H,Hold (LB b) σ F h→Okk F0 H0 F h H→D.ct σ H
 | .ok (.rt a)=>∀ v F h H,Okk F0 H0 F h H→O.O a v F h→D.rt v H
 | .ex c=>∀ F h H,Okk F0 H0 F h H→Tell K E c H0 F H
 | .no=>False
def EvS (K:Fgg) (t:TS) (E:XK) (L:List Sl) (r:Mo (Out ρ B S)) (LS:S→List Sl) (LB:B→List Sl) (O:Own ρ):Prop :=
 ∀ F0 H0 σ F h H (D:Ends),Hold L σ F h→Okk F0 H0 F h H→Fin K r E LS LB O F0 H0 D→t D σ H
variable {t u:TS}{LS:S→List Sl}{LS':S'→List Sl}{LB:B→List Sl}
def thenO (r:Mo (Out ρ B S)) (k:S→Mo (Out ρ B S')):Mo (Out ρ B S'):=r.bind fun o=>match o with | .nx s=>k s | .rt a=>.ok (.rt a) | .bk b=>.ok (.bk b) | .ct b=>.ok (.ct b)
theorem zcj_ {r:Mo (Out ρ B S)}{k:S→Mo (Out ρ B S')}(h1:EvS K t E L r LS LB O) (h2:∀ s,EvS K u E (LS s) (k s) LS' LB O):EvS K (tSeq t u) E L (thenO r k) LS' LB O:=by
 intro F0 H0 σ F h H D hL ok fin
 refine h1 F0 H0 σ F h H { D with nx:=u D } hL ok ?_
 cases r with
 | no=>exact fin
 | ex c=>exact fin
 | ok o =>
  cases o with
  | nx s=>exact fun σ F h H hL ok=>h2 s F0 H0 σ F h H D hL ok fin
  | rt a=>exact fin
  | bk b=>exact fin
  | ct b=>exact fin
theorem Okk.thaw (ok:Okk F0 H0 F h H):Same (un F h) H:=fun p o e=>by
 unfold un at e
 cases z:F p with
 | some w=>rw [z] at e; cases e; exact ok.1.2.1 _ _ z
 | none=>rw [z] at e; exact ok.2.2.1 _ _ e
def less (G h:Hp):Hp:=fun p=>match h p with | none=>G p | some _=>none
theorem zx_ {G h:Hp}{p:Addr}(e:h p=none):less G h p=G p:=by unfold less; rw [e]
theorem Okk.back (ok:Okk F0 H0 F h H) {G' H':Hp}(x:Ext (un F h) H G' H'):Okk F0 H0 (less G' h) h H'∧Same F (less G' h)∧Tups G' (less G' h):=by
 obtain ⟨o1,o2,o3,o4,o5⟩:=ok
 have hs:Same F (less G' h):=fun p o e=>by
  have hp:h p=none:=by
   rcases o2 p with z | z
   ·rw [z] at e; cases e
   ·exact z
  rw [zx_ hp]; exact x.1 _ _ (zak_ _ _ e)
 refine ⟨⟨⟨o1.1.trans hs,fun p o e=>?_,o1.2.2.1.trans x.2.2.1,fun p a b=>?_⟩,fun p=>?_,fun p o e=>?_,o4,o5⟩,hs,fun p xs e=>?_⟩
 ·unfold less at e
  split at e
  ·exact x.2.1 _ _ e
  ·cases e
 ·unfold less at b
  split at b
  ·rename_i z
   cases y:un F h p with
   | none=>exact o1.2.2.1.free (x.2.2.2 p y b)
   | some o =>
    unfold un at y
    cases w:F p with
    | some _=>exact o1.2.2.2 p a (by rw [w]; exact Option.some_ne_none _)
    | none=>rw [w,z] at y; cases y
  ·exact absurd rfl b
 ·unfold less
  cases z:h p with
  | none=>exact .inr rfl
  | some o=>exact .inl rfl
 ·exact x.2.1 _ _ (x.1 _ _ (zdy_ o2 _ _ e))
 ·unfold less
  cases z:h p with
  | none=>exact e
  | some o =>
   have:=x.1 _ _ (zdy_ o2 _ _ z)
   rw [e] at this; cases this
   exact absurd z (o5 p xs)
theorem Tell.back {x:Xc}(ok:Okk F0 H0 F h H) {G' H':Hp}(y:Ext (un F h) H G' H') (t:Tell K E x H0 (less G' h) H'):Tell K E x H G' H':=by
 cases x with
 | pl c=>exact t
 | «at» c as =>
  refine fun dx fs e q r=>t dx fs (ok.1.2.2.1.free e) ?_ (r.imm (ok.back y).2.2)
  rw [zx_ (ok.2.2.1.free e)]; exact q
theorem zal_ {r:Mo α}{k:α→Mo (Out ρ B S)}{G:Hp}{D:Ends}{kk:α→Hp→Hp→Prop}(ok:Okk F0 H0 F h H) (G1:Hp) (hG:G1=un F h∨G1=F) (fin:Fin K (r.bind k) E LS LB O F0 H0 D)
  (hk:∀ a F' H',r=.ok a→Ext G1 H F' H'→kk a F' H'):After K r E G1 H kk:=by
 cases r with
 | ok a=>exact fun F' H' x=>hk a F' H' rfl x
 | no=>exact fin
 | ex c =>
  intro F' H' x
  rcases hG with rfl | rfl
  ·exact (fin _ _ _ (ok.back x).1).back ok x
  ·refine Tell.up ok.1.2.2.1 (fin F' h H' ⟨ok.1.trans x,fun p=>?_,ok.2.2.1.trans x.2.2.1,ok.2.2.2.1,ok.2.2.2.2⟩)
   cases z:h p with
   | none=>exact .inr rfl
   | some o =>
    left
    rcases ok.2.1 p with y | y
    ·cases w:F' p with
     | none=>rfl
     | some o'=>have:=x.2.2.2 p y (by rw [w]; exact Option.some_ne_none _); rw [ok.2.2.1 _ _ z] at this; cases this
    ·rw [y] at z; cases z
theorem Okk.cold (ok:Okk F0 H0 F h H) {F' H':Hp}(x:Ext F H F' H'):Okk F0 H0 F' h H':=by
 refine ⟨ok.1.trans x,fun p=>?_,ok.2.2.1.trans x.2.2.1,ok.2.2.2.1,ok.2.2.2.2⟩
 cases z:h p with
 | none=>exact .inr rfl
 | some o =>
  left
  rcases ok.2.1 p with y | y
  ·cases w:F' p with
   | none=>rfl
   | some o'=>have:=x.2.2.2 p y (by rw [w]; exact Option.some_ne_none _); rw [ok.2.2.1 _ _ z] at this; cases this
  ·rw [y] at z; cases z
theorem zcU_ {i:Nat}{s:Sl}{σ:St}{a:α}{v:V}(hi:L[i]?=some s) (hL:Hold L σ F h) (hv:T.R a v F):Hold (L.set i (.fz T a)) (σ.set i (some v)) F h:=by
 obtain ⟨o,h1,h2,_,j,_,f⟩:=hL.at i hi
 exact f (.fz T a) (some v) h1 h j ⟨v,rfl,hv⟩
theorem zgW_ {i:Nat}{s:Sl}{σ:St}{a:α}{v:V}{O1:Own α}{hn:Hp}(ok:Okk F0 H0 F h H) (hi:L[i]?=some s) (hL:Hold L σ F h) (fresh:∀ p,hn p≠none→H0 p=none) (dj:Dj F hn) (dh:Dj hn h) (hs:Same hn H) (hv:O1.O a v F hn) :
  ∃ h',Hold (L.set i (.ow O1 a)) (σ.set i (some v)) F h'∧Okk F0 H0 F h' H:=by
 obtain ⟨o,h1,h2,_,j,_,f⟩:=hL.at i hi
 have d2:Dj hn h2:=fun p=>by
  rcases dh p with z | z
  ·exact .inl z
  ·exact .inr (j.r.free z)
 refine ⟨un hn h2,f (.ow O1 a) (some v) hn _ (zaM_ d2) ⟨v,rfl,hv⟩,ok.1,fun p=>?_,fun p o e=>?_,fun p e=>?_,fun p xs e=>?_⟩
 ·unfold un
  cases z:hn p with
  | some w =>
   rcases dj p with y | y
   ·exact .inl y
   ·rw [y] at z; cases z
  | none =>
   rcases ok.2.1 p with y | y
   ·exact .inl y
   ·exact .inr (j.r.free y)
 ·unfold un at e
  cases z:hn p with
  | some w=>rw [z] at e; cases e; exact hs _ _ z
  | none=>rw [z] at e; exact ok.2.2.1 _ _ (j.r _ _ e)
 ·unfold un at e
  cases z:hn p with
  | some w=>exact fresh p (by rw [z]; exact Option.some_ne_none _)
  | none =>
   rw [z] at e
   cases y:h2 p with
   | none=>exact absurd y e
   | some w=>exact ok.2.2.2.1 p (by rw [j.r _ _ y]; exact Option.some_ne_none _)
 ·unfold un at e
  cases z:hn p with
  | some w=>rw [z] at e; cases e; exact O1.notup hv p xs z
  | none=>rw [z] at e; exact ok.2.2.2.2 p xs (j.r _ _ e)
theorem zch_ {i:Nat}{s:Sl}{k:α→Mo (Out ρ B S)}(hi:L[i]?=some s) (hT:Imm T) (he:EvF K e E L r T) (hk:∀ a,EvS K u E (L.set i (.fz T a)) (k a) LS LB O):EvS K (tSeq (tAsg e (gName i)) u) E L (r.bind k) LS LB O:=by
 intro F0 H0 σ F h H D hL ok fin
 refine he σ (un F h) H _ (hL.froz ok.2.1) ok.thaw (zal_ (G:=F) ok _ (.inl rfl) fin fun a F' H' hr x v hv=>?_)
 obtain ⟨o,hs,ht⟩:=ok.back x
 rw [hr] at fin
 exact hk a F0 H0 _ _ h H' D (zcU_ hi (hL.mono hs) (hT ht hv)) o fin
theorem znl_ {hn h:Hp}(hh:Same h H) (fresh:∀ p,hn p≠none→H p=none):Dj hn h:=fun p=>by
 cases z:hn p with
 | none=>exact .inl rfl
 | some w =>
  have:=fresh p (by rw [z]; exact Option.some_ne_none _)
  exact .inr (hh.free this)
theorem zcb_ {i:Nat}{s:Sl}{O1:Own α}{k:α→Mo (Out ρ B S)}(hi:L[i]?=some s) (hO:ImmO O1) (he:EvO K e E L r O1) (hk:∀ a,EvS K u E (L.set i (.ow O1 a)) (k a) LS LB O):EvS K (tSeq (tAsg e (gName i)) u) E L (r.bind k) LS LB O:=by
 intro F0 H0 σ F h H D hL ok fin
 refine he σ (un F h) H _ (hL.froz ok.2.1) ok.thaw (zal_ (G:=F) ok _ (.inl rfl) fin fun a F' H' hr x v hn fresh dj hsn hv=>?_)
 obtain ⟨o,hs,ht⟩:=ok.back x
 rw [hr] at fin
 have dj':Dj (less F' h) hn:=fun p=>by
  unfold less
  cases z:h p with
  | none=>exact dj p
  | some w=>exact .inl rfl
 obtain ⟨h',a1,a2⟩:=zgW_ o hi (hL.mono hs) (fun p z=>ok.1.2.2.1.free (fresh p z)) dj' (znl_ ok.2.2.1 fresh) hsn (hO ht hv)
 exact hk a F0 H0 _ _ h' H' D a1 a2 fin
theorem zla_ {i:Nat}{s:Sl}{O1:Own α}{k:α→Mo (Out ρ B S)}(hi:L[i]?=some s) (he:EvO K e E (L.map Sl.cold) r O1) (hk:∀ a,EvS K u E (L.set i (.ow O1 a)) (k a) LS LB O):EvS K (tSeq (tAsg e (gName i)) u) E L (r.bind k) LS LB O:=by
 intro F0 H0 σ F h H D hL ok fin
 refine he σ F H _ hL.coldF ok.1.2.1 (zal_ (G:=F) ok _ (.inr rfl) fin fun a F' H' hr x v hn fresh dj hsn hv=>?_)
 rw [hr] at fin
 obtain ⟨h',a1,a2⟩:=zgW_ (ok.cold x) hi (hL.mono x.1) (fun p z=>ok.1.2.2.1.free (fresh p z)) dj (znl_ ok.2.2.1 fresh) hsn hv
 exact hk a F0 H0 _ _ h' H' D a1 a2 fin
theorem zZ_ {α:Type}{l:List α}{i:Nat}{o:α}(h:l[i]?=some o):l.set i o=l:=by
 obtain ⟨hi,e⟩:=List.getElem?_eq_some_iff.mp h
 rw [← e]; exact List.set_getElem_self hi
theorem zjN_ {i:Nat}{O1:Own α}{a:α}{r:Mo (Out ρ B S)}(hi:L[i]?=some (.ow O1 a)) (hk:EvS K u E (L.set i (.fz O1.fr a)) r LS LB O):EvS K u E L r LS LB O:=by
 intro F0 H0 σ F h H D hL ok fin
 obtain ⟨o,h1,h2,e1,j,⟨v,e2,hv⟩,f⟩:=hL.at i hi
 obtain ⟨o1,o2,o3,o4,o5⟩:=ok
 have dj1:Dj F h1:=fun p=>by
  rcases o2 p with z | z
  ·exact .inl z
  ·exact .inr (j.l.free z)
 have dj2:Dj F h2:=fun p=>by
  rcases o2 p with z | z
  ·exact .inl z
  ·exact .inr (j.r.free z)
 have g1:Hold (L.set i (.dead)) σ F h2:=by
  have:=f .dead o (fun _=>none) h2 (fun p=>.inl ⟨rfl,rfl⟩) trivial
  rwa [zZ_ e1] at this
 have g2:Hold (L.set i (.fz O1.fr a)) σ (un F h1) h2:=by
  have g3:=g1.mono (zak_ (h:=h1))
  have hi':(L.set i Sl.dead)[i]?=some .dead:=by
   rw [List.getElem?_set_self]
   exact (List.getElem?_eq_some_iff.mp hi).1
  have:=zcU_ (T:=O1.fr) hi' g3 (O1.frz dj1 hv)
  rw [List.set_set] at this
  subst e2
  rwa [zZ_ e1] at this
 refine hk F0 H0 σ _ h2 H D g2 ⟨⟨o1.1.trans zak_,fun p o e=>?_,o1.2.2.1,fun p a b=>?_⟩,fun p=>?_,j.r.trans o3,fun p z=>?_,fun p xs e=>o5 p xs (j.r _ _ e)⟩ fin
 ·unfold un at e
  cases z:F p with
  | some w=>rw [z] at e; cases e; exact o1.2.1 _ _ z
  | none=>rw [z] at e; exact o3 _ _ (j.l _ _ e)
 ·unfold un at b
  cases z:F p with
  | some w=>exact o1.2.2.2 p a (by rw [z]; exact Option.some_ne_none _)
  | none =>
   rw [z] at b
   cases y:h1 p with
   | none=>exact absurd y b
   | some w=>exact o4 p (by rw [j.l _ _ y]; exact Option.some_ne_none _)
 ·unfold un
  cases z:F p with
  | some w =>
   rcases dj2 p with y | y
   ·rw [y] at z; cases z
   ·exact .inr y
  | none=>exact j.dj p
 ·cases y:h2 p with
  | none=>exact absurd y z
  | some w=>exact o4 p (by rw [j.r _ _ y]; exact Option.some_ne_none _)
theorem zcm_ {r:Mo ρ}(hO:ImmO O) (he:EvO K e E L r O):EvS K (tRet e) E L (r.bind fun a=>.ok (.rt a)) LS LB O:=by
 intro F0 H0 σ F h H D hL ok fin
 refine he σ (un F h) H _ (hL.froz ok.2.1) ok.thaw (zal_ (G:=F) ok _ (.inl rfl) fin fun a F' H' hr x v hn fresh dj hsn hv=>?_)
 obtain ⟨o,hs,ht⟩:=ok.back x
 rw [hr] at fin
 refine fin v _ hn H' ⟨o.1,fun p=>?_,hsn,fun p z=>ok.1.2.2.1.free (fresh p z),O.notup hv⟩ (hO ht hv)
 unfold less
 cases z:h p with
 | none=>exact dj p
 | some w=>exact .inl rfl
theorem zpi_ {i:Nat}{a:ρ}(hi:L[i]?=some (.ow O a)):EvS K (tRet (mVar i)) E L (.ok (.rt a)) LS LB O:=by
 intro F0 H0 σ F h H D hL ok fin
 obtain ⟨o,h1,h2,e1,j,⟨v,e2,hv⟩,f⟩:=hL.at i hi
 subst e2
 show mVar i σ H D.rt
 unfold mVar
 rw [e1]
 obtain ⟨o1,o2,o3,o4,o5⟩:=ok
 refine fin v F h1 H ⟨o1,fun p=>?_,j.l.trans o3,fun p z=>?_,O.notup hv⟩ hv
 ·rcases o2 p with z | z
  ·exact .inl z
  ·exact .inr (j.l.free z)
 ·cases y:h1 p with
  | none=>exact absurd y z
  | some w=>exact o4 p (by rw [j.l _ _ y]; exact Option.some_ne_none _)
theorem s_if {c:TT}{b:Mo Bool}{r1 r2:Mo (Out ρ B S)}(hc:EvT K c E L b) (h1:EvS K t E L r1 LS LB O) (h2:EvS K u E L r2 LS LB O):EvS K (mIfS c t u) E L (b.bind fun c=>if c then r1 else r2) LS LB O:=by
 intro F0 H0 σ F h H D hL ok fin
 refine hc σ (un F h) H _ (hL.froz ok.2.1) ok.thaw (zal_ (G:=F) ok _ (.inl rfl) fin fun a F' H' hr x=>?_)
 obtain ⟨o,hs,ht⟩:=ok.back x
 rw [hr] at fin
 have fin':Fin K (if a then r1 else r2) E LS LB O F0 H0 D:=fin
 refine ⟨fun z=>?_,fun z=>?_⟩
 ·rw [if_pos z] at fin'; exact h1 F0 H0 σ _ h H' D (hL.mono hs) o fin'
 ·rw [if_neg (by rw [z]; decide)] at fin'; exact h2 F0 H0 σ _ h H' D (hL.mono hs) o fin'
inductive Sub:List Sl→List Sl→Prop
 | nil:Sub [] []
 | same {s:Sl}{L L':List Sl}(h:Sub L L'):Sub (s::L) (s::L')
 | dead {s:Sl}{L L':List Sl}(h:Sub L L'):Sub (s::L) (.dead::L')
theorem Sub.hold {L L':List Sl}(w:Sub L L'):∀ {σ:St}{F h:Hp},Hold L σ F h→Hold L' σ F h:=by
 induction w with
 | nil=>exact fun h=>h
 | same _ ih =>
  intro σ F h q
  cases σ with
  | nil=>exact q.elim
  | cons o σ=>obtain ⟨h1,h2,j,p,r⟩:=q; exact ⟨h1,h2,j,p,ih r⟩
 | dead _ ih =>
  intro σ F h q
  cases σ with
  | nil=>exact q.elim
  | cons o σ=>obtain ⟨h1,h2,j,p,r⟩:=q; exact ⟨h1,h2,j,trivial,ih r⟩
theorem zw_ {s:S}(w:Sub L (LS s)):EvS K tNext E L (.ok (.nx s)) LS LB O:=fun F0 H0 σ F h H D hL ok fin=>fin σ F h H (w.hold hL) ok
theorem zcX_ {r:Mo (Out ρ B S)}(h:EvS K (tSeq t tNext) E L r LS LB O):EvS K t E L r LS LB O:=h
def forO (step:S→α→Mo (Out ρ S S)):List α→S→Mo (Out ρ B S)
 | [],s=>.ok (.nx s)
 | x::xs,s=>(step s x).bind fun o=>match o with | .nx s'=>forO step xs s' | .ct s'=>forO step xs s' | .bk s'=>.ok (.nx s') | .rt a=>.ok (.rt a)
theorem zdP_ {ss:List (Nat×Sl)}{vs:List (Nat×Option V)}(p:Plain F ss vs):∀ {L:List Sl}{σ:St},Hold L σ F h→Hold (setL L ss) (setS σ vs) F h:=by
 induction p with
 | nil=>exact fun h=>h
 | cons hv t ih =>
  rename_i T a i v ss vs
  intro L σ q
  refine ih (L:=L.set i (.fz T a)) (σ:=σ.set i (some v)) ?_
  by_cases hi:i<L.length
  ·exact zcU_ (List.getElem?_eq_getElem hi) q hv
  ·rw [List.set_eq_of_length_le (by lia),List.set_eq_of_length_le (by have:=q.len; lia)]; exact q
theorem Okk.rebase {F1 H1:Hp}(x:Ext F0 H0 F1 H1) (ok:Okk F0 H0 F h H) (s:Same F1 F):Okk F1 H0 F h H:=by
 obtain ⟨o1,o2,o3,o4,o5⟩:=ok
 refine ⟨⟨s,o1.2.1,o1.2.2.1,fun p a b=>o1.2.2.2 p (x.1.free a) b⟩,o2,o3,o4,o5⟩
theorem Okk.unbase {F1 H1:Hp}(x:Ext F0 H0 F1 H1) (ok:Okk F1 H0 F h H):Okk F0 H0 F h H:=by
 obtain ⟨o1,o2,o3,o4,o5⟩:=ok
 refine ⟨⟨x.1.trans o1.1,o1.2.1,o1.2.2.1,fun p a b=>?_⟩,o2,o3,o4,o5⟩
 cases z:F1 p with
 | none=>exact o1.2.2.2 p z b
 | some w=>exact x.2.2.2 p a (by rw [z]; exact Option.some_ne_none _)
theorem zhz_ {wi:TI}{g:TG}{tb:TS}{s0:S}{r:Mo (List α)}{ss:α→List (Nat×Sl)}{step:S→α→Mo (Out ρ S S)}(hi:EvI K wi E ((LS s0).map Sl.cold) r T) (hg:TgR K g T ss)
  (hb:∀ s a,EvS K tb E (setL (LS s) (ss a)) (step s a) LS LS O):EvS K (tFor wi g tb) E (LS s0) (r.bind fun xs=>forO step xs s0) LS LB O:=by
 intro F0 H0 σ F h H D hL ok fin
 refine hi σ F H _ hL.coldF ok.1.2.1 (zal_ (G:=F) ok _ (.inr rfl) fin fun xs F1 H1 hr x1 J Y=>?_)
 rw [hr] at fin
 have xx:=ok.1.trans x1
 refine ⟨fun i m σ H=>m=xs.length-i∧i≤xs.length∧∃ s F h,Hold (LS s) σ F h∧Okk F1 H0 F h H∧Fin K (forO (B:=B) step (xs.drop i) s) E LS LB O F0 H0 D,
  ⟨_,rfl,Nat.zero_le _,s0,F1,h,hL.mono x1.1,(ok.cold x1).rebase xx (Same.refl _),fin⟩,?_⟩
 rintro i m σ H ⟨rfl,hi,s,F,h,hL,ok,fin⟩
 have s1:Same F1 H:=ok.1.1.trans ok.1.2.1
 by_cases hlt:i<xs.length
 ·right
  obtain ⟨g1,g2⟩:=Y.go i H xs[i] s1 (List.getElem?_eq_getElem hlt)
  refine ⟨g1,fun σ' H'=>i+1≤xs.length∧∃ s F h,Hold (LS s) σ' F h∧Okk F1 H0 F h H'∧Fin K (forO (B:=B) step (xs.drop (i+1)) s) E LS LB O F0 H0 D,fun σ' H' z=>⟨xs.length-(i+1),by omega,rfl,z⟩,fun v H2 hy=>?_⟩
  obtain ⟨F2,x2,hv⟩:=g2 v H2 hy F ok.1.1 ok.1.2.1
  refine hg xs[i] v σ F2 H2 _ x2.2.1 hv fun vs hp=>?_
  refine hb s xs[i] F1 H0 _ F2 h H2 _ (zdP_ hp (hL.mono x2.1)) (ok.cold x2) ?_
  rw [List.drop_eq_getElem_cons hlt] at fin
  unfold forO at fin
  cases e:step s xs[i] with
  | no=>rw [e] at fin; exact fin
  | ex c=>rw [e] at fin; exact fun F h H ok=>fin F h H (ok.unbase xx)
  | ok o =>
   rw [e] at fin
   cases o with
   | nx s'=>exact fun σ' F' h' H' hL' ok'=>⟨hlt,s',F',h',hL',ok',fin⟩
   | ct s'=>exact fun σ' F' h' H' hL' ok'=>⟨hlt,s',F',h',hL',ok',fin⟩
   | bk s'=>exact fun σ' F' h' H' hL' ok'=>fin σ' F' h' H' hL' (ok'.unbase xx)
   | rt a=>exact fun v F h H ok=>fin v F h H (ok.unbase xx)
 ·left
  have e:i=xs.length:=by omega
  subst e
  rw [List.drop_length] at fin
  exact ⟨Y.stop H s1,fin σ F h H hL (ok.unbase xx)⟩
theorem zbL_ {i:Nat}{σ:St}{xs:List α}(hL:Hold L σ F h) (hi:L[i]?=some (.ow (owL T) xs)) (ok:Okk F0 H0 F h H) :
  ∃ p vs,σ[i]?=some (some (.ref p))∧H p=some (.lst vs)∧Prs T F xs vs∧∀ xs' vs',Prs T F xs' vs'→∃ h',Hold (L.set i (.ow (owL T) xs')) σ F h'∧Okk F0 H0 F h' (upd H p (.lst vs')):=by
 obtain ⟨o,h1,h2,e1,j,⟨v,e2,p,vs,rfl,rfl,hr⟩,f⟩:=hL.at i hi
 subst e2
 obtain ⟨o1,o2,o3,o4,o5⟩:=ok
 have hp:h p=some (.lst vs):=j.l _ _ zz_
 have h2p:h2 p=none:=by
  rcases j.dj p with z | z
  ·rw [zz_] at z; cases z
  ·exact z
 have Fp:F p=none:=by
  rcases o2 p with z | z
  ·exact z
  ·rw [hp] at z; cases z
 have H0p:H0 p=none:=o4 p (by rw [hp]; exact Option.some_ne_none _)
 refine ⟨p,vs,e1,o3 _ _ hp,hr,fun xs' vs' hr'=>?_⟩
 have d2:Dj (one p (.lst vs')) h2:=fun q=>by
  unfold one; split
  ·rename_i z; rw [z]; exact .inr h2p
  ·exact .inl rfl
 have g:=f (.ow (owL T) xs') (some (.ref p)) (one p (.lst vs')) _ (zaM_ d2) ⟨_,rfl,p,vs',rfl,rfl,hr'⟩
 rw [zZ_ e1] at g
 refine ⟨_,g,⟨o1.1,fun q o z=>?_,fun q o z=>?_,o1.2.2.2⟩,fun q=>?_,fun q o z=>?_,fun q z=>?_,fun q ys z=>?_⟩
 ·unfold upd; split
  ·rename_i w; rw [w,Fp] at z; cases z
  ·exact o1.2.1 _ _ z
 ·unfold upd; split
  ·rename_i w; rw [w,H0p] at z; cases z
  ·exact o1.2.2.1 _ _ z
 ·by_cases w:q=p
  ·rw [w]; exact .inl Fp
  ·unfold un one; simp only [if_neg w]
   rcases o2 q with z | z
   ·exact .inl z
   ·exact .inr (j.r.free z)
 ·unfold un one at z
  unfold upd
  by_cases w:q=p
  ·rw [if_pos w]; simp only [if_pos w] at z; exact z
  ·rw [if_neg w]; simp only [if_neg w] at z; exact o3 _ _ (j.r _ _ z)
 ·unfold un one at z
  by_cases w:q=p
  ·rw [w]; exact H0p
  ·simp only [if_neg w] at z
   cases y:h2 q with
   | none=>exact absurd y z
   | some u=>exact o4 q (by rw [j.r _ _ y]; exact Option.some_ne_none _)
 ·unfold un one at z
  by_cases w:q=p
  ·simp only [if_pos w] at z; cases z
  ·simp only [if_neg w] at z; exact o5 q ys (j.r _ _ z)
theorem za7_ {i:Nat}{σ:St}{v:V}{Q:VK}(e:σ[i]?=some (some v)) (q:Q v H):mVar i σ H Q:=by unfold mVar; rw [e]; exact q
theorem zeF_ {n:Nat}{r:Mo (Out ρ B S)}{D:Ends}(h:Fin K (Mo.lim n r) E LS LB O F0 H0 D):n≤sizeLine∧Fin K r E LS LB O F0 H0 D:=by
 unfold Mo.lim at h
 split at h
 ·exact ⟨by assumption,h⟩
 ·exact h.elim
theorem ziW_ {x:Option α}{k:α→Mo (Out ρ B S)}{D:Ends}(h:Fin K ((Mo.opt x).bind k) E LS LB O F0 H0 D):∃ a,x=some a∧Fin K (k a) E LS LB O F0 H0 D:=by
 cases x with
 | none=>exact h.elim
 | some a=>exact ⟨a,rfl,h⟩
theorem zjH_ {i:Nat}{xs:List α}{k:α→Mo (Out ρ B S)}(hi:L[i]?=some (.ow (owL T) xs)) (hT:Imm T) (he:EvF K e E L r T) (hk:∀ a,EvS K u E (L.set i (.ow (owL T) (xs++[a]))) (k a) LS LB O) :
  EvS K (tSeq (tDrop (tBM K "list" rAppend (mVar i) (tCons e tNil))) u) E L (r.bind fun a=>.lim (xs.length+1) (k a)) LS LB O:=by
 intro F0 H0 σ F h H D hL ok fin
 obtain ⟨p,vs,e1,hp,hr,_⟩:=zbL_ hL hi ok
 show mVar i σ H fun x H1=>tyV K "list" x H1∧tCons e tNil σ H1 fun xs H2=>rAppend x xs H2 (fun _ H3=>u D σ H3)
 refine za7_ e1 ⟨.inl ⟨rfl,vs,.of hp⟩,?_⟩
 refine he σ (un F h) H _ (hL.froz ok.2.1) ok.thaw (zal_ (G:=F) ok _ (.inl rfl) fin fun a F' H' hra x v hv=>?_)
 obtain ⟨o,hs,ht⟩:=ok.back x
 rw [hra] at fin
 obtain ⟨hz,fin⟩:=zeF_ (show Fin K (Mo.lim (xs.length+1) (k a)) E LS LB O F0 H0 D from fin)
 obtain ⟨p',vs',e1',hp',hr',mm⟩:=zbL_ (hL.mono hs) hi o
 rw [e1] at e1'; cases e1'
 obtain ⟨h',a1,a2⟩:=mm (xs++[a]) (vs'++[v]) (hr'.append (.cons (hT ht hv) .nil))
 exact ⟨p,vs',v,rfl,rfl,hp',by rw [← hr'.len]; lia,hk a F0 H0 σ _ h' _ D a1 a2 fin⟩
theorem ziC_ {i:Nat}{xs:List α}{r:Mo (List α)}{k:List α→Mo (Out ρ B S)}(hi:L[i]?=some (.ow (owL T) xs)) (hT:Imm T) (he:EvF K e E L r (tyL T)) (hk:∀ a,EvS K u E (L.set i (.ow (owL T) (xs++a))) (k a) LS LB O) :
  EvS K (tSeq (tDrop (tBM K "list" rExtend (mVar i) (tCons e tNil))) u) E L (r.bind fun a=>.lim (xs.length+a.length) (k a)) LS LB O:=by
 intro F0 H0 σ F h H D hL ok fin
 obtain ⟨p,vs,e1,hp,hr,_⟩:=zbL_ hL hi ok
 show mVar i σ H fun x H1=>tyV K "list" x H1∧tCons e tNil σ H1 fun xs H2=>rExtend x xs H2 (fun _ H3=>u D σ H3)
 refine za7_ e1 ⟨.inl ⟨rfl,vs,.of hp⟩,?_⟩
 refine he σ (un F h) H _ (hL.froz ok.2.1) ok.thaw (zal_ (G:=F) ok _ (.inl rfl) fin fun a F' H' hra x v hq_=>?_)
 obtain ⟨p2,us,ev,hp2,hr2⟩:=hq_
 obtain ⟨o,hs,ht⟩:=ok.back x
 rw [hra] at fin
 subst ev
 obtain ⟨hz,fin⟩:=zeF_ (show Fin K (Mo.lim (xs.length+a.length) (k a)) E LS LB O F0 H0 D from fin)
 obtain ⟨p',vs',e1',hp',hr',mm⟩:=zbL_ (hL.mono hs) hi o
 rw [e1] at e1'; cases e1'
 obtain ⟨h',a1,a2⟩:=mm (xs++a) (vs'++us) (hr'.append (hr2.imm hT ht))
 exact ⟨p,p2,vs',us,rfl,rfl,hp',x.2.1 _ _ hp2,by rw [← hr'.len,← hr2.len]; exact hz,hk a F0 H0 σ _ h' _ D a1 a2 fin⟩
theorem zpx_ {i:Nat}{xs:List α}{ei:TE}{ri:Mo Int}{k:List α→Mo (Out ρ B S)}(hi:L[i]?=some (.ow (owL T) xs)) (hT:Imm T) (he:EvF K e E L r T) (hei:EvF K ei E L ri tyInt) (hk:∀ a,EvS K u E (L.set i (.ow (owL T) a)) (k a) LS LB O) :
  EvS K (tSeq (tAsg e (gSub (mVar i) ei mSet)) u) E L (r.bind fun a=>ri.bind fun j=>(Mo.opt ((ixN xs.length j).map fun n=>xs.set n a)).bind k) LS LB O:=by
 intro F0 H0 σ F h H D hL ok fin
 refine he σ (un F h) H _ (hL.froz ok.2.1) ok.thaw (zal_ (G:=F) ok _ (.inl rfl) fin fun a F' H' hra x v hv=>?_)
 obtain ⟨o,hs,ht⟩:=ok.back x
 rw [hra] at fin
 have hL':=hL.mono hs
 obtain ⟨p,vs,e1,hp,hr,_⟩:=zbL_ hL' hi o
 refine za7_ e1 ?_
 have hv':=hT ht hv
 refine hei σ (un _ h) H' _ (hL'.froz o.2.1) o.thaw (zal_ (G:=F) o _ (.inl rfl) fin fun j F2 H2 hrj x2 v2 hv2=>?_)
 cases hv2
 obtain ⟨o',hs',ht'⟩:=o.back x2
 rw [hrj] at fin
 obtain ⟨ys,ey,fin⟩:=ziW_ fin
 obtain ⟨p',vs',e1',hp',hr',mm⟩:=zbL_ (hL'.mono hs') hi o'
 rw [e1] at e1'; cases e1'
 cases ej:ixN xs.length j with
 | none=>rw [ej] at ey; cases ey
 | some n =>
  rw [ej] at ey; cases ey
  obtain ⟨h',a1,a2⟩:=mm (xs.set n a) (vs'.set n v) (hr'.set n (T.mono hs' hv'))
  refine ⟨vs',hp',?_⟩
  rw [← hr'.len,ej]
  exact hk _ F0 H0 σ _ h' _ D a1 a2 fin
def fnO (r:Mo (Out ρ Unit Unit)):Mo ρ:=r.bind fun o=>match o with | .rt a=>.ok a | _=>.no
inductive Args (F:Hp):List V→List Sl→Prop
 | nil:Args F [] []
 | cons {α:Type}{T:Ty α}{a:α}{v:V}{vs ss} (h:T.R a v F) (t:Args F vs ss):Args F (v::vs) (.fz T a::ss)
theorem Args.hold {vs:List V}{ss:List Sl}(a:Args F vs ss) (n:Nat):Hold (ss++List.replicate n .dead) (vs.map some++List.replicate n none) F (fun _=>none):=by
 induction a with
 | nil =>
  induction n with
  | zero=>trivial
  | succ n ih=>exact ⟨fun _=>none,fun _=>none,fun p=>.inl ⟨rfl,rfl⟩,trivial,ih⟩
 | cons hv t ih=>exact ⟨fun _=>none,fun _=>none,fun p=>.inl ⟨rfl,rfl⟩,⟨_,rfl,hv⟩,ih⟩
def CsS (C:Cs γ) (ss:γ→List Sl):Prop:=∀ {c vs F},C.R c vs F→Args F vs (ss c)
theorem zlh_:CsS csNil fun _=>[]:=fun e=>by rw [e]; exact .nil
theorem zt_:CsS (csLast T) fun a=>[.fz T a]:=fun ⟨v,e,h⟩=>by rw [e]; exact .cons h .nil
theorem zC_ {C:Cs γ}{ss:γ→List Sl}(h:CsS C ss):CsS (csCons T C) fun c=>.fz T c.1::ss c.2:=fun ⟨v,us,e,q,z⟩=>by rw [e]; exact .cons q (h z)
theorem zk7_ (hs:Same F H):Okk F H F (fun _=>none) H:=by
 refine ⟨.refl hs,fun p=>.inr rfl,fun p o e=>?_,fun p e=>absurd rfl e,fun p xs e=>?_⟩
 ·cases e
 ·cases e
theorem fn_rd {t:XK→TS}{C:Cs γ}{ss:γ→List Sl}{f:γ→Mo (Out ρ Unit Unit)}{N:List Str}(n m:Nat) (hn:CsN C n) (hm:N.length-n=m) (hC:CsS C ss) (h:∀ c E,EvS K (t E) E (ss c++List.replicate m .dead) (f c) (fun _:Unit=>[]) (fun _:Unit=>[]) O) :
  ∀ vs H Q E,Ct K C (fun c=>fnO (f c)) O vs H Q E→t E { nx:=fun _ H'=>Q .non H',rt:=Q } (start N vs) H:=by
 rintro vs H Q E ⟨F,c,hs,hc,q⟩
 have hstart:start N vs=vs.map some++List.replicate m none:=by unfold start; rw [hn hc,hm]
 rw [hstart]
 refine h c E F H _ F (fun _=>none) H _ ((hC hc).hold m) (zk7_ hs) ?_
 have q:After K (fnO (f c)) E F H (OwnK O H Q):=q
 cases e:f c with
 | no=>rw [e] at q; exact q
 | ex cc=>rw [e] at q; exact fun F h H ok=>q F H ok.1
 | ok o =>
  rw [e] at q
  cases o with
  | nx s=>exact q.elim
  | bk s=>exact q.elim
  | ct s=>exact q.elim
  | rt a=>exact fun v F' h' H' ok hv=>q F' H' ok.1 v h' (fun p z=>ok.2.2.2.1 p z) ok.2.1 ok.2.2.1 hv
end
end L2
namespace L2
open PySem PySem.Spec PyProof.Rows
section
variable {K:Fgg}{E:XK}{α β γ ρ S S' B B':Type}{F0 H0 F h H:Hp}{L L':List Sl}{e e1 e2:TE}{T:Ty α}{r:Mo α}{O:Own ρ}{t u:TS}{LS:S→List Sl}{LS':S'→List Sl}{LB:B→List Sl}
def CDivG (i j:Int):Prop:=0<j∧Builtin.divisionGoesByPylong i j=false
instance (i j:Int):Decidable (CDivG i j):=inferInstanceAs (Decidable (_∧_))
instance (i j:Int):Decidable (IntMulOk i j):=inferInstanceAs (Decidable (¬ _))
abbrev mMulG:R2:=mI IntMulOk fun i j=>.int (i*j)
abbrev mDivG:R2:=mI CDivG fun i j=>.int (i / j)
theorem zn4_ {X:Cx}:OpR X (binaryOp .Mult) mMulG:=opM (opI fun _ _ _ _ _ _ _ hc q=>mul_int q hc)
theorem zdj_ {X:Cx}:OpR X (binaryOp .FloorDiv) mDivG:=opM (opI fun i j _ _ _ _ _ hc q=>by
 have h1:(0:Int)<j:=hc.1
 exact floordiv_int (by lia) (by rw [Int.fdiv_eq_ediv_of_nonneg i (by lia)]; exact q) (.inl hc.2))
theorem zbV_:Op2 K mDivG E tyInt tyInt (fun i j=>.grd (CDivG i j) (.ok (i / j))) tyInt:=op_i fun _ _ _=>rfl
theorem zod_ {Pq:α→Prop}{a:α}{l:List α}(h:Pq a) (t:∀ q∈l,Pq q):∀ q∈a::l,Pq q:=List.forall_mem_cons.mpr ⟨h,t⟩
theorem zbi_ {r:Mo (Out ρ B S)}(w:Sub L L') (hk:EvS K t E L' r LS LB O):EvS K t E L r LS LB O:=fun F0 H0 σ F h H D hL ok fin=>hk F0 H0 σ F h H D (w.hold hL) ok fin
theorem at_ {r:Mo (Out ρ B S)}(L:List Sl) (hk:EvS K t E L r LS LB O):EvS K t E L r LS LB O:=hk
theorem zeR_ (i:Nat) {xs:List α}(h:L[i]?=some (.ow (owL T) xs)):EvF K (mVar i) E L (.ok xs) (tyL T):=zbf_ i h
theorem za1_:EvT K tTrue E L (.ok true):=fun σ F H Q hL hs q=>q.ok hs
theorem dead1 {L:List Sl}:DeadAt (.dead::L) [0]:=fun i hi s e=>by
 cases (List.mem_singleton.mp hi); cases e; rfl
theorem dead2 {L:List Sl}:DeadAt (.dead::.dead::L) [0,1]:=fun i hi s e=>by
 rcases List.mem_cons.mp hi with rfl | hi
 ·cases e; rfl
 ·cases (List.mem_singleton.mp hi); cases e; rfl
theorem zpU_ {a:List Nat}{v:V}{F:Hp}(h:tyStr.R a v F):v≠.non:=by cases h; exact fun z=>V.noConfusion z
end
end L2
namespace L2
open PySem PySem.Spec PyProof.Rows
section
variable {α β γ ρ S S' B:Type}
@[simp] theorem Mo.okB (a:α) (f:α→Mo β):(Mo.ok a).bind f=f a:=of_eq_true (eq_self _)
@[simp] theorem Mo.exB (c:Xc) (f:α→Mo β):(Mo.ex c:Mo α).bind f=.ex c:=of_eq_true (eq_self _)
@[simp] theorem Mo.noB (f:α→Mo β):(Mo.no:Mo α).bind f=.no:=of_eq_true (eq_self _)
@[simp] theorem Mo.noexO (a:α):(Mo.ok a).noex=.ok a:=of_eq_true (eq_self _)
@[simp] theorem Mo.optS (a:α):Mo.opt (some a)=.ok a:=of_eq_true (eq_self _)
@[simp] theorem zfc_ (s:S) (k:S→Mo (Out ρ B S')):thenO (.ok (.nx s)) k=k s:=of_eq_true (eq_self _)
@[simp] theorem zmd_ (a:ρ) (k:S→Mo (Out ρ B S')):thenO (.ok (.rt a)) k=.ok (.rt a):=of_eq_true (eq_self _)
@[simp] theorem zlO_ (b:B) (k:S→Mo (Out ρ B S')):thenO (.ok (.bk b)) k=.ok (.bk b):=of_eq_true (eq_self _)
@[simp] theorem zlW_ (b:B) (k:S→Mo (Out ρ B S')):thenO (.ok (.ct b)) k=.ok (.ct b):=of_eq_true (eq_self _)
@[simp] theorem zpN_ (a:ρ):fnO (.ok (.rt a))=.ok a:=of_eq_true (eq_self _)
@[simp] theorem zmj_ (step:S→α→Mo (Out ρ S S)) (s:S):forO (B:=B) step [] s=.ok (.nx s):=of_eq_true (eq_self _)
theorem zdM_ (step:S→α→Mo (Out ρ S S)) (x:α) (xs:List α) (s:S):forO (B:=B) step (x::xs) s=(step s x).bind fun o=>match o with | .nx s'=>forO step xs s' | .ct s'=>forO step xs s' | .bk s'=>.ok (.nx s') | .rt a=>.ok (.rt a):=rfl
theorem zhf_ {step:S→α→Mo (Out ρ S S)}{x:α}{xs:List α}{s s':S}(h:step s x=.ok (.nx s')):forO (B:=B) step (x::xs) s=forO step xs s':=by rw [zdM_,h]; rfl
theorem zlX_ {step:S→α→Mo (Out ρ S S)}{x:α}{xs:List α}{s:S}{a:ρ}(h:step s x=.ok (.rt a)):forO (B:=B) step (x::xs) s=.ok (.rt a):=by rw [zdM_,h]; rfl
theorem zbO_ {step:S→α→Mo (Out ρ S S)}(g:S→α→S):∀ {xs:List α}{s:S},(∀ s x,x∈xs→step s x=.ok (.nx (g s x)))→forO (B:=B) step xs s=.ok (.nx (xs.foldl g s))
 | [],s,_=>rfl
 | x::xs,s,h=>by rw [zhf_ (h s x List.mem_cons_self),zbO_ g fun s y hy=>h s y (List.mem_cons_of_mem _ hy)]; rfl
theorem zjF_ {step:S→α→Mo (Out ρ S S)}(P:List α→S→Prop):∀ {xs:List α}(done:List α) {s:S},P done s→(∀ d x s,(∃ r,done++xs=d++x::r)→P d s→∃ s',step s x=.ok (.nx s')∧P (d++[x]) s')→∃ s',forO (B:=B) step xs s=.ok (.nx s')∧P (done++xs) s'
 | [],done,s,h0,_=>⟨s,rfl,by rw [List.append_nil]; exact h0⟩
 | x::xs,done,s,h0,h=>by
  obtain ⟨s1,e1,p1⟩:=h done x s ⟨xs,rfl⟩ h0
  obtain ⟨s2,e2,p2⟩:=zjF_ P (xs:=xs) (done++[x]) p1 fun d y s ⟨r,hr⟩ hp=>h d y s ⟨r,by rw [← hr]; simp⟩ hp
  exact ⟨s2,by rw [zhf_ e1,e2],by simpa using p2⟩
theorem zgI_ {step:Unit→α→Mo (Out ρ Unit Unit)}:∀ {xs:List α},(∀ x∈xs,step () x=.ok (.nx ()))→forO (B:=B) step xs ()=.ok (.nx ())
 | [],_=>rfl
 | x::xs,h=>by rw [zhf_ (h x List.mem_cons_self),zgI_ fun y hy=>h y (List.mem_cons_of_mem _ hy)]
theorem zdC_ {step:Unit→α→Mo (Out ρ Unit Unit)}{p:α→Bool}{a:α→ρ}:∀ {xs:List α},(∀ x∈xs,step () x=if p x then .ok (.rt (a x)) else .ok (.nx ()))→forO (B:=B) step xs ()=match xs.find? p with | some x=>.ok (.rt (a x)) | none=>.ok (.nx ())
 | [],_=>rfl
 | x::xs,h=>by
  have h1:=h x List.mem_cons_self
  rw [List.find?_cons]
  cases e:p x with
  | true=>rw [e,if_pos rfl] at h1; rw [zlX_ h1]
  | false=>rw [e,if_neg (by decide)] at h1; rw [zhf_ h1,zdC_ fun y hy=>h y (List.mem_cons_of_mem _ hy)]
open PySem PySem.Spec PyProof.Rows in
theorem zn1_ {a j:Int}(h0:0<j) (h:j.natAbs.log2<9000):CDivG a j:=by
 refine ⟨h0,?_⟩
 unfold Builtin.divisionGoesByPylong
 simp only
 rw [Bool.and_eq_false_iff]
 left
 rw [decide_eq_false_iff_not]
 split<;>lia
theorem log2_lt {n k:Nat}(h:n<2 ^ k):n.log2<k∨n=0:=by
 by_cases hz:n=0
 ·exact .inr hz
 ·exact .inl ((Nat.log2_lt hz).mpr h)
theorem znJ_ {a j:Int}(h0:0<j) (h:j<2 ^ 1000):CDivG a j:=by
 refine zn1_ h0 ?_
 have h1:j.natAbs<2 ^ 1000:=by
  have:((2:Int) ^ 1000)=((2 ^ 1000:Nat):Int):=by rw [Int.natCast_pow]; rfl
  rw [this] at h
  lia
 rcases log2_lt h1 with h | h
 ·lia
 ·rw [h]; decide
open PySem PySem.Spec PyProof.Rows in
theorem zd9_ {i j:Int}(h : -(2 ^ 64)<i∧i<2 ^ 64 ∨ -(2 ^ 64)<j∧j<2 ^ 64):IntMulOk i j:=CMul.ok h
@[simp] theorem znq_ {a j:Int}{k:Mo α}(h0:0<j) (h1:j<1073741824):Mo.grd (CDivG a j) k=k:=Mo.grd_ok (znJ_ h0 (by lia))
@[simp] theorem grd_T {k:Mo α} [Decidable True]:Mo.grd True k=k:=Mo.grd_ok trivial
@[simp] theorem zoJ_ {j:Int}{k:Mo α}(h0:0<j):Mo.grd (0<j) k=k:=Mo.grd_ok h0
open PySem PySem.Spec PyProof.Rows in
@[simp] theorem zmk_ {i j:Int}{k:Mo α}(h0 : -18446744073709551616<i) (h1:i<18446744073709551616):Mo.grd (IntMulOk i j) k=k:=Mo.grd_ok (zd9_ (.inl ⟨by lia,by lia⟩))
open PySem PySem.Spec PyProof.Rows in
theorem zip_ {i j:Int}{k:Mo α}(h0 : -18446744073709551616<j) (h1:j<18446744073709551616):Mo.grd (IntMulOk i j) k=k:=Mo.grd_ok (zd9_ (.inr ⟨by lia,by lia⟩))
theorem zaE_ (lo:Int) (n:Nat):(rngI lo n).length=n:=by unfold rngI; rw [List.length_map,List.length_range]
theorem zfL_ {xs:List α}{k:Int}(h0:0≤k):atI xs k=xs[k.toNat]?:=by
 unfold atI ixN
 rw [if_pos h0]
 split
 ·rfl
 ·rename_i h
  rw [List.getElem?_eq_none (by omega)]; rfl
theorem zbY_ {xs:List α}{k:Int}(h0:0≤k) (h1:k<xs.length):∃ x,atI xs k=some x∧x∈xs:=by
 rw [zfL_ h0,List.getElem?_eq_getElem (show k.toNat<xs.length by lia)]
 exact ⟨_,rfl,List.getElem_mem _⟩
theorem zoQ_ {xs:List α}(k:Int) (h:xs≠[]):∃ x,atI xs (k % (xs.length:Int))=some x∧x∈xs:=by
 have:0<xs.length:=List.length_pos_iff.mpr h
 exact zbY_ (Int.emod_nonneg _ (by lia)) (Int.emod_lt_of_pos _ (by lia))
theorem zjg_ {q:α→α→Bool}(hq:∀ a,q a a=true):∀ xs:List α,eqL q xs xs=true
 | []=>rfl
 | x::xs=>by unfold eqL; rw [hq,zjg_ hq xs]; rfl
theorem zfg_ (xs:List α) (lo hi:Option Int):(cutG xs lo hi).length≤xs.length:=by
 unfold cutG; rw [List.length_take,List.length_drop]; lia
end
end L2
namespace L2
open PySem PySem.Spec PyProof.Rows
section
variable {K:Fgg}{E:XK}{α β γ ρ S S' B B':Type}{F0 H0 F h H:Hp}{L L':List Sl}{e e1 e2:TE}{T:Ty α}{r:Mo α}{O:Own ρ}{t u:TS}{LS:S→List Sl}{LS':S'→List Sl}{LB:B→List Sl}
def OwIn (T:Ty α) (F:Hp):List (List α)→List V→Hp→Prop
 | [],[],h=>∀ p,h p=none
 | xs::xss,v::vs,h=>∃ h1 h2,Jn h1 h2 h∧(owL T).O xs v F h1∧OwIn T F xss vs h2
 | _,_,_=>False
theorem OwIn.mono:∀ {xss:List (List α)}{vs:List V}{F F' h:Hp},Same F F'→OwIn T F xss vs h→OwIn T F' xss vs h
 | [],[],_,_,_,_,q=>q
 | xs::xss,v::vs,F,F',h,g,⟨h1,h2,j,o,r⟩=>⟨h1,h2,j,(owL T).mono g o,r.mono g⟩
 | [],_::_,_,_,_,_,q=>q.elim
 | _::_,[],_,_,_,_,q=>q.elim
theorem OwIn.imm (i:Imm T):∀ {xss:List (List α)}{vs:List V}{F F' h:Hp},Tups F F'→OwIn T F xss vs h→OwIn T F' xss vs h
 | [],[],_,_,_,_,q=>q
 | xs::xss,v::vs,F,F',h,g,⟨h1,h2,j,o,r⟩=>⟨h1,h2,j,zA_ i g o,r.imm i g⟩
 | [],_::_,_,_,_,_,q=>q.elim
 | _::_,[],_,_,_,_,q=>q.elim
theorem OwIn.notup:∀ {xss:List (List α)}{vs:List V}{F h:Hp},OwIn T F xss vs h→∀ p xs,h p≠some (.tup xs)
 | [],[],_,_,q,p,xs=>by rw [q p]; exact fun z=>by cases z
 | xs::xss,v::vs,F,h,⟨h1,h2,j,o,r⟩,p,ys=>by
  rcases j p with ⟨_,b⟩ | ⟨_,b⟩
  ·rw [b]; exact r.notup p ys
  ·rw [b]; exact (owL T).notup o p ys
 | [],_::_,_,_,q,_,_=>q.elim
 | _::_,[],_,_,q,_,_=>q.elim
theorem OwIn.len:∀ {xss:List (List α)}{vs:List V}{F h:Hp},OwIn T F xss vs h→xss.length=vs.length
 | [],[],_,_,_=>rfl
 | xs::xss,v::vs,F,h,⟨h1,h2,j,o,r⟩=>by rw [List.length_cons,List.length_cons,r.len]
 | [],_::_,_,_,q=>q.elim
 | _::_,[],_,_,q=>q.elim
theorem OwIn.prs:∀ {xss:List (List α)}{vs:List V}{F h G:Hp},Same F G→Same h G→OwIn T F xss vs h→Prs (tyL T) G xss vs
 | [],[],_,_,_,_,_,_=>.nil
 | xs::xss,v::vs,F,h,G,gF,gh,⟨h1,h2,j,⟨p,us,e,z,q⟩,r⟩=>by
  refine .cons ⟨p,us,e,gh _ _ (j.l _ _ (by rw [z]; exact zz_)),q.mono gF⟩ (r.prs gF (j.r.trans gh))
 | [],_::_,_,_,_,_,_,q=>q.elim
 | _::_,[],_,_,_,_,_,q=>q.elim
abbrev owLL (T:Ty α):Own (List (List α)):=⟨fun xss v F h=>∃ p vs h2,v=.ref p∧Jn (one p (.lst vs)) h2 h∧OwIn T F xss vs h2,tyL (tyL T),fun g ⟨p,vs,h2,e,j,q⟩=>⟨p,vs,h2,e,j,q.mono g⟩,
 fun d ⟨p,vs,h2,e,j,q⟩=>⟨p,vs,e,zdy_ d _ _ (j.l _ _ zz_),q.prs zak_ (j.r.trans (zdy_ d))⟩,
 fun ⟨p,vs,h2,e,j,q⟩ b xs y=>by
  rcases j b with ⟨_,z⟩ | ⟨_,z⟩
  ·rw [z] at y; exact q.notup b xs y
  ·rw [z] at y; unfold one at y; split at y<;>cases y⟩
theorem ziM_ (i:Imm T):ImmO (owLL T):=fun g ⟨p,vs,h2,e,j,q⟩=>⟨p,vs,h2,e,j,q.imm i g⟩
theorem zeW_ {n:Nat}{j:Int}{k:Nat}(h:ixN n j=some k):k<n:=by
 unfold ixN at h
 split at h
 ·split at h
  ·cases h; lia
  ·cases h
 ·split at h
  ·cases h; lia
  ·cases h
end
end L2
namespace L2
open PySem PySem.Spec PyProof.Rows
section
variable {K:Fgg}{E:XK}{α β γ ρ S S' B B':Type}{F0 H0 F h H:Hp}{L L':List Sl}{e e1 e2:TE}{T:Ty α}{r:Mo α}{O:Own ρ}{t u:TS}{LS:S→List Sl}{LS':S'→List Sl}{LB:B→List Sl}
theorem OwIn.snoc:∀ {xss:List (List α)}{vs:List V}{h h1 h':Hp}{xs:List α}{v:V},OwIn T F xss vs h→(owL T).O xs v F h1→Jn h h1 h'→OwIn T F (xss++[xs]) (vs++[v]) h'
 | [],[],h,h1,h',xs,v,q,o,j=>by
  refine ⟨h',fun _=>none,fun p=>.inr ⟨rfl,rfl⟩,?_,fun _=>rfl⟩
  have:h'=h1:=by
   funext p
   rcases j p with ⟨a,b⟩ | ⟨a,b⟩
   ·exact b
   ·rw [b,q p,a]
  rw [this]; exact o
 | ys::xss,w::vs,h,h1,h',xs,v,⟨k1,k2,jk,o1,r1⟩,o,j=>by
  have d:Dj k2 h1:=fun p=>by
   rcases j.dj p with a | a
   ·exact .inl (jk.r.free a)
   ·exact .inr a
  refine ⟨k1,un k2 h1,fun p=>?_,o1,r1.snoc o (zaM_ d)⟩
  rcases j p with ⟨a,b⟩ | ⟨a,b⟩
  ·have z1:k1 p=none:=jk.l.free a
   have z2:k2 p=none:=jk.r.free a
   refine .inl ⟨z1,?_⟩
   unfold un; rw [z2]; exact b
  ·rcases jk p with ⟨c,dd⟩ | ⟨c,dd⟩
   ·refine .inl ⟨c,?_⟩
    unfold un; rw [b,dd]
    cases z:k2 p with
    | none=>exact a.symm
    | some w=>rfl
   ·refine .inr ⟨?_,by rw [b,dd]⟩
    unfold un; rw [c]; exact a
 | [],_::_,_,_,_,_,_,q,_,_=>q.elim
 | _::_,[],_,_,_,_,_,q,_,_=>q.elim
@[irreducible] def fuelW:Nat:=100000
end
end L2
namespace L2
open PySem PySem.Spec PyProof.Rows
section
variable {α:Type}
theorem zav_ {S B ρ:Type}{step:S→α→Mo (Out ρ S S)}{xs:List α}{s:S}{G:Mo (Out ρ B S)→Prop}(P:List α→S→Prop) (h0:P [] s) (hs:∀ d x s,(∃ r,xs=d++x::r)→P d s→∃ s',step s x=.ok (.nx s')∧P (d++[x]) s') (hk:∀ s',P xs s'→G (.ok (.nx s'))):G (forO step xs s):=by
 obtain ⟨s',e,p⟩:=zjF_ (B:=B) P (xs:=xs) [] h0 (fun d x s hr hp=>hs d x s hr hp)
 rw [e]
 exact hk s' p
end
abbrev Crd:=List Nat
def sg (c:Crd) (col:Int):Nat:=c.getD (col-1).toNat 0
def rk1 (x:Nat):Nat:=(SG.findIdx? (· == x)).getD 0 % 37
def rnk (c:Crd) (col:Int):Nat:=rk1 (sg c col)
def kv:List Int→Crd→Nat
 | [],_=>0
 | c::L,a=>rnk a c*37 ^ L.length+kv L a
end L2
namespace L2
open PySem PySem.Spec PyProof.Rows
end L2
namespace L2
open PySem PySem.Spec PyProof.Rows
open PySem.SeqAt
open PySem.AutoSeq1 (wpAny_loadPart')
open PySem.MeetsSeq PySem.MeetsSeq2 PySem.MeetsSeq3
end L2
namespace L2
open PySem PySem.Spec PyProof.Rows
section
variable {K:Fgg}{E:XK}{H:Hp}
end
end L2
namespace L2
open PySem PySem.Spec PyProof.Rows
section
variable {α:Type}
theorem zoh_ {n d:Nat}{i:Int}(h:0≤i):HT.sIx n d (some i)=min i.toNat n:=by
 unfold HT.sIx
 simp only
 split<;>lia
theorem znF_ {xs:List α}{i:Int}(h:0≤i):cutG xs none (some i)=xs.take i.toNat:=by
 unfold cutG
 rw [zoh_ h,show HT.sIx xs.length 0 none=0 from rfl,List.drop_zero,Nat.sub_zero,← List.take_take,List.take_length]
theorem zk4_ {xs:List α}{i:Int}(h:0≤i):cutG xs (some i) none=xs.drop i.toNat:=by
 unfold cutG
 rw [zoh_ h,show HT.sIx xs.length xs.length none=xs.length from rfl]
 by_cases hl:i.toNat≤xs.length
 ·rw [Nat.min_eq_left hl,List.take_of_length_le (by rw [List.length_drop]; exact Nat.le_refl _)]
 ·rw [Nat.min_eq_right (by lia),List.drop_length,List.drop_eq_nil_of_le (by lia),List.take_nil]
theorem zdI_ {xs:List α}{q:Int×α}(h:q∈enumL xs):∃ i:Nat,i<xs.length∧q.1=i∧xs[i]?=some q.2:=by
 obtain ⟨i,hi,e⟩:=List.mem_iff_getElem.mp h
 rw [zb4_] at hi
 have:=zdK_ xs i
 rw [List.getElem?_eq_getElem (by rw [zb4_]; exact hi),e] at this
 refine ⟨i,hi,?_⟩
 cases e2:xs[i]? with
 | none=>rw [e2] at this; cases this
 | some x=>rw [e2] at this; injection this with this; rw [this]; exact ⟨rfl,rfl⟩
end
end L2
namespace L2
open PySem PySem.Spec PyProof.Rows
section
variable {K:Fgg}{E:XK}{α β γ ρ S S' B B':Type}{F0 H0 F h H:Hp}{L L':List Sl}{e e1 e2:TE}{T:Ty α}{r:Mo α}{O:Own ρ}{t u:TS}{LS:S→List Sl}{LS':S'→List Sl}{LB:B→List Sl}
theorem zv_ {C:Cs γ}{f:γ→Mo α}{ta:TA}{r:Mo γ}(h:EvA K ta E L r C):EvF K (tCall (Ct K C f (owF T)) [] E0 ta) E L (r.bind fun c=>(f c).noex) T:=(zc2_ h).fr
end
end L2
namespace L2
open PySem PySem.Spec PyProof.Rows
def repL {α:Type}(xs:List α) (n:Int):List α:=(List.replicate n.toNat xs).flatten
def CRep (m:Nat) (n:Int):Prop:=0≤n∧n≤100000∧m≤100000∧m*n.toNat≤100000
instance (m:Nat) (n:Int):Decidable (CRep m n):=inferInstanceAs (Decidable (_∧_))
def mMulX:R2:=fun x y H Q=>match x,y with
 | .int i,.int j=>IntMulOk i j∧Q (.int (i*j)) H
 | .str z,.int n=>CRep z.cps.toList.length n∧Q (tx (repL z.cps.toList n)) H
 | .ref l,.int k=>∃ xs,H l=some (.lst xs)∧CRep xs.length k∧∀ p,H p=none→Q (.ref p) (upd H p (.lst (repL xs k)))
 | _,_=>False
theorem zlA_ (z:Array Nat) (n:Nat):(List.foldl (fun x1 x2=>x1++x2) #[] (List.replicate n z)).toList=(List.replicate n z.toList).flatten:=by
 have:∀ (l:List (Array Nat)) (acc:Array Nat),(l.foldl (fun x1 x2=>x1++x2) acc).toList=acc.toList++(l.map Array.toList).flatten:=by
  intro l
  induction l with
  | nil=>intro acc; simp
  | cons a l ih=>intro acc; rw [List.foldl_cons,ih]; simp
 rw [this]
 simp
theorem zcl_ {X:Cx}:OpR X (binaryOp .Mult) mMulX:=by
 intro pins s σ H x y v u Q I rx ry h
 cases x<;>cases y<;>first
  | exact h.elim
  | exact zn4_ pins s σ H _ _ v u Q I rx ry h
  | (obtain ⟨xs,hl,⟨c1,c2,c3,c4⟩,q⟩:=h
     exact zpf_ pins s σ H _ _ v u Q I rx ry ⟨_,_,xs,rfl,rfl,hl,by lia,by lia,zd6_ c4,q⟩)
  | (rename_i z n
     obtain ⟨⟨c1,c2,c3,c4⟩,q⟩:=h
     obtain ⟨t,rfl⟩:=rx
     obtain ⟨t',rfl⟩:=ry
     have hz:z.length=z.cps.toList.length:=by simp [Str.length]
     refine PySem.P.mul_str (by simp; lia) (fun h1 h2=>?_) (fun h1 h2=>?_) ?_
     ·rw [hz]
      have hn:0<n:=by lia
      have:(z.cps.toList.length:Int)*n≤2 ^ 63-1:=by
       have e:n=(n.toNat:Int):=by lia
       rw [e,← Int.natCast_mul]; lia
      have:=Int.le_ediv_of_mul_le hn this
      lia
     ·unfold Builtin.Str.tooLong
      rw [hz]
      have:=zd6_ c4
      exact decide_eq_false (by lia)
     ·by_cases h1:n<1
      ·rw [if_pos h1]
       have:n=0:=by lia
       subst this
       exact ⟨Nat.zero_le _,tx [],H,I.tok _,⟨_,rfl⟩,q⟩
      ·rw [if_neg h1]
       by_cases h2:(n == 1 || z.length == 0)=true
       ·rw [if_pos h2]
        have e:repL z.cps.toList n=z.cps.toList:=by
         unfold repL
         rw [Bool.or_eq_true] at h2
         rcases h2 with h2 | h2
         ·have:n=1:=by simpa using h2
          subst this; simp
         ·have:z.cps.toList=[]:=List.length_eq_zero_iff.mp (by rw [← hz]; simpa using h2)
          rw [this]; simp
        rw [e] at q
        refine ⟨tx z.cps.toList,H,I,⟨t,?_⟩,q⟩
        show Value.str z t=Value.str ⟨z.cps.toList.toArray⟩ t
        rw [← zaK_]
       ·rw [if_neg h2]
        refine ⟨?_,tx (repL z.cps.toList n),H,I.tok _,⟨s.toks,?_⟩,q⟩
        ·have e:(⟨List.foldl (fun x1 x2=>x1++x2) #[] (List.replicate n.toNat z.cps)⟩:Str).length=(List.replicate n.toNat z.cps.toList).flatten.length:=by
          rw [← zlA_]; simp [Str.length]
         rw [e,zlr_]
         exact zd6_ (by rw [Nat.mul_comm]; exact c4)
        show Value.str _ _=Value.str _ _
        congr 1
        unfold repL
        rw [← zlA_])
section
variable {K:Fgg}{E:XK}{α β γ ρ S S' B B':Type}{F0 H0 F h H:Hp}{L L':List Sl}{e e1 e2:TE}{T:Ty α}{r:Mo α}{O:Own ρ}{t u:TS}{LS:S→List Sl}{LB:B→List Sl}
theorem zdb_:Op2 K mMulX E tyInt tyInt (fun i j=>.grd (IntMulOk i j) (.ok (i*j))) tyInt:=by
 rintro a b x y F H Q hs rfl rfl k
 obtain ⟨c,k⟩:=k.grd
 exact ⟨c,k.ok hs _ rfl⟩
theorem zl9_:Op2 K mMulX E tyStr tyInt (fun l n=>.grd (CRep l.length n) (.ok (repL l n))) tyStr:=by
 rintro a b x y F H Q hs rfl rfl k
 obtain ⟨c,k⟩:=k.grd
 exact ⟨c,k.ok hs _ rfl⟩
theorem znA_ {xs:List α}{vs:List V}(hr:Prs T H xs vs) (n:Int):Prs T H (repL xs n) (repL vs n):=by
 unfold repL
 induction n.toNat with
 | zero=>exact .nil
 | succ m ih=>rw [List.replicate_succ,List.replicate_succ,List.flatten_cons,List.flatten_cons]; exact hr.append ih
theorem zgz_:Op2O K mMulX E (tyL T) tyInt (fun l n=>.grd (CRep l.length n) (.ok (repL l n))) (owL T):=by
 rintro a b x y F H Q hs ⟨p,vs,rfl,hp,hr⟩ rfl k
 obtain ⟨c,k⟩:=k.grd
 exact ⟨vs,hs _ _ hp,by rw [← hr.len]; exact c,fun q hq=>zdl_ hs hq (znA_ hr b) k⟩
def strsL (l:List (List Nat)):List Str:=l.map fun z=>⟨z.toArray⟩
theorem zmT_ {l:List (List Nat)}{vs:List V}(h:Prs tyStr H l vs):strsOf vs=some (strsL l):=by
 induction h with
 | nil=>rfl
 | cons r t ih=>cases r; show (strsOf _).map _=_; rw [ih]; rfl
theorem zil_:Me K (mJoin K) E (csLast (tyL tyStr)) (fun l c=>.grd (JoinOk ⟨l.toArray⟩ (strsL c)=true) (.ok (joinS l (strsL c)))) tyStr:=by
 rintro l c vs F H Q hs ⟨v,rfl,p,us,rfl,hp,hr⟩ k
 obtain ⟨z,k⟩:=k.grd
 refine ⟨us,.of (hs _ _ hp),?_⟩
 rw [zmT_ hr]
 exact ⟨z,k.ok hs _ rfl⟩
end
end L2
namespace L2
open PySem PySem.Spec PyProof.Rows
structure KyT (κ:Type) where
 T:Ty κ
 key:κ→Key
 inj:∀ {a b},key a=key b→a=b
 of:∀ {a v H},T.R a v H→keyV v=some (key a)
abbrev kInt:KyT Int:=⟨tyInt,Sum.inl,fun h=>by injection h,fun h=>by cases h; rfl⟩
section
variable {K:Fgg}{E:XK}{α β γ ρ κ S S' B B':Type}{F0 H0 F h H:Hp}{L L':List Sl}{e e1 e2:TE}{T:Ty α}{r:Mo α}{O:Own ρ}{t u:TS}{LS:S→List Sl}{LB:B→List Sl}{KY:KyT κ}
abbrev DPr (KY:KyT κ) (T:Ty α) (H:Hp) (m:List (κ×α)) (kvs:List (Key×V)):Prop:=Paired (fun (q:κ×α) (w:Key×V)=>w.1=KY.key q.1∧T.R q.2 w.2 H) m kvs
theorem DPr.mono {m:List (κ×α)}{kvs:List (Key×V)}{H H':Hp}(g:Same H H') (h:DPr KY T H m kvs):DPr KY T H' m kvs:=zbh_ (fun _ _ r=>⟨r.1,T.mono g r.2⟩) h
theorem DPr.imm (i:Imm T) {m:List (κ×α)}{kvs:List (Key×V)}{H H':Hp}(g:Tups H H') (h:DPr KY T H m kvs):DPr KY T H' m kvs:=zbh_ (fun _ _ r=>⟨r.1,i g r.2⟩) h
abbrev tyD (KY:KyT κ) (T:Ty α):Ty (List (κ×α)):=⟨fun m v H=>∃ p kvs,v=.ref p∧H p=some (.dK kvs)∧DPr KY T H m kvs,fun g ⟨p,kvs,e,h,q⟩=>⟨p,kvs,e,g _ _ h,q.mono g⟩⟩
abbrev owD (KY:KyT κ) (T:Ty α):Own (List (κ×α)):=⟨fun m v F h=>∃ p kvs,v=.ref p∧h=one p (.dK kvs)∧DPr KY T F m kvs,tyD KY T,fun g ⟨p,vs,e,z,q⟩=>⟨p,vs,e,z,q.mono g⟩,
 fun d ⟨p,vs,e,z,q⟩=>⟨p,vs,e,zdy_ d _ _ (by rw [z]; exact zz_),q.mono zak_⟩,
 fun ⟨p,vs,e,z,q⟩ b xs y=>by rw [z] at y; unfold one at y; split at y<;>cases y⟩
theorem zcB_ (i:Imm T):ImmO (owD KY T):=fun g ⟨p,vs,e,z,q⟩=>⟨p,vs,e,z,q.imm i g⟩
variable [DecidableEq κ]
def getA (m:List (κ×α)) (k:κ):Option α:=(m.find? fun q=>decide (q.1=k)).map (·.2)
def putA (m:List (κ×α)) (k:κ) (v:α):List (κ×α):=if (m.any fun q=>decide (q.1=k))=true then m.map (fun q=>if q.1=k then (q.1,v) else q) else m++[(k,v)]
theorem zoN_ (a b:κ):decide (KY.key a=KY.key b)=decide (a=b):=by rw [decide_eq_decide]; exact ⟨KY.inj,fun h=>by rw [h]⟩
theorem zoo_ {m:List (κ×α)}{kvs:List (Key×V)}(h:DPr KY T H m kvs) (k:κ):(kvs.any fun w=>decide (w.1=KY.key k))=m.any fun q=>decide (q.1=k):=by
 induction h with
 | nil=>rfl
 | cons r t ih=>rw [List.any_cons,List.any_cons,ih,r.1,zoN_]
theorem znL_ {m m':List (κ×α)}{kvs kvs':List (Key×V)}(h:DPr KY T H m kvs) (h':DPr KY T H m' kvs'):DPr KY T H (m++m') (kvs++kvs'):=by
 induction h with
 | nil=>exact h'
 | cons r t ih=>exact .cons r ih
theorem zoj_ {m:List (κ×α)}{kvs:List (Key×V)}(h:DPr KY T H m kvs) (k:κ) {a:α}{v:V}(hv:T.R a v H):DPr KY T H (m.map fun q=>if q.1=k then (q.1,a) else q) (kvs.map fun w=>if w.1=KY.key k then (w.1,v) else w):=by
 induction h with
 | nil=>exact .nil
 | cons r t ih =>
  rename_i q w m kvs
  rw [List.map_cons,List.map_cons]
  refine .cons ?_ ih
  by_cases e:q.1=k
  ·rw [if_pos e,if_pos (by rw [r.1,e])]; exact ⟨r.1,hv⟩
  ·rw [if_neg e,if_neg (fun z=>e (KY.inj (by rw [← r.1,z])))]; exact r
theorem znQ_ {m:List (κ×α)}{kvs:List (Key×V)}(h:DPr KY T H m kvs) (k:κ) {a:α}{v:V}(hv:T.R a v H):DPr KY T H (putA m k a) (putK kvs (KY.key k) v):=by
 unfold putA putK
 rw [zoo_ h]
 split
 ·exact zoj_ h k hv
 ·exact znL_ h (.cons ⟨rfl,hv⟩ .nil)
theorem zlq_ (KY:KyT κ) (T:Ty α):EvO K tDNewK E L (.ok []) (owD KY T):=by
 intro σ F H Q hL hs q p hp
 have q':OwnK (owD KY T) H Q [] F (upd H p (.dK [])):=q F _ (.heap hs (zei_ hp _))
 refine q' (.ref p) (one p (.dK [])) (fun b z=>?_) (fun b=>?_) (fun b o z=>?_) ⟨p,[],rfl,rfl,.nil⟩
 ·unfold one at z; split at z
  ·rename_i e; rw [e]; exact hp
  ·exact absurd rfl z
 ·unfold one; split
  ·rename_i e; rw [e]; exact .inl (hs.free hp)
  ·exact .inr rfl
 ·unfold one at z; split at z
  ·rename_i e; rw [e]; cases z; exact zai_
  ·cases z
theorem zly_ (i:Nat) {m:List (κ×α)}(h:L[i]?=some (.ow (owD KY T) m)):EvF K (mVar i) E L (.ok m) (tyD KY T):=zbf_ i h
end
end L2
namespace L2
open PySem PySem.Spec PyProof.Rows
section
variable {α κ:Type} [DecidableEq κ]
theorem zjv_ (m:List (κ×α)) (k j:κ) (v:α):getA (putA m k v) j=if k=j then some v else getA m j:=by
 unfold getA putA
 by_cases ha:(m.any fun q=>decide (q.1=k))=true
 ·rw [if_pos ha]
  induction m with
  | nil=>cases ha
  | cons q m ih =>
   rw [List.map_cons,List.find?_cons,List.find?_cons]
   by_cases e:q.1=k
   ·rw [if_pos e]
    by_cases e2:k=j
    ·rw [if_pos e2]
     simp [e,e2]
    ·rw [if_neg e2]
     have:¬ q.1=j:=fun z=>e2 (by rw [← e,z])
     simp only [decide_eq_false this]
     by_cases hb:(m.any fun q=>decide (q.1=k))=true
     ·have:=ih hb
      rw [if_neg e2] at this
      exact this
     ·have e3:m.map (fun q=>if q.1=k then (q.1,v) else q)=m:=by
       rw [List.map_congr_left (g:=id) (fun x hx=>?_),List.map_id]
       have:¬ x.1=k:=fun z=>hb (List.any_eq_true.mpr ⟨x,hx,by simpa using z⟩)
       simp [this]
      rw [e3]
   ·rw [if_neg e]
    have hb:(m.any fun q=>decide (q.1=k))=true:=by
     rw [List.any_cons,decide_eq_false e,Bool.false_or] at ha; exact ha
    by_cases e2:q.1=j
    ·simp only [decide_eq_true e2]
     have:¬ k=j:=fun z=>e (by rw [e2,z])
     rw [if_neg this]
    ·simp only [decide_eq_false e2]
     exact ih hb
 ·rw [if_neg ha,List.find?_append]
  by_cases e2:k=j
  ·subst e2
   have:m.find? (fun q=>decide (q.1=k))=none:=by
    rw [List.find?_eq_none]
    intro x hx z
    exact ha (List.any_eq_true.mpr ⟨x,hx,z⟩)
   rw [this,if_pos rfl]
   simp
  ·rw [if_neg e2]
   cases m.find? (fun q=>decide (q.1=j)) with
   | some z=>rfl
   | none=>simp [e2]
theorem zgc_ (m:List (κ×α)) (k:κ) (v:α):(putA m k v).length≤m.length+1:=by
 unfold putA
 split
 ·rw [List.length_map]; lia
 ·rw [List.length_append]; exact Nat.le_refl _
end
section
variable {α:Type}
end
end L2
namespace L2
open PySem PySem.Spec PyProof.Rows
section
variable {K:Fgg}{E:XK}
end
end L2
namespace Att
open PySem PySem.W PySem.Calls PyProof.Rows
theorem zlK_ {ns:List Int}(h:WData.layableAll [WData.list (ns.map WData.int)]=true):∀ x∈ns,Builtin.Int.intBits x≤1048576:=by
 intro x hx
 have h1:=layableW_arg h _ (List.mem_singleton.mpr rfl)
 have h2:=layableW_item h1 (.int x) (List.mem_map.mpr ⟨x,hx,rfl⟩)
 exact PyData.bits_of_layable (layable_int h2)
theorem attach_callB {l:OpenLaw}{n:Nat}{q:Program}{loose:List Str}{XP:(Str→Option Value)→Heap→Prop}{YP:World→Heap→Prop}{d:DefRec}
  (hn:l.most=some n) (hdf:d.params.defaults=[])
  (call:∀ (w:World) (s₀ s₁:Shared) (mg mb:Str→Option Value) (fa:Addr) (o:Obj) (pm cd doc:Value) (a:Addr) (vs:List Value) (ns:List Int),
   (∀ x∈ns,Builtin.Int.intBits x≤1048576) →
   Ground q loose [] XP w s₀ mg mb s₁.heap→YP w s₁.heap →
   s₁.heap.get? fa=some o→o.data=.func (docDef d.name d.params d.body d.scope pm cd doc)→s₁.heap.CodeRec cd d.name→mg d.name=some (.ref fa) →
   s₁.heap.get? a=some { cls:=.type "list",data:=.seq vs.toArray }→IntsAre vs ns→ns.length≤n→s₁.gens=#[] →
   codeAny (model l.prog w) callerA (.call (.ref fa) ⟨[.ref a],[]⟩) (fun r s'=>r=.ok (.ret (.bool true))∧OldK s₁.heap s'.heap∧s'.os=s₁.os∧AllBare s'.gens) s₁) :
  WalkO q loose XP YP l.row.toRowW d [] (fun f vs=>PySem.call f vs):=by
 intro w s₀ s₁ mg mb G Y fa o pm cd doc dV kV ho hd hcd hD hmg hg args vals as hpre hlay hrd hwl hlo
 obtain rfl:dV=.none:=Dflts.none hD hdf
 obtain rfl:kV=.none:=Dflts.noKw hD
 obtain ⟨a,vs,ns,rfl,rfl,hobj,hints,hlen⟩:=zko_ hn hpre hwl
 refine enter_call (codeAny_mono (call w s₀ s₁ mg mb fa o pm cd doc a vs ns (zlK_ hlay) G Y ho (fd_plain hd) hcd hmg hobj hints hlen hg) fun r s' hq=>?_)
 obtain ⟨rfl,h2,h3,h4⟩:=hq
 exact ⟨.inl ⟨.bool true,.bool true,[],rfl,fun _=>rfl,.bool true,zkc_ l _,fun _=>⟨List.Pairwise.nil,fun _ hm=>(nomatch hm)⟩⟩,h2,h3,h4⟩
end Att
namespace L2
open PySem PySem.Spec PyProof.Rows
theorem zmV_ {l:PySem.W.OpenLaw}{n k:Nat}{q:Program}{loose:List Str}{XP:(Str→Option Value)→Heap→Prop}{YP:World→Heap→Prop}{d:DefRec}{K:Params→Fgg}{CX:World→CXT}{sp:World→Sp}{x:Str}
  (hn:l.most=some n) (hn2:n≤sizeLine) (hdf:d.params.defaults=[]) (hr:Room k callerA)
  (hY:∀ (w:World) (h:Heap),YP w h→(K w.params).In h)
  (F:∀ (w:World) (mg:Str→Option Value) (fa:Addr) (h:Heap),(K w.params).In h→h.Ns mainGlobals mg→mg d.name=some (.ref fa) →
   ∃ fd:FuncData,(∀ (s:Shared) (u:Value),BindsTo s fd ⟨[u],[]⟩ [(x,u)]) ∧
    ∀ base:Heap,(K w.params).In base→base.Ns mainGlobals mg→FnOk l.prog w (K w.params) mg base (CX w) k fa fd [x] (sp w))
  (hsp:∀ (w:World) (H:Hp) (a:Addr) (ns:List Int),ns.length≤n→(∀ x∈ns,Builtin.Int.intBits x≤1048576)→Only H→SqL (K w.params) H a (ns.map V.int)→sp w [.ref a] H (fun v _=>v=.bl true) fun _ _ _=>False)
  (hCX:∀ (w:World) (H:Hp) (s:Shared) (e:Value) (s':Shared),CX w [] H s (fun _ _ _=>False) e s'→False) :
  PySem.W.WalkO q loose XP YP l.row.toRowW d [] (fun f vs=>PySem.call f vs):=by
 refine Att.attach_callB hn hdf fun w s₀ s₁ mg mb fa o pm cd doc a vs ns hbits G Y ho hd hcd hmg hobj hints hlen hg=>?_
 have KX:=hY w _ Y
 obtain ⟨fd,hb,hF⟩:=F w mg fa _ KX G.T.g hmg
 exact zmt_ KX G.T.g G.T.b G.T.builtins G.T.nolimit hg hobj hints (Nat.le_trans hlen hn2) hr hF hb (fun H hO hS=>hsp w H a ns hlen hbits hO hS) fun H e s'=>hCX w H s₁ e s'
abbrev BitsOk (ns:List Int):Prop:=∀ x∈ns,Builtin.Int.intBits x≤1048576
end L2
namespace L2
open PySem PySem.Spec PyProof.Rows PySem.W
section
variable {α β:Type}
def okT (lt:Nat→Nat→Bool) (n:Nat):KasT α→(α→Prop)→Prop
 | .ret a,P=>P a
 | .ask i j k,P=>i<n∧j<n∧okT lt n (k (lt i j)) P
variable {lt:Nat→Nat→Bool}{n:Nat}
theorem zdd_ {f:α→KasT β}{P:β→Prop}:∀ (t:KasT α),okT lt n t (fun a=>okT lt n (f a) P)→okT lt n (t.bind f) P
 | .ret _,h=>h
 | .ask i j k,h=>⟨h.1,h.2.1,zdd_ (k (lt i j)) h.2.2⟩
theorem zbq_ {P Q:α→Prop}(hq:∀ a,P a→Q a):∀ (t:KasT α),okT lt n t P→okT lt n t Q
 | .ret _,h=>hq _ h
 | .ask i j k,h=>⟨h.1,h.2.1,zbq_ hq (k (lt i j)) h.2.2⟩
theorem znW_ {prog:Program}{w:World}{A:Around}{κ:SortKind}{vs:List Value}{s:Shared}{P:α→Prop}{Q:α→Shared→Prop}
  (cm:∀ i j (C:Bool→Shared→Prop),i<n→j<n→C (lt i j) s→kas_ask prog w A κ vs i j C s) (hq:∀ a,P a→Q a s):∀ t:KasT α,okT lt n t P→t.kasWp (kas_ask prog w A κ vs) Q s
 | .ret a,h=>hq a h
 | .ask i j k,h=>cm i j (fun b s'=>(k b).kasWp (kas_ask prog w A κ vs) Q s') h.1 h.2.1 (znW_ cm hq (k (lt i j)) h.2.2)
structure WOr (lt:Nat→Nat→Bool):Prop where
 asym:∀ {a b},lt a b=true→lt b a=false
 tr:∀ {a b c},lt b a=false→lt c b=false→lt c a=false
abbrev le (lt:Nat→Nat→Bool) (a b:Nat):Prop:=lt b a=false
theorem WOr.refl (w:WOr lt) (a:Nat):le lt a a:=by
 cases h:lt a a with
 | false=>exact h
 | true=>exact w.asym h
abbrev Pm (p:Array Nat) (n:Nat):Prop:=p.toList.Perm (List.range n)
theorem zdV_ {p:Array Nat}(h:Pm p n):p.size=n:=by have:=h.length_eq; rwa [List.length_range,Array.length_toList] at this
theorem zjX_ {p:Array Nat}(h:Pm p n) {i:Nat}(hi:i<n):p.getD i 0<n:=by
 have hs:=zdV_ h
 have:p.getD i 0=p[i]'(by lia):=by simp [Array.getD,hs,hi]
 rw [this]
 exact List.mem_range.mp (h.mem_iff.mp (by simp))
theorem zb0_ {p q:Array Nat}{i j:Nat}(h:p[i]?=q[j]?):p.getD i 0=q.getD j 0:=by
 rw [Array.getD_eq_getD_getElem?,Array.getD_eq_getD_getElem?,h]
theorem zjx_ {p:Array Nat}(h:Pm p n) (i j:Nat):Pm (kas_rev p i j) n:=(Array.perm_iff_toList_perm.mp (mirror_perm p i j _)).trans h
theorem zfz_ {p:Array Nat}{i j:Nat}(hj:j≤p.size) (k:Nat):(kas_rev p i j).getD k 0=if i≤k∧k<j then p.getD (i+j-1-k) 0 else p.getD k 0:=by
 have:=getElem?_mirror_all (xs:=p) (i:=i) hj k
 split
 ·rename_i q; rw [if_pos q] at this; exact zb0_ this
 ·rename_i q; rw [if_neg q] at this; exact zb0_ this
def Asc (lt:Nat→Nat→Bool) (p:Array Nat) (k:Nat):Prop:=∀ i j,i≤j→j<k→le lt (p.getD i 0) (p.getD j 0)
def Dsc (lt:Nat→Nat→Bool) (p:Array Nat) (k:Nat):Prop:=∀ i j,i≤j→j<k→le lt (p.getD j 0) (p.getD i 0)
theorem Asc.one (w:WOr lt) (p:Array Nat):Asc lt p 1:=fun i j a b=>by
 obtain rfl:i=j:=by lia
 exact w.refl _
theorem zmc_ (w:WOr lt) {p:Array Nat}(hp:Pm p n):∀ (f m:Nat),1≤m→m+f≤n→Asc lt p m→okT lt n (kas_asc p f m) (fun r=>m≤r∧r≤m+f∧Asc lt p r∧(r<m+f→lt (p.getD r 0) (p.getD (r-1) 0)=true))
 | 0,m,h1,hm,ha=>⟨Nat.le_refl _,Nat.le_refl _,ha,fun h=>absurd h (Nat.lt_irrefl _)⟩
 | f+1,m,h1,hm,ha=>by
  refine ⟨zjX_ hp (by lia),zjX_ hp (by lia),?_⟩
  show okT lt n (if lt (p.getD m 0) (p.getD (m-1) 0)=true then KasT.ret m else kas_asc p f (m+1)) _
  cases h:lt (p.getD m 0) (p.getD (m-1) 0) with
  | true=>rw [if_pos rfl]; exact ⟨Nat.le_refl _,by lia,ha,fun _=>h⟩
  | false =>
   rw [if_neg (by decide)]
   refine zbq_ (fun r q=>⟨by lia,by lia,q.2.2.1,fun z=>q.2.2.2 (by lia)⟩) _ (zmc_ w hp f (m+1) (by lia) (by lia) fun i j hij hj=>?_)
   by_cases e:j<m
   ·exact ha i j hij e
   ·obtain rfl:j=m:=by lia
    by_cases e2:i=j
    ·subst e2; exact w.refl _
    ·exact w.tr (ha i (j-1) (by lia) (by lia)) h
theorem zna_ (w:WOr lt) {p:Array Nat}{m q:Nat}(hm:m≤p.size) (hq:q+1≤m) (hd:Dsc lt p m) (he:∀ i,m-(q+1)≤i→i<m→le lt (p.getD i 0) (p.getD (m-1) 0)):Dsc lt (kas_rev p (m-(q+1)) m) m:=by
 intro i j hij hj
 have r1:=zfz_ (p:=p) (i:=m-(q+1)) hm i
 have r2:=zfz_ (p:=p) (i:=m-(q+1)) hm j
 show lt _ _=false
 rw [r1,r2]
 by_cases a:m-(q+1)≤i
 ·rw [if_pos ⟨a,by omega⟩,if_pos ⟨by omega,hj⟩]
  exact w.tr (he _ (by omega) (by omega)) (hd _ (m-1) (by omega) (by omega))
 ·rw [if_neg (fun z=>a z.1)]
  by_cases b:m-(q+1)≤j
  ·rw [if_pos ⟨b,hj⟩]; exact hd _ _ (by omega) (by omega)
  ·rw [if_neg (fun z=>b z.1)]; exact hd _ _ hij hj
theorem zi1_ (w:WOr lt):∀ (f:Nat) (p:Array Nat) (m q:Nat),Pm p n→q+1≤m→m+f≤n→Dsc lt p m→(∀ i,m-(q+1)≤i→i<m→le lt (p.getD i 0) (p.getD (m-1) 0)) →
  okT lt n (kas_desc f p m q) (fun r=>Pm r.1 n∧r.2.2+1≤r.2.1∧r.2.1≤m+f∧Dsc lt r.1 r.2.1∧∀ i,r.2.1-(r.2.2+1)≤i→i<r.2.1→le lt (r.1.getD i 0) (r.1.getD (r.2.1-1) 0))
 | 0,p,m,q,hp,h1,hm,hd,he=>⟨hp,h1,Nat.le_refl _,hd,he⟩
 | f+1,p,m,q,hp,h1,hm,hd,he=>by
  have hsz:=zdV_ hp
  refine ⟨zjX_ hp (by lia),zjX_ hp (by lia),?_⟩
  cases h:lt (p.getD m 0) (p.getD (m-1) 0) with
  | true =>
   dsimp only
   rw [if_pos rfl]
   have fin:∀ p1:Array Nat,Pm p1 n→Dsc lt p1 m→p1.getD m 0=p.getD m 0→(∀ i,i<m→le lt (p.getD (m-1) 0) (p1.getD i 0))→okT lt n (kas_desc f p1 (m+1) 0) (fun r=>Pm r.1 n∧r.2.2+1≤r.2.1∧r.2.1≤m+(f+1)∧Dsc lt r.1 r.2.1∧∀ i,r.2.1-(r.2.2+1)≤i→i<r.2.1→le lt (r.1.getD i 0) (r.1.getD (r.2.1-1) 0)):=by
    intro p1 hp1 hd1 e1 hb
    refine zbq_ (fun r q=>⟨q.1,q.2.1,by lia,q.2.2.2⟩) _ (zi1_ w f p1 (m+1) 0 hp1 (by lia) (by lia) (fun i j hij hj=>?_) fun i a b=>?_)
    ·by_cases e:j<m
     ·exact hd1 i j hij e
     ·obtain rfl:j=m:=by lia
      by_cases e2:i=j
      ·subst e2; exact w.refl _
      ·rw [e1]; exact w.tr (w.asym h) (hb i (by lia))
    ·obtain rfl:i=m:=by lia
     exact w.refl _
   by_cases hq:q > 0
   ·rw [if_pos hq]
    refine fin _ (zjx_ hp _ _) (zna_ w (by lia) h1 hd he) ?_ fun i hi=>?_
    ·rw [zfz_ (by lia),if_neg (by lia)]
    ·rw [zfz_ (by lia)]
     split
     ·exact hd _ _ (by lia) (by lia)
     ·exact hd _ _ (by lia) (by lia)
   ·rw [if_neg hq]
    exact fin p hp hd rfl fun i hi=>hd _ _ (by lia) (by lia)
  | false =>
   dsimp only
   rw [if_neg (by decide)]
   refine ⟨zjX_ hp (by lia),zjX_ hp (by lia),?_⟩
   cases h2:lt (p.getD (m-1) 0) (p.getD m 0) with
   | true=>dsimp only; rw [if_pos rfl]; exact ⟨hp,h1,by show m≤m+(f+1); lia,hd,he⟩
   | false =>
    dsimp only
    rw [if_neg (by decide)]
    refine zbq_ (fun r q=>⟨q.1,q.2.1,by lia,q.2.2.2⟩) _ (zi1_ w f p (m+1) (q+1) hp (by lia) (by lia) (fun i j hij hj=>?_) fun i a b=>?_)
    ·by_cases e:j<m
     ·exact hd i j hij e
     ·obtain rfl:j=m:=by lia
      by_cases e2:i=j
      ·subst e2; exact w.refl _
      ·exact w.tr h2 (hd i (j-1) (by lia) (by lia))
    ·show le lt (p.getD i 0) (p.getD m 0)
     by_cases e:i=m
     ·subst e; exact w.refl _
     ·exact w.tr (he i (by lia) (by lia)) h
abbrev Got (lt:Nat→Nat→Bool) (n:Nat) (r:Nat×Array Nat):Prop:=Pm r.2 n∧r.1≤n∧Asc lt r.2 r.1
theorem zid_ (w:WOr lt) {p:Array Nat}{m:Nat}(hp:Pm p n) (h1:1≤m) (hm:m≤n) (hd:Dsc lt p m):okT lt n (kas_tail3 m n p) (Got lt n):=by
 have hsz:=zdV_ hp
 refine zdd_ _ (zbq_ (fun r q=>?_) _ (zmc_ w (zjx_ hp 0 m) (n-m) m h1 (by omega) fun i j hij hj=>?_))
 ·exact ⟨zjx_ hp 0 m,by show r≤n; omega,q.2.2.1⟩
 ·rw [zfz_ (by omega),zfz_ (by omega),if_pos (by omega),if_pos (by omega)]
  exact hd _ _ (by omega) (by omega)
theorem zez_ (w:WOr lt) {p:Array Nat}{m:Nat}(hp:Pm p n) (hm:m+1≤n) (hd:Dsc lt p (m+1)):okT lt n (kas_descPart m n p) (Got lt n):=by
 refine zdd_ _ (zbq_ (fun r q=>?_) _ (zi1_ w (n-(m+1)) p (m+1) 0 hp (by lia) (by lia) hd fun i a b=>?_))
 ·obtain ⟨q1,q2,q3,q4,q5⟩:=q
  have hsz:=zdV_ q1
  by_cases z:r.2.2 > 0
  ·rw [if_pos z]
   exact zid_ w (zjx_ q1 _ _) (by lia) (by lia) (zna_ w (by lia) q2 q4 q5)
  ·rw [if_neg z]
   exact zid_ w q1 (by lia) (by lia) q4
 ·obtain rfl:i=m:=by lia
  exact w.refl _
theorem zmo_ (w:WOr lt) {p:Array Nat}(hp:Pm p n) (hn:1≤n):okT lt n (kas_count n p) (Got lt n):=by
 have hsz:=zdV_ hp
 refine zdd_ _ (zbq_ (fun m q=>?_) _ (zmc_ w hp (n-1) 1 (Nat.le_refl _) (by lia) (Asc.one w p)))
 obtain ⟨q1,q2,q3,q4⟩:=q
 by_cases e:m=n
 ·rw [if_pos (by simp [e])]; exact ⟨hp,by show m≤n; lia,q3⟩
 ·rw [if_neg (by simp [e])]
  have hl:=q4 (by lia)
  by_cases z:m > 1
  ·rw [if_pos z]
   refine ⟨zjX_ hp (by lia),zjX_ hp (by lia),?_⟩
   cases c:lt (p.getD 0 0) (p.getD (m-1) 0) with
   | true=>dsimp only; rw [if_pos rfl]; exact ⟨hp,by show m≤n; lia,q3⟩
   | false =>
    dsimp only
    rw [if_neg (by decide)]
    have hall:∀ a b,a<m→b<m→le lt (p.getD a 0) (p.getD b 0):=fun a b ha hb=>w.tr (w.tr (q3 a (m-1) (by lia) (by lia)) c) (q3 0 b (by lia) hb)
    refine zez_ w (zjx_ hp 0 m) (by lia) fun i j hij hj=>?_
    rw [zfz_ (by lia),zfz_ (by lia)]
    by_cases a:j<m
    ·rw [if_pos (by lia),if_pos (by lia)]; exact hall _ _ (by lia) (by lia)
    ·obtain rfl:j=m:=by lia
     rw [if_neg (by lia)]
     by_cases b:i<j
     ·rw [if_pos (by lia)]; exact w.tr (w.asym hl) (hall _ _ (by lia) (by lia))
     ·obtain rfl:i=j:=by lia
      rw [if_neg (by lia)]; exact w.refl _
  ·rw [if_neg z]
   obtain rfl:m=1:=by lia
   refine zez_ w hp (by lia) fun i j hij hj=>?_
   by_cases a:i=j
   ·subst a; exact w.refl _
   ·obtain rfl:i=0:=by lia
    obtain rfl:j=1:=by lia
    exact w.asym hl
theorem zgr_ (w:WOr lt) {p:Array Nat}{k:Nat}(hp:Pm p n) (hk:k<n) (ha:Asc lt p k):∀ (f l r:Nat),l≤r→r≤k→r-l≤f→(∀ i,i<l→le lt (p.getD i 0) (p.getD k 0))→(∀ i,r≤i→i<k→le lt (p.getD k 0) (p.getD i 0)) →
  okT lt n (kas_place p k f l r) (fun m=>m≤k∧(∀ i,i<m→le lt (p.getD i 0) (p.getD k 0))∧∀ i,m≤i→i<k→le lt (p.getD k 0) (p.getD i 0))
 | 0,l,r,h1,h2,h3,h4,h5=>⟨by show l≤k; omega,h4,fun i a b=>h5 i (by omega) b⟩
 | f+1,l,r,h1,h2,h3,h4,h5=>by
  unfold kas_place
  by_cases e:l ≥ r
  ·rw [if_pos e]; exact ⟨by show l≤k; omega,h4,fun i a b=>h5 i (by omega) b⟩
  ·rw [if_neg e]
   refine ⟨zjX_ hp hk,zjX_ hp (by omega),?_⟩
   cases c:lt (p.getD k 0) (p.getD ((l+r) / 2) 0) with
   | true =>
    dsimp only
    rw [if_pos rfl]
    refine zgr_ w hp hk ha f l ((l+r) / 2) (by omega) (by omega) (by omega) h4 fun i a b=>?_
    exact w.tr (w.asym c) (ha _ _ a b)
   | false =>
    dsimp only
    rw [if_neg (by decide)]
    refine zgr_ w hp hk ha f ((l+r) / 2+1) r (by omega) h2 (by omega) (fun i hi=>?_) h5
    exact w.tr (ha i ((l+r) / 2) (by omega) (by omega)) c
theorem znX_ (w:WOr lt):∀ (f:Nat) (p:Array Nat) (k:Nat),Pm p n→k+f=n→Asc lt p k→okT lt n (kas_bin f p k) (fun r=>Pm r n∧Asc lt r n)
 | 0,p,k,hp,hk,ha=>⟨hp,(show k=n by lia) ▸ ha⟩
 | f+1,p,k,hp,hk,ha=>by
  have hsz:=zdV_ hp
  refine zdd_ _ (zbq_ (fun l q=>?_) _ (zgr_ w hp (by lia) ha k 0 k (by lia) (Nat.le_refl _) (by lia) (fun i hi=>absurd hi (by lia)) fun i a b=>absurd b (by lia)))
  obtain ⟨q1,q2,q3⟩:=q
  have hb:∀ i,(bubble p k (k-l)).getD i 0=if i=l then p.getD k 0 else if l<i∧i≤k then p.getD (i-1) 0 else p.getD i 0:=fun i=>by
   have:=getElem?_bubble (xs:=p) (src:=k) (by lia) (k-l) (by lia) i
   rw [show k-(k-l)=l by lia] at this
   split
   ·rename_i z; rw [if_pos z] at this; exact zb0_ this
   ·rename_i z
    rw [if_neg z] at this
    split
    ·rename_i y; rw [if_pos y] at this; exact zb0_ this
    ·rename_i y; rw [if_neg y] at this; exact zb0_ this
  refine znX_ w f _ (k+1) ((Array.perm_iff_toList_perm.mp (bubble_perm p k _)).trans hp) (by lia) fun i j hij hj=>?_
  rw [hb,hb]
  by_cases e1:i=l
  ·rw [if_pos e1]
   by_cases e2:j=l
   ·rw [if_pos e2]; exact w.refl _
   ·rw [if_neg e2,if_pos (by lia)]; exact q3 _ (by lia) (by lia)
  ·rw [if_neg e1]
   by_cases e2:j=l
   ·rw [if_pos e2,if_neg (by lia)]; exact q2 _ (by lia)
   ·rw [if_neg e2]
    by_cases e3:l<i
    ·rw [if_pos (by lia),if_pos (by lia)]; exact ha _ _ (by lia) (by lia)
    ·rw [if_neg (by lia)]
     by_cases e4:l<j
     ·rw [if_pos (by lia)]; exact ha _ _ (by lia) (by lia)
     ·rw [if_neg (by lia)]; exact ha _ _ hij (by lia)
theorem znu_ (w:WOr lt) (hn:1≤n):okT lt n (kas_sort n) (fun r=>Pm r n∧Asc lt r n):=by
 have h0:Pm (List.toArray (List.range n)) n:=by simp [Pm]
 refine zdd_ _ (zbq_ (fun r q=>?_) _ (zmo_ w h0 hn))
 obtain ⟨q1,q2,q3⟩:=q
 by_cases e:r.1<n
 ·rw [if_pos e]
  refine znX_ w _ _ _ q1 (by lia) ?_
  by_cases e1:r.1=0
  ·rw [e1]; exact Asc.one w _
  ·rw [Nat.max_eq_left (by lia)]; exact q3
 ·rw [if_neg e]
  obtain e:r.1=n:=by lia
  rw [e] at q3
  exact ⟨q1,q3⟩
end
section
variable {prog:Program}{w:World}{A:Around}{E:Value→Shared→Prop}{s:Shared}{vs:List Value}{lt:Nat→Nat→Bool}
def CmpAt (prog:Program) (w:World) (vs:List Value) (lt:Nat→Nat→Bool) (s:Shared):Prop :=
 ∃ κ,(∀ (A:Around) (C:SortKind→Shared→Prop),C κ s→wpAny (model prog w) A (keyKind' vs.toArray) C (fun _ _=>False) s) ∧
  ∀ (A:Around) i j (C:Bool→Shared→Prop),i<vs.length→j<vs.length→C (lt i j) s→kas_ask prog w A κ vs i j C s
def Srtd (lt:Nat→Nat→Bool) (n:Nat) (p:List Nat):Prop:=p.Perm (List.range n)∧p.Pairwise (le lt)
theorem znf_ {n:Nat}{p:Array Nat}(h:Pm p n∧Asc lt p n):Srtd lt n p.toList:=by
 refine ⟨h.1,List.pairwise_iff_getElem.mpr fun i j hi hj hij=>?_⟩
 have hs:=zdV_ h.1
 rw [Array.length_toList] at hi hj
 have:=h.2 i j (by lia) (by lia)
 have e:∀ k (hk:k<p.size),p.getD k 0=p.toList[k]'(by simpa using hk):=fun k hk=>by simp [Array.getD,hk]
 rwa [e i hi,e j hj] at this
def RunB (b:Nat):Prop:=b≤1000∧∀ {prog:Program}{w:World}{A:Around}{E:Value→Shared→Prop}{s:Shared}{vs:List Value}{lt:Nat→Nat→Bool}{κ:SortKind},2≤vs.length→vs.length<b→WOr lt →
 (∀ (A:Around) i j (C:Bool→Shared→Prop),i<vs.length→j<vs.length→C (lt i j) s→kas_ask prog w A κ vs i j C s) →
 wpAny (model prog w) A ((sortRuns').run (SortSt.mk' κ (vs.toArray.zip vs.toArray) #[] 7 none)) (fun r s'=>s'=s∧∃ p:List Nat,(arrOf r.2).map (·.2)=(p.map fun i=>vs.getD i Value.none).toArray∧failedOf r.2=none∧Srtd lt vs.length p) E s
theorem runB64:RunB 64:=by
 refine ⟨by decide,fun {prog w A E s vs lt κ} hn2 h64 wo k2=>?_⟩
 refine wpAny_mono (kat_run (Q:=fun st' s'=>s'=s∧∃ p:Array Nat,p.size=vs.length∧arrOf st'=p.map (kas_item (vs.toArray.zip vs.toArray))∧failedOf st'=none∧(Pm p vs.length∧Asc lt p vs.length)) (G:=fun p s'=>s'=s∧(Pm p vs.length∧Asc lt p vs.length))
   rfl hn2 h64 (fun p' st' s' a1 a2 a3 a4=>⟨a4.1,p',a1,a2,a3,a4.2⟩) (znW_ (P:=fun r=>Pm r vs.length∧Asc lt r vs.length) (fun i j C hi hj hc=>k2 A i j C hi hj hc) (fun p hp=>⟨rfl,hp⟩) _ (znu_ wo (by lia)))) ?_ fun _ _ e=>e
 rintro ⟨⟨⟩,st'⟩ s' ⟨rfl,p,hp,har,hf,hpp⟩
 exact ⟨rfl,p.toList,kat_snds rfl har,hf,znf_ hpp⟩
theorem zlS_ {b:Nat}(hB:RunB b) {a:Addr}{n:Nat}{P:PySem.Fin→Shared→Prop}(ho:s.heap.get? a=some (seqObj "list" vs.toArray n)) (h64:vs.length<b) (wo:WOr lt)
  (kk:2≤vs.length→∀ h':Heap,(∀ b o,b≠a→s.heap.get? b=some o→h'.get? b=some o)→CmpAt prog w vs lt { s with heap:=h' })
  (q:∀ (h':Heap) c (p:List Nat),(∀ b o,b≠a→s.heap.get? b=some o→h'.get? b=some o)→Srtd lt vs.length p→h'.get? a=some (seqObj "list" (p.map fun i=>vs.getD i Value.none).toArray c)→P (.done (.ret .none)) { s with heap:=h' }) :
  wpAny (model prog w) A (Builtin.«list.sort» ⟨[.ref a],[]⟩) P E s:=by
 have hB1:=hB.1
 have ha:a<s.heap.objs.size:=Heap.lt_size ho
 have s1:=Heap.SameBut.update s.heap a (Obj.mapSeq fun _=>(#[]:Array Value))
 obtain ⟨e1,ho1⟩:∃ e1,(s.heap.update a (Obj.mapSeq fun _=>(#[]:Array Value))).get? a=some (seqObj "list" #[] e1):=⟨_,get?_update_seq ho fun _=>#[]⟩
 have kp:∀ b o,b≠a→s.heap.get? b=some o→(((s.heap.update a (Obj.mapSeq fun _=>(#[]:Array Value))).push (seqObj "tuple" vs.toArray 0)).push (seqObj "list" #[] 0)).get? b=some o:=fun b o hb e =>
  Heap.get?_push_of_some _ (Heap.get?_push_of_some _ ((s1.2 b hb).trans e))
 have na:(((s.heap.update a (Obj.mapSeq fun _=>(#[]:Array Value))).push (seqObj "tuple" vs.toArray 0)).push (seqObj "list" #[] 0)).get? a=some (seqObj "list" #[] e1):=Heap.get?_push_of_some _ (Heap.get?_push_of_some _ ho1)
 rw [list_sort_plain]
 refine wpAny_bind (listItems_at ho rfl ?_)
 refine wpAny_bind (listUpdate_at ho rfl ?_ (by rw [List.size_toArray,sizeLine_eq]; lia) (Nat.zero_le _))
 refine wpAny_bind (seqEpoch_at ho1 rfl ?_)
 refine wpAny_bind (wpAny_newTuple ?_ (by show vs.length≤_; rw [sizeLine_eq]; lia))
 refine wpAny_bind (wpAny_newList ?_ (Nat.zero_le _))
 refine wpAny_holding ?_
 show wpAny (model prog w) A _ P E { s with heap:=((s.heap.update a (Obj.mapSeq fun _=>(#[]:Array Value))).push (seqObj "tuple" vs.toArray 0)).push (seqObj "list" #[] 0) }
 generalize hh:((s.heap.update a (Obj.mapSeq fun _=>(#[]:Array Value))).push (seqObj "tuple" vs.toArray 0)).push (seqObj "list" #[] 0)=h2 at kp na
 dsimp only
 have fin:∀ (st':SortSt) (p:List Nat),(arrOf st').map (·.2)=(p.map fun i=>vs.getD i Value.none).toArray→failedOf st'=none→Srtd lt vs.length p→wpAny (model prog w) A (do
   let touched:=(← seqEpoch a) != e1
   Builtin.List.listUpdate (.ref a) fun _=>(arrOf st').map (·.2)
   if let some e:=failedOf st' then rule "list.sort.comparison-raised"; throw e
   if touched then rule "list.sort.modified"; raiseError "ValueError" "list modified during sort"
   ret .none) P E { s with heap:=h2 }:=by
  intro st' p hout hf hp
  rw [hout,hf]
  have hsz:(List.toArray (p.map fun i=>vs.getD i Value.none)).size=vs.length:=by rw [List.size_toArray,List.length_map,hp.1.length_eq,List.length_range]
  have s2:=Heap.SameBut.update h2 a (Obj.mapSeq fun _=>List.toArray (p.map fun i=>vs.getD i Value.none))
  obtain ⟨c2,hc2⟩:∃ c2,(h2.update a (Obj.mapSeq fun _=>List.toArray (p.map fun i=>vs.getD i Value.none))).get? a=some (seqObj "list" (List.toArray (p.map fun i=>vs.getD i Value.none)) c2):=⟨_,get?_update_seq na fun _=>List.toArray (p.map fun i=>vs.getD i Value.none)⟩
  refine wpAny_bind (seqEpoch_at (s:={ s with heap:=h2 }) na rfl ?_)
  refine wpAny_bind (listUpdate_at (s:={ s with heap:=h2 }) na rfl ?_ (Nat.zero_le _) (Nat.le_trans (Nat.le_of_eq hsz) (by rw [sizeLine_eq]; lia)))
  simp only [bne_self_eq_false,Bool.false_eq_true,if_false]
  exact wpAny_pure (q _ c2 p (fun b o hb e=>(s2.2 b hb).trans (kp b o hb e)) hp hc2)
 by_cases hn2:2≤vs.length
 ·have hn2':¬ vs.toArray.size<2:=by rw [List.size_toArray]; lia
  rw [if_neg hn2',if_neg hn2']
  obtain ⟨κ,k1,k2⟩:=kk hn2 h2 kp
  refine wpAny_bind (wpAny_mono (k1 A (fun κ' s'=>κ'=κ∧s'={ s with heap:=h2 }) ⟨rfl,rfl⟩) (fun κ' s0 hk=>?_) fun _ _ x=>x.elim)
  obtain ⟨rfl,rfl⟩:=hk
  refine wpAny_bind (wpAny_mono (hB.2 hn2 h64 wo k2) ?_ fun _ _ e=>e)
  rintro ⟨⟨⟩,st'⟩ s' ⟨rfl,p,hout,hf,hpp⟩
  exact fin st' p hout hf hpp
 ·have hn2':vs.toArray.size<2:=by rw [List.size_toArray]; lia
  rw [if_pos hn2',if_pos hn2']
  refine wpAny_bind (wpAny_pure ?_)
  refine wpAny_bind (wpAny_pure ?_)
  refine fin _ (List.range vs.length) ?_ rfl ⟨List.Perm.refl _,?_⟩
  ·show ((vs.toArray.zip vs.toArray).map (·.2))=_
   apply Array.toList_inj.mp
   rw [Array.toList_map,Array.toList_zip]
   have e:∀ l:List Value,(l.zip l).map (·.2)=l:=fun l=>by
    induction l with
    | nil=>rfl
    | cons x l ih=>rw [List.zip_cons_cons,List.map_cons,ih]
   show (vs.zip vs).map (·.2)=(List.range vs.length).map fun i=>vs.getD i Value.none
   rw [e]
   apply List.ext_getElem?
   intro i
   by_cases hi:i<vs.length
   ·simp [hi]
   ·simp [List.getElem?_eq_none,hi,Nat.le_of_not_lt hi]
  ·rcases (show vs.length=0∨vs.length=1 by lia) with e | e
   ·rw [e]; exact .nil
   ·rw [e]; exact List.pairwise_singleton _ _
end
end L2
namespace L2
open PySem PySem.Spec PyProof.Rows PySem.W
def knd:V→Nat | .int _=>1 | .str _=>2 | _=>0
def ltF:V→V→Bool | .int a,.int b=>decide (a<b) | .str a,.str b=>decide (a.cps.toList<b.cps.toList) | _,_=>false
def eqF:V→V→Bool | .int a,.int b=>a == b | .str a,.str b=>decide (a=b) | _,_=>false
section
variable {prog:Program}{w:World}{A:Around}{E:Value→Shared→Prop}{s:Shared}{Q:Bool→Shared→Prop}
theorem zdH_ {x:V}(h:knd x≠0):(∃ i,x=.int i)∨∃ z,x=.str z:=by
 cases x<;>first | exact .inl ⟨_,rfl⟩ | exact .inr ⟨_,rfl⟩ | exact absurd rfl h
theorem zoM_ {x y:V}{u v:Value}{b:Bool}(hx:RelV x u) (hy:RelV y v) (hk:knd x=knd y) (h0:knd x≠0) (q:Q (ltF x y) s):wpAny (model prog w) A (oneLt' b u v) Q E s:=by
 rcases zdH_ h0 with ⟨i,rfl⟩ | ⟨z,rfl⟩
 ·rcases zdH_ (x:=y) (fun e=>h0 (hk.trans e)) with ⟨j,rfl⟩ | ⟨z,rfl⟩
  ·obtain ⟨t,rfl⟩:=hx
   obtain ⟨t',rfl⟩:=hy
   cases b with
   | true=>exact oneLt_int q
   | false=>exact kat_one _ _ (PyProof.Rows.lt_int q)
  ·cases hk
 ·rcases zdH_ (x:=y) (fun e=>h0 (hk.trans e)) with ⟨j,rfl⟩ | ⟨z',rfl⟩
  ·cases hk
  ·obtain ⟨t,rfl⟩:=hx
   obtain ⟨t',rfl⟩:=hy
   cases b with
   | true=>exact oneLt_str q
   | false=>exact kat_one _ _ (PyProof.Rows.lt_str q)
end
def tyK (k:Nat):Value:=if k=1 then .type "int" else .type "str"
theorem znw_ {M:Model}{h:Heap}{x:V}{u:Value}{k:Nat}(r:RelV x u) (hk:knd x=k) (h0:k≠0):Looks M h (typeOf u) (tyK k):=by
 subst hk
 rcases zdH_ h0 with ⟨i,rfl⟩ | ⟨z,rfl⟩
 ·obtain ⟨t,rfl⟩:=r
  exact .now
 ·obtain ⟨t,rfl⟩:=r
  exact .now
theorem zpP_ (k:Nat):(tyK k != Value.type "tuple")=true:=by unfold tyK; split<;>decide +kernel
theorem zpb_ (k:Nat):(tyK k == tyK k)=true:=by unfold tyK; split<;>decide +kernel
theorem zdA_ {ys:List V}{us:List Value}(r:Vals ys us) {i:Nat}(h:i<us.length):∃ y,ys[i]?=some y∧RelV y (us.getD i Value.none)∧y∈ys:=by
 have hl:=Vals.length r
 have e:ys[i]?=some ys[i]:=List.getElem?_eq_getElem (by omega)
 obtain ⟨u,eu,ru⟩:=Vals.get r e
 refine ⟨_,e,?_,List.getElem_mem _⟩
 rw [List.getD_eq_getElem?_getD,eu]
 exact ru
theorem ziI_ {ys:List V}{us:List Value}(r:Vals ys us):∀ (idx:List Nat),(∀ i∈idx,i<us.length)→Vals (idx.map fun i=>ys.getD i .non) (idx.map fun i=>us.getD i Value.none)
 | [],_=>.nil
 | i::idx,h=>by
  obtain ⟨y,e,ry,_⟩:=zdA_ r (h i (List.mem_cons_self ..))
  refine .cons ?_ (ziI_ r idx fun j hj=>h j (List.mem_cons_of_mem _ hj))
  show RelV (ys.getD i V.non) _
  rw [List.getD_eq_getElem?_getD,e]
  exact ry
section
variable {X:Cx}
end
end L2
namespace L2
open PySem PySem.Spec PyProof.Rows PySem.W
section
variable {α β:Type}
structure LOr (lt:α→α→Bool):Prop where
 asym:∀ {a b},lt a b=true→lt b a=false
 tr:∀ {a b c},lt b a=false→lt c b=false→lt c a=false
 anti:∀ {a b},lt a b=false→lt b a=false→a=b
def srtL (lt:α→α→Bool) (xs:List α):List α:=xs.mergeSort (fun a b=>!lt b a)
theorem zg9_ (lt:α→α→Bool) (xs:List α):(srtL lt xs).Perm xs:=List.mergeSort_perm _ _
theorem zhY_ {lt:α→α→Bool}(o:LOr lt) (xs:List α):(srtL lt xs).Pairwise fun a b=>lt b a=false:=by
 have:=List.pairwise_mergeSort (le:=fun a b=>!lt b a) (fun a b c h1 h2=>by simp only [Bool.not_eq_true'] at *; exact o.tr h1 h2) (fun a b=>by
  cases h:lt b a with
  | false=>simp
  | true=>simp [o.asym h]) xs
 exact this.imp (fun h=>by simpa using h)
theorem ziG_ {lt:α→α→Bool}(o:LOr lt):∀ {ws ys:List α},ws.Perm ys→ws.Pairwise (fun a b=>lt b a=false)→ys.Pairwise (fun a b=>lt b a=false)→ws=ys
 | [],ys,hp,_,_=>by rw [List.Perm.nil_eq hp]
 | w::ws,[],hp,_,_=>by have:=hp.length_eq; simp at this
 | w::ws,y::ys,hp,h1,h2=>by
  obtain ⟨a1,a2⟩:=List.pairwise_cons.mp h1
  obtain ⟨b1,b2⟩:=List.pairwise_cons.mp h2
  have e:w=y:=by
   have m1:w∈y::ys:=hp.mem_iff.mp (List.mem_cons_self ..)
   have m2:y∈w::ws:=hp.mem_iff.mpr (List.mem_cons_self ..)
   rcases List.mem_cons.mp m1 with e | m1
   ·exact e
   ·rcases List.mem_cons.mp m2 with e | m2
    ·exact e.symm
    ·exact o.anti (b1 w m1) (a1 y m2)
  subst e
  rw [ziG_ o (List.Perm.cons_inv hp) a2 b2]
theorem zkU_ {lt:α→α→Bool}(o:LOr lt) {ws xs:List α}(hp:ws.Perm xs) (hs:ws.Pairwise fun a b=>lt b a=false):ws=srtL lt xs :=
 ziG_ o (hp.trans (zg9_ lt xs).symm) hs (zhY_ o xs)
def ltI (a b:Int):Bool:=decide (a<b)
theorem zm3_:LOr ltI:=by
 unfold ltI
 refine ⟨fun h=>?_,fun h h'=>?_,fun h h'=>?_⟩<;>simp only [decide_eq_true_eq,decide_eq_false_iff_not] at*<;> lia
end
end L2
namespace L2
open PySem PySem.Spec PyProof.Rows PySem.W
section
variable {α β γ:Type}{K:Fgg}{E:XK}
def FlT (T:Ty α) (k:Nat) (lt:α→α→Bool):Prop:=k≠0∧∀ a v F,T.R a v F→knd v=k∧∀ b u F',T.R b u F'→ltF v u=lt a b∧(eqF v u=true↔a=b)
theorem zm6_:FlT tyInt 1 ltI:=by
 refine ⟨by decide,fun a v F h=>?_⟩
 subst h
 refine ⟨rfl,fun b u F' h'=>?_⟩
 subst h'
 exact ⟨rfl,by simp [eqF]⟩
theorem zhW_ {T:Ty α}{H:Hp}:∀ {xs:List α}{vs:List V},Prs T H xs vs→∀ (i:Nat) (v:V),vs[i]?=some v→∃ x,xs[i]?=some x∧T.R x v H
 | _,_,.nil,i,v,e=>by simp at e
 | _,_,.cons a t,0,v,e=>by simp at e; subst e; exact ⟨_,rfl,a⟩
 | _,_,.cons a t,i+1,v,e=>zhW_ t i v (by simpa using e)
theorem zlp_ {T:Ty α}{H:Hp}{xs:List α}{vs:List V}(r:Prs T H xs vs) (d:α):∀ (idx:List Nat),(∀ i∈idx,i<vs.length)→Prs T H (idx.map fun i=>xs.getD i d) (idx.map fun i=>vs.getD i .non)
 | [],_=>.nil
 | i::idx,h=>by
  have hi:=h i (List.mem_cons_self ..)
  obtain ⟨x,e,rx⟩:=zhW_ r i vs[i] (List.getElem?_eq_getElem hi)
  refine .cons ?_ (zlp_ r d idx fun j hj=>h j (List.mem_cons_of_mem _ hj))
  show T.R (xs.getD i d) (vs.getD i .non) H
  rw [List.getD_eq_getElem?_getD,List.getD_eq_getElem?_getD,e,List.getElem?_eq_getElem hi]
  exact rx
theorem ziX_ {lt:α→α→Bool}(o:LOr lt) {xs:List α}{d:α}{idx:List Nat}(h:Srtd (fun i j=>lt (xs.getD i d) (xs.getD j d)) xs.length idx):(idx.map fun i=>xs.getD i d)=srtL lt xs:=by
 refine zkU_ o ?_ ?_
 ·have e:(List.range xs.length).map (fun i=>xs.getD i d)=xs:=by
   apply List.ext_getElem?
   intro i
   by_cases hi:i<xs.length
   ·simp [hi]
   ·simp [List.getElem?_eq_none,hi,Nat.le_of_not_lt hi]
  have:=h.1.map (fun i=>xs.getD i d)
  rwa [e] at this
 ·exact List.pairwise_map.mpr (h.2.imp fun q=>q)
theorem zqa_ {lt:α→α→Bool}(o:LOr lt) (f:Nat→α):WOr fun i j=>lt (f i) (f j):=⟨fun h=>o.asym h,fun h h'=>o.tr h h'⟩
end
end L2
universe u
namespace L2
open PySem PySem.Spec PyProof.Rows
section
variable {α γ:Type}{K:Fgg}{E:XK}{L:List Sl}{T:Ty α}{e:TE}
end
abbrev owLp {α:Type}(p:Addr) (T:Ty α):Own (List α):=⟨fun xs v F h=>v=.ref p∧∃ vs,h=one p (.lst vs)∧Prs T F xs vs,tyL T,fun g ⟨e,vs,z,q⟩=>⟨e,vs,z,q.mono g⟩,
 fun d ⟨e,vs,z,q⟩=>⟨p,vs,e,zdy_ d _ _ (by rw [z]; exact zz_),q.mono zak_⟩,
 fun ⟨e,vs,z,q⟩ b xs y=>by rw [z] at y; unfold one at y; split at y<;>cases y⟩
section
variable {α:Type}{K:Fgg}{E:XK}{L:List Sl}{T:Ty α}{F h H F0 H0:Hp}{ρ B S:Type}{LS:S→List Sl}{LB:B→List Sl}{O:Own ρ}
end
end L2
namespace L2
open PySem PySem.Spec PyProof.Rows PySem.W
section
variable {prog:Program}{w:World}{A:Around}{E:Value→Shared→Prop}{s:Shared}{T:String}{rr dd:Addr}{n:Nat}{PP:Nat→Value→Prop}{OK:Heap→Prop}
theorem zml_ {R:List Value→Shared→Prop}(Kd:KdlSrc prog w T rr dd n PP OK) (hh:A.handled=none) (hok:OK s.heap) (hn:n≤sizeLine)
  (hR:∀ (h':Heap) (tk:Nat) (acc:Array Value),s.heap.objs.size<h'.objs.size→(∀ b o,s.heap.get? b=some o→h'.get? b=some o)→ItemsOf PP acc n→R acc.toList { s with heap:=h',toks:=tk }) :
  wpAny (model prog w) A (collect (.ref rr)) R E s:=by
 obtain ⟨lr,ld⟩:=Kd.there _ hok
 unfold collect; refine wpAny_bind (wpAny_runValue (codeAny_builtin entry_proto_collect' ?_)); rw [Around.under_plainId PySem.F.plain_proto_collect _]
 show wpAny _ A.in1 (newList []>>=fun l=>again (.builtin "list.__iadd__" ⟨[l,.ref rr],[]⟩)) _ _ s; refine wpAny_bind (wpAny_newObj_type ?_)
 refine wpAny_pure ⟨plainId_quiet PySem.F.plain_list_iadd _,codeAny_builtin entry_list_iadd' ?_⟩; rw [Around.under_plainId PySem.F.plain_list_iadd _]
 have h0:(s.heap.push { cls:=.type "list",data:=.seq ([]:List Value).toArray }).get? s.heap.objs.size=some { cls:=.type "list",data:=.seq #[] }:=Heap.get?_push_size _ rfl
 show wpAny _ A.in1 (Builtin.List.listExtendWith (.ref s.heap.objs.size) (.ref rr) (.ref s.heap.objs.size)) _ _ _
 have key:=kdl_extend (A:=A) (s:={ s with heap:=s.heap.push { cls:=.type "list",data:=.seq ([]:List Value).toArray } })
  (R:=fun (q:Result) (s':Shared)=>∃ (h':Heap) (tk:Nat) (acc:Array Value) (c:Nat),q=.ok (.ret (.ref s.heap.objs.size))∧s'={ s with heap:=h',toks:=tk }∧(∀ b o,s.heap.get? b=some o→h'.get? b=some o)∧h'.get? s.heap.objs.size=some { cls:=.type "list",dict:=none,data:=.seq acc c,slots:=#[] }∧ItemsOf PP acc n)
  Kd hh (Kd.keep _ _ hok fun b _ o e=>Heap.get?_push_of_some _ e) s.heap.objs.size (Nat.ne_of_gt lr) (Nat.ne_of_gt ld) (.ref s.heap.objs.size) 0 h0
  (fun h' tk acc c hk hS hacc=>⟨h',tk,acc,c,rfl,rfl,fun b o e=>hk b o (Nat.ne_of_lt (Heap.lt_size e)) (Heap.get?_push_of_some _ e),hS,hacc⟩) hn
 refine wpAny_mono key (fun fin s' x=>?_) fun e s' x=>?_
 ·cases fin with
  | done f =>
   obtain ⟨h',tk,acc,c,e,rfl,hk,hS,hacc⟩:=x
   cases e; show wpAny _ A (load s.heap.objs.size>>=_) _ _ _
   exact wpAny_bind (wpAny_load hS (wpAny_pure (hR h' tk acc (Heap.lt_size hS) hk hacc)))
  | again c1 =>
   refine ⟨x.1,codeAny_mono x.2 fun q s2 y=>?_⟩; obtain ⟨h',tk,acc,c,rfl,rfl,hk,hS,hacc⟩:=y
   show wpAny _ A (load s.heap.objs.size>>=_) _ _ _; exact wpAny_bind (wpAny_load hS (wpAny_pure (hR h' tk acc (Heap.lt_size hS) hk hacc)))
 ·obtain ⟨_,_,_,_,e',_⟩:=x; cases e'
end
section
variable {prog:Program}{w:World}{A:Around}{E:Value→Shared→Prop}{s:Shared}{lt:Nat→Nat→Bool}
theorem zk0_ {b:Nat}(hB:RunB b) {v:Value}{n:Nat}{PV:List Value→Prop}{Q:Value→Shared→Prop}(h64:n<b) (wo:WOr lt) (hlen:∀ vs,PV vs→vs.length=n)
  (col:∀ R:List Value→Shared→Prop,(∀ (vs:List Value) (h':Heap) (tk:Nat),PV vs→s.heap.objs.size≤h'.objs.size→(∀ b o,s.heap.get? b=some o→h'.get? b=some o)→R vs { s with heap:=h',toks:=tk })→wpAny (model prog w) A.in1 (collect v) R E s)
  (kk:∀ (vs:List Value),PV vs→2≤vs.length→∀ (h':Heap) (tk:Nat),(∀ b o,s.heap.get? b=some o→h'.get? b=some o)→CmpAt prog w vs lt { s with heap:=h',toks:=tk })
  (q:∀ (vs:List Value) (l:Addr) (h':Heap) (tk:Nat) c (p:List Nat),PV vs→s.heap.objs.size≤l→(∀ b o,s.heap.get? b=some o→h'.get? b=some o)→Srtd lt vs.length p→h'.get? l=some (seqObj "list" (p.map fun i=>vs.getD i Value.none).toArray c)→Q (.ref l) { s with heap:=h',toks:=tk }) :
  wpAny (model prog w) A (call (.builtin "sorted") [v]) Q E s:=by
 have hB1:=hB.1
 refine Calls.call_function_entry kind_sorted plain_sorted entry_sorted (args_sorted1 _) ?_
 unfold Builtin.«sorted»
 refine wpAny_bind (m:=checkCount "sorted" 1 1 _) (wpAny_pure ?_)
 refine wpAny_bind (col _ fun vs h1 tk pv hle k1=>?_)
 have hn:=hlen vs pv
 refine wpAny_bind (wpAny_newList ?_ (by rw [sizeLine_eq]; lia))
 have hoL:(h1.push (seqObj "list" vs.toArray 0)).get? h1.objs.size=some (seqObj "list" vs.toArray 0):=Heap.get?_push_size _ rfl
 have keep:∀ b o,s.heap.get? b=some o→(h1.push (seqObj "list" vs.toArray 0)).get? b=some o:=fun b o e=>Heap.get?_push_of_some _ (k1 b o e)
 show wpAny _ _ _ _ _ { s with heap:=h1.push (seqObj "list" vs.toArray 0),toks:=tk }
 have keep2:∀ (h':Heap),(∀ b o,b≠h1.objs.size→(h1.push (seqObj "list" vs.toArray 0)).get? b=some o→h'.get? b=some o)→∀ b o,s.heap.get? b=some o→h'.get? b=some o:=fun h' hk b o e =>
  hk b o (Nat.ne_of_lt (Heap.lt_size (k1 b o e))) (keep b o e)
 refine wpAny_bind (wpAny_holding (wpAny_call_entry slot_list_sort ⟨_,hoL,rfl⟩ entry_list_sort ?body (args_list_sort _)))
 case body =>
  refine zlS_ hB (s:={ s with heap:=h1.push (seqObj "list" vs.toArray 0),toks:=tk }) hoL (by lia) wo (fun h2 h' hk=>kk vs pv h2 h' tk (keep2 h' hk)) fun h' c p hk hp ho'=>?_
  exact ⟨_,rfl,wpAny_pure ⟨_,rfl,q vs _ h' tk c p pv hle (keep2 h' hk) hp ho'⟩⟩
end
section
variable {X:Cx}
theorem zl7_ {ys:List V}{its:List Value}{lt:Nat→Nat→Bool}{k:Nat}{s:Shared}(r':Vals ys its) (hk:k≠0) (hall:∀ y∈ys,knd y=k) (hlt:∀ i j x y,ys[i]?=some x→ys[j]?=some y→lt i j=ltF x y) (h2:2≤its.length) :
  CmpAt X.prog X.w its lt s:=by
 refine ⟨oneType',fun A C hC=>?_,fun A i j C hi hj hC=>?_⟩
 ·refine kas_kind h2 (T:=tyK k) (fun v hv=>?_) (zpP_ k) (zpb_ k) hC
  obtain ⟨i,hi⟩:=List.mem_iff_getElem?.mp hv
  obtain ⟨hi',_⟩:=List.getElem?_eq_some_iff.mp hi
  obtain ⟨y,_,ry,hy⟩:=zdA_ r' hi'
  rw [List.getD_eq_getElem?_getD,hi] at ry
  exact znw_ ry (hall y hy) hk
 ·obtain ⟨x,ex,rx,hx⟩:=zdA_ r' hi
  obtain ⟨y,ey,ry,hy⟩:=zdA_ r' hj
  rw [hlt i j x y ex ey] at hC
  unfold kas_ask
  rw [keyLt'_oneType]
  exact zoM_ rx ry (by rw [hall x hx,hall y hy]) (by rw [hall x hx]; exact hk) hC
theorem is_kV {P:Program}{w:World}{k:Key}{u:Value}(h:(mixKind P w).is k u=true):RelV (kV k) u:=by
 rw [zjn_] at h
 rcases zY_ h with ⟨i,t,rfl,rfl⟩ | ⟨x,t,rfl,rfl⟩<;>exact ⟨_,rfl⟩
end
section
variable {α β γ κ:Type}{K:Fgg}{E:XK}
theorem zny_ (x:Int) (F:Hp):(kInt).T.R x (kV (kInt.key x)) F:=rfl
end
end L2
namespace L2
open PySem PySem.Spec PyProof.Rows PySem.W
section
variable {prog:Program}{w:World}{A:Around}{E:Value→Shared→Prop}{s:Shared}{z ti to i j:Addr}{f g:List Addr}{n1 n2 k:Nat}{P1 P2:Nat→Value→Prop}{S1 S2:Nat→Heap→Prop}{a b:Value}
end
end L2
namespace L2
open PySem PySem.Spec PyProof.Rows PySem.W
section
variable {prog:Program}{w:World}{A:Around}{E:Value→Shared→Prop}{s:Shared}
end
section
variable {X:Cx}{elts:List Expr}{kk:Nat}{tpos:Pos}
end
section
variable {K:Fgg}{E:XK}{α β:Type}{L:List Sl}{T:Ty α}
end
end L2
namespace L2
open PySem PySem.Spec PyProof.Rows
section
variable {K:Fgg}{E:XK}{α β γ ρ S B:Type}{F0 H0 F h H:Hp}{L:List Sl}{e:TE}{T:Ty α}{r:Mo α}{O:Own ρ}{u:TS}{LS:S→List Sl}{LB:B→List Sl}
theorem Hold.atM:∀ {L:List Sl}{σ:St}{F h:Hp}(i:Nat) {s:Sl},Hold L σ F h→L[i]?=some s →
  ∃ o h1 h2,σ[i]?=some o∧Jn h1 h2 h∧s.P o F h1∧∀ F' s' o' h1' h',Same F F'→Jn h1' h2 h'→s'.P o' F' h1'→Hold (L.set i s') (σ.set i o') F' h'
 | [],_,_,_,_,_,_,e=>by cases e
 | s::L,[],_,_,_,_,q,_=>q.elim
 | s::L,o::σ,F,h,0,t,⟨h1,h2,j,p,r⟩,e=>by
  cases e
  exact ⟨o,h1,h2,rfl,j,p,fun F' s' o' h1' h' g j' p'=>⟨h1',h2,j',p',r.mono g⟩⟩
 | s::L,o::σ,F,h,i+1,t,⟨h1,h2,j,p,r⟩,e=>by
  obtain ⟨o1,k1,k2,e1,j1,p1,f⟩:=Hold.atM i r (by simpa using e)
  have d1:Dj h1 k1:=fun p=>by
   rcases j.dj p with a | a
   ·exact .inl a
   ·exact .inr (j1.l.free a)
  have d2:Dj h1 k2:=fun p=>by
   rcases j.dj p with a | a
   ·exact .inl a
   ·exact .inr (j1.r.free a)
  refine ⟨o1,k1,un h1 k2,by simpa using e1,fun p=>?_,p1,fun F' s' o' k1' h' g j' p'=>?_⟩
  ·rcases j p with ⟨a,b⟩ | ⟨a,b⟩
   ·rcases j1 p with ⟨c,d⟩ | ⟨c,d⟩
    ·refine .inl ⟨c,?_⟩; unfold un; rw [a,b,d]
    ·refine .inr ⟨?_,by rw [b,d]⟩; unfold un; rw [a,c]
   ·refine .inl ⟨j1.l.free a,?_⟩
    have:k2 p=none:=j1.r.free a
    unfold un; rw [b]
    cases h1 p with
    | none=>rw [this]
    | some u=>rfl
  ·have dd:Dj k1' k2:=fun p=>by
    rcases j' p with ⟨a,b⟩ | ⟨a,b⟩
    ·exact .inl a
    ·right; unfold un at a
     cases z:h1 p with
     | none=>rw [z] at a; exact a
     | some u=>rw [z] at a; cases a
   refine ⟨h1,un k1' k2,fun p=>?_,p.mono g,f F' s' o' k1' _ g (zaM_ dd) p'⟩
   rcases j' p with ⟨a,b⟩ | ⟨a,b⟩
   ·unfold un at b ⊢
    cases z:h1 p with
    | none=>rw [z] at b; exact .inl ⟨rfl,by rw [b,a]⟩
    | some u =>
     rw [z] at b
     refine .inr ⟨?_,b⟩
     rw [a]
     rcases d2 p with y | y
     ·rw [y] at z; cases z
     ·exact y
   ·unfold un at a
    cases z:h1 p with
    | some u=>rw [z] at a; cases a
    | none =>
     rw [z] at a
     refine .inl ⟨rfl,?_⟩
     unfold un; rw [b]
     cases k1' p with
     | none=>exact a.symm
     | some u=>rfl
structure PutC (F2 H2 h H0 k k' F3 H3:Hp):Prop where
 ff:Same F2 F3
 fh:Same F3 H3
 ol:Same (less H2 k) H3
 nw:∀ q,F2 q=none→F3 q≠none→H2 q=none∨k q≠none
 kh:Same k' H3
 dj:Dj F3 k'
 fr:∀ q,k q=none→k' q≠none→h q=none∧H0 q=none
theorem zdR_ {O1:Own α}{i:Nat}{σ:St}{x:α}(hL:Hold L σ F h) (hi:L[i]?=some (.ow O1 x)) (ok:Okk F0 H0 F h H) :
  ∃ v k,σ[i]?=some (some v)∧O1.O x v F k∧Same k H∧Same k h∧Dj F k∧∀ {β:Type}(O2:Own β) (x':β) (v':V) (k' F3 H3:Hp),PutC F H h H0 k k' F3 H3→O2.O x' v' F3 k' →
   ∃ h',Hold (L.set i (.ow O2 x')) (σ.set i (some v')) F3 h'∧Okk F0 H0 F3 h' H3:=by
 obtain ⟨o,k,hr,e1,j,⟨v,e2,ho⟩,f⟩:=hL.atM i hi
 subst e2
 obtain ⟨o1,o2,o3,o4,o5⟩:=ok
 have kh:Same k h:=j.l
 have rh:Same hr h:=j.r
 have kne:∀ q,k q≠none→h q≠none:=fun q z w=>z (kh.free w)
 refine ⟨v,k,e1,ho,kh.trans o3,kh,fun q=>?_,?_⟩
 ·rcases o2 q with z | z
  ·exact .inl z
  ·exact .inr (kh.free z)
 intro β O2 x' v' k' F3 H3 P hv'
 have rk:∀ {q o},hr q=some o→k q=none:=fun {q o} z=>by
  rcases j.dj q with y | y
  ·exact y
  ·rw [y] at z; cases z
 have dj:Dj k' hr:=fun q=>by
  by_cases w:k' q=none
  ·exact .inl w
  ·right
   by_cases w2:k q=none
   ·exact rh.free (P.fr q w2 w).1
   ·rcases j.dj q with y | y
    ·exact absurd y w2
    ·exact y
 have rH:∀ {q o},hr q=some o→H3 q=some o:=fun {q o} z=>P.ol q o (by rw [zx_ (rk z)]; exact o3 _ _ (rh _ _ z))
 refine ⟨un k' hr,f F3 (.ow O2 x') (some v') k' _ P.ff (zaM_ dj) ⟨_,rfl,hv'⟩,⟨o1.1.trans P.ff,P.fh,fun q o z=>?_,fun q a b=>?_⟩,fun q=>?_,fun q o z=>?_,fun q z=>?_,fun q xs z=>?_⟩
 ·have hq:h q=none:=by
   cases w:h q with
   | none=>rfl
   | some s=>have:=o4 q (by rw [w]; exact Option.some_ne_none _); rw [this] at z; cases z
  exact P.ol q o (by rw [zx_ (kh.free hq)]; exact o1.2.2.1 _ _ z)
 ·by_cases w:F q=none
  ·rcases P.nw q w b with y | y
   ·exact o1.2.2.1.free y
   ·exact o4 q (kne q y)
  ·exact o1.2.2.2 q a w
 ·unfold un
  cases w:k' q with
  | some s =>
   left
   rcases P.dj q with y | y
   ·exact y
   ·rw [y] at w; cases w
  | none =>
   cases y:hr q with
   | none=>exact .inr rfl
   | some s =>
    left
    have hq:h q=some s:=rh _ _ y
    have Fq:F q=none:=by
     rcases o2 q with d | d
     ·exact d
     ·rw [d] at hq; cases hq
    by_cases w3:F3 q=none
    ·exact w3
    ·rcases P.nw q Fq w3 with d | d
     ·rw [o3 _ _ hq] at d; cases d
     ·exact absurd (rk y) d
 ·unfold un at z
  cases w:k' q with
  | some s=>rw [w] at z; rw [P.kh q s w]; exact z
  | none=>rw [w] at z; exact rH z
 ·unfold un at z
  cases w:k' q with
  | some s =>
   by_cases y:k q=none
   ·exact (P.fr q y (by rw [w]; exact Option.some_ne_none _)).2
   ·exact o4 q (kne q y)
  | none =>
   rw [w] at z
   exact o4 q fun y=>z (rh.free y)
 ·unfold un at z
  cases w:k' q with
  | some s=>rw [w] at z; refine O2.notup hv' q xs ?_; rw [w]; exact z
  | none=>rw [w] at z; exact o5 q xs (rh _ _ z)
theorem PutC.same {k k':Hp}{H3:Hp}(ok:Okk F0 H0 F h H) (kh:Same k h) (a:Same k' H3) (b:∀ q,k q=none→k' q=none→H3 q=H q) (c:∀ q,k q=none→k' q≠none→F q=none∧h q=none∧H0 q=none∧H q=k' q):PutC F H h H0 k k' F H3:=by
 have dj:Dj F k':=fun q=>by
  by_cases w:k' q=none
  ·exact .inr w
  ·left
   by_cases y:k q=none
   ·exact (c q y w).1
   ·rcases ok.2.1 q with d | d
    ·exact d
    ·exact absurd (kh.free d) y
 have ol:∀ q o,k q=none→H q=some o→H3 q=some o:=fun q o y z=>by
  by_cases w:k' q=none
  ·rw [b q y w]; exact z
  ·obtain ⟨_,_,_,e⟩:=c q y w
   rw [z] at e
   exact a _ _ e.symm
 refine ⟨Same.refl _,fun q o z=>?_,fun q o z=>?_,fun q y z=>absurd y z,a,dj,fun q y z=>⟨(c q y z).2.1,(c q y z).2.2.1⟩⟩
 ·have y:k q=none:=by
   rcases ok.2.1 q with d | d
   ·rw [d] at z; cases z
   ·exact kh.free d
  exact ol q o y (ok.1.2.1 _ _ z)
 ·unfold less at z
  split at z
  ·rename_i y; exact ol q o y z
  ·cases z
theorem PutC.one {p:Addr}{o o':HO}(ok:Okk F0 H0 F h H) (kh:Same (one p o) h):PutC F H h H0 (one p o) (one p o') F (upd H p o'):=by
 have ne:∀ q,L2.one p o q=none→q≠p:=fun q z w=>by rw [w,zz_] at z; cases z
 refine PutC.same ok kh (fun q s z=>?_) (fun q z1 z2=>zW_ (ne q z1)) fun q z1 z2=>?_
 ·unfold L2.one at z
  split at z
  ·rename_i w; unfold upd; rw [if_pos w]; exact z
  ·cases z
 ·unfold L2.one at z2
  rw [if_neg (ne q z1)] at z2
  exact absurd rfl z2
theorem zok_ {i:Nat}{xss:List (List α)}{r:Mo (List α)}{k:List α→Mo (Out ρ B S)}(hi:L[i]?=some (.ow (owLL T) xss)) (hT:Imm T) (he:EvO K e E L r (owL T)) (hk:∀ a,EvS K u E (L.set i (.ow (owLL T) (xss++[a]))) (k a) LS LB O) :
  EvS K (tSeq (tDrop (tBM K "list" rAppend (mVar i) (tCons e tNil))) u) E L (r.bind fun a=>.lim (xss.length+1) (k a)) LS LB O:=by
 intro F0 H0 σ F h H D hL ok fin
 obtain ⟨v0,k0,e1,⟨p,vs,m0,rfl,j0,i0⟩,hk0,_,_,_⟩:=zdR_ hL hi ok
 have hp:H p=some (.lst vs):=hk0 _ _ (j0.l _ _ zz_)
 show mVar i σ H fun x H1=>tyV K "list" x H1∧tCons e tNil σ H1 fun xs H2=>rAppend x xs H2 (fun _ H3=>u D σ H3)
 refine za7_ e1 ⟨.inl ⟨rfl,vs,.of hp⟩,?_⟩
 refine he σ (un F h) H _ (hL.froz ok.2.1) ok.thaw (zal_ (G:=F) ok _ (.inl rfl) fin fun a F' H' hra x v hn fresh dj hsn hv=>?_)
 obtain ⟨o,hs,ht⟩:=ok.back x
 rw [hra] at fin
 obtain ⟨hz,fin⟩:=zeF_ (show Fin K (Mo.lim (xss.length+1) (k a)) E LS LB O F0 H0 D from fin)
 obtain ⟨v1,k1,e1',⟨p1,vs1,m1,rfl,j1,i1⟩,hk1,kh1,_,mm⟩:=zdR_ (hL.mono hs) hi o
 rw [e1] at e1'; cases e1'
 have hp1:H' p=some (.lst vs1):=hk1 _ _ (j1.l _ _ zz_)
 have fk:∀ q,hn q≠none→k1 q=none:=fun q z=>kh1.free (ok.2.2.1.free (fresh q z))
 have pn:hn p=none:=by
  cases w:hn p with
  | none=>rfl
  | some s=>have:=fk p (by rw [w]; exact Option.some_ne_none _); rw [j1.l _ _ zz_] at this; cases this
 have mk:∀ q,m1 q≠none→k1 q≠none:=fun q z w=>z (j1.r.free w)
 have dj1:Dj m1 hn:=fun q=>by
  by_cases z:hn q=none
  ·exact .inr z
  ·left
   by_cases w:m1 q=none
   ·exact w
   ·exact absurd (fk q z) (mk q w)
 have pm:m1 p=none:=by
  rcases j1.dj p with z | z
  ·rw [zz_] at z; cases z
  ·exact z
 have djp:Dj (one p (.lst (vs1++[v]))) (un m1 hn):=fun q=>by
  by_cases z:q=p
  ·right; unfold un; rw [z,pm,pn]
  ·left; unfold one; rw [if_neg z]
 have hin:(owLL T).O (xss++[a]) (.ref p) (less F' h) (un (one p (.lst (vs1++[v]))) (un m1 hn)):=⟨p,vs1++[v],un m1 hn,rfl,zaM_ djp,i1.snoc (zA_ hT ht hv) (zaM_ dj1)⟩
 have kp:∀ q,k1 q=none→q≠p:=fun q z w=>by rw [w,j1.l _ _ zz_] at z; cases z
 have PC:PutC (less F' h) H' h H0 k1 (un (one p (.lst (vs1++[v]))) (un m1 hn)) (less F' h) (upd H' p (.lst (vs1++[v]))):=by
  refine PutC.same o kh1 (fun q o z=>?_) (fun q z1 z2=>zW_ (kp q z1)) fun q z1 z2=>?_
  ·unfold un one at z
   by_cases w:q=p
   ·rw [if_pos w] at z; unfold upd; rw [if_pos w]; exact z
   ·rw [if_neg w] at z
    unfold upd; rw [if_neg w]
    cases y:m1 q with
    | some s=>rw [y] at z; rw [← z]; exact hk1 _ _ (j1.r _ _ y)
    | none=>rw [y] at z; exact hsn _ _ z
  ·have m0':m1 q=none:=j1.r.free z1
   have eu:un (one p (.lst (vs1++[v]))) (un m1 hn) q=hn q:=by unfold un one; rw [if_neg (kp q z1),m0']
   rw [eu] at z2 ⊢
   have fr:=fresh q z2
   refine ⟨?_,ok.2.2.1.free fr,ok.1.2.2.1.free fr,?_⟩
   ·unfold less
    cases y:h q with
    | some s=>rfl
    | none =>
     rcases dj q with d | d
     ·exact d
     ·exact absurd d z2
   ·cases y:hn q with
    | none=>exact absurd y z2
    | some s=>exact hsn _ _ y
 obtain ⟨h',a1,a2⟩:=mm (owLL T) (xss++[a]) (.ref p) _ _ _ PC hin
 rw [zZ_ e1] at a1
 refine ⟨p,vs1,v,rfl,rfl,hp1,?_,hk a F0 H0 σ _ h' _ D a1 a2 fin⟩
 rw [← i1.len]; lia
end
section
variable {K:Fgg}{E:XK}{α β γ ρ S B:Type}{F0 H0 F h H:Hp}{L:List Sl}{e:TE}{T:Ty α}{r:Mo α}{O:Own ρ}{u:TS}{LS:S→List Sl}{LB:B→List Sl}{p:Addr}{vs:List V}
end
end L2
namespace L2
open PySem PySem.Spec PyProof.Rows
section
variable {α β γ:Type}
def OwAll (O:Own α) (F:Hp):List α→List V→Hp→Prop
 | [],[],h=>∀ p,h p=none
 | x::xs,v::vs,h=>∃ h1 h2,Jn h1 h2 h∧O.O x v F h1∧OwAll O F xs vs h2
 | _,_,_=>False
variable {O:Own α}
theorem OwAll.mono:∀ {xs:List α}{vs:List V}{F F' h:Hp},Same F F'→OwAll O F xs vs h→OwAll O F' xs vs h
 | [],[],_,_,_,_,q=>q
 | x::xs,v::vs,F,F',h,g,⟨h1,h2,j,o,r⟩=>⟨h1,h2,j,O.mono g o,r.mono g⟩
 | [],_::_,_,_,_,_,q=>q.elim
 | _::_,[],_,_,_,_,q=>q.elim
theorem OwAll.imm (i:ImmO O):∀ {xs:List α}{vs:List V}{F F' h:Hp},Tups F F'→OwAll O F xs vs h→OwAll O F' xs vs h
 | [],[],_,_,_,_,q=>q
 | x::xs,v::vs,F,F',h,g,⟨h1,h2,j,o,r⟩=>⟨h1,h2,j,i g o,r.imm i g⟩
 | [],_::_,_,_,_,_,q=>q.elim
 | _::_,[],_,_,_,_,q=>q.elim
theorem OwAll.notup:∀ {xs:List α}{vs:List V}{F h:Hp},OwAll O F xs vs h→∀ p ys,h p≠some (.tup ys)
 | [],[],_,_,q,p,ys=>by rw [q p]; exact fun z=>by cases z
 | x::xs,v::vs,F,h,⟨h1,h2,j,o,r⟩,p,ys=>by
  rcases j p with ⟨_,b⟩ | ⟨_,b⟩
  ·rw [b]; exact r.notup p ys
  ·rw [b]; exact O.notup o p ys
 | [],_::_,_,_,q,_,_=>q.elim
 | _::_,[],_,_,q,_,_=>q.elim
theorem OwAll.len:∀ {xs:List α}{vs:List V}{F h:Hp},OwAll O F xs vs h→xs.length=vs.length
 | [],[],_,_,_=>rfl
 | x::xs,v::vs,F,h,⟨h1,h2,j,o,r⟩=>by rw [List.length_cons,List.length_cons,r.len]
 | [],_::_,_,_,q=>q.elim
 | _::_,[],_,_,q=>q.elim
theorem zdp_ {F h1 h:Hp}(d:Dj F h) (s:Same h1 h):Same (un F h1) (un F h):=fun p o e=>by
 unfold un at e ⊢
 cases z:F p with
 | some w=>rw [z] at e; exact e
 | none=>rw [z] at e; exact s _ _ e
theorem OwAll.prs:∀ {xs:List α}{vs:List V}{F h G:Hp},Dj F h→Same (un F h) G→OwAll O F xs vs h→Prs O.fr G xs vs
 | [],[],_,_,_,_,_,_=>.nil
 | x::xs,v::vs,F,h,G,d,g,⟨h1,h2,j,o,r⟩=>by
  have d1:Dj F h1:=fun p=>by
   rcases d p with z | z
   ·exact .inl z
   ·exact .inr (j.l.free z)
  have d2:Dj F h2:=fun p=>by
   rcases d p with z | z
   ·exact .inl z
   ·exact .inr (j.r.free z)
  exact .cons (O.fr.mono ((zdp_ d j.l).trans g) (O.frz d1 o)) (r.prs d2 ((zdp_ d j.r).trans g))
 | [],_::_,_,_,_,_,_,q=>q.elim
 | _::_,[],_,_,_,_,_,q=>q.elim
theorem zfB_ {h1 h2 h:Hp}(j:Jn h1 h2 h):Jn h2 h1 h:=fun p=>by
 rcases j p with ⟨a,b⟩ | ⟨a,b⟩
 ·exact .inr ⟨a,b⟩
 ·exact .inl ⟨a,b⟩
theorem za9_ {h1 h2 h12 h3 h:Hp}(j:Jn h1 h2 h12) (k:Jn h12 h3 h):∃ h23,Jn h2 h3 h23∧Jn h1 h23 h:=by
 have d:Dj h2 h3:=fun p=>by
  rcases k.dj p with z | z
  ·exact .inl (j.r.free z)
  ·exact .inr z
 refine ⟨un h2 h3,zaM_ d,fun p=>?_⟩
 unfold un
 rcases k p with ⟨a,b⟩ | ⟨a,b⟩
 ·refine .inl ⟨j.l.free a,?_⟩
  rw [j.r.free a]; exact b
 ·rcases j p with ⟨c,e⟩ | ⟨c,e⟩
  ·refine .inl ⟨c,?_⟩
   rw [b,e]
   cases z:h2 p with
   | none=>exact a.symm ▸ rfl
   | some w=>rfl
  ·refine .inr ⟨?_,by rw [b,e]⟩
   rw [c]; exact a
theorem OwAll.at:∀ {xs:List α}{vs:List V}{F h:Hp}(i:Nat) {x:α},OwAll O F xs vs h→xs[i]?=some x →
  ∃ v h1 h2,vs[i]?=some v∧Jn h1 h2 h∧O.O x v F h1∧∀ x' h1' h' F3,Same F F3→O.O x' v F3 h1'→Jn h1' h2 h'→OwAll O F3 (xs.set i x') vs h'
 | [],_,_,_,_,_,_,e=>by cases e
 | x::xs,[],_,_,_,_,q,_=>q.elim
 | x::xs,v::vs,F,h,0,y,⟨h1,h2,j,o,r⟩,e=>by
  cases e
  exact ⟨v,h1,h2,rfl,j,o,fun x' h1' h' F3 g o' j'=>⟨h1',h2,j',o',r.mono g⟩⟩
 | x::xs,v::vs,F,h,i+1,y,⟨h1,h2,j,o,r⟩,e=>by
  obtain ⟨w,k1,k2,e1,j1,o1,f⟩:=OwAll.at i r (by simpa using e)
  obtain ⟨m,jm,jh⟩:=za9_ j1 (zfB_ j)
  refine ⟨w,k1,m,by simpa using e1,jh,o1,fun x' k1' h' F3 g o' j'=>?_⟩
  have d:Dj k1' k2:=fun p=>by
   rcases j'.dj p with z | z
   ·exact .inl z
   ·exact .inr (jm.l.free z)
  refine ⟨h1,un k1' k2,?_,O.mono g o,f x' k1' _ F3 g o' (zaM_ d)⟩
  intro p
  rcases j' p with ⟨a,b⟩ | ⟨a,b⟩
  ·rcases jm p with ⟨c,e⟩ | ⟨c,e⟩
   ·right
    refine ⟨by unfold un; rw [a,c],by rw [b,e]⟩
   ·left
    refine ⟨c,by unfold un; rw [a,b,e]⟩
  ·left
   refine ⟨jm.r.free a,?_⟩
   unfold un
   rw [b]
   cases z:k1' p with
   | none=>exact (jm.l.free a).symm ▸ rfl
   | some w=>rfl
theorem OwAll.snoc:∀ {xs:List α}{vs:List V}{F h:Hp}{x:α}{v:V}{hn:Hp},OwAll O F xs vs h→O.O x v F hn→Dj h hn→OwAll O F (xs++[x]) (vs++[v]) (un h hn)
 | [],[],F,h,x,v,hn,q,o,d=>by
  refine ⟨hn,fun _=>none,fun p=>.inr ⟨rfl,?_⟩,o,fun _=>rfl⟩
  unfold un; rw [q p]
 | y::xs,w::vs,F,h,x,v,hn,⟨h1,h2,j,o1,r⟩,o,d=>by
  obtain ⟨m,jm,jh⟩:=za9_ j (zaM_ d)
  have d2:Dj h2 hn:=jm.dj
  have e:m=un h2 hn:=by
   funext p
   unfold un
   rcases jm p with ⟨a,b⟩ | ⟨a,b⟩
   ·rw [a]; exact b
   ·rw [b]
    cases z:h2 p with
    | none=>exact a.symm ▸ rfl
    | some w=>rfl
  rw [e] at jh
  exact ⟨h1,_,jh,o1,r.snoc o d2⟩
 | [],_::_,_,_,_,_,_,q,_,_=>q.elim
 | _::_,[],_,_,_,_,_,q,_,_=>q.elim
abbrev owLO (O:Own α):Own (List α):=⟨fun xs v F h=>∃ p vs h2,v=.ref p∧Jn (one p (.lst vs)) h2 h∧OwAll O F xs vs h2,tyL O.fr,fun g ⟨p,vs,h2,e,j,q⟩=>⟨p,vs,h2,e,j,q.mono g⟩,
 fun {a v F h} d ⟨p,vs,h2,e,j,q⟩=>⟨p,vs,e,zdy_ d _ _ (j.l _ _ zz_),q.prs (fun b=>by
  rcases d b with z | z
  ·exact .inl z
  ·exact .inr (j.r.free z)) (zdp_ d j.r)⟩,
 fun ⟨p,vs,h2,e,j,q⟩ b xs y=>by
  rcases j b with ⟨_,z⟩ | ⟨_,z⟩
  ·rw [z] at y; exact q.notup b xs y
  ·rw [z] at y; unfold one at y; split at y<;>cases y⟩
theorem z2_ (i:ImmO O):ImmO (owLO O):=fun g ⟨p,vs,h2,e,j,q⟩=>⟨p,vs,h2,e,j,q.imm i g⟩
end
section
variable {K:Fgg}{E:XK}{α β γ ρ S B:Type}{F0 H0 F h H:Hp}{L:List Sl}{e te ei:TE}{T:Ty α}{r:Mo α}{Or:Own ρ}{u:TS}{LS:S→List Sl}{LB:B→List Sl}{σ:St}
def Foc (F0 H0:Hp) (σ:St) (h F1:Hp) (O':Own β) (y:β) (u:V) (LF:β→List Sl):Prop :=
 ∀ F2 H2,Same F1 F2→Okk F0 H0 F2 h H2→∃ k,O'.O y u F2 k∧Same k h ∧
  ∀ y' k' F3 H3,PutC F2 H2 h H0 k k' F3 H3→O'.O y' u F3 k'→∃ h',Hold (LF y') σ F3 h'∧Okk F0 H0 F3 h' H3
theorem zim_ {O:Own α}{x:α}{i:Nat}(hL:Hold L σ F h) (hi:L[i]?=some (.ow O x)):∃ v,σ[i]?=some (some v)∧Foc F0 H0 σ h F O x v (fun x'=>L.set i (.ow O x')):=by
 obtain ⟨o,_,_,e1,_,⟨v,e2,_⟩,_⟩:=hL.at i hi
 subst e2
 refine ⟨v,e1,fun F2 H2 s ok=>?_⟩
 obtain ⟨v',k,e1',ho,_,kh,_,g⟩:=zdR_ (hL.mono s) hi ok
 rw [e1] at e1'; cases e1'
 refine ⟨k,ho,kh,fun y' k' F3 H3 a b=>?_⟩
 obtain ⟨h',a1,a2⟩:=g O y' v k' F3 H3 a b
 rw [zZ_ e1] at a1
 exact ⟨h',a1,a2⟩
theorem Foc.part {O:Own α}{O':Own β}{F1:Hp}{y:α}{z:β}{w u:V}{LF:α→List Sl}{put:β→α}(f:Foc F0 H0 σ h F1 O y u LF)
  (pt:∀ F2 k,Same F1 F2→Same k h→O.O y u F2 k→∃ k1 k2,Jn k1 k2 k∧O'.O z w F2 k1∧∀ z' k1' k' F3,Same F2 F3→O'.O z' w F3 k1'→Jn k1' k2 k'→O.O (put z') u F3 k'):Foc F0 H0 σ h F1 O' z w (fun z'=>LF (put z')):=by
 intro F2 H2 s ok
 obtain ⟨k,ho,kh,g⟩:=f F2 H2 s ok
 obtain ⟨k1,k2,j,ho',pp⟩:=pt F2 k s kh ho
 refine ⟨k1,ho',j.l.trans kh,fun z' k1' F3 H3 P hz=>?_⟩
 have d:Dj k1' k2:=fun q=>by
  by_cases w1:k1' q=none
  ·exact .inl w1
  ·right
   by_cases w2:k1 q=none
   ·exact (j.r.trans kh).free (P.fr q w2 w1).1
   ·rcases j.dj q with y | y
    ·exact absurd y w2
    ·exact y
 have k2h:∀ {q o},k2 q=some o→k1 q=none∧H3 q=some o:=fun {q o} e=>by
  have y1:k1 q=none:=by
   rcases j.dj q with y1 | y1
   ·exact y1
   ·rw [y1] at e; cases e
  exact ⟨y1,P.ol q o (by rw [zx_ y1]; exact ok.2.2.1 _ _ (kh _ _ (j.r _ _ e)))⟩
 refine g (put z') (un k1' k2) F3 H3 ⟨P.ff,P.fh,fun q o e=>?_,(fun q a b=>(P.nw q a b).imp id fun z w=>z (j.l.free w)),fun q o e=>?_,fun q=>?_,fun q a1 a2=>?_⟩ (pp z' k1' _ F3 P.ff hz (zaM_ d))
 ·unfold less at e
  split at e
  ·rename_i y; exact P.ol q o (by rw [zx_ (j.l.free y)]; exact e)
  ·cases e
 ·unfold un at e
  cases y:k1' q with
  | some s=>rw [y] at e; rw [P.kh q s y]; exact e
  | none=>rw [y] at e; exact (k2h e).2
 ·unfold un
  cases y:k1' q with
  | some s =>
   rcases P.dj q with d | d
   ·exact .inl d
   ·rw [d] at y; cases y
  | none =>
   cases e:k2 q with
   | none=>exact .inr rfl
   | some s =>
    left
    have hq:h q=some s:=kh _ _ (j.r _ _ e)
    have Fq:F2 q=none:=by
     rcases ok.2.1 q with d | d
     ·exact d
     ·rw [d] at hq; cases hq
    by_cases w3:F3 q=none
    ·exact w3
    ·rcases P.nw q Fq w3 with d | d
     ·rw [ok.2.2.1 _ _ hq] at d; cases d
     ·exact absurd (k2h e).1 d
 ·unfold un at a2
  have y2:k2 q=none:=j.r.free a1
  have y:k1' q≠none:=fun y=>by rw [y] at a2; exact a2 y2
  exact P.fr q (j.l.free a1) y
def EvPt (K:Fgg) (te:TE) (E:XK) (L:List Sl) (i:Nat) (O:Own α) (O':Own β) (r:Mo (β×(β→α))):Prop :=
 ∀ F0 H0 σ F h H (Q:VK),Hold L σ F h→Okk F0 H0 F h H→After K r E (un F h) H (fun yp G1 H1=>∀ u,Foc F0 H0 σ h (less G1 h) O' yp.1 u (fun z=>L.set i (.ow O (yp.2 z)))→Q u H1)→te σ H Q
theorem zbU_ {O:Own α}{x:α}{i:Nat}(hi:L[i]?=some (.ow O x)):EvPt K (mVar i) E L i O O (.ok (x,fun z=>z)):=by
 intro F0 H0 σ F h H Q hL ok q
 obtain ⟨o,hs,_⟩:=ok.back (Ext.refl ok.thaw)
 obtain ⟨v,ev,fc⟩:=zim_ (F0:=F0) (H0:=H0) (hL.mono hs) hi
 exact za7_ ev (q.ok ok.thaw v fc)
theorem zjR_ {O:Own β}{p:Addr}{xs:List β}{n:Nat}{y:β}{vs:List V}{w:V}(hv:h p=some (.lst vs)) (hw:vs[n]?=some w) (e:xs[n]?=some y) :
  ∀ F2 k,Same k h→(owLO O).O xs (.ref p) F2 k→∃ k1 k2,Jn k1 k2 k∧O.O y w F2 k1∧∀ y' k1' k' F3,Same F2 F3→O.O y' w F3 k1'→Jn k1' k2 k'→(owLO O).O (xs.set n y') (.ref p) F3 k':=by
 rintro F2 k kh ⟨p',vs',k2,ep,j,all⟩
 cases ep
 have ev:vs'=vs:=by
  have:=kh _ _ (j.l _ _ zz_)
  rw [hv] at this
  injection this with this
  injection this with this
  exact this.symm
 subst ev
 obtain ⟨w',a1,a2,e1,j1,o1,f⟩:=all.at n e
 rw [hw] at e1; cases e1
 obtain ⟨m,jm,jk⟩:=za9_ j1 (zfB_ j)
 refine ⟨a1,m,jk,o1,fun y' k1' k' F3 g o' j'=>?_⟩
 have d:Dj k1' a2:=fun q=>by
  rcases j'.dj q with z | z
  ·exact .inl z
  ·exact .inr (jm.l.free z)
 refine ⟨p,vs',un k1' a2,rfl,?_,f y' k1' _ F3 g o' (zaM_ d)⟩
 intro q
 rcases j' q with ⟨a,b⟩ | ⟨a,b⟩
 ·rcases jm q with ⟨c,e⟩ | ⟨c,e⟩
  ·right
   refine ⟨by unfold un; rw [a,c],by rw [b,e]⟩
  ·left
   refine ⟨c,by unfold un; rw [a,b,e]⟩
 ·left
  refine ⟨jm.r.free a,?_⟩
  unfold un
  rw [b]
  cases z:k1' q with
  | none=>exact (jm.l.free a).symm ▸ rfl
  | some w=>rfl
theorem ze4_ {G1 G2 h:Hp}(s:Same G1 G2):Same (less G1 h) (less G2 h):=fun p o e=>by
 unfold less at e ⊢
 split at e
 ·exact s _ _ e
 ·cases e
theorem zkp_ {O:Own β}{i:Nat}{r0:Mo (List α×(List α→β))}{k:β→Mo (Out ρ B S)}(hp:EvPt K te E L i O (owL T) r0) (hT:Imm T) (he:EvF K e E L r T) (hk:∀ x',EvS K u E (L.set i (.ow O x')) (k x') LS LB Or) :
  EvS K (tSeq (tDrop (tBM K "list" rAppend te (tCons e tNil))) u) E L (r0.bind fun yp=>r.bind fun a=>.lim (yp.1.length+1) (k (yp.2 (yp.1++[a])))) LS LB Or:=by
 intro F0 H0 σ F h H D hL ok fin
 show te σ H fun x H1=>tyV K "list" x H1∧tCons e tNil σ H1 fun xs H2=>rAppend x xs H2 (fun _ H3=>u D σ H3)
 refine hp F0 H0 σ F h H _ hL ok (zal_ (G:=F) ok _ (.inl rfl) fin fun yp G1 H1 hr0 x1 u0 fc=>?_)
 obtain ⟨o1,hs1,_⟩:=ok.back x1
 rw [hr0] at fin
 obtain ⟨k0,⟨p,vs,rfl,rfl,_⟩,kh,_⟩:=fc _ H1 (Same.refl _) o1
 have hp0:h p=some (.lst vs):=kh _ _ zz_
 refine ⟨.inl ⟨rfl,vs,.of (o1.2.2.1 _ _ hp0)⟩,?_⟩
 refine he σ (un (less G1 h) h) H1 _ ((hL.mono hs1).froz o1.2.1) o1.thaw (zal_ (G:=F) o1 _ (.inl rfl) fin fun a G2 H2 hra x2 v hv=>?_)
 obtain ⟨o2,hs2,ht2⟩:=o1.back x2
 rw [hra] at fin
 obtain ⟨hz,fin⟩:=zeF_ (show Fin K (Mo.lim (yp.1.length+1) (k (yp.2 (yp.1++[a])))) E LS LB Or F0 H0 D from fin)
 obtain ⟨k1,⟨p',vs',e',rfl,pr⟩,kh',g⟩:=fc _ H2 hs2 o2
 cases e'
 have ev:vs'=vs:=by
  have:=kh' _ _ zz_
  rw [hp0] at this
  injection this with this
  injection this with this
  exact this.symm
 subst ev
 obtain ⟨h',a1,a2⟩:=g (yp.1++[a]) (one p (.lst (vs'++[v]))) _ (upd H2 p (.lst (vs'++[v]))) (PutC.one o2 kh') ⟨p,_,rfl,rfl,pr.append (.cons (hT ht2 hv) .nil)⟩
 exact ⟨p,vs',v,rfl,rfl,o2.2.2.1 _ _ hp0,by rw [← pr.len]; lia,hk _ F0 H0 σ _ h' _ D a1 a2 fin⟩
end
end L2
namespace L2
open PySem PySem.Spec PyProof.Rows
def mFld (C:Addr) (te:TE) (f:Str):TE:=fun σ H Q=>te σ H fun x H1=>match x with
 | .ref a=>∃ dx fs v,H1 a=some (.ins C dx fs)∧fs.lookup f=some v∧Q v H1
 | _=>False
def mSFld (C:Addr) (te tv:TE) (f:Str):TS:=fun D σ H=>tv σ H fun y H1=>te σ H1 fun x H2=>match x with
 | .ref a=>∃ dx fs,H2 a=some (.ins C dx fs)∧fs.length<1000∧D.nx σ (upd H2 a (.ins C dx (putF f y fs)))
 | _=>False
def Gm (P:Program) (w:World) (K:Fgg) (mg:Str→Option Value) (base:Heap) (CX:CXT) (k:Nat) (C:Addr) (m:Str) (ps:List Str) (sp:Sp):Prop :=
 ∃ f fd,FnOk P w K mg base CX k f fd ps sp∧Cls K C∧Meth K C m f∧Binds K fd ps []
def Gk (P:Program) (w:World) (K:Fgg) (mg:Str→Option Value) (base:Heap) (CX:CXT) (k:Nat) (x:Str) (C:Addr) (ps:List Str) (sp:Sp):Prop :=
 ∃ f fd,FnOk P w K mg base CX k f fd ps sp∧Mk K C f∧mg x=some (.ref C)∧Binds K fd ps []
section
variable {X:Cx}{e value o:Expr}{es:List Expr}{f m x:Str}{p pos pos' apos:Pos}{ta tv:TE}{t:TA}{C:Addr}{k:Nat}{ps:List Str}{sp:Sp}
theorem zX_ (c:Cls X.K C) (n:NoAttr X.K C f) (he:PE X e ta) (hb:attributeBase e f X.env (eval e X.env)=eval e X.env:=by rfl):PE X (.Attribute e f pos) (mFld C ta f):=by
 intro pins s σ H Q I h
 refine zof_ hb (thn (he pins s σ H _ I h) fun u s1 hq_=>?_)
 obtain ⟨x,H1,I1,rx,q1⟩:=hq_
 cases x with
 | ref a =>
  obtain ⟨dx,fs,v,ea,l,q⟩:=q1
  obtain rfl:u=Value.ref a:=rx
  exact zjz_ I1 ea c n l fun u' s2 I2 ru=>⟨v,H1,I2,ru,q⟩
 | _=>exact q1.elim
theorem zaQ_ (c:Cls X.K C) (n:NoAttr X.K C f) (ha:PE X o ta) (hv:PE X value tv) (hs:swapsWith value (some (.Attribute o f pos')) pos.line X.env=pure false:=by rfl):PS X (.Assign [.Attribute o f pos'] value pos) (mSFld C ta tv f):=by
 intro pins s σ H D I h
 refine plainObj_wpAny_Assign_Attribute (thn (hv pins s σ H _ I h) fun u s1 ⟨y,H1,I1,ry,q⟩=>thn (ha pins s1 σ H1 _ I1 q) fun ov s2 hq_=>?_) hs
 obtain ⟨x,H2,I2,rx,q2⟩:=hq_
 cases x with
 | ref a =>
  obtain ⟨dx,fs,ea,l,q3⟩:=q2
  obtain rfl:ov=Value.ref a:=rx
  exact zjs_ I2 ea c n l ry fun s3 I3=>⟨σ,_,I3,q3⟩
 | _=>exact q2.elim
theorem za8_ {pl:Sem Bool}(G:Gm X.prog X.w X.K X.mg X.base CX0 k C m ps sp) (hr:Room k X.A) (he:PE X o ta) (ha:PA X (e::es) t)
  (hst:starEach (e::es) X.env=(false,eval e X.env)::starEach es X.env:=by rfl) (hpl:(backTo pos (starEach es X.env)).any (·.1)=false:=by rfl)
  (ht:eval (.Call (.Attribute o m apos) (e::es) [] pos) X.env=(do
   let ov ← eval o X.env
   standAt apos.atName
   let (f,first) ← holding [ov] (getMethod ov m pl)
   callWith pos f first (backTo pos (starEach (e::es) X.env)) (backToKw pos (keywordEach [] X.env))):=by rfl) :
  PE X (.Call (.Attribute o m apos) (e::es) [] pos) (tMeth C m sp [] E0 ta t):=by
 obtain ⟨f,fd,F,c,hm,hb⟩:=G
 exact znh_ he c hm F hr hb .nil pass0 ha hst hpl ht
theorem zbw_ {pl:Sem Bool}(G:Gm X.prog X.w X.K X.mg X.base CX0 k C m ps sp) (hr:Room k X.A) (he:PE X o ta)
  (ht:eval (.Call (.Attribute o m apos) [] [] pos) X.env=(do
   let ov ← eval o X.env
   standAt apos.atName
   let (f,first) ← holding [ov] (getMethod ov m pl)
   callWith pos f first (backTo pos (starEach [] X.env)) (backToKw pos (keywordEach [] X.env))):=by rfl) :
  PE X (.Call (.Attribute o m apos) [] [] pos) (tMeth C m sp [] E0 ta tNil):=by
 obtain ⟨f,fd,F,c,hm,hb⟩:=G
 exact zmH_ he c hm F hr hb .nil pass0 ht
theorem ziK_ (G:Gk X.prog X.w X.K X.mg X.base CX0 k x C ps sp) (hr:Room (k+1) X.A) (ha:PA X (e::es) t) (hg:Gl X x:=by rfl) (hdb:(x == ("__debug__" : Str))=false:=by decide)
  (he:starEach (e::es) X.env=(false,eval e X.env)::starEach es X.env:=by rfl) (hpl:(backTo pos (starEach es X.env)).any (·.1)=false:=by rfl) :
  PE X (.Call (.Name x p) (e::es) [] pos) (tMake C sp [] E0 t):=by
 obtain ⟨f,fd,F,M,hm,hb⟩:=G
 exact znU_ M F hr hg hm hb .nil pass0 ha hdb he hpl
end
theorem zcJ_:∀ {ns:List Str}{vs:List V}{i:Nat}{f:Str}{v:V},ns.Nodup→ns[i]?=some f→vs[i]?=some v→(ns.zip vs).lookup f=some v
 | [],_,_,_,_,_,h,_=>by simp at h
 | n::ns,[],_,_,_,_,_,h=>by simp at h
 | n::ns,w::vs,0,f,v,_,h,h'=>by
  simp at h h'; subst h h'
  rw [List.zip_cons_cons,List.lookup_cons,beq_self_eq_true]
 | n::ns,w::vs,i+1,f,v,nd,h,h'=>by
  obtain ⟨h1,h2⟩:=List.nodup_cons.mp nd
  have hf:ns[i]?=some f:=by simpa using h
  have hne:(f == n)=false:=beq_eq_false_iff_ne.mpr fun z=>h1 (z ▸ List.mem_of_getElem? hf)
  rw [List.zip_cons_cons,List.lookup_cons,hne]
  exact zcJ_ h2 hf (by simpa using h')
theorem zar_:∀ {ns:List Str}{vs:List V}{f:Str},f∉ns→(ns.zip vs).lookup f=none
 | [],_,_,_=>rfl
 | n::ns,[],_,_=>rfl
 | n::ns,w::vs,f,h=>by
  have hne:(f == n)=false:=beq_eq_false_iff_ne.mpr fun z=>h (z ▸ List.mem_cons_self ..)
  rw [List.zip_cons_cons,List.lookup_cons,hne]
  exact zar_ fun z=>h (List.mem_cons_of_mem _ z)
theorem zjO_:∀ {ns:List Str}{vs:List V}{i:Nat}{f:Str}(v:V),ns.Nodup→ns[i]?=some f→i<vs.length→putF f v (ns.zip vs)=ns.zip (vs.set i v)
 | [],_,_,_,_,_,h,_=>by simp at h
 | n::ns,[],_,_,_,_,_,h=>by simp at h
 | n::ns,w::vs,0,f,v,_,h,_=>by
  simp at h; subst h
  rw [List.zip_cons_cons,putF,if_pos rfl]; rfl
 | n::ns,w::vs,i+1,f,v,nd,h,h'=>by
  obtain ⟨h1,h2⟩:=List.nodup_cons.mp nd
  have hf:ns[i]?=some f:=by simpa using h
  have hne:¬ n=f:=fun z=>h1 (z ▸ List.mem_of_getElem? hf)
  rw [List.zip_cons_cons,putF,if_neg hne,zjO_ v h2 hf (by simpa using h')]; rfl
theorem zgA_:∀ {ns:List Str}{vs:List V}{f:Str}(v:V),f∉ns→vs.length=ns.length→putF f v (ns.zip vs)=(ns++[f]).zip (vs++[v])
 | [],[],f,v,_,_=>rfl
 | [],_::_,_,_,_,h=>by simp at h
 | _::_,[],_,_,_,h=>by simp at h
 | n::ns,w::vs,f,v,h,hl=>by
  have hne:¬ n=f:=fun z=>h (z ▸ List.mem_cons_self ..)
  rw [List.zip_cons_cons,putF,if_neg hne,zgA_ v (fun z=>h (List.mem_cons_of_mem _ z)) (by simpa using hl)]; rfl
theorem zlt_:∀ {ns:List Str}{vs us:List V},vs.length=ns.length→us.length=ns.length→ns.zip vs=ns.zip us→vs=us
 | [],[],[],_,_,_=>rfl
 | n::ns,v::vs,u::us,h1,h2,e=>by
  rw [List.zip_cons_cons,List.zip_cons_cons] at e
  injection e with e1 e2
  injection e1 with _ e1
  rw [e1,zlt_ (by simpa using h1) (by simpa using h2) e2]
 | [],_::_,_,h,_,_=>by simp at h
 | [],[],_::_,_,h,_=>by simp at h
 | _::_,[],_,h,_,_=>by simp at h
 | _::_,_::_,[],_,h,_=>by simp at h
structure Ps (γ:Type) where
 P:γ→List V→Hp→Hp→Prop
 fr:Cs γ
 mono:∀ {c vs F F' h},Same F F'→P c vs F h→P c vs F' h
 frz:∀ {c vs F h},Dj F h→P c vs F h→fr.R c vs (un F h)
 notup:∀ {c vs F h},P c vs F h→∀ p xs,h p≠some (.tup xs)
section
variable {α β γ:Type}
theorem dj_l {F h1 h2 h:Hp}(d:Dj F h) (j:Jn h1 h2 h):Dj F h1:=fun p=>by
 rcases d p with z | z
 ·exact .inl z
 ·exact .inr (j.l.free z)
theorem dj_r {F h1 h2 h:Hp}(d:Dj F h) (j:Jn h1 h2 h):Dj F h2:=fun p=>by
 rcases d p with z | z
 ·exact .inl z
 ·exact .inr (j.r.free z)
abbrev psNil:Ps Unit:=⟨fun _ vs _ h=>vs=[]∧∀ p,h p=none,csNil,fun _ q=>q,fun _ q=>q.1,fun q p xs z=>by rw [q.2 p] at z; cases z⟩
abbrev psO (O:Own α) (P:Ps γ):Ps (α×γ):=⟨fun c vs F h=>∃ v us h1 h2,vs=v::us∧Jn h1 h2 h∧O.O c.1 v F h1∧P.P c.2 us F h2,csCons O.fr P.fr,
 fun g ⟨v,us,h1,h2,e,j,a,b⟩=>⟨v,us,h1,h2,e,j,O.mono g a,P.mono g b⟩,
 fun d ⟨v,us,h1,h2,e,j,a,b⟩=>⟨v,us,e,O.fr.mono (zdp_ d j.l) (O.frz (dj_l d j) a),P.fr.mono (zdp_ d j.r) (P.frz (dj_r d j) b)⟩,
 fun ⟨v,us,h1,h2,e,j,a,b⟩ p xs z=>by
  rcases j p with ⟨_,y⟩ | ⟨_,y⟩
  ·rw [y] at z; exact P.notup b p xs z
  ·rw [y] at z; exact O.notup a p xs z⟩
def two (p dx:Addr) (o:HO):Hp:=fun q=>if q=p then some o else if q=dx then some (.own p) else none
theorem zh0_ {p dx:Addr}{o:HO}:two p dx o p=some o:=if_pos rfl
theorem zmQ_ {p dx:Addr}{o:HO}(h:dx≠p):two p dx o dx=some (.own p):=by unfold two; rw [if_neg h,if_pos rfl]
theorem znn_ {p dx q:Addr}{o:HO}(h:two p dx o q=none):q≠p∧q≠dx:=by
 refine ⟨fun e=>?_,fun e=>?_⟩
 ·rw [e,zh0_] at h; cases h
 ·unfold two at h; split at h
  ·cases h
  ·first | cases h | (rw [if_pos e] at h; cases h)
abbrev tyI (C:Addr) (ns:List Str) (Q:Cs γ):Ty γ:=⟨fun c v H=>∃ p dx vs,v=.ref p∧H p=some (.ins C dx (ns.zip vs))∧vs.length=ns.length∧Q.R c vs H,fun g ⟨p,dx,vs,e,h,l,q⟩=>⟨p,dx,vs,e,g _ _ h,l,Q.mono g q⟩⟩
abbrev owI (C:Addr) (ns:List Str) (P:Ps γ):Own γ:=⟨fun c v F h=>∃ p dx vs k,v=.ref p∧dx≠p∧Jn (two p dx (.ins C dx (ns.zip vs))) k h∧vs.length=ns.length∧P.P c vs F k,tyI C ns P.fr,
 fun g ⟨p,dx,vs,k,e,n,j,l,q⟩=>⟨p,dx,vs,k,e,n,j,l,P.mono g q⟩,
 fun d ⟨p,dx,vs,k,e,n,j,l,q⟩=>⟨p,dx,vs,e,zdy_ d _ _ (j.l _ _ zh0_),l,P.fr.mono (zdp_ d j.r) (P.frz (dj_r d j) q)⟩,
 fun ⟨p,dx,vs,k,e,n,j,l,q⟩ b xs y=>by
  rcases j b with ⟨_,z⟩ | ⟨_,z⟩
  ·rw [z] at y; exact P.notup q b xs y
  ·rw [z] at y; unfold two at y; split at y
   ·cases y
   ·split at y<;>cases y⟩
abbrev owAt (u:V) (O:Own α):Own α:=⟨fun a v F h=>v=u∧O.O a v F h,O.fr,fun g q=>⟨q.1,O.mono g q.2⟩,fun d q=>O.frz d q.2,fun q=>O.notup q.2⟩
def PsAt (P:Ps γ) (n:Nat) (O:Own β) (pr:γ→β) (st:γ→β→γ):Prop:=∀ {c vs F h},P.P c vs F h→∃ v h1 h2,vs[n]?=some v∧Jn h1 h2 h∧O.O (pr c) v F h1∧∀ z' h1' h' F3,Same F F3→O.O z' v F3 h1'→Jn h1' h2 h'→P.P (st c z') vs F3 h'
theorem zpI_ {O:Own β}{P:Ps γ}:PsAt (psO O P) 0 O (fun c=>c.1) (fun c z=>(z,c.2)):=fun ⟨v,us,h1,h2,e,j,a,b⟩=>by
 subst e
 exact ⟨v,h1,h2,rfl,j,a,fun z' h1' h' F3 g o' j'=>⟨v,us,h1',h2,rfl,j',o',P.mono g b⟩⟩
theorem zoT_ {b t m a h:Hp}(jm:Jn b t m) (j:Jn a m h):Jn t (un a b) h:=fun q=>by
 rcases j q with ⟨x,y⟩ | ⟨x,y⟩
 ·rcases jm q with ⟨c,e⟩ | ⟨c,e⟩
  ·right
   refine ⟨by unfold un; rw [x,c],by rw [y,e]⟩
  ·left
   refine ⟨c,by unfold un; rw [x,y,e]⟩
 ·left
  refine ⟨jm.r.free x,?_⟩
  unfold un
  rw [y]
  cases z:a q with
  | none=>exact (jm.l.free x).symm ▸ rfl
  | some w=>rfl
theorem zoV_ {a b t m h:Hp}(jm:Jn b t m) (j:Jn a m h):Dj a b:=fun q=>by
 rcases j.dj q with z | z
 ·exact .inl z
 ·exact .inr (jm.l.free z)
theorem ziT_ {O:Own α}{O':Own β}{P:Ps γ}{n:Nat}{pr:γ→β}{st:γ→β→γ}(h:PsAt P n O' pr st):PsAt (psO O P) (n+1) O' (fun c=>pr c.2) (fun c z=>(c.1,st c.2 z)):=fun ⟨v,us,h1,h2,e,j,a,b⟩=>by
 subst e
 obtain ⟨w,k1,k2,e1,j1,o1,f⟩:=h b
 obtain ⟨m,jm,jh⟩:=za9_ j1 (zfB_ j)
 refine ⟨w,k1,m,by simpa using e1,jh,o1,fun z' k1' h' F3 g o' j'=>?_⟩
 exact ⟨v,us,h1,un k1' k2,rfl,zoT_ jm j',O.mono g a,f z' k1' _ F3 g o' (zaM_ (zoV_ jm j'))⟩
def PsPut (P:Ps γ) (n:Nat) (O:Own β) (st:γ→β→γ):Prop:=∀ {c vs F h},P.P c vs F h→n<vs.length∧∃ h2,Same h2 h∧∀ z' v' h1' h' F3,Same F F3→O.O z' v' F3 h1'→Jn h1' h2 h'→P.P (st c z') (vs.set n v') F3 h'
theorem zjT_ {O:Own β}{P:Ps γ}:PsPut (psO O P) 0 O (fun c z=>(z,c.2)):=fun ⟨v,us,h1,h2,e,j,a,b⟩=>by
 subst e
 exact ⟨by simp,h2,j.r,fun z' v' h1' h' F3 g o' j'=>⟨v',us,h1',h2,rfl,j',o',P.mono g b⟩⟩
theorem zcV_ {O:Own α}{O':Own β}{P:Ps γ}{n:Nat}{st:γ→β→γ}(h:PsPut P n O' st):PsPut (psO O P) (n+1) O' (fun c z=>(c.1,st c.2 z)):=fun ⟨v,us,h1,h2,e,j,a,b⟩=>by
 subst e
 obtain ⟨hn,k2,ks,f⟩:=h b
 have d:Dj k2 h1:=fun q=>by
  rcases j.dj q with z | z
  ·exact .inr z
  ·exact .inl (ks.free z)
 refine ⟨by simpa using hn,un k2 h1,fun q o z=>?_,fun z' v' k1' h' F3 g o' j'=>?_⟩
 ·unfold un at z
  cases y:k2 q with
  | some w=>rw [y] at z; rw [← z]; exact j.r _ _ (ks _ _ y)
  | none=>rw [y] at z; exact j.l _ _ z
 ·exact ⟨v,us.set n v',h1,un k1' k2,rfl,zoT_ (zaM_ d) j',O.mono g a,f z' v' k1' _ F3 g o' (zaM_ (zoV_ (zaM_ d) j'))⟩
def PsAdd (P:Ps γ) (O:Own β) {δ:Type}(P':Ps δ) (ad:γ→β→δ):Prop:=∀ {c vs F h},P.P c vs F h→∀ z v' h1' h' F3,Same F F3→O.O z v' F3 h1'→Jn h1' h h'→P'.P (ad c z) (vs++[v']) F3 h'
theorem zeu_ {O:Own β}:PsAdd psNil O (psO O psNil) (fun _ z=>(z,())):=fun q z v' h1' h' F3 g o' j'=>by
 rw [q.1]
 exact ⟨v',[],h1',_,rfl,j',o',rfl,q.2⟩
theorem zba_ {O:Own α}{O':Own β}{P:Ps γ}{δ:Type}{P':Ps δ}{ad:γ→β→δ}(h:PsAdd P O' P' ad):PsAdd (psO O P) O' (psO O P') (fun c z=>(c.1,ad c.2 z)):=fun ⟨v,us,h1,h2,e,j,a,b⟩ z v' k1' h' F3 g o' j'=>by
 subst e
 have jm:Jn h2 h1 _:=zfB_ j
 exact ⟨v,us++[v'],h1,un k1' h2,rfl,zoT_ jm j',O.mono g a,h b z v' k1' _ F3 g o' (zaM_ (zoV_ jm j'))⟩
end
section
variable {K:Fgg}{E:XK}{α β γ δ ρ S B:Type}{F0 H0 F h H:Hp}{L:List Sl}{e te ei:TE}{T:Ty α}{r:Mo α}{Or:Own ρ}{u:TS}{LS:S→List Sl}{LB:B→List Sl}{σ:St}{C:Addr}{ns:List Str}{f:Str}{i n:Nat}
theorem za0_ {Q:Cs γ}{pr:γ→α}{r:Mo γ}(nd:ns.Nodup) (hf:ns[n]?=some f) (ha:CsAt Q n T pr) (he:EvF K te E L r (tyI C ns Q)):EvF K (mFld C te f) E L (r.bind fun c=>.ok (pr c)) T:=by
 intro σ F H R hL hs q
 refine he σ F H _ hL hs (q.bind.imp fun c F1 H1 x1 k1 v hq_=>?_)
 obtain ⟨p,dx,vs,e,hp,hl,hc⟩:=hq_
 subst e
 obtain ⟨w,ew,rw'⟩:=ha hc
 exact ⟨dx,_,w,x1.2.1 _ _ hp,zcJ_ nd hf ew,k1.ok x1.2.1 w rw'⟩
theorem zdX_ {O:Own α}{O':Own β}{w:V}{r:Mo (β×(β→α))}(hp:EvPt K te E L i O (owAt w O') r):EvPt K te E L i O O' r:=by
 intro F0 H0 σ F h H Q hL ok q
 refine hp F0 H0 σ F h H _ hL ok (q.imp fun yp G1 H1 x1 k1 u fc=>k1 u fun F2 H2 s o2=>?_)
 obtain ⟨k,⟨e,ho⟩,kh,g⟩:=fc F2 H2 s o2
 exact ⟨k,ho,kh,fun y' k' F3 H3 P hy=>g y' k' F3 H3 P ⟨e,hy⟩⟩
theorem znT_ {P:Ps γ}{O':Own β}{pr:γ→β}{st:γ→β→γ}{p dx:Addr}{vs:List V}{w:V}{c:γ}(pa:PsAt P n O' pr st) (hv:h p=some (.ins C dx (ns.zip vs))) (hl:vs.length=ns.length) (hw:vs[n]?=some w) :
  ∀ F2 k,Same k h→(owI C ns P).O c (.ref p) F2 k→∃ k1 k2,Jn k1 k2 k∧O'.O (pr c) w F2 k1∧∀ y' k1' k' F3,Same F2 F3→O'.O y' w F3 k1'→Jn k1' k2 k'→(owI C ns P).O (st c y') (.ref p) F3 k':=by
 rintro F2 k kh ⟨p',dx',vs',m,ep,ndx,j,hl',ps⟩
 cases ep
 have ev:=kh _ _ (j.l _ _ zh0_)
 rw [hv] at ev
 injection ev with ev
 injection ev with _ e1 e2
 subst e1
 have ev:=zlt_ hl hl' e2
 subst ev
 obtain ⟨w',a1,a2,e3,j1,o1,g⟩:=pa ps
 rw [hw] at e3; cases e3
 obtain ⟨mm,jm,jk⟩:=za9_ j1 (zfB_ j)
 refine ⟨a1,mm,jk,o1,fun y' k1' k' F3 s o' j'=>?_⟩
 exact ⟨p,dx,vs,un k1' a2,rfl,ndx,zoT_ jm j',hl,g y' k1' _ F3 s o' (zaM_ (zoV_ jm j'))⟩
theorem zob_ {O:Own α}{P:Ps γ}{O':Own β}{pr:γ→β}{st:γ→β→γ}{r:Mo (γ×(γ→α))}(nd:ns.Nodup) (hf:ns[n]?=some f) (pa:PsAt P n O' pr st) (hp:EvPt K te E L i O (owI C ns P) r) :
  EvPt K (mFld C te f) E L i O O' (r.bind fun yp=>.ok (pr yp.1,fun z'=>yp.2 (st yp.1 z'))):=by
 intro F0 H0 σ F h H Q hL ok q
 refine hp F0 H0 σ F h H _ hL ok (q.bind.imp fun yp G1 H1 x1 k1 u fc=>?_)
 obtain ⟨o1,_,_⟩:=ok.back x1
 obtain ⟨k,⟨p,dx,vs,m,rfl,ndx,jn,hl,ps⟩,kh,_⟩:=fc _ H1 (Same.refl _) o1
 have hp1:h p=some (.ins C dx (ns.zip vs)):=kh _ _ (jn.l _ _ zh0_)
 obtain ⟨w,_,_,ew,_⟩:=pa ps
 refine ⟨dx,_,w,o1.2.2.1 _ _ hp1,zcJ_ nd hf ew,?_⟩
 exact k1.ok x1.2.1 w (Foc.part (put:=st yp.1) (LF:=fun y'=>L.set i (.ow O (yp.2 y'))) fc fun F2 k s kh ho=>znT_ pa hp1 hl ew F2 k kh ho)
theorem zin_ {p dx:Addr}{o o':HO}{m h2 hn:Hp}{k:Hp}(ok:Okk F0 H0 F h H) (kh:Same k h) (ndx:dx≠p) (jn:Jn (two p dx o) m k) (h2m:Same h2 m) (fresh:∀ q,hn q≠none→F q=none∧h q=none∧H0 q=none) (hs:Same hn H) (dn:Dj hn h2) :
  Jn (two p dx o') (un hn h2) (un (two p dx o') (un hn h2))∧PutC F H h H0 k (un (two p dx o') (un hn h2)) F (upd H p o'):=by
 have hnk:∀ q,hn q≠none→k q=none:=fun q z=>kh.free (fresh q z).2.1
 have kp:k p=some o:=jn.l _ _ zh0_
 have kdx:k dx=some (.own p):=jn.l _ _ (zmQ_ ndx)
 have m0:∀ q,two p dx o q≠none→m q=none:=fun q z=>by
  rcases jn.dj q with y | y
  ·exact absurd y z
  ·exact y
 have two_ne:∀ {o:HO}{q},two p dx o q≠none→q=p∨q=dx:=fun {o q} z=>by
  by_cases a:q=p
  ·exact .inl a
  ·by_cases b:q=dx
   ·exact .inr b
   ·exact absurd (by unfold two; rw [if_neg a,if_neg b]) z
 have dj:Dj (two p dx o') (un hn h2):=fun q=>by
  by_cases z:two p dx o' q=none
  ·exact .inl z
  ·right
   have kq:k q≠none:=by
    rcases two_ne z with e | e
    ·rw [e,kp]; exact Option.some_ne_none _
    ·rw [e,kdx]; exact Option.some_ne_none _
   have hq:hn q=none:=by
    by_cases y:hn q=none
    ·exact y
    ·exact absurd (hnk q y) kq
   have mq:m q=none:=m0 q (by
    rcases two_ne z with e | e
    ·rw [e,zh0_]; exact Option.some_ne_none _
    ·rw [e,zmQ_ ndx]; exact Option.some_ne_none _)
   unfold un; rw [hq]; exact h2m.free mq
 refine ⟨zaM_ dj,PutC.same ok kh (fun q s z=>?_) (fun q z1 z2=>zW_ fun e=>?_) fun q z1 z2=>?_⟩
 ·unfold un at z
  cases y:two p dx o' q with
  | some w =>
   rw [y] at z
   by_cases e:q=p
   ·rw [e,zh0_] at y; rw [e,zai_,y]; exact z
   ·rw [zW_ e]
    have e2:q=dx:=by
     rcases two_ne (o:=o') (q:=q) (by rw [y]; exact Option.some_ne_none _) with a | a
     ·exact absurd a e
     ·exact a
    rw [e2,zmQ_ ndx] at y
    rw [← z,← y,e2]; exact ok.2.2.1 _ _ (kh _ _ kdx)
  | none =>
   rw [y] at z
   have e:=(znn_ y).1
   rw [zW_ e]
   cases x:hn q with
   | some w=>rw [x] at z; rw [← z]; exact hs _ _ x
   | none=>rw [x] at z; exact ok.2.2.1 _ _ (kh _ _ (jn.r _ _ (h2m _ _ z)))
 ·rw [e,kp] at z1; cases z1
 ·have e1:two p dx o' q=none:=by
   by_cases y:two p dx o' q=none
   ·exact y
   ·rcases two_ne y with e | e
    ·rw [e,kp] at z1; cases z1
    ·rw [e,kdx] at z1; cases z1
  have e2:h2 q=none:=h2m.free (jn.r.free z1)
  have eu:un (two p dx o') (un hn h2) q=hn q:=by
   unfold un; rw [e1]
   cases x:hn q with
   | some w=>rfl
   | none=>exact e2
  rw [eu] at z2 ⊢
  obtain ⟨a,b,c⟩:=fresh q z2
  refine ⟨a,b,c,?_⟩
  cases x:hn q with
  | none=>exact absurd x z2
  | some w=>exact hs _ _ x
theorem zph_ {O:Own β}{P:Ps γ}{st:γ→α→γ}{r0:Mo (γ×(γ→β))}{k:β→Mo (Out ρ B S)}(nd:ns.Nodup) (hf:ns[n]?=some f) (hsm:ns.length<1000) (pp:PsPut P n (owF T) st) (hT:Imm T) (he:EvF K e E L r T) (hp:EvPt K te E L i O (owI C ns P) r0) (hk:∀ x',EvS K u E (L.set i (.ow O x')) (k x') LS LB Or) :
  EvS K (tSeq (mSFld C te e f) u) E L (r.bind fun a=>r0.bind fun yp=>k (yp.2 (st yp.1 a))) LS LB Or:=by
 intro F0 H0 σ F h H D hL ok fin
 refine he σ (un F h) H _ (hL.froz ok.2.1) ok.thaw (zal_ (G:=F) ok _ (.inl rfl) fin fun a F' H' hra x v hv=>?_)
 obtain ⟨o,hs,ht⟩:=ok.back x
 rw [hra] at fin
 refine hp F0 H0 σ (less F' h) h H' _ (hL.mono hs) o (zal_ (G:=F) o _ (.inl rfl) fin fun yp G1 H1 hr0 x1 u0 fc=>?_)
 obtain ⟨o1,hs1,_⟩:=o.back x1
 rw [hr0] at fin
 obtain ⟨k0,⟨p,dx,vs,m,rfl,ndx,jn,hl,ps⟩,kh,g⟩:=fc _ H1 (Same.refl _) o1
 obtain ⟨hn,h2,h2m,pf⟩:=pp ps
 have hp1:H1 p=some (.ins C dx (ns.zip vs)):=o1.2.2.1 _ _ (kh _ _ (jn.l _ _ zh0_))
 refine ⟨dx,_,hp1,by rw [List.length_zip]; omega,?_⟩
 rw [zjO_ v nd hf hn]
 have nul:∀ q,(fun _:Addr=>(none:Option HO)) q≠none→less G1 h q=none∧h q=none∧H0 q=none:=fun q z=>absurd rfl z
 obtain ⟨j',P'⟩:=zin_ (o':=.ins C dx (ns.zip (vs.set n v))) (hn:=fun _=>none) o1 kh ndx jn h2m nul (fun q o z=>by cases z) (fun q=>.inl rfl)
 have eu:un (fun _=>none) h2=h2:=by funext q; rfl
 rw [eu] at j' P'
 obtain ⟨h',a1,a2⟩:=g (st yp.1 a) _ _ _ P' ⟨p,dx,vs.set n v,h2,rfl,ndx,j',by rw [List.length_set]; exact hl,pf a v (fun _=>none) h2 _ (Same.refl _) ⟨fun _=>rfl,T.mono hs1 (hT ht hv)⟩ (fun q=>.inl ⟨rfl,rfl⟩)⟩
 exact hk _ F0 H0 σ _ h' _ D a1 a2 fin
theorem zp2_ {P:Ps γ}{P':Ps δ}{ad:γ→α→δ}{x:γ}{w:V}{k:δ→Mo (Out ρ B S)}(hi:L[i]?=some (.ow (owAt w (owI C ns P)) x)) (hf:f∉ns) (hsm:ns.length<900) (pp:PsAdd P (owF T) P' ad) (hT:Imm T) (he:EvF K e E L r T) (hk:∀ x',EvS K u E (L.set i (.ow (owAt w (owI C (ns++[f]) P')) x')) (k x') LS LB Or) :
  EvS K (tSeq (mSFld C (mVar i) e f) u) E L (r.bind fun a=>k (ad x a)) LS LB Or:=by
 intro F0 H0 σ F h H D hL ok fin
 refine he σ (un F h) H _ (hL.froz ok.2.1) ok.thaw (zal_ (G:=F) ok _ (.inl rfl) fin fun a F' H' hra x1 v hv=>?_)
 obtain ⟨o,hs,ht⟩:=ok.back x1
 rw [hra] at fin
 obtain ⟨v0,k0,e1,⟨ew,p,dx,vs,m,rfl,ndx,jn,hl,ps⟩,kH,kh,_,g⟩:=zdR_ (hL.mono hs) hi o
 have hp1:H' p=some (.ins C dx (ns.zip vs)):=kH _ _ (jn.l _ _ zh0_)
 refine za7_ e1 ⟨dx,_,hp1,by rw [List.length_zip]; omega,?_⟩
 rw [zgA_ v hf hl]
 have nul:∀ q,(fun _:Addr=>(none:Option HO)) q≠none→less F' h q=none∧h q=none∧H0 q=none:=fun q z=>absurd rfl z
 obtain ⟨j',PC⟩:=zin_ (o':=.ins C dx ((ns++[f]).zip (vs++[v]))) (hn:=fun _=>none) o kh ndx jn (Same.refl m) nul (fun q o z=>by cases z) (fun q=>.inl rfl)
 have eu:un (fun _=>none) m=m:=by funext q; rfl
 rw [eu] at j' PC
 obtain ⟨h',a1,a2⟩:=g (owAt w (owI C (ns++[f]) P')) (ad x a) (.ref p) _ _ _ PC ⟨ew,p,dx,vs++[v],m,rfl,ndx,j',by rw [List.length_append,List.length_append,hl]; rfl,pp ps a v (fun _=>none) m _ (Same.refl _) ⟨fun _=>rfl,hT ht hv⟩ (fun q=>.inl ⟨rfl,rfl⟩)⟩
 rw [zZ_ e1] at a1
 exact hk _ F0 H0 σ _ h' _ D a1 a2 fin
end
end L2
namespace L2
open PySem PySem.Spec PyProof.Rows
section
variable {K:Fgg}{E:XK}{α β γ δ ρ ρ' S B:Type}{F0 H0 F h H:Hp}{L:List Sl}{e te ei:TE}{T:Ty α}{r:Mo α}{Or:Own ρ}{t u:TS}{LS:S→List Sl}{LB:B→List Sl}{σ:St}{C:Addr}{ns:List Str}{f m:Str}{i n:Nat}
def FinM (K:Fgg) (r:Mo ρ) (E:XK) (F0 H0:Hp) (kk:ρ→Hp→Hp→Hp→Prop):Prop:=match r with
 | .ok a=>∀ F h H,Okk F0 H0 F h H→kk a F h H
 | .ex c=>∀ F h H,Okk F0 H0 F h H→Tell K E c H0 F H
 | .no=>False
abbrev owRM (w:V) (O2:Own β) (Or:Own ρ):Own (ρ×β):=⟨fun r v F h=>∃ h1 h2,Jn h1 h2 h∧Or.O r.1 v F h1∧O2.O r.2 w F h2,⟨fun r v H=>Or.fr.R r.1 v H,fun g q=>Or.fr.mono g q⟩,
 fun g ⟨h1,h2,j,a,b⟩=>⟨h1,h2,j,Or.mono g a,O2.mono g b⟩,
 fun d ⟨h1,h2,j,a,b⟩=>Or.fr.mono (zdp_ d j.l) (Or.frz (dj_l d j) a),
 fun ⟨h1,h2,j,a,b⟩ p xs z=>by
  rcases j p with ⟨_,y⟩ | ⟨_,y⟩
  ·rw [y] at z; exact O2.notup b p xs z
  ·rw [y] at z; exact Or.notup a p xs z⟩
def CtM (K:Fgg) (O:Own α) (O2:Own β) (Q:Cs γ) (g:α→γ→Mo (ρ×β)) (Or:Own ρ):Sp:=fun vs H R E=>∃ F h x c w ws,vs=w::ws∧Same F H∧Dj F h∧Same h H∧O.O x w F h∧Q.R c ws F ∧
 FinM K (g x c) E F (less H h) fun r F' h' H'=>∀ v,(owRM w O2 Or).O r v F' h'→R v H'
theorem zbA_ {k:Hp}(ok:Okk F0 H0 F h H) (s:Same k h):Okk F0 H0 F k H:=by
 refine ⟨ok.1,fun p=>?_,s.trans ok.2.2.1,fun p z=>ok.2.2.2.1 p fun y=>z (s.free y),fun p xs z=>ok.2.2.2.2 p xs (s _ _ z)⟩
 rcases ok.2.1 p with z | z
 ·exact .inl z
 ·exact .inr (s.free z)
theorem zD_ {h:Hp}(p:Addr) (z:h p≠none):less H h p=none:=by
 unfold less
 cases y:h p with
 | none=>exact absurd y z
 | some w=>rfl
theorem zaA_:Same (less H h) H:=fun p o z=>by
 unfold less at z
 split at z
 ·exact z
 ·cases z
theorem zgO_ (hs:Same F H) (dj:Dj F h) (hh:Same h H) (nt:∀ p xs,h p≠some (.tup xs)):Okk F (less H h) F h H:=by
 refine ⟨⟨Same.refl _,hs,zaA_,fun p a b=>absurd a b⟩,dj,hh,fun p z=>zD_ p z,nt⟩
def fnMU (r:Mo (Out (Unit×β) Unit β)):Mo (Unit×β):=r.bind fun o=>match o with | .rt a=>.ok a | .nx x=>.ok ((),x) | _=>.no
def fnMR (r:Mo (Out (ρ×β) Unit Unit)):Mo (ρ×β):=r.bind fun o=>match o with | .rt a=>.ok a | _=>.no
theorem zfr_ {O:Own α}{Q:Cs γ}{ss:γ→List Sl}{x:α}{c:γ}{w:V}{ws:List V}(m:Nat) (hC:CsS Q ss) (hO:O.O x w F h) (hc:Q.R c ws F):Hold (.ow (owAt w O) x::(ss c++List.replicate m .dead)) (some w::(ws.map some++List.replicate m none)) F h :=
 ⟨h,fun _=>none,fun _=>.inr ⟨rfl,rfl⟩,⟨w,rfl,rfl,hO⟩,(hC hc).hold m⟩
theorem znm_ {t:XK→TS}{O:Own α}{O2:Own β}{Q:Cs γ}{ss:γ→List Sl}{g:α→γ→Mo (Out (Unit×β) Unit β)}{N:List Str}{LS:V→β→List Sl}(n m:Nat) (hn:CsN Q n) (hm:N.length-(n+1)=m) (hC:CsS Q ss) (hLS:∀ w x,(LS w x)[0]?=some (.ow (owAt w O2) x))
  (hb:∀ w x c E,EvS K (t E) E (.ow (owAt w O) x::(ss c++List.replicate m .dead)) (g x c) (LS w) (fun _:Unit=>[]) (owRM w O2 (owF tyNon))) :
  ∀ vs H R E,CtM K O O2 Q (fun x c=>fnMU (g x c)) (owF tyNon) vs H R E→t E { nx:=fun _ H'=>R .non H',rt:=R } (start N vs) H:=by
 rintro vs H R E ⟨F,h,x,c,w,ws,rfl,hs,dj,hh,hO,hc,q⟩
 have hstart:start N (w::ws)=some w::(ws.map some++List.replicate m none):=by
  unfold start
  rw [List.length_cons,hn hc,hm]; rfl
 rw [hstart]
 refine hb w x c E F (less H h) _ F h H _ (zfr_ m hC hO hc) (zgO_ hs dj hh (O.notup hO)) ?_
 cases e:g x c with
 | no=>simp only [fnMU,e] at q; exact q
 | ex cc=>simp only [fnMU,e] at q; exact q
 | ok o =>
  simp only [fnMU,e] at q
  cases o with
  | nx s =>
   intro σ F' h' H' hL ok
   obtain ⟨o,k,hr,e1,j,⟨v,e2,e3,ho⟩,_⟩:=hL.at 0 (hLS w s)
   subst e3
   exact q F' k H' (zbA_ ok j.l) .non ⟨fun _=>none,k,fun _=>.inl ⟨rfl,rfl⟩,⟨fun _=>rfl,rfl⟩,ho⟩
  | bk s=>exact q.elim
  | ct s=>exact q.elim
  | rt a=>exact fun v F' h' H' ok hv=>q F' h' H' ok v hv
theorem zoC_ {t:XK→TS}{O:Own α}{O2:Own β}{Q:Cs γ}{ss:γ→List Sl}{g:α→γ→Mo (Out (ρ×β) Unit Unit)}{N:List Str}(n m:Nat) (hn:CsN Q n) (hm:N.length-(n+1)=m) (hC:CsS Q ss)
  (hb:∀ w x c E,EvS K (t E) E (.ow (owAt w O) x::(ss c++List.replicate m .dead)) (g x c) (fun _:Unit=>[]) (fun _:Unit=>[]) (owRM w O2 Or)) :
  ∀ vs H R E,CtM K O O2 Q (fun x c=>fnMR (g x c)) Or vs H R E→t E { nx:=fun _ H'=>R .non H',rt:=R } (start N vs) H:=by
 rintro vs H R E ⟨F,h,x,c,w,ws,rfl,hs,dj,hh,hO,hc,q⟩
 have hstart:start N (w::ws)=some w::(ws.map some++List.replicate m none):=by
  unfold start
  rw [List.length_cons,hn hc,hm]; rfl
 rw [hstart]
 refine hb w x c E F (less H h) _ F h H _ (zfr_ m hC hO hc) (zgO_ hs dj hh (O.notup hO)) ?_
 cases e:g x c with
 | no=>simp only [fnMR,e] at q; exact q
 | ex cc=>simp only [fnMR,e] at q; exact q
 | ok o =>
  simp only [fnMR,e] at q
  cases o with
  | nx s=>exact q.elim
  | bk s=>exact q.elim
  | ct s=>exact q.elim
  | rt a=>exact fun v F' h' H' ok hv=>q F' h' H' ok v hv
theorem zkJ_ {O2:Own β}{x:β}{w:V}(h0:L[i]?=some (.ow (owAt w O2) x)) (hT:Imm T) (he:EvF K e E L r T):EvS K (tRet e) E L (r.bind fun a=>.ok (.rt (a,x))) LS LB (owRM w O2 (owF T)):=by
 intro F0 H0 σ F h H D hL ok fin
 refine he σ (un F h) H _ (hL.froz ok.2.1) ok.thaw (zal_ (G:=F) ok _ (.inl rfl) fin fun a F' H' hr x1 v hv=>?_)
 obtain ⟨o,hs,ht⟩:=ok.back x1
 rw [hr] at fin
 obtain ⟨_,k,_,_,j,⟨v',_,e3,ho⟩,_⟩:=(hL.mono hs).at i h0
 subst e3
 exact fin v _ k H' (zbA_ o j.l) ⟨fun _=>none,k,fun _=>.inl ⟨rfl,rfl⟩,⟨fun _=>rfl,hT ht hv⟩,ho⟩
theorem zlB_ {O:Own α}{P:Ps β}{r0:Mo (β×(β→α))}{Q:Cs γ}{ta:TA}{ra:Mo γ}{g:β→γ→Mo (ρ'×β)}{Or':Own ρ'}{k:α→Mo (Out ρ B S)}(hno:m∉ns) (hI:ImmO (owI C ns P)) (hp:EvPt K te E L i O (owI C ns P) r0) (hC:ImmC Q) (ha:EvA K ta E L ra Q)
  (hk:∀ x',EvS K u E (L.set i (.ow O x')) (k x') LS LB Or) :
  EvS K (tSeq (tDrop (tMeth C m (CtM K (owI C ns P) (owI C ns P) Q g Or') [] E0 te ta)) u) E L (r0.bind fun yp=>ra.bind fun c=>(g yp.1 c).noex.bind fun q=>k (yp.2 q.2)) LS LB Or:=by
 intro F0 H0 σ F h H D hL ok fin
 show te σ H fun x H1=>∃ a dx fs,x=.ref a∧H1 a=some (.ins C dx fs)∧fs.lookup m=none∧ta σ H1 fun vs H2=>CtM K (owI C ns P) (owI C ns P) Q g Or' (x::(vs++[])) H2 (fun _ H3=>u D σ H3) E0
 refine hp F0 H0 σ F h H _ hL ok (zal_ (G:=F) ok _ (.inl rfl) fin fun yp G1 H1 hr0 x1 u0 fc=>?_)
 obtain ⟨o1,hs1,_⟩:=ok.back x1
 rw [hr0] at fin
 obtain ⟨k0,⟨p,dx,vs0,m0,rfl,ndx,jn,hl,ps⟩,kh,_⟩:=fc _ H1 (Same.refl _) o1
 refine ⟨p,dx,_,rfl,o1.2.2.1 _ _ (kh _ _ (jn.l _ _ zh0_)),zar_ hno,?_⟩
 refine ha σ (un (less G1 h) h) H1 _ ((hL.mono hs1).froz o1.2.1) o1.thaw (zal_ (G:=F) o1 _ (.inl rfl) fin fun c G2 H2 hra x2 vs hvs=>?_)
 obtain ⟨o2,hs2,ht2⟩:=o1.back x2
 rw [hra] at fin
 rw [List.append_nil]
 obtain ⟨k1,hO,kh1,gg⟩:=fc _ H2 hs2 o2
 have dFc:∀ q,less h k1 q≠none→k1 q=none:=fun q z=>by
  cases y:k1 q with
  | none=>rfl
  | some s=>exact absurd (zD_ (H:=h) q (by rw [y]; exact Option.some_ne_none _)) z
 have sFc:Same (un (less G2 h) (less h k1)) H2:=fun q o z=>by
  unfold un at z
  cases y:less G2 h q with
  | some s=>rw [y] at z; rw [← z]; exact o2.1.2.1 _ _ y
  | none=>rw [y] at z; exact o2.2.2.1 _ _ (zaA_ _ _ z)
 have djc:Dj (un (less G2 h) (less h k1)) k1:=fun q=>by
  by_cases z:k1 q=none
  ·exact .inr z
  ·left
   unfold un
   have:less G2 h q=none:=zD_ q fun y=>z (kh1.free y)
   rw [this]; exact zD_ q z
 refine ⟨un (less G2 h) (less h k1),k1,yp.1,c,.ref p,vs,rfl,sFc,djc,kh1.trans o2.2.2.1,(owI C ns P).mono zak_ hO,Q.mono zak_ (hC ht2 hvs),?_⟩
 have fin:Fin K ((g yp.1 c).noex.bind fun q=>k (yp.2 q.2)) E LS LB Or F0 H0 D:=fin
 cases e:g yp.1 c with
 | no=>rw [e] at fin; exact fin
 | ex cc=>rw [e] at fin; exact fin.elim
 | ok q =>
  rw [e] at fin
  rintro F' h' H' okc v ⟨hr,hs',j,_,hO2⟩
  have lo:∀ q',less h k1 q'≠none→h q'≠none:=fun q' z y=>z (by unfold less; split; exact y; rfl)
  have tp:Tups F' (less F' (less h k1)):=fun b xs z=>by
   cases y:less h k1 b with
   | none=>rw [zx_ y]; exact z
   | some s =>
    exfalso
    have y2:un (less G2 h) (less h k1) b=some s:=by
     unfold un
     have:less G2 h b=none:=zD_ b (lo b (by rw [y]; exact Option.some_ne_none _))
     rw [this]; exact y
    have:=okc.1.1 _ _ y2
    rw [z] at this
    injection this with this
    exact o2.2.2.2.2 b xs (by rw [this]; exact zaA_ _ _ y)
  have PC:PutC (less G2 h) H2 h H0 k1 hs' (less F' (less h k1)) H':=by
   refine ⟨fun b o z=>?_,fun b o z=>okc.1.2.1 _ _ (zaA_ _ _ z),okc.1.2.2.1,fun b a1 a2=>?_,j.r.trans okc.2.2.1,fun b=>?_,fun b a1 a2=>?_⟩
   ·have hb:h b=none:=by
     cases y:h b with
     | none=>rfl
     | some s=>rw [zD_ b (by rw [y]; exact Option.some_ne_none _)] at z; cases z
    have:less h k1 b=none:=zaA_.free hb
    rw [zx_ this]
    exact okc.1.1 _ _ (zak_ _ _ z)
   ·have y:less h k1 b=none:=by
     cases y:less h k1 b with
     | none=>rfl
     | some s=>exact absurd (zD_ b (by rw [y]; exact Option.some_ne_none _)) a2
    rw [zx_ y] at a2
    have y2:un (less G2 h) (less h k1) b=none:=by unfold un; rw [a1]; exact y
    have y3:=okc.1.2.2.2 b y2 a2
    by_cases z:k1 b=none
    ·left; rw [zx_ z] at y3; exact y3
    ·exact .inr z
   ·by_cases z:hs' b=none
    ·exact .inr z
    ·left
     rcases okc.2.1 b with y | y
     ·exact zaA_.free y
     ·exact absurd (j.r.free y) z
   ·have y:=okc.2.2.2.1 b fun y=>a2 (j.r.free y)
    rw [zx_ a1] at y
    exact ⟨o2.2.2.1.free y,o2.1.2.2.1.free y⟩
  obtain ⟨h3,a1,a2⟩:=gg q.2 hs' _ H' PC (hI tp hO2)
  exact hk _ F0 H0 σ _ h3 H' D a1 a2 fin
theorem ziQ_ {Q:Cs γ}{Q2:Cs δ}{ta:TA}{r0:Mo γ}{ra:Mo δ}{g:γ×δ→Mo α}(hno:m∉ns) (he:EvF K te E L r0 (tyI C ns Q)) (ha:EvA K ta E L ra Q2) :
  EvF K (tMeth C m (Ct K (csCons (tyI C ns Q) Q2) g (owF T)) [] E0 te ta) E L (r0.bind fun x=>ra.bind fun c=>(g (x,c)).noex) T:=by
 intro σ F H R hL hs q
 refine he σ F H _ hL hs (q.bind.imp fun x F1 H1 x1 k1 v hv=>?_)
 obtain ⟨p,dx,vs,rfl,hp,hl,hc⟩:=id hv
 refine ⟨p,dx,_,rfl,x1.2.1 _ _ hp,zar_ hno,?_⟩
 refine ha σ F1 H1 _ (hL.mono x1.1) x1.2.1 (k1.bind.imp fun c F2 H2 x2 k2 us hus=>?_)
 rw [List.append_nil]
 refine ⟨F2,(x,c),x2.2.1,⟨_,us,rfl,(tyI C ns Q).mono x2.1 hv,hus⟩,k2.noex.imp fun a F3 H3 x3 k3 w hw _ _ _ hv=>k3 w hv.2⟩
theorem zfd_ {Q:Cs γ}{r0:Mo γ}{g:γ→Mo α}(hno:m∉ns) (he:EvF K te E L r0 (tyI C ns Q)) :
  EvF K (tMeth C m (Ct K (csLast (tyI C ns Q)) g (owF T)) [] E0 te tNil) E L (r0.bind fun x=>(g x).noex) T:=by
 intro σ F H R hL hs q
 refine he σ F H _ hL hs (q.bind.imp fun x F1 H1 x1 k1 v hv=>?_)
 obtain ⟨p,dx,vs,rfl,hp,hl,hc⟩:=id hv
 refine ⟨p,dx,_,rfl,x1.2.1 _ _ hp,zar_ hno,?_⟩
 exact ⟨F1,x,x1.2.1,⟨_,rfl,hv⟩,k1.noex.imp fun a F3 H3 x3 k3 w hw _ _ _ hv=>k3 w hv.2⟩
theorem zlc_ {P:Ps γ}{Q:Cs δ}{ta:TA}{ra:Mo δ}{g:Unit→δ→Mo (Unit×γ)}(ha:EvA K ta E L ra Q) :
  EvO K (tMake C (CtM K (owI C [] psNil) (owI C ns P) Q g (owF tyNon)) [] E0 ta) E L (ra.bind fun c=>(g () c).noex.bind fun q=>.ok q.2) (owI C ns P):=by
 intro σ F H R hL hs q
 refine ha σ F H _ hL hs (q.bind.imp fun c F1 H1 x1 k1 vs hvs x dx hx hdx ndx=>?_)
 rw [List.append_nil]
 have new:∀ b,two x dx (.ins C dx []) b≠none→H1 b=none:=fun b z=>by
  unfold two at z
  split at z
  ·rename_i e; rw [e]; exact hx
  ·split at z
   ·rename_i e; rw [e]; exact hdx
   ·exact absurd rfl z
 have at1:∀ b,two x dx (.ins C dx []) b=none→upd (upd H1 dx (.own x)) x (.ins C dx []) b=H1 b:=fun b z=>by
  obtain ⟨a1,a2⟩:=znn_ z
  rw [zW_ a1,zW_ a2]
 have at2:Same (two x dx (.ins C dx [])) (upd (upd H1 dx (.own x)) x (.ins C dx [])):=fun b o z=>by
  unfold two at z
  split at z
  ·rename_i e; rw [e,zai_]; exact z
  ·rename_i e0
   split at z
   ·rename_i e; rw [zW_ e0,e,zai_]; exact z
   ·cases z
 have dj:Dj F1 (two x dx (.ins C dx [])):=fun b=>by
  by_cases z:two x dx (.ins C dx []) b=none
  ·exact .inr z
  ·exact .inl (x1.2.1.free (new b z))
 have sF:Same F1 (upd (upd H1 dx (.own x)) x (.ins C dx [])):=fun b o z=>by
  have hb:=x1.2.1 _ _ z
  rw [at1 b ?_]
  ·exact hb
  ·cases y:two x dx (.ins C dx []) b with
   | none=>rfl
   | some s=>rw [new b (by rw [y]; exact Option.some_ne_none _)] at hb; cases hb
 have eH:∀ b,less (upd (upd H1 dx (.own x)) x (.ins C dx [])) (two x dx (.ins C dx [])) b=H1 b:=fun b=>by
  by_cases z:two x dx (.ins C dx []) b=none
  ·rw [zx_ z,at1 b z]
  ·rw [zD_ b z,new b z]
 refine ⟨F1,two x dx (.ins C dx []),(),c,.ref x,vs,rfl,sF,dj,at2,⟨x,dx,[],fun _=>none,rfl,ndx,fun _=>.inr ⟨rfl,rfl⟩,rfl,rfl,fun _=>rfl⟩,hvs,?_⟩
 cases e:g () c with
 | no=>rw [e] at k1; exact k1
 | ex cc=>rw [e] at k1; exact k1.elim
 | ok q0 =>
  rw [e] at k1
  rintro F' h' H' okc v ⟨hr,hs',j,⟨_,hv⟩,hO2⟩
  refine ⟨hv,?_⟩
  have xx:Ext F1 H1 F' H':=⟨okc.1.1,okc.1.2.1,fun b o z=>okc.1.2.2.1 b o (by rw [eH]; exact z),fun b a1 a2=>by rw [← eH b]; exact okc.1.2.2.2 b a1 a2⟩
  refine k1 F' H' xx (.ref x) hs' (fun b z=>?_) (fun b=>?_) (j.r.trans okc.2.2.1) hO2
  ·have:=okc.2.2.2.1 b fun y=>z (j.r.free y)
   rw [eH] at this
   exact x1.2.2.1.free this
  ·rcases okc.2.1 b with y | y
   ·exact .inl y
   ·exact .inr (j.r.free y)
end
end L2
namespace L2
open PySem PySem.Spec PyProof.Rows
section
variable {K:Fgg}{E:XK}{α β γ δ ρ ρ' S B:Type}{F0 H0 F h H:Hp}{L:List Sl}{e te ei:TE}{T:Ty α}{r:Mo α}{Or:Own ρ}{t u:TS}{LS:S→List Sl}{LB:B→List Sl}{σ:St}{C:Addr}{ns:List Str}{f m:Str}{i n:Nat}
def ImmP (P:Ps γ):Prop:=∀ {c vs F F' h},Tups F F'→P.P c vs F h→P.P c vs F' h
theorem zN_:ImmP psNil:=fun _ q=>q
theorem zk_ {O:Own α}{P:Ps γ}(a:ImmO O) (b:ImmP P):ImmP (psO O P):=fun g ⟨v,us,h1,h2,e,j,x,y⟩=>⟨v,us,h1,h2,e,j,a g x,b g y⟩
theorem zbc_ {P:Ps γ}(b:ImmP P):ImmO (owI C ns P):=fun g ⟨p,dx,vs,k,e,nd,j,l,q⟩=>⟨p,dx,vs,k,e,nd,j,l,b g q⟩
theorem zfJ_ {O:Own β}{P:Ps γ}{st:γ→α→γ}{r0:Mo (γ×(γ→β))}{k:β→Mo (Out ρ B S)}(nd:ns.Nodup) (hf:ns[n]?=some f) (hsm:ns.length<1000) (pp:PsPut P n (owF T) st) (hT:Imm T) (he:EvF K e E L r T) (hp:EvPt K te E L i O (owI C ns P) r0) (hk:∀ x',EvS K u E (L.set i (.ow O x')) (k x') LS LB Or) :
  EvS K (tSeq (mSFld C te e f) u) E L (r.bind fun a=>r0.bind fun yp=>(Mo.ok (yp.2 (st yp.1 a))).bind k) LS LB Or:=zph_ nd hf hsm pp hT he hp hk
theorem zfy_ {P:Ps γ}{P':Ps δ}{ad:γ→α→δ}{x:γ}{w:V}{k:δ→Mo (Out ρ B S)}(hi:L[i]?=some (.ow (owAt w (owI C ns P)) x)) (hf:f∉ns) (hsm:ns.length<900) (pp:PsAdd P (owF T) P' ad) (hT:Imm T) (he:EvF K e E L r T) (hk:∀ x',EvS K u E (L.set i (.ow (owAt w (owI C (ns++[f]) P')) x')) (k x') LS LB Or) :
  EvS K (tSeq (mSFld C (mVar i) e f) u) E L (r.bind fun a=>(Mo.ok (ad x a)).bind k) LS LB Or:=zp2_ hi hf hsm pp hT he hk
theorem zmr_ {O:Own α}{P:Ps β}{r0:Mo (β×(β→α))}{Q:Cs γ}{ta:TA}{ra:Mo γ}{g:β→γ→Mo (ρ'×β)}{Or':Own ρ'}{k:α→Mo (Out ρ B S)}(hno:m∉ns) (hI:ImmO (owI C ns P)) (hp:EvPt K te E L i O (owI C ns P) r0) (hC:ImmC Q) (ha:EvA K ta E L ra Q)
  (hk:∀ x',EvS K u E (L.set i (.ow O x')) (k x') LS LB Or) :
  EvS K (tSeq (tDrop (tMeth C m (CtM K (owI C ns P) (owI C ns P) Q g Or') [] E0 te ta)) u) E L (r0.bind fun yp=>ra.bind fun c=>(g yp.1 c).noex.bind fun q=>(Mo.ok (yp.2 q.2)).bind k) LS LB Or:=zlB_ hno hI hp hC ha hk
theorem zju_ {O:Own β}{r0:Mo (List α×(List α→β))}{k:β→Mo (Out ρ B S)}(hp:EvPt K te E L i O (owL T) r0) (hT:Imm T) (he:EvF K e E L r T) (hk:∀ x',EvS K u E (L.set i (.ow O x')) (k x') LS LB Or) :
  EvS K (tSeq (tDrop (tBM K "list" rAppend te (tCons e tNil))) u) E L (r0.bind fun yp=>r.bind fun a=>.lim (yp.1.length+1) ((Mo.ok (yp.2 (yp.1++[a]))).bind k)) LS LB Or:=zkp_ hp hT he hk
end
end L2
namespace L2
open PySem PySem.Spec PyProof.Rows
section
variable {K:Fgg}{E:XK}{γ:Type}{L:List Sl}{C:Addr}{ns:List Str}
theorem zll_ (i:Nat) {P:Ps γ}{x:γ}(h:L[i]?=some (.ow (owI C ns P) x)):EvF K (mVar i) E L (.ok x) (tyI C ns P.fr):=zbf_ i h
theorem zaI_ (i:Nat) {P:Ps γ}{x:γ}{w:V}(h:L[i]?=some (.ow (owAt w (owI C ns P)) x)):EvF K (mVar i) E L (.ok x) (tyI C ns P.fr):=zbf_ i h
end
end L2
namespace L2
open PySem PySem.Spec PyProof.Rows
def joinL (sep:List Nat):List (List Nat)→List Nat
 | []=>[]
 | [p]=>p
 | p::q::r=>p++sep++joinL sep (q::r)
theorem zeQ_ (y:Str):∀ ps:List Str,(Str.join y ps).cps.toList=joinL y.cps.toList (ps.map fun p=>p.cps.toList)
 | []=>rfl
 | [p]=>rfl
 | p::q::r=>by
  show (p++y++Str.join y (q::r)).cps.toList=_
  rw [zjQ_,zjQ_,zeQ_ y (q::r)]
  rfl
theorem zib_ (sep:List Nat) (ps:List (List Nat)):joinS sep (strsL ps)=joinL sep ps:=by
 have:=zeQ_ ⟨sep.toArray⟩ (strsL ps)
 unfold joinS
 refine Eq.trans ?_ (this.trans ?_)
 ·rw [eq_of_beq (PyProof.Rows.join_closes (sep:=⟨sep.toArray⟩) (ys:=strsL ps) rfl)]
 ·unfold strsL
  rw [List.map_map]
  congr 1
  exact (List.map_congr_left fun p _=>rfl).trans (List.map_id _)
end L2
namespace L2
open PySem PySem.Spec PyProof.Rows
section
variable {X:Cx}
end
section
variable {K:Fgg}{E:XK}{α β:Type}{L:List Sl}{e:TE}{T:Ty α}
theorem ziJ_ {r:Mo (Option α)}(h:EvF K e E L r (tyOpt T)):EvF K e E L (r.bind fun o=>Mo.opt o) T:=by
 intro σ F H Q hL hs q
 refine h σ F H _ hL hs (q.bind.imp fun o F1 H1 x k v hv=>?_)
 cases o with
 | none=>exact k.elim
 | some a=>exact k.ok x.2.1 v hv.1
def EvJ (K:Fgg) (k:Nat) (tj:TJ) (E:XK) (L:List Sl) (r:Mo (List Nat)):Prop :=
 ∀ (n:Nat) (acc:List Nat) σ F H (R:Str→Hp→Prop),acc.length≤1000*n→n+k≤90→HoldF L σ F→Same F H→After K r E F H (fun l F' H'=>l.length≤1000*k→R ⟨(acc++l).toArray⟩ H')→tj ⟨acc.toArray⟩ σ H R
theorem zp9_:EvJ K 0 tJ0 E L (.ok []):=fun n acc σ F H R ha hn hL hs q=>by
 have:=q.ok hs (Nat.zero_le _)
 rwa [List.append_nil] at this
theorem ziO_ {ta:TE}{tr:TJ}{k:Nat}{r r':Mo (List Nat)}(h:EvF K ta E L r tyStr) (hr:EvJ K k tr E L r'):EvJ K (k+1) (tJ1 ta tr) E L (r.bind fun a=>.grd (a.length≤1000) (r'.bind fun l=>.ok (a++l))):=by
 intro n acc σ F H R ha hn hL hs q
 refine h σ F H _ hL hs (q.bind.imp fun a F1 H1 x1 k1 v hv=>?_)
 cases hv
 obtain ⟨hz,k1⟩:=k1.grd
 have e:((⟨acc.toArray⟩:Str)++(⟨a.toArray⟩:Str))=⟨(acc++a).toArray⟩:=by
  show (⟨acc.toArray++a.toArray⟩:Str)=_
  simp
 show ((⟨acc.toArray⟩:Str)++(⟨a.toArray⟩:Str)).length≤sizeLine∧tr ((⟨acc.toArray⟩:Str)++(⟨a.toArray⟩:Str)) σ H1 R
 rw [e]
 refine ⟨by show (acc++a).toArray.size≤sizeLine; rw [List.size_toArray,List.length_append,sizeLine_eq]; lia,hr (n+1) (acc++a) σ F1 H1 R (by rw [List.length_append]; lia) (by lia) (hL.mono x1.1) x1.2.1 (k1.bind.imp fun l F2 H2 x2 k2 hl=>?_)⟩
 have:=k2.ok x2.2.1 (by rw [List.length_append]; lia)
 rwa [← List.append_assoc] at this
theorem zj5_ {tj:TJ}{k:Nat}{r:Mo (List Nat)}(h:EvJ K k tj E L r) (hk:k≤80:=by decide):EvF K (tJoin tj) E L r tyStr:=by
 intro σ F H Q hL hs q
 refine h 0 [] σ F H _ (by simp) (by lia) hL hs (q.imp fun l F' H' x k1 hl=>?_)
 rw [List.nil_append]
 exact ⟨by show l.toArray.size≤sizeLine; rw [List.size_toArray,sizeLine_eq]; lia,k1 _ rfl⟩
theorem zlF_ {r:Mo (List Nat)}(h:EvF K e E L r tyStr):EvF K (tUn mFmt e) E L (r.bind fun l=>.lim l.length (.ok l)) tyStr:=by
 intro σ F H Q hL hs q
 refine h σ F H _ hL hs (q.bind.imp fun l F1 H1 x1 k1 v hv=>?_)
 cases hv
 obtain ⟨hz,k1⟩:=k1.lim
 exact ⟨by show l.toArray.size≤sizeLine; rw [List.size_toArray]; exact hz,k1.ok x1.2.1 _ rfl⟩
end
end L2
namespace L2
open PySem PySem.Spec PyProof.Rows
theorem zmW_ {K:Fgg}{E:XK}{α:Type}{L:List Sl}(T:Ty α):EvO K (tLst tNil) E L (.ok ([]:List (List α))) (owLL T):=by
 intro σ F H Q hL hs q
 refine ⟨Nat.zero_le _,fun p hp=>?_⟩
 have xx:Ext F H F (upd H p (.lst [])):=⟨Same.refl _,fun b o z=>by rw [zW_ (fun e=>by rw [e] at z; have:=hs _ _ z; rw [hp] at this; cases this)]; exact hs _ _ z,fun b o z=>by rw [zW_ (fun e=>by rw [e,hp] at z; cases z)]; exact z,fun b a c=>absurd a c⟩
 refine q F _ xx (.ref p) (one p (.lst [])) (fun b z=>?_) (fun b=>?_) (fun b o z=>?_) ⟨p,[],fun _=>none,rfl,fun _=>.inr ⟨rfl,rfl⟩,fun _=>rfl⟩
 ·unfold one at z
  split at z
  ·rename_i e; rw [e]; exact hp
  ·exact absurd rfl z
 ·unfold one
  split
  ·rename_i e; left; rw [e]; exact hs.free hp
  ·exact .inr rfl
 ·unfold one at z
  split at z
  ·rename_i e; rw [e,zai_]; exact z
  ·cases z
end L2
namespace L2
open PySem PySem.Spec PyProof.Rows
section
variable {prog:Program}{w:World}{A:Around}{E:Value→Shared→Prop}{s:Shared}
end
section
variable {X:Cx}
end
section
variable {K:Fgg}{E:XK}{α β γ ρ S B:Type}{F H:Hp}{L:List Sl}{e:TE}{T:Ty α}
end
end L2
namespace L2
open PySem PySem.Spec PyProof.Rows
section
variable {α β γ:Type}
abbrev owPn (u:V) (O':Own β) (put:β→α) (O:Own α):Own β:=⟨fun z v F k=>∃ k1 k2,Jn k1 k2 k∧O'.O z u F k1∧∀ z' k1' k' F3,Same F F3→O'.O z' u F3 k1'→Jn k1' k2 k'→O.O (put z') v F3 k',
 ⟨fun z v H=>O.fr.R (put z) v H∧O'.fr.R z u H,fun g q=>⟨O.fr.mono g q.1,O'.fr.mono g q.2⟩⟩,
 fun g ⟨k1,k2,j,a,b⟩=>⟨k1,k2,j,O'.mono g a,fun z' k1' k' F3 s=>b z' k1' k' F3 (g.trans s)⟩,
 fun d ⟨k1,k2,j,a,b⟩=>⟨O.frz d (b _ k1 _ _ (Same.refl _) a j),O'.fr.mono (zdp_ d j.l) (O'.frz (dj_l d j) a)⟩,
 fun ⟨k1,k2,j,a,b⟩=>O.notup (b _ k1 _ _ (Same.refl _) a j)⟩
theorem zgs_ {u v:V}{O':Own β}{put:β→α}{O:Own α}{z:β}{F k:Hp}(h:(owPn u O' put O).O z v F k):O.O (put z) v F k:=by
 obtain ⟨k1,k2,j,a,b⟩:=h
 exact b _ k1 _ _ (Same.refl _) a j
theorem zjP_ {k1 k2 kb m k:Hp}(jm:Jn k2 kb m) (j:Jn k1 m k):Dj k1 k2∧Jn (un k1 k2) kb k:=by
 refine ⟨fun p=>?_,fun p=>?_⟩
 ·rcases j.dj p with z | z
  ·exact .inl z
  ·exact .inr (jm.l.free z)
 ·unfold un
  rcases j p with ⟨a,b⟩ | ⟨a,b⟩
  ·rw [a,b]
   rcases jm p with ⟨c,e⟩ | ⟨c,e⟩
   ·exact .inl ⟨c,e⟩
   ·exact .inr ⟨c,e⟩
  ·right
   refine ⟨jm.r.free a,?_⟩
   rw [b]
   cases z:k1 p with
   | some w=>rfl
   | none=>exact (jm.l.free a).symm
theorem zpY_ {k:Hp}:Jn k (fun _=>none) k:=fun p=>.inr ⟨rfl,rfl⟩
theorem zkR_ {k k':Hp}(j:Jn k (fun _=>none) k'):k'=k:=by
 funext p
 rcases j p with ⟨a,b⟩ | ⟨a,b⟩
 ·rw [a,b]
 ·exact b
end
section
variable {K:Fgg}{E:XK}{α β γ δ ρ ρ' S B:Type}{F0 H0 F h H:Hp}{L:List Sl}{e te ei:TE}{T:Ty α}{r:Mo α}{Or:Own ρ}{t u:TS}{LS:S→List Sl}{LB:B→List Sl}{σ:St}{C:Addr}{ns:List Str}{f m:Str}{i n w:Nat}
theorem zaD_ {O1:Own α}{O2:Own β}{x:α}{x2:β}(hL:Hold L σ F h) (hi:L[i]?=some (.ow O1 x)) (g:∀ v k,σ[i]?=some (some v)→Same k h→O1.O x v F k→O2.O x2 v F k):Hold (L.set i (.ow O2 x2)) σ F h:=by
 obtain ⟨o,k,hr,e1,j,⟨v,e2,ho⟩,f⟩:=hL.at i hi
 subst e2
 have:=f (.ow O2 x2) (some v) k h j ⟨v,rfl,g v k e1 j.l ho⟩
 rwa [zZ_ e1] at this
def EvPw (K:Fgg) (te:TE) (E:XK) (L:List Sl) (i:Nat) (O:Own α) (O':Own β) (r:Mo (β×(β→α))):Prop :=
 ∀ F0 H0 σ F h H (Q:VK),Hold L σ F h→Okk F0 H0 F h H→After K r E (un F h) H (fun yp G1 H1=>∀ u,i<L.length→Hold (L.set i (.ow (owPn u O' yp.2 O) yp.1)) σ (less G1 h) h→Q u H1)→te σ H Q
theorem zbn_ {O:Own α}{x:α}(hi:L[i]?=some (.ow O x)):EvPw K (mVar i) E L i O O (.ok (x,fun z=>z)):=by
 intro F0 H0 σ F h H Q hL ok q
 obtain ⟨o,hs,_⟩:=ok.back (Ext.refl ok.thaw)
 obtain ⟨_,k,hr,e1,j,⟨v,e2,ho⟩,f⟩:=(hL.mono hs).at i hi
 subst e2
 refine za7_ e1 (q.ok ok.thaw v (List.getElem?_eq_some_iff.mp hi).1 (zaD_ (hL.mono hs) hi fun v' k ev kh ho=>?_))
 rw [e1] at ev; cases ev
 exact ⟨k,fun _=>none,zpY_,ho,fun z' k1' k' F3 s o' j'=>by rw [zkR_ j']; exact o'⟩
theorem zji_ {O:Own α}{O1:Own β}{O2:Own γ}{uu v w:V}{put:β→α}{y:β}{z:γ}{st:γ→β}{k:Hp}(pt:∀ ka,Same ka k→O1.O y uu F ka→∃ k1 k2,Jn k1 k2 ka∧O2.O z w F k1∧∀ z' k1' k' F3,Same F F3→O2.O z' w F3 k1'→Jn k1' k2 k'→O1.O (st z') uu F3 k')
  (h:(owPn uu O1 put O).O y v F k):(owPn w O2 (fun z'=>put (st z')) O).O z v F k:=by
 obtain ⟨ka,kb,jk,ho,wand⟩:=h
 obtain ⟨k1,k2,j1,o1,g⟩:=pt ka jk.l ho
 obtain ⟨mm,jm,jh⟩:=za9_ j1 jk
 refine ⟨k1,mm,jh,o1,fun z' k1' k' F3 s oz j'=>?_⟩
 obtain ⟨d,jg⟩:=zjP_ jm j'
 exact wand (st z') _ k' F3 s (g z' k1' _ F3 s oz (zaM_ d)) jg
theorem zlE_ {O:Own α}{P:Ps γ}{O':Own β}{pr:γ→β}{st:γ→β→γ}{r:Mo (γ×(γ→α))}(nd:ns.Nodup) (hf:ns[n]?=some f) (pa:PsAt P n O' pr st) (hp:EvPw K te E L i O (owI C ns P) r) :
  EvPw K (mFld C te f) E L i O O' (r.bind fun yp=>.ok (pr yp.1,fun z'=>yp.2 (st yp.1 z'))):=by
 intro F0 H0 σ F h H Q hL ok q
 refine hp F0 H0 σ F h H _ hL ok (q.bind.imp fun yp G1 H1 x1 k1 uu il hh=>?_)
 obtain ⟨o1,_,_⟩:=ok.back x1
 have hi:(L.set i (.ow (owPn uu (owI C ns P) yp.2 O) yp.1))[i]?=some (.ow (owPn uu (owI C ns P) yp.2 O) yp.1):=by rw [List.getElem?_set_self (by exact il)]
 obtain ⟨_,k,hr,e1,j,⟨v,e2,ka,kb,jk,⟨p,dx,vs,mm,rfl,ndx,jn,hl,ps⟩,wand⟩,_⟩:=hh.at i hi
 have hp1:h p=some (.ins C dx (ns.zip vs)):=j.l _ _ (jk.l _ _ (jn.l _ _ zh0_))
 obtain ⟨w,_,_,ew,_⟩:=pa ps
 refine ⟨dx,_,w,o1.2.2.1 _ _ hp1,zcJ_ nd hf ew,?_⟩
 have:=zaD_ (O2:=owPn w O' (fun z'=>yp.2 (st yp.1 z')) O) (x2:=pr yp.1) hh hi fun v k ev kh ho=>zji_ (st:=st yp.1) (fun ka ks ho=>znT_ pa hp1 hl ew _ ka (ks.trans kh) ho) ho
 rw [List.set_set] at this
 exact k1.ok x1.2.1 w il this
theorem zmU_ {O:Own α}{O':Own β}{r:Mo (List β×(List β→α))}{rj:Mo Int}(hp:EvPw K te E L i O (owLO O') r) (hj:EvF K ei E L rj tyInt) :
  EvPw K (tOp (mIx K) te ei) E L i O O' (r.bind fun yp=>rj.bind fun j=>(Mo.opt (ixN yp.1.length j)).bind fun n=>(Mo.opt (yp.1[n]?)).bind fun z=>.ok (z,fun z'=>yp.2 (yp.1.set n z'))):=by
 intro F0 H0 σ F h H Q hL ok q
 refine hp F0 H0 σ F h H _ hL ok (q.bind.imp fun yp G1 H1 x1 k1 uu il hh=>?_)
 refine hj σ G1 H1 _ ((hL.froz ok.2.1).mono x1.1) x1.2.1 (k1.bind.imp fun j G2 H2 x2 k2 v2 hv2=>?_)
 cases hv2
 obtain ⟨n,en,k3⟩:=k2.bind.opt
 obtain ⟨z,ez,k4⟩:=(k3.ok x2.2.1).bind.opt
 have k5:=(k4.ok x2.2.1).ok x2.2.1
 obtain ⟨o2,_,_⟩:=ok.back (x1.trans x2)
 have hh:=hh.mono (ze4_ (h:=h) x2.1)
 have hi:(L.set i (.ow (owPn uu (owLO O') yp.2 O) yp.1))[i]?=some (.ow (owPn uu (owLO O') yp.2 O) yp.1):=by rw [List.getElem?_set_self (by exact il)]
 obtain ⟨_,k,hr,e1,jj,⟨v,e2,ka,kb,jk,⟨p,vs,mm,rfl,jn,all⟩,wand⟩,_⟩:=hh.at i hi
 have hp1:h p=some (.lst vs):=jj.l _ _ (jk.l _ _ (jn.l _ _ zz_))
 refine ⟨vs,.inl (.of (o2.2.2.1 _ _ hp1)),?_⟩
 have hl:=all.len
 have hn:=zeW_ en
 have hw:vs[n]?=some vs[n]:=List.getElem?_eq_getElem (by omega)
 have en':ixN vs.length j=some n:=by rw [← hl]; exact en
 have ea:atI vs j=some vs[n]:=by unfold atI; rw [en']; exact hw
 rw [ea]
 have:=zaD_ (O2:=owPn vs[n] O' (fun z'=>yp.2 (yp.1.set n z')) O) (x2:=z) hh hi fun v k ev kh ho=>zji_ (st:=fun z'=>yp.1.set n z') (fun ka ks ho=>zjR_ hp1 hw ez _ ka (ks.trans kh) ho) ho
 rw [List.set_set] at this
 exact k5 _ il this
abbrev tyIs (u:V):Ty Unit:=⟨fun _ v _=>v=u,fun _ q=>q⟩
theorem zng_ {O:Own α}{O':Own β}{r0:Mo (β×(β→α))}{k:β×(β→α)→Mo (Out ρ B S)}{s0:Sl}(hw:L[w]?=some s0) (hne:i≠w) (hp:EvPw K te E L i O O' r0)
  (hk:∀ uu yp,EvS K u E ((L.set i (.ow (owPn uu O' yp.2 O) yp.1)).set w (.fz (tyIs uu) ())) (k yp) LS LB Or):EvS K (tSeq (tAsg te (gName w)) u) E L (r0.bind k) LS LB Or:=by
 intro F0 H0 σ F h H D hL ok fin
 refine hp F0 H0 σ F h H _ hL ok (zal_ (G:=F) ok _ (.inl rfl) fin fun yp G1 H1 hr0 x1 uu il hh=>?_)
 obtain ⟨o1,_,_⟩:=ok.back x1
 rw [hr0] at fin
 refine hk uu yp F0 H0 _ _ h H1 D (zcU_ (T:=tyIs uu) (a:=()) (s:=s0) ?_ hh rfl) o1 fin
 rw [List.getElem?_set_ne hne]; exact hw
theorem zg1_ {O:Own α}{O':Own β}{put:β→α}{uu:V}{z:β}(hi:L[i]?=some (.ow (owPn uu O' put O) z)) (hw:L[w]?=some (.fz (tyIs uu) ())):EvPt K (mVar w) E L i (owPn uu O' put O) O' (.ok (z,fun z'=>z')):=by
 intro F0 H0 σ F h H Q hL ok q
 obtain ⟨o,hs,_⟩:=ok.back (Ext.refl ok.thaw)
 obtain ⟨v,ev,fc⟩:=zim_ (F0:=F0) (H0:=H0) (hL.mono hs) hi
 obtain ⟨_,_,_,e1,_,⟨v',e2,e3⟩,_⟩:=hL.at w hw
 subst e2
 obtain rfl:v'=uu:=e3
 refine za7_ e1 (q.ok ok.thaw v' (Foc.part (put:=fun z'=>z') fc fun F2 k s kh hq_=>?_))
 obtain ⟨k1,k2,j,a,b⟩:=hq_
 exact ⟨k1,k2,j,a,fun z' k1' k' F3 s o' j'=>⟨k1',k2,j',o',fun z' k1' k' F3 s'=>b z' k1' k' F3 (s.trans s')⟩⟩
theorem zmG_ {O:Own α}{O':Own β}{put:β→α}{uu:V}{z:β}(hi:L[i]?=some (.ow (owPn uu O' put O) z)) (hw:L[w]?=some (.fz (tyIs uu) ())):EvF K (mVar w) E L (.ok z) O'.fr:=by
 intro σ F H Q hL hs q
 obtain ⟨v,e1,a,b⟩:=hL i _ hi
 obtain ⟨v',e2,e3⟩:=hL w _ hw
 obtain rfl:v'=uu:=e3
 unfold mVar
 cases z:σ[w]? with
 | none=>rw [z] at e2; cases e2
 | some o=>rw [z] at e2; cases e2; exact q.ok hs v' b
theorem zoF_ {O:Own α}{O':Own β}{put:β→α}{uu:V}{z:β}{r:Mo (Out ρ B S)}(hi:L[i]?=some (.ow (owPn uu O' put O) z)) (hk:EvS K u E (L.set i (.ow O (put z))) r LS LB Or):EvS K u E L r LS LB Or:=by
 intro F0 H0 σ F h H D hL ok fin
 exact hk F0 H0 σ F h H D (zaD_ hL hi fun v k _ _ ho=>zgs_ ho) ok fin
theorem zel_ {r:Mo α}{k:α→Mo ρ}{kk':ρ→Hp→Hp→Hp→Prop}{kk:α→Hp→Hp→Prop}(ok:Okk F0 H0 F h H) (fin:FinM K (r.bind k) E F0 H0 kk') (hk:∀ a F' H',r=.ok a→Ext (un F h) H F' H'→kk a F' H'):After K r E (un F h) H kk:=by
 cases r with
 | ok a=>exact fun F' H' x=>hk a F' H' rfl x
 | no=>exact fin
 | ex c=>exact fun F' H' x=>(fin _ _ _ (ok.back x).1).back ok x
def EvM (K:Fgg) (t:TE) (E:XK) (L:List Sl) (i:Nat) (O:Own α) (Or':Own ρ') (r:Mo (ρ'×α)):Prop :=
 ∀ F0 H0 σ F h H (Q:VK),Hold L σ F h→Okk F0 H0 F h H→FinM K r E F0 H0 (fun q F' h' H'=>∀ v h1 h2,Jn h1 h2 h'→Hold (L.set i (.ow O q.2)) σ F' h1→Or'.O q.1 v F' h2→Q v H')→t σ H Q
theorem zga_ {G2 H2 ka kb hrest hs' hr F' h' H' k:Hp}(o2:Okk F0 H0 (less G2 h) h H2) (j:Jn k hrest h) (jk:Jn ka kb k) (okc:Okk (un (less G2 h) (less h ka)) (less H2 ka) F' h' H') (j':Jn hr hs' h') :
  Same (less G2 h) (less F' (less h ka))∧Tups F' (less F' (less h ka))∧Dj hs' kb∧Dj (un hs' kb) hrest∧Dj (un (un hs' kb) hrest) hr∧Okk F0 H0 (less F' (less h ka)) (un (un (un hs' kb) hrest) hr) H':=by
 have kah:Same ka h:=jk.l.trans j.l
 have kab:∀ q,kb q≠none→h q=kb q∧ka q=none:=fun q z=>by
  cases y:kb q with
  | none=>exact absurd y z
  | some o =>
   refine ⟨j.l _ _ (jk.r _ _ y),?_⟩
   rcases jk.dj q with x | x
   ·exact x
   ·rw [x] at y; cases y
 have rst:∀ q,hrest q≠none→h q=hrest q∧ka q=none:=fun q z=>by
  cases y:hrest q with
  | none=>exact absurd y z
  | some o =>
   refine ⟨j.r _ _ y,?_⟩
   rcases j.dj q with x | x
   ·exact jk.l.free x
   ·rw [x] at y; cases y
 have key:∀ q,h' q≠none→h q≠none→ka q=none→False:=fun q z1 z2 z3=>by
  have:=okc.2.2.2.1 q z1
  rw [zx_ z3] at this
  exact z2 (o2.2.2.1.free this)
 have h0:∀ q,less H2 ka q=none→H0 q=none:=fun q z=>by
  by_cases y:ka q=none
  ·rw [zx_ y] at z; exact o2.1.2.2.1.free z
  ·exact o2.2.2.2.1 q fun x=>y (kah.free x)
 have old:∀ q o,h q=some o→ka q=none→H' q=some o:=fun q o z1 z2=>okc.1.2.2.1 q o (by rw [zx_ z2]; exact o2.2.2.1 _ _ z1)
 have d1:Dj hs' kb:=fun q=>by
  by_cases z:hs' q=none
  ·exact .inl z
  ·by_cases y:kb q=none
   ·exact .inr y
   ·obtain ⟨a,b⟩:=kab q y
    exact (key q (fun x=>z (j'.r.free x)) (by rw [a]; exact y) b).elim
 have d2:Dj (un hs' kb) hrest:=fun q=>by
  by_cases y:hrest q=none
  ·exact .inr y
  ·left
   obtain ⟨a,b⟩:=rst q y
   have z1:hs' q=none:=by
    by_cases z:hs' q=none
    ·exact z
    ·exact (key q (fun x=>z (j'.r.free x)) (by rw [a]; exact y) b).elim
   have z2:kb q=none:=by
    rcases j.dj q with x | x
    ·exact jk.r.free x
    ·exact absurd x y
   unfold un; rw [z1]; exact z2
 have d3:Dj (un (un hs' kb) hrest) hr:=fun q=>by
  by_cases y:hr q=none
  ·exact .inr y
  ·left
   have hq:h' q≠none:=fun x=>y (j'.l.free x)
   have z1:hs' q=none:=by
    rcases j'.dj q with x | x
    ·exact absurd x y
    ·exact x
   have z2:kb q=none:=by
    by_cases z:kb q=none
    ·exact z
    ·obtain ⟨a,b⟩:=kab q z
     exact (key q hq (by rw [a]; exact z) b).elim
   have z3:hrest q=none:=by
    by_cases z:hrest q=none
    ·exact z
    ·obtain ⟨a,b⟩:=rst q z
     exact (key q hq (by rw [a]; exact z) b).elim
   unfold un; rw [z1]; simp only; rw [z2]; exact z3
 have parts:∀ q o,un (un (un hs' kb) hrest) hr q=some o→h' q=some o∨(h q=some o∧ka q=none):=fun q o z=>by
  unfold un at z
  cases z1:hs' q with
  | some a=>rw [z1] at z; left; rw [← z]; exact j'.r _ _ z1
  | none =>
   rw [z1] at z; simp only at z
   cases z2:kb q with
   | some a=>rw [z2] at z; right; obtain ⟨x,y⟩:=kab q (by rw [z2]; exact Option.some_ne_none _); exact ⟨by rw [x,z2]; exact z,y⟩
   | none =>
    rw [z2] at z; simp only at z
    cases z3:hrest q with
    | some a=>rw [z3] at z; right; obtain ⟨x,y⟩:=rst q (by rw [z3]; exact Option.some_ne_none _); exact ⟨by rw [x,z3]; exact z,y⟩
    | none=>rw [z3] at z; left; exact j'.l _ _ z
 have ff:Same (less G2 h) (less F' (less h ka)):=fun b o z=>by
  have hb:h b=none:=by
   cases y:h b with
   | none=>rfl
   | some s=>rw [zD_ b (by rw [y]; exact Option.some_ne_none _)] at z; cases z
  have:less h ka b=none:=zaA_.free hb
  rw [zx_ this]
  exact okc.1.1 _ _ (zak_ _ _ z)
 have lo:∀ q',less h ka q'≠none→h q'≠none:=fun q' z y=>z (by unfold less; split; exact y; rfl)
 have tp:Tups F' (less F' (less h ka)):=fun b xs z=>by
  cases y:less h ka b with
  | none=>rw [zx_ y]; exact z
  | some s =>
   exfalso
   have y2:un (less G2 h) (less h ka) b=some s:=by
    unfold un
    have:less G2 h b=none:=zD_ b (lo b (by rw [y]; exact Option.some_ne_none _))
    rw [this]; exact y
   have:=okc.1.1 _ _ y2
   rw [z] at this
   injection this with this
   exact o2.2.2.2.2 b xs (by rw [this]; exact zaA_ _ _ y)
 refine ⟨ff,tp,d1,d2,d3,⟨o2.1.1.trans ff,fun b o z=>okc.1.2.1 _ _ (zaA_ _ _ z),fun b o z=>?_,fun b a1 a2=>?_⟩,fun b=>?_,fun b o z=>?_,fun b z=>?_,fun b xs z=>?_⟩
 ·have kb0:ka b=none:=by
   by_cases y:ka b=none
   ·exact y
   ·have:=o2.2.2.2.1 b fun x=>y (kah.free x)
    rw [z] at this; cases this
  exact okc.1.2.2.1 b o (by rw [zx_ kb0]; exact o2.1.2.2.1 _ _ z)
 ·by_cases y0:less G2 h b=none
  ·have y:less h ka b=none:=by
    cases y:less h ka b with
    | none=>rfl
    | some s=>exact absurd (zD_ b (by rw [y]; exact Option.some_ne_none _)) a2
   rw [zx_ y] at a2
   exact h0 b (okc.1.2.2.2 b (by unfold un; rw [y0]; exact y) a2)
  ·exact o2.1.2.2.2 b a1 y0
 ·cases z:un (un (un hs' kb) hrest) hr b with
  | none=>exact .inr rfl
  | some o =>
   left
   rcases parts b o z with y | ⟨y1,y2⟩
   ·rcases okc.2.1 b with x | x
    ·exact zaA_.free x
    ·rw [x] at y; cases y
   ·exact zD_ b (by rw [zx_ y2,y1]; exact Option.some_ne_none _)
 ·rcases parts b o z with y | ⟨y1,y2⟩
  ·exact okc.2.2.1 _ _ y
  ·exact old b o y1 y2
 ·cases y:un (un (un hs' kb) hrest) hr b with
  | none=>exact absurd y z
  | some o =>
   rcases parts b o y with x | ⟨x,_⟩
   ·exact h0 b (okc.2.2.2.1 b (by rw [x]; exact Option.some_ne_none _))
   ·exact o2.2.2.2.1 b (by rw [x]; exact Option.some_ne_none _)
 ·rcases parts b _ z with y | ⟨y,_⟩
  ·exact okc.2.2.2.2 b xs y
  ·exact o2.2.2.2.2 b xs y
end
end L2
namespace L2
open PySem PySem.Spec PyProof.Rows
section
variable {K:Fgg}{E:XK}{α β γ δ ρ ρ' S B:Type}{F0 H0 F h H:Hp}{L:List Sl}{e te ei tc:TE}{T:Ty α}{r:Mo α}{Or:Own ρ}{Or':Own ρ'}{t u:TS}{LS:S→List Sl}{LB:B→List Sl}{σ:St}{C:Addr}{ns:List Str}{f m:Str}{i n w j:Nat}
theorem zfK_ {r:Mo ρ'}{k:ρ'→Mo (Out ρ B S)}{D:Ends}{kk:ρ'→Hp→Hp→Hp→Prop}(fin:Fin K (r.bind k) E LS LB Or F0 H0 D) (hk:∀ q F' h' H',r=.ok q→Okk F0 H0 F' h' H'→kk q F' h' H'):FinM K r E F0 H0 kk:=by
 cases r with
 | ok q=>exact fun F h H o=>hk q F h H rfl o
 | ex c=>exact fin
 | no=>exact fin
theorem zfp_ {O:Own α}{O':Own β}{w:V}{r:Mo (β×(β→α))}(hp:EvPw K te E L i O (owAt w O') r):EvPw K te E L i O O' r:=by
 intro F0 H0 σ F h H Q hL ok q
 refine hp F0 H0 σ F h H _ hL ok (q.imp fun yp G1 H1 x1 k1 uu il hh=>k1 uu il ?_)
 have hi:(L.set i (.ow (owPn uu (owAt w O') yp.2 O) yp.1))[i]?=some (.ow (owPn uu (owAt w O') yp.2 O) yp.1):=by rw [List.getElem?_set_self (by exact il)]
 have:=zaD_ (O2:=owPn uu O' yp.2 O) (x2:=yp.1) hh hi fun v k ev kh ⟨ka,kb,jk,⟨e,ho⟩,wand⟩=>⟨ka,kb,jk,ho,fun z' k1' k' F3 s oz j'=>wand z' k1' k' F3 s ⟨e,oz⟩ j'⟩
 rwa [List.set_set] at this
theorem zjq_ {O:Own α}{r:Mo (ρ'×α)}{s0:Sl}{k:ρ'×α→Mo (Out ρ B S)}(hw:L[w]?=some s0) (hne:i≠w) (hm:EvM K tc E L i O Or' r) (hk:∀ q,EvS K u E ((L.set i (.ow O q.2)).set w (.ow Or' q.1)) (k q) LS LB Or) :
  EvS K (tSeq (tAsg tc (gName w)) u) E L (r.bind k) LS LB Or:=by
 intro F0 H0 σ F h H D hL ok fin
 refine hm F0 H0 σ F h H _ hL ok (zfK_ fin fun q F' h' H' hr o v h1 h2 j hold res=>?_)
 rw [hr] at fin
 have hw':(L.set i (.ow O q.2))[w]?=some s0:=by rw [List.getElem?_set_ne hne]; exact hw
 obtain ⟨_,kw,hrest,e1,jw,_,f⟩:=hold.atM w hw'
 have d:Dj h2 hrest:=fun p=>by
  rcases j.dj p with z | z
  ·exact .inr (jw.r.free z)
  ·exact .inl z
 refine hk q F0 H0 (σ.set w (some v)) F' (un h2 hrest) H' D (f F' (.ow Or' q.1) (some v) h2 _ (Same.refl _) (zaM_ d) ⟨v,rfl,res⟩) (zbA_ o fun p s z=>?_) fin
 unfold un at z
 cases y:h2 p with
 | some w=>rw [y] at z; rw [← z]; exact j.r _ _ y
 | none=>rw [y] at z; exact j.l _ _ (jw.r _ _ z)
theorem zpd_ {O:Own α}{T:Ty β}{r:Mo (β×α)}{xs:List β}{k:β×α→Mo (Out ρ B S)}(hw:L[w]?=some (.ow (owL T) xs)) (hne:i≠w) (hm:EvM K tc E L i O (owF T) r) (hk:∀ q,EvS K u E ((L.set i (.ow O q.2)).set w (.ow (owL T) (xs++[q.1]))) (k q) LS LB Or) :
  EvS K (tSeq (tDrop (tBM K "list" rAppend (mVar w) (tCons tc tNil))) u) E L (r.bind fun q=>.lim (xs.length+1) (k q)) LS LB Or:=by
 intro F0 H0 σ F h H D hL ok fin
 obtain ⟨p,vs,e1,hp,hr,_⟩:=zbL_ hL hw ok
 show mVar w σ H fun x H1=>tyV K "list" x H1∧tCons tc tNil σ H1 fun xs H2=>rAppend x xs H2 (fun _ H3=>u D σ H3)
 refine za7_ e1 ⟨.inl ⟨rfl,vs,.of hp⟩,?_⟩
 refine hm F0 H0 σ F h H _ hL ok (zfK_ fin fun q F' h' H' hra o v h1 h2 j hold res=>?_)
 rw [hra] at fin
 obtain ⟨hz,fin⟩:=zeF_ (show Fin K (Mo.lim (xs.length+1) (k q)) E LS LB Or F0 H0 D from fin)
 have hw':(L.set i (.ow O q.2))[w]?=some (.ow (owL T) xs):=by rw [List.getElem?_set_ne hne]; exact hw
 obtain ⟨p',vs',e1',hp',hr',mm⟩:=zbL_ hold hw' (zbA_ o j.l)
 rw [e1] at e1'; cases e1'
 obtain ⟨h',a1,a2⟩:=mm (xs++[q.1]) (vs'++[v]) (hr'.append (.cons res.2 .nil))
 exact ⟨p,vs',v,rfl,rfl,hp',by rw [← hr'.len]; lia,hk q F0 H0 σ _ h' _ D a1 a2 fin⟩
theorem zi2_ {O:Own α}{x:α}{v0:V}(hi:i<L.length) (hL:Hold (L.set i (.ow (owAt v0 O) x)) σ F h):∃ k,Same k h∧O.O x v0 F k:=by
 obtain ⟨_,k,_,_,j,⟨v',_,e3,ho⟩,_⟩:=hL.at i (by rw [List.getElem?_set_self (by exact hi)])
 subst e3
 exact ⟨k,j.l,ho⟩
theorem znG_ {O2:Own α}{v0:V}{r:Mo (ρ×α)}(hi:i<L.length) (hm:EvM K tc E L i (owAt v0 O2) Or r):EvS K (tRet tc) E L (r.bind fun q=>.ok (.rt q)) LS LB (owRM v0 O2 Or):=by
 intro F0 H0 σ F h H D hL ok fin
 refine hm F0 H0 σ F h H _ hL ok (zfK_ fin fun q F' h' H' hr o v h1 h2 j hold res=>?_)
 rw [hr] at fin
 obtain ⟨k,kh,ho⟩:=zi2_ hi hold
 have d:Dj h2 k:=fun p=>by
  rcases j.dj p with z | z
  ·exact .inr (kh.free z)
  ·exact .inl z
 refine fin v F' (un h2 k) H' (zbA_ o fun p s z=>?_) ⟨h2,k,zaM_ d,res,ho⟩
 unfold un at z
 cases y:h2 p with
 | some w=>rw [y] at z; rw [← z]; exact j.r _ _ y
 | none=>rw [y] at z; exact j.l _ _ (kh _ _ z)
theorem zmP_ {O2:Own α}{T:Ty β}{v0:V}{r:Mo (β×α)}(hi:i<L.length) (hm:EvM K tc E L i (owAt v0 O2) (owF T) r):EvS K (tRet (tLst (tCons tc tNil))) E L (r.bind fun q=>.ok (.rt ([q.1],q.2))) LS LB (owRM v0 O2 (owL T)):=by
 intro F0 H0 σ F h H D hL ok fin
 show tc σ H fun v H1=>[v].length≤sizeLine∧∀ p,H1 p=none→D.rt (.ref p) (upd H1 p (.lst [v]))
 refine hm F0 H0 σ F h H _ hL ok (zfK_ fin fun q F' h' H' hr o v h1 h2 j hold res=>⟨zd6_ (by simp),fun p hp=>?_⟩)
 rw [hr] at fin
 obtain ⟨k,kh,ho⟩:=zi2_ hi hold
 have o1:=zbA_ o (kh.trans j.l)
 have hp0:k p=none:=o1.2.2.1.free hp
 have Fp:F' p=none:=o1.1.2.1.free hp
 have H0p:H0 p=none:=o1.1.2.2.1.free hp
 have d:Dj (one p (.lst [v])) k:=fun q=>by
  by_cases z:q=p
  ·rw [z]; exact .inr hp0
  ·left; unfold one; rw [if_neg z]
 have up:∀ b (s:HO) (X:Hp),X p=none→X b=some s→b≠p:=fun b s X z1 z2 z3=>by rw [z3,z1] at z2; cases z2
 refine fin (.ref p) F' (un (one p (.lst [v])) k) _ ⟨⟨o1.1.1,fun b s z=>by rw [zW_ (up b s F' Fp z)]; exact o1.1.2.1 _ _ z,fun b s z=>by rw [zW_ (up b s H0 H0p z)]; exact o1.1.2.2.1 _ _ z,o1.1.2.2.2⟩,fun b=>?_,fun b s z=>?_,fun b z=>?_,fun b xs z=>?_⟩ ⟨_,k,zaM_ d,⟨p,[v],rfl,rfl,.cons res.2 .nil⟩,ho⟩
 ·by_cases z:b=p
  ·rw [z]; exact .inl Fp
  ·unfold un one; rw [if_neg z]; exact o1.2.1 b
 ·unfold un one at z
  by_cases y:b=p
  ·rw [y,zai_]; rw [if_pos y] at z; exact z
  ·rw [if_neg y] at z; rw [zW_ y]; exact o1.2.2.1 _ _ z
 ·unfold un one at z
  by_cases y:b=p
  ·rw [y]; exact H0p
  ·rw [if_neg y] at z; exact o1.2.2.2.1 b z
 ·unfold un one at z
  by_cases y:b=p
  ·rw [if_pos y] at z; cases z
  ·rw [if_neg y] at z; exact o1.2.2.2.2 b xs z
theorem zjt_ {O2:Own α}{v0:V}{x:α}{a:ρ}(hij:i≠j) (hi:L[i]?=some (.ow (owAt v0 O2) x)) (hj:L[j]?=some (.ow Or a)):EvS K (tRet (mVar j)) E L (.ok (.rt (a,x))) LS LB (owRM v0 O2 Or):=by
 intro F0 H0 σ F h H D hL ok fin
 obtain ⟨_,kj,hr,ej,jj,⟨v,e2,ha⟩,f⟩:=hL.at j hj
 subst e2
 have hd:=f .dead (some v) (fun _=>none) hr (fun p=>.inl ⟨rfl,rfl⟩) trivial
 obtain ⟨_,ki,_,_,ji,⟨v',_,e3,hx⟩,_⟩:=hd.at i (by rw [List.getElem?_set_ne (Ne.symm hij)]; exact hi)
 subst e3
 have d:Dj kj ki:=fun p=>by
  rcases jj.dj p with z | z
  ·exact .inl z
  ·exact .inr (ji.l.free z)
 refine za7_ ej (fin v F (un kj ki) H (zbA_ ok fun p s z=>?_) ⟨kj,ki,zaM_ d,ha,hx⟩)
 unfold un at z
 cases y:kj p with
 | some w=>rw [y] at z; rw [← z]; exact jj.l _ _ y
 | none=>rw [y] at z; exact jj.r _ _ (ji.l _ _ z)
end
end L2
namespace L2
open PySem PySem.Spec PyProof.Rows
section
variable {K:Fgg}{E:XK}{α β γ δ ρ ρ' S B:Type}{F0 H0 F h H:Hp}{L:List Sl}{e te ei tc:TE}{T:Ty α}{r:Mo α}{Or:Own ρ}{Or':Own ρ'}{t u:TS}{LS:S→List Sl}{LB:B→List Sl}{σ:St}{C:Addr}{ns:List Str}{f m:Str}{i n w j:Nat}
theorem zfh_ {lv:List Str}{fr:List (Str×Nat)}{wi:TI}{g:TG}{tt:TT}{te:TE}{r:Mo (List α)}{ss:α→List (Nat×Sl)}{c:α→Mo Bool}{f:α→Mo β}{O':Own β}
  (hi:EvI K wi E L r T) (hg:TgR K g T ss) (hd:∀ a,DeadAt (cL lv fr L) ((ss a).map (·.1))) (ht:∀ a,EvT K tt E0 (setL (cL lv fr L) (ss a)) (c a)) (he:∀ a,EvO K te E0 (setL (cL lv fr L) (ss a)) (f a) O') :
  EvO K (tComp lv fr wi g tt te) E L (r.bind fun xs=>compM (fun x=>cond1 (c x) (f x)) xs []) (owLO O'):=by
 intro σ F0 H0 Q hL hs q
 refine hi σ F0 H0 _ hL hs (q.bind.imp fun xs F1 H1 x1 k1 J Y D hD=>?_)
 have hL1:=hL.mono x1.1
 refine ⟨fun i m ys σ' H'=>m=xs.length-i∧i≤xs.length∧∃ acc Fi hh,Ext F1 H1 Fi H'∧Fi D=none∧hh D=none∧H' D=some (.lst ys)∧OwAll O' Fi acc ys hh∧Dj Fi hh∧Same hh H'∧(∀ p,hh p≠none→H1 p=none)∧HoldF (cL lv fr L) σ' F1∧σ'.length=(cL lv fr L).length∧After K (compM (fun x=>cond1 (c x) (f x)) (xs.drop i) acc) E F1 H1 (OwnK (owLO O') H0 Q),
  ⟨_,rfl,Nat.zero_le _,[],F1,fun _=>none,.heap x1.2.1 (zei_ hD _),x1.2.1.free hD,rfl,zai_,fun _=>rfl,fun _=>.inr rfl,(fun p o z=>by cases z),fun p z=>absurd rfl z,zix_ hL1,zmu_.symm,k1⟩,?_⟩
 rintro i m ys σ' H' ⟨rfl,hi,acc,Fi,hh,xi,hDi,hDh,hy,hp,dj,sh,fresh,hσ,hln,A⟩
 by_cases hlt:i<xs.length
 ·right
  have ex:xs[i]?=some xs[i]:=List.getElem?_eq_getElem hlt
  obtain ⟨g1,g2⟩:=Y.go i H' xs[i] (xi.1.trans xi.2.1) ex
  refine ⟨g1,fun ys' σ'' H''=>i+1≤xs.length∧∃ acc Fi hh,Ext F1 H1 Fi H''∧Fi D=none∧hh D=none∧H'' D=some (.lst ys')∧OwAll O' Fi acc ys' hh∧Dj Fi hh∧Same hh H''∧(∀ p,hh p≠none→H1 p=none)∧HoldF (cL lv fr L) σ'' F1∧σ''.length=(cL lv fr L).length∧After K (compM (fun x=>cond1 (c x) (f x)) (xs.drop (i+1)) acc) E F1 H1 (OwnK (owLO O') H0 Q),fun ys' σ'' H'' z=>⟨xs.length-(i+1),by omega,rfl,z⟩,fun v H2 hyl=>?_⟩
  obtain ⟨F2,x2,hv⟩:=g2 v H2 hyl Fi xi.1 xi.2.1
  have keep:∀ {Fa Ha Fb Hb:Hp},Ext Fa Ha Fb Hb→Fa D=none→Ha D=some (.lst ys)→Dj Fa hh→Same hh Ha→(Fb D=none∧Hb D=some (.lst ys))∧Dj Fb hh∧Same hh Hb:=by
   intro Fa Ha Fb Hb x h1 h2 h3 h4
   refine ⟨⟨?_,x.2.2.1 _ _ h2⟩,fun p=>?_,h4.trans x.2.2.1⟩
   ·cases z:Fb D with
    | none=>rfl
    | some o=>have:=x.2.2.2 D h1 (by rw [z]; exact Option.some_ne_none _); rw [h2] at this; cases this
   ·cases y:hh p with
    | none=>exact .inr rfl
    | some w =>
     left
     rcases h3 p with z | z
     ·cases zz:Fb p with
      | none=>rfl
      | some o=>have:=x.2.2.2 p z (by rw [zz]; exact Option.some_ne_none _); rw [h4 _ _ y] at this; cases this
     ·rw [z] at y; cases y
  obtain ⟨⟨hD2,hy2⟩,dj2,sh2⟩:=keep x2 hDi hy dj sh
  refine hg xs[i] v σ' F2 H2 _ x2.2.1 hv fun vs hpl=>?_
  have hσ2:HoldF (cL lv fr L) σ' F2:=hσ.mono (xi.1.trans x2.1)
  obtain ⟨a1,a2,a3⟩:=zhD_ hpl hln.symm hσ2
  have hσd:HoldF (cL lv fr L) (setS σ' vs) F1:=by
   have hdead:=hd xs[i]
   refine fun j s e=>?_
   by_cases hj:∃ q∈(ss xs[i]).map (·.1),q=j
   ·obtain ⟨q,hq,rfl⟩:=hj
    rw [hdead q hq s e]; trivial
   ·have:((setS σ' vs)[j]?)=σ'[j]?:=zl1_ hpl (fun hq=>hj ⟨j,hq,rfl⟩)
    rw [this]; exact hσ j s e
  have hdrop:xs.drop i=xs[i]::xs.drop (i+1):=List.drop_eq_getElem_cons hlt
  rw [hdrop] at A
  unfold compM at A
  cases ec:c xs[i] with
  | no=>unfold cond1 at A; rw [ec] at A; exact A.elim
  | ex cc=>unfold cond1 at A; rw [ec] at A; exact A.elim
  | ok bb =>
   refine ht xs[i] _ F2 H2 _ a1 x2.2.1 ?_
   rw [ec]
   intro F3 H3 x3
   obtain ⟨⟨hD3,hy3⟩,dj3,sh3⟩:=keep x3 hD2 hy2 dj2 sh2
   have x13:=(xi.trans x2).trans x3
   cases bb with
   | false =>
    rw [if_neg (by decide)]
    refine ⟨hlt,acc,F3,hh,x13,hD3,hDh,hy3,hp.mono (x2.1.trans x3.1),dj3,sh3,fresh,hσd,by rw [a2]; exact hln,?_⟩
    unfold cond1 at A; rw [ec] at A
    exact A
   | true =>
    rw [if_pos rfl]
    cases ef:f xs[i] with
    | no=>unfold cond1 at A; rw [ec,ef] at A; exact A.elim
    | ex cc=>unfold cond1 at A; rw [ec,ef] at A; exact A.elim
    | ok y =>
     unfold cond1 at A; rw [ec,ef] at A
     have A':After K (Mo.lim (acc.length+1) (compM (fun x=>cond1 (c x) (f x)) (xs.drop (i+1)) (acc++[y]))) E F1 H1 (OwnK (owLO O') H0 Q):=A
     obtain ⟨hz,A'⟩:=A'.lim
     refine he xs[i] _ F3 H3 _ (a1.mono x3.1) x3.2.1 ?_
     rw [ef]
     intro F4 H4 x4 v4 hn fr4 dj4n sn4 hv4
     obtain ⟨⟨hD4,hy4⟩,dj4,sh4⟩:=keep x4 hD3 hy3 dj3 sh3
     have hlen:=hp.len
     have hnD:hn D=none:=by
      cases z:hn D with
      | none=>rfl
      | some w=>have:=fr4 D (by rw [z]; exact Option.some_ne_none _); rw [hy3] at this; cases this
     have djn:Dj hh hn:=fun p=>by
      cases z:hn p with
      | none=>exact .inr rfl
      | some w=>exact .inl (sh3.free (fr4 p (by rw [z]; exact Option.some_ne_none _)))
     have x14:=x13.trans x4
     refine ⟨hy4,by omega,hlt,acc++[y],F4,un hh hn,?_,hD4,by unfold un; rw [hDh]; exact hnD,zai_,(hp.mono ((x2.1.trans x3.1).trans x4.1)).snoc hv4 djn,fun p=>?_,fun p o z=>?_,fun p z=>?_,hσd,by rw [a2]; exact hln,A'⟩
     ·refine ⟨x14.1,fun b o z=>?_,fun b o z=>?_,x14.2.2.2⟩
      ·unfold upd; split
       ·rename_i w; rw [w,hD4] at z; cases z
       ·exact x14.2.1 _ _ z
      ·unfold upd; split
       ·rename_i w; rw [w,hD] at z; cases z
       ·exact x14.2.2.1 _ _ z
     ·unfold un
      cases z:hh p with
      | some w =>
       rcases dj4 p with y | y
       ·exact .inl y
       ·rw [y] at z; cases z
      | none=>exact dj4n p
     ·have hpD:p≠D:=fun w=>by
       unfold un at z; rw [w,hDh,hnD] at z; cases z
      unfold upd; rw [if_neg hpD]
      unfold un at z
      cases w:hh p with
      | some o'=>rw [w] at z; cases z; exact sh4 _ _ w
      | none=>rw [w] at z; exact sn4 _ _ z
     ·unfold un at z
      cases w:hh p with
      | some o'=>exact fresh p (by rw [w]; exact Option.some_ne_none _)
      | none=>rw [w] at z; exact x13.2.2.1.free (fr4 p z)
 ·left
  have e:i=xs.length:=by omega
  subst e
  refine ⟨Y.stop H' (xi.1.trans xi.2.1),?_⟩
  rw [List.drop_length] at A
  have A':OwnK (owLO O') H0 Q acc Fi H':=A Fi H' xi
  have dD:Dj (one D (.lst ys)) hh:=fun p=>by
   unfold one; split
   ·rename_i w; rw [w]; exact .inr hDh
   ·exact .inl rfl
  refine A' (.ref D) (un (one D (.lst ys)) hh) (fun p z=>?_) (fun p=>?_) (fun p o z=>?_) ⟨D,ys,hh,rfl,zaM_ dD,hp⟩
  ·unfold un one at z
   by_cases w:p=D
   ·rw [w]; exact x1.2.2.1.free hD
   ·simp only [if_neg w] at z; exact x1.2.2.1.free (fresh p z)
  ·by_cases w:p=D
   ·rw [w]; exact .inl hDi
   ·unfold un one; simp only [if_neg w]; exact dj p
  ·unfold un one at z
   by_cases w:p=D
   ·simp only [if_pos w] at z; rw [w]; cases z; exact hy
   ·simp only [if_neg w] at z; exact sh _ _ z
theorem EvO.weak {O O2:Own α}{e:TE}{r:Mo α}(h:∀ {a v F h},O.O a v F h→O2.O a v F h) (he:EvO K e E L r O):EvO K e E L r O2:=by
 intro σ F H Q hL hs q
 exact he σ F H Q hL hs (q.imp fun a F1 H1 x1 k1 v hp fresh d s o=>k1 v hp fresh d s (h o))
theorem jn_no {h1 h2 h:Hp}(j:Jn h1 h2 h) (n:∀ p,h2 p=none):h=h1:=funext fun p=>by
 rcases j p with ⟨a,b⟩ | ⟨_,b⟩
 ·rw [b,n,a]
 ·exact b
theorem OwAll.plain {T':Ty β}:∀ {xs:List β}{vs:List V}{F h:Hp},OwAll (owF T') F xs vs h→(∀ p,h p=none)∧Prs T' F xs vs
 | [],[],_,_,q=>⟨q,.nil⟩
 | x::xs,v::vs,_,_,⟨h1,h2,j,⟨e,r⟩,q⟩=>have z:=OwAll.plain q; ⟨fun p=>by rw [jn_no j z.1]; exact e p,.cons r z.2⟩
 | [],_::_,_,_,q=>q.elim
 | _::_,[],_,_,q=>q.elim
theorem zaZ_ {lv:List Str}{fr:List (Str×Nat)}{wi:TI}{g:TG}{tt:TT}{te:TE}{r:Mo (List α)}{ss:α→List (Nat×Sl)}{c:α→Mo Bool}{f:α→Mo β}{T':Ty β}
  (hi:EvI K wi E L r T) (hg:TgR K g T ss) (hd:∀ a,DeadAt (cL lv fr L) ((ss a).map (·.1))) (ht:∀ a,EvT K tt E0 (setL (cL lv fr L) (ss a)) (c a)) (he:∀ a,EvF K te E0 (setL (cL lv fr L) (ss a)) (f a) T') :
  EvO K (tComp lv fr wi g tt te) E L (r.bind fun xs=>compM (fun x=>cond1 (c x) (f x)) xs []) (owL T') :=
 EvO.weak (O:=owLO (owF T')) (O2:=owL T') (fun ⟨p,vs,k,e,j,q⟩=>have z:=OwAll.plain q; ⟨p,vs,e,jn_no j z.1,z.2⟩) (zfh_ hi hg hd ht fun a=>EvF.ow (he a))
section
open PySem PySem.Spec PyProof.Rows PySem.W
variable {κ:Type}
def mSortDk (b:Nat) (_:Fgg):List V→Hp→VK→Prop:=fun xs H Q=>match xs with
 | [.ref p]=>∃ (kvs:List (Key×V)) (k:Nat) (lt:Nat→Nat→Bool),H p=some (.dK kvs)∧kvs.length<b∧WOr lt∧k≠0∧(∀ q∈kvs,knd (kV q.1)=k)∧(∀ i j x y,(kvs.map fun q:Key×V=>kV q.1)[i]?=some x→(kvs.map fun q=>kV q.1)[j]?=some y→lt i j=ltF x y) ∧
   ∀ idx,Srtd lt kvs.length idx→∀ l,H l=none→Q (.ref l) (upd H l (.lst (idx.map fun i=>(kvs.map fun q=>kV q.1).getD i .non)))
 | _=>False
theorem zdg_ {b:Nat}(hB:RunB b) {X:Cx}(hc:X.calm=true):CallR X (.builtin "sorted") (mSortDk b X.K):=by
 have hB1:=hB.1
 intro pins s σ H xs us Q I r h
 have hv:∃ p,xs=[.ref p]:=by
  rcases xs with _ | ⟨y,_ | ⟨z,t⟩⟩
  ·exact False.elim h
  ·cases y with
   | ref p=>exact ⟨p,rfl⟩
   | _=>exact False.elim h
  ·cases y<;>exact False.elim h
 obtain ⟨p,rfl⟩:=hv
 ·
  ·
   obtain ⟨kvs,k,lt,hp,h64,wo,hk,hall,hlt,q⟩:=h
   obtain ⟨u,rfl,rx⟩:=vals1 r
   cases rx
   obtain ⟨z,hd,vs,rel,dd⟩:=zo0_ I.hok (.inl hp)
   obtain ⟨ep,hat⟩:=dd.dictAt
   have hln:kvs.length=vs.length:=rel.length
   have hpv:∀ us:List Value,Vals (kvs.map fun q=>kV q.1) us→us.length=kvs.length:=fun us hv=>by rw [← Vals.length hv,List.length_map]
   refine zk0_ hB (n:=kvs.length) (PV:=fun us=>Vals (kvs.map fun q=>kV q.1) us) h64 wo hpv (fun R hR=>?_) (fun us hv h2 h' tk _=>?_) fun us l h' tk c idx hv hl kp hi ho=>?_
   ·refine zml_ (kdl_dict (knd:=mixKind X.prog X.w) (kvs:=vs) (ep:=ep) hd) ?_ hat (by rw [← hln,sizeLine_eq]; lia) fun h' tk acc hsz hkp hacc=>hR _ h' tk ?_ (Nat.le_of_lt hsz) hkp
    ·exact I.ok.hd hc
    ·have hl:acc.toList.length=kvs.length:=by rw [Array.length_toList,hln]; exact hacc.1
     have e:∀ (ks:List (Key×V)) (us:List Value),ks.length=us.length→(∀ (i:Nat) (q:Key×V) (u:Value),ks[i]?=some q→us[i]?=some u→RelV (kV q.1) u)→Vals (ks.map fun q=>kV q.1) us:=by
      intro ks
      induction ks with
      | nil=>intro us hl _; cases us with | nil=>exact .nil | cons _ _=>simp at hl
      | cons q ks ih =>
       intro us hl hh
       cases us with
       | nil=>simp at hl
       | cons u us=>exact .cons (hh 0 q u rfl rfl) (ih us (by simpa using hl) fun i q' u' e1 e2=>hh (i+1) q' u' (by simpa using e1) (by simpa using e2))
     refine e kvs acc.toList hl.symm fun i q u e1 e2=>?_
     obtain ⟨k',x,ek,hk'⟩:=hacc.2 i u (by rw [← Array.getElem?_toList]; exact e2)
     have:∀ (a:List (Key×V)) (b:List (Key×Value)) (i:Nat) q k' x,KV a b→a[i]?=some q→b[i]?=some (k',x)→q.1=k':=by
      intro a b i q k' x hab
      unfold KV at hab
      induction hab generalizing i with
      | nil=>intro e; simp at e
      | cons r t ih =>
       intro e1 e2
       cases i with
       | zero=>simp at e1 e2; subst e1; have:=r.1; rw [e2] at this; exact this
       | succ i=>exact ih i (by simpa using e1) (by simpa using e2)
     rw [this kvs vs i q k' x rel e1 ek]
     exact is_kV hk'
   ·refine zl7_ hv hk (fun y hy=>?_) hlt h2
    obtain ⟨q,hq,rfl⟩:=List.mem_map.mp hy
    exact hall q hq
   ·have hlu:=hpv us hv
    refine ⟨.ref l,_,I.laid (o:=.lst (idx.map fun i=>(kvs.map fun q=>kV q.1).getD i .non)) (t':=tk) kp hl ?_,rfl,q idx (by rwa [← hlu]) _ (I.hok.fresh hl)⟩
    have hi1:∀ i∈idx,i<us.length:=fun i hi'=>List.mem_range.mp (hi.1.mem_iff.mp hi')
    refine ⟨?_,_,c,ziI_ hv idx hi1,ho⟩
    rw [List.length_map,hi.1.length_eq,List.length_range,sizeLine_eq]
    lia
theorem zey_ {b:Nat} [DecidableEq κ] {KY:KyT κ}{T:Ty α}{k:Nat}{lt:κ→κ→Bool}(f:FlT KY.T k lt) (o:LOr lt) (hk:∀ x F,KY.T.R x (kV (KY.key x)) F) (b0:0<b:=by decide) :
  BlO K (mSortDk b K) E (csLast (tyD KY T)) (fun m=>.grd (m.length<b) (.ok (srtL lt (m.map (·.1))))) (owL KY.T):=by
 rintro m vs F H Q hs ⟨v,rfl,p,kvs,rfl,h,r⟩ q
 have hl:m.length=kvs.length:=Paired.length r
 have pr:Prs KY.T F (m.map (·.1)) (kvs.map fun q=>kV q.1):=by
  clear h hl q
  induction r with
  | nil=>exact .nil
  | cons a t ih=>rename_i q w m kvs; rw [List.map_cons,List.map_cons,a.1]; exact .cons (hk _ _) ih
 obtain ⟨h64,q⟩:=q.grd
 have all:∀ q∈kvs,knd (kV q.1)=k:=fun q hq=>by
  obtain ⟨i,e⟩:=List.mem_iff_getElem?.mp (List.mem_map_of_mem (f:=fun q:Key×V=>kV q.1) hq)
  obtain ⟨x,_,rx⟩:=zhW_ pr i _ e
  exact (f.2 x _ F rx).1
 cases m with
 | nil =>
  cases r
  refine ⟨[],1,fun _ _=>false,hs _ _ h,b0,⟨(fun h=>by cases h),(fun _ _=>rfl)⟩,by decide,(fun y hy=>by cases hy),(fun i j x y e=>by simp at e),fun idx hi l hl=>?_⟩
  have:idx=[]:=by have:=hi.1.length_eq; simpa using this
  subst this
  rw [show srtL lt (([]:List (κ×α)).map (·.1))=[] by simp [srtL]] at q
  exact zdl_ hs hl (xs:=[]) .nil q
 | cons x xs =>
  refine ⟨kvs,k,fun i j=>lt (((x::xs).map (·.1)).getD i x.1) (((x::xs).map (·.1)).getD j x.1),hs _ _ h,by lia,zqa_ o _,f.1,all,fun i j a b ea eb=>?_,fun idx hi l hl2=>?_⟩
  ·obtain ⟨a',ea',ra⟩:=zhW_ pr i a ea
   obtain ⟨b',eb',rb⟩:=zhW_ pr j b eb
   show lt (((x::xs).map (·.1)).getD i x.1) (((x::xs).map (·.1)).getD j x.1)=_
   rw [List.getD_eq_getElem?_getD,List.getD_eq_getElem?_getD,ea',eb']
   exact ((f.2 a' a F ra).2 b' b F rb).1.symm
  ·rw [← hl,← List.length_map (f:=(·.1))] at hi
   have e:=ziX_ o hi
   rw [← e] at q
   refine zdl_ hs hl2 (zlp_ pr x.1 idx fun i hi'=>?_) q
   have:=List.mem_range.mp (hi.1.mem_iff.mp hi')
   rw [List.length_map] at this ⊢
   lia
end
theorem zgx_ {r:Mo (List α)}{ta:TA}(h:EvA K ta E L r (csLast (tyL T))):EvI K (iEnumL K ta) E L (r.bind fun l=>.ok (enumL l)) (tyTup (csCons tyInt (csLast T))):=by
 intro σ F H R hL hs q
 refine h σ F H _ hL hs (q.bind.imp fun l F1 H1 x1 k1 vs hv=>?_)
 obtain ⟨v,rfl,p,us,rfl,hp,hr⟩:=hv
 refine ⟨p,rfl,⟨us,.of (x1.2.1 _ _ hp)⟩,k1.ok x1.2.1 _ ⟨fun i H x hH hx=>?_,fun H hH=>?_⟩⟩
 ·rw [zdK_] at hx
  rcases hr.get i with ⟨a,_⟩ | ⟨y,u,a,b,c⟩
  ·rw [a] at hx; cases hx
  ·rw [a] at hx; cases hx
   refine ⟨⟨us,u,.of (hH _ _ hp),b⟩,?_⟩
   rintro v H' ⟨p2,w,z,hp2,rfl,rfl⟩ F hF hF'
   have e:=z us (.of (hH _ _ hp))
   rw [b] at e; cases e
   have x:=Ext.new (o:=.tup [.int i,u]) hF' hp2
   exact ⟨_,x,p2,_,rfl,zai_,_,_,rfl,rfl,u,rfl,T.mono (hF.trans x.1) c⟩
 ·exact ⟨us,.of (hH _ _ hp),by rw [zb4_,hr.len]; exact Nat.le_refl _⟩
def mListL (K:Fgg):List V→Hp→VK→Prop:=fun xs H Q=>∃ p ys,xs=[.ref p]∧(SqL K H p ys∨SqT K H p ys)∧∀ l,H l=none→Q (.ref l) (upd H l (.lst ys))
theorem zcQ_ {X:Cx}:CallR X (.type "list") (mListL X.K):=zgT_
theorem zeX_:BlO K (mListL K) E (csLast (tyL T)) (fun l=>.ok l) (owL T):=by
 rintro c vs F H Q hs ⟨v,rfl,p,us,rfl,h,r⟩ q
 exact ⟨p,us,rfl,.inl (.of (hs _ _ h)),fun l hl=>zdl_ hs hl r q⟩
theorem zaq_ {α:Type}{us:List α}{n:Nat}(h:us.length=n+1):∃ a t,us=a::t∧t.length=n:=by
 cases us with
 | nil=>cases h
 | cons a t=>exact ⟨a,t,rfl,Nat.succ.inj h⟩
theorem Fun.binds1 {x qual:Str}{st:Stmt}{f:Addr}{fd:FuncData}{ps:List Str}(hp:ps.length=1) (F:Fun K x qual st f fd) (h:∀ (kV doc pm:Value) (an:Option Addr) (cdv ct:Value) (ua:Value),bindArgs (PySem.W.fnOf x qual (defArgs st) (defBody st) (defScope st) .none kV doc pm an cdv ct) ⟨[ua],[]⟩=pure (ps.zip [ua])):Binds K fd ps []:=by
 refine F.binds fun kV doc pm an cdv ct us hl=>?_
 have h0:=hl.trans hp
 obtain ⟨ua,t1,rfl,h1⟩:=zaq_ h0
 cases List.length_eq_zero_iff.mp h1
 exact h kV doc pm an cdv ct ua
theorem Fun.binds2 {x qual:Str}{st:Stmt}{f:Addr}{fd:FuncData}{ps:List Str}(hp:ps.length=2) (F:Fun K x qual st f fd) (h:∀ (kV doc pm:Value) (an:Option Addr) (cdv ct:Value) (ua ub:Value),bindArgs (PySem.W.fnOf x qual (defArgs st) (defBody st) (defScope st) .none kV doc pm an cdv ct) ⟨[ua,ub],[]⟩=pure (ps.zip [ua,ub])):Binds K fd ps []:=by
 refine F.binds fun kV doc pm an cdv ct us hl=>?_
 have h0:=hl.trans hp
 obtain ⟨ua,t1,rfl,h1⟩:=zaq_ h0
 obtain ⟨ub,t2,rfl,h2⟩:=zaq_ h1
 cases List.length_eq_zero_iff.mp h2
 exact h kV doc pm an cdv ct ua ub
theorem Fun.binds3 {x qual:Str}{st:Stmt}{f:Addr}{fd:FuncData}{ps:List Str}(hp:ps.length=3) (F:Fun K x qual st f fd) (h:∀ (kV doc pm:Value) (an:Option Addr) (cdv ct:Value) (ua ub uc:Value),bindArgs (PySem.W.fnOf x qual (defArgs st) (defBody st) (defScope st) .none kV doc pm an cdv ct) ⟨[ua,ub,uc],[]⟩=pure (ps.zip [ua,ub,uc])):Binds K fd ps []:=by
 refine F.binds fun kV doc pm an cdv ct us hl=>?_
 have h0:=hl.trans hp
 obtain ⟨ua,t1,rfl,h1⟩:=zaq_ h0
 obtain ⟨ub,t2,rfl,h2⟩:=zaq_ h1
 obtain ⟨uc,t3,rfl,h3⟩:=zaq_ h2
 cases List.length_eq_zero_iff.mp h3
 exact h kV doc pm an cdv ct ua ub uc
theorem Fun.binds4 {x qual:Str}{st:Stmt}{f:Addr}{fd:FuncData}{ps:List Str}(hp:ps.length=4) (F:Fun K x qual st f fd) (h:∀ (kV doc pm:Value) (an:Option Addr) (cdv ct:Value) (ua ub uc ud:Value),bindArgs (PySem.W.fnOf x qual (defArgs st) (defBody st) (defScope st) .none kV doc pm an cdv ct) ⟨[ua,ub,uc,ud],[]⟩=pure (ps.zip [ua,ub,uc,ud])):Binds K fd ps []:=by
 refine F.binds fun kV doc pm an cdv ct us hl=>?_
 have h0:=hl.trans hp
 obtain ⟨ua,t1,rfl,h1⟩:=zaq_ h0
 obtain ⟨ub,t2,rfl,h2⟩:=zaq_ h1
 obtain ⟨uc,t3,rfl,h3⟩:=zaq_ h2
 obtain ⟨ud,t4,rfl,h4⟩:=zaq_ h3
 cases List.length_eq_zero_iff.mp h4
 exact h kV doc pm an cdv ct ua ub uc ud
theorem Fun.binds5 {x qual:Str}{st:Stmt}{f:Addr}{fd:FuncData}{ps:List Str}(hp:ps.length=5) (F:Fun K x qual st f fd) (h:∀ (kV doc pm:Value) (an:Option Addr) (cdv ct:Value) (ua ub uc ud ue:Value),bindArgs (PySem.W.fnOf x qual (defArgs st) (defBody st) (defScope st) .none kV doc pm an cdv ct) ⟨[ua,ub,uc,ud,ue],[]⟩=pure (ps.zip [ua,ub,uc,ud,ue])):Binds K fd ps []:=by
 refine F.binds fun kV doc pm an cdv ct us hl=>?_
 have h0:=hl.trans hp
 obtain ⟨ua,t1,rfl,h1⟩:=zaq_ h0
 obtain ⟨ub,t2,rfl,h2⟩:=zaq_ h1
 obtain ⟨uc,t3,rfl,h3⟩:=zaq_ h2
 obtain ⟨ud,t4,rfl,h4⟩:=zaq_ h3
 obtain ⟨ue,t5,rfl,h5⟩:=zaq_ h4
 cases List.length_eq_zero_iff.mp h5
 exact h kV doc pm an cdv ct ua ub uc ud ue
theorem zfx_ {P:Ps γ}{P':Ps δ}{O1:Own α}{ad:γ→α→δ}{x:γ}{w:V}{k:δ→Mo (Out ρ B S)}(hi:L[i]?=some (.ow (owAt w (owI C ns P)) x)) (hf:f∉ns) (hsm:ns.length<900) (pp:PsAdd P O1 P' ad) (hO:ImmO O1) (he:EvO K e E L r O1) (hk:∀ x',EvS K u E (L.set i (.ow (owAt w (owI C (ns++[f]) P')) x')) (k x') LS LB Or) :
  EvS K (tSeq (mSFld C (mVar i) e f) u) E L (r.bind fun a=>(Mo.ok (ad x a)).bind k) LS LB Or:=by
 intro F0 H0 σ F h H D hL ok fin
 refine he σ (un F h) H _ (hL.froz ok.2.1) ok.thaw (zal_ (G:=F) ok _ (.inl rfl) fin fun a F' H' hra x1 v hn fresh dj hsn hv=>?_)
 obtain ⟨o,hs,ht⟩:=ok.back x1
 rw [hra] at fin
 obtain ⟨v0,k0,e1,⟨ew,p,dx,vs,m,rfl,ndx,jn,hl,ps⟩,kH,kh,_,g⟩:=zdR_ (hL.mono hs) hi o
 have hp1:H' p=some (.ins C dx (ns.zip vs)):=kH _ _ (jn.l _ _ zh0_)
 refine za7_ e1 ⟨dx,_,hp1,by rw [List.length_zip]; lia,?_⟩
 rw [zgA_ v hf hl]
 have fr:∀ q,hn q≠none→less F' h q=none∧h q=none∧H0 q=none:=fun q z=>⟨by
  rcases dj q with y | y
  ·exact zaA_.free y
  ·exact absurd y z,ok.2.2.1.free (fresh q z),ok.1.2.2.1.free (fresh q z)⟩
 have dn:Dj hn m:=fun q=>by
  by_cases z:hn q=none
  ·exact .inl z
  ·exact .inr (jn.r.free (kh.free (fr q z).2.1))
 obtain ⟨j',PC⟩:=zin_ (o':=.ins C dx ((ns++[f]).zip (vs++[v]))) (hn:=hn) o kh ndx jn (Same.refl m) fr hsn dn
 obtain ⟨h',a1,a2⟩:=g (owAt w (owI C (ns++[f]) P')) (ad x a) (.ref p) _ _ _ PC ⟨ew,p,dx,vs++[v],un hn m,rfl,ndx,j',by rw [List.length_append,List.length_append,hl]; rfl,pp ps a v hn _ _ (Same.refl _) (hO ht hv) (zaM_ dn)⟩
 rw [zZ_ e1] at a1
 exact hk _ F0 H0 σ _ h' _ D a1 a2 fin
theorem zld_ {κ:Type} [DecidableEq κ] {KY:KyT κ}{O:Own β}{mm:Mo (List (κ×α)×(List (κ×α)→β))}{r2:Mo κ}{e2:TE}{k:β→Mo (Out ρ B S)}(hp:EvPt K te E L i O (owD KY T) mm) (hT:Imm T) (hKT:Imm KY.T) (he:EvF K e E L r T) (he2:EvF K e2 E L r2 KY.T) (hk:∀ x',EvS K u E (L.set i (.ow O x')) (k x') LS LB Or) :
  EvS K (tSeq (mDPut te e2 e) u) E L (r.bind fun a=>mm.bind fun yp=>r2.bind fun y=>.lim (yp.1.length+1) ((Mo.ok (yp.2 (putA yp.1 y a))).bind k)) LS LB Or:=by
 intro F0 H0 σ F h H D hL ok fin
 show e σ H fun v H1=>te σ H1 fun x H2=>e2 σ H2 fun y H3=>atD x y H3 fun a kvs k=>kvs.length<sizeLine∧u D σ (upd H3 a (.dK (putK kvs k v)))
 refine he σ (un F h) H _ (hL.froz ok.2.1) ok.thaw (zal_ (G:=F) ok _ (.inl rfl) fin fun a F1 H1 hra x1 v hv=>?_)
 obtain ⟨o,hs,ht⟩:=ok.back x1
 rw [hra] at fin
 have hL':=hL.mono hs
 have hv':=hT ht hv
 refine hp F0 H0 σ _ h H1 _ hL' o (zal_ (G:=F) o _ (.inl rfl) fin fun yp G1 H2 hr0 x2 u0 fc=>?_)
 obtain ⟨o1,hs1,_⟩:=o.back x2
 rw [hr0] at fin
 refine he2 σ (un (less G1 h) h) H2 _ ((hL'.mono hs1).froz o1.2.1) o1.thaw (zal_ (G:=F) o1 _ (.inl rfl) fin fun y F2 H3 hry x3 v2 hv2=>?_)
 obtain ⟨o2,hs2,ht2⟩:=o1.back x3
 rw [hry] at fin
 obtain ⟨hz,fin⟩:=zeF_ (show Fin K (Mo.lim (yp.1.length+1) (k (yp.2 (putA yp.1 y a)))) E LS LB Or F0 H0 D from fin)
 obtain ⟨k1,⟨p,kvs,rfl,rfl,pr⟩,kh',g⟩:=fc _ H3 hs2 o2
 obtain ⟨h',a1,a2⟩:=g (putA yp.1 y a) (one p (.dK (putK kvs (KY.key y) v))) _ (upd H3 p (.dK (putK kvs (KY.key y) v))) (PutC.one o2 kh') ⟨p,_,rfl,rfl,znQ_ pr y (T.mono (hs1.trans hs2) hv')⟩
 unfold atD
 simp only
 rw [KY.of hv2]
 refine ⟨kvs,o2.2.2.1 _ _ (kh' _ _ zz_),?_,hk _ F0 H0 σ _ h' _ D a1 a2 fin⟩
 have:=Paired.length pr
 omega
end
end L2
namespace L2
open PySem PySem.Spec PyProof.Rows
section
variable {K:Fgg}{E:XK}{L:List Sl}
def rngD (hi:Int) (n:Nat):List Int:=(List.range n).map fun (i:Nat)=>hi+i*(-1)
theorem zoL_ {hi:Int}{n:Nat}{F1:Hp}:Yl K (Itp n fun k=>.int (hi+k*(-1))) (rngD hi n) tyInt F1:=by
 refine ⟨fun i H x hH hx=>?_,fun H hH=>?_⟩
 ·unfold rngD at hx
  rw [List.getElem?_map] at hx
  cases e:(List.range n)[i]? with
  | none=>rw [e] at hx; cases hx
  | some c =>
   rw [e] at hx; cases hx
   obtain ⟨hi,e⟩:=List.getElem?_eq_some_iff.mp e
   rw [List.getElem_range] at e; subst e
   rw [List.length_range] at hi
   refine ⟨hi,?_⟩
   rintro v H' ⟨rfl,rfl⟩ F _ hF
   exact ⟨F,.refl hF,rfl⟩
 ·show n≤_
  unfold rngD; rw [List.length_map,List.length_range]; exact Nat.le_refl _
end
section
variable {K:Fgg}{E:XK}{α β ρ B:Type}{F0 H0 F h H:Hp}{L:List Sl}{te:TE}{Or:Own ρ}{tb:TS}{LB:B→List Sl}{i w:Nat}
def mapX (step:β→Mo β):List β→Mo (List β)
 | []=>.ok []
 | x::xs=>(step x).bind fun y=>(mapX step xs).bind fun ys=>.ok (y::ys)
theorem zp1_ {O:Own α}{O':Own β}{r0:Mo (List β×(List β→α))}{step:β→Mo β}{s0:Sl}(hw:L[w]?=some s0) (hne:i≠w) (hp:EvPw K te E L i O (owLO O') r0)
  (hb:∀ (uu v:V) (put:List β→α) (xs:List β) (k:Nat) (z:β),EvS K tb E ((L.set i (.ow (owPn v O' (fun z'=>xs.set k z') (owPn uu (owLO O') put O)) z)).set w (.fz (tyIs v) ())) ((step z).bind fun z'=>.ok (.nx z'))
   (fun z'=>(L.set i (.ow (owPn v O' (fun z'=>xs.set k z') (owPn uu (owLO O') put O)) z')).set w .dead) (fun z':β=>(L.set i (.ow (owPn v O' (fun z'=>xs.set k z') (owPn uu (owLO O') put O)) z')).set w .dead) Or) :
  EvS K (tFor (iAny K te) (gName w) tb) E L (r0.bind fun yp=>(mapX step yp.1).bind fun xs=>.ok (.nx (yp.2 xs))) (fun x'=>(L.set i (.ow O x')).set w .dead) LB Or:=by
 intro F0 H0 σ F h H D hL ok fin
 have dd:∀ {s:Sl}{σ F h},Hold (L.set i s) σ F h→Hold ((L.set i s).set w .dead) σ F h:=fun {s σ F h} hL=>by
  have hw':(L.set i s)[w]?=some s0:=by rw [List.getElem?_set_ne hne]; exact hw
  obtain ⟨o,k,hr,e1,j,_,f⟩:=hL.at w hw'
  have:=f .dead o k h j trivial
  rwa [zZ_ e1] at this
 unfold tFor iAny
 refine hp F0 H0 σ F h H _ hL ok (zal_ (G:=F) ok _ (.inl rfl) fin fun yp G1 H1 hr0 x1 uu il hh=>?_)
 obtain ⟨o1,_,_⟩:=ok.back x1
 rw [hr0] at fin
 have hi:∀ {xs},((L.set i (.ow (owPn uu (owLO O') yp.2 O) xs)).set w .dead)[i]?=some (.ow (owPn uu (owLO O') yp.2 O) xs):=fun {xs}=>by rw [List.getElem?_set_ne (Ne.symm hne),List.getElem?_set_self (by exact il)]
 have ss:∀ {s1 s2:Sl},((L.set i s1).set w .dead).set i s2=(L.set i s2).set w .dead:=fun {s1 s2}=>by rw [List.set_comm _ _ (Ne.symm hne),List.set_set]
 have at0:∀ {xs σ F h H},Hold ((L.set i (.ow (owPn uu (owLO O') yp.2 O) xs)).set w .dead) σ F h→Okk F0 H0 F h H→∃ p vs,uu=.ref p∧h p=some (.lst vs)∧H p=some (.lst vs)∧vs.length=xs.length:=fun {xs σ F h H} hL ok=>by
  obtain ⟨_,_,_,_,j,⟨_,_,ka,kb,jk,⟨p,vs,m,e,jn,all⟩,_⟩,_⟩:=hL.at i hi
  have hp:=j.l _ _ (jk.l _ _ (jn.l _ _ zz_))
  exact ⟨p,vs,e,hp,ok.2.2.1 _ _ hp,all.len.symm⟩
 obtain ⟨p,vs0,rfl,_,hp0,_⟩:=at0 (dd hh) o1
 refine .inl ⟨⟨vs0,.of hp0⟩,?_⟩
 refine ⟨fun k m σ H=>∃ (ys rest:List β) (F h:Hp),m=rest.length∧ys.length=k∧Hold ((L.set i (.ow (owPn (.ref p) (owLO O') yp.2 O) (ys++rest))).set w .dead) σ F h∧Okk F0 H0 F h H∧Fin K ((mapX step rest).bind fun zs=>.ok (.nx (yp.2 (ys++zs)))) E (fun x'=>(L.set i (.ow O x')).set w .dead) LB Or F0 H0 D,⟨_,[],yp.1,_,h,rfl,rfl,dd hh,o1,fin⟩,?_⟩
 rintro k m σ H ⟨ys,rest,F,h,rfl,rfl,hL,ok,fin⟩
 obtain ⟨p',vs,e,hv,hH,hlen⟩:=at0 hL ok
 cases e
 cases rest with
 | nil =>
  left
  refine ⟨⟨vs,.of hH,by rw [hlen]; simp⟩,fin σ F h H ?_ ok⟩
  have:=zaD_ (O2:=O) (x2:=yp.2 (ys++[])) hL hi fun v k _ _ ho=>zgs_ ho
  rwa [ss] at this
 | cons z rest =>
  right
  have hlt:ys.length<vs.length:=by rw [hlen]; simp
  have ek:vs[ys.length]?=some vs[ys.length]:=List.getElem?_eq_getElem hlt
  refine ⟨⟨vs,vs[ys.length],.of hH,ek⟩,fun σ' H'=>∃ (ys' rest':List β) (F h:Hp),rest'.length=rest.length∧ys'.length=ys.length+1∧Hold ((L.set i (.ow (owPn (.ref p) (owLO O') yp.2 O) (ys'++rest'))).set w .dead) σ' F h∧Okk F0 H0 F h H'∧Fin K ((mapX step rest').bind fun zs=>.ok (.nx (yp.2 (ys'++zs)))) E (fun x'=>(L.set i (.ow O x')).set w .dead) LB Or F0 H0 D,
   fun σ' H' ⟨ys',rest',F,h,a,b,c⟩=>⟨rest'.length,by rw [List.length_cons,a]; exact Nat.lt_succ_self _,ys',rest',F,h,rfl,b,c⟩,fun v H2 hy=>?_⟩
  obtain ⟨rfl,zz⟩:=hy
  have ev:=zz vs (.of hH)
  rw [ek] at ev
  injection ev with ev
  subst ev
  have ez:(ys++z::rest)[ys.length]?=some z:=by simp
  have hin:=zaD_ (O2:=owPn vs[ys.length] O' (fun z'=>(ys++z::rest).set ys.length z') (owPn (.ref p) (owLO O') yp.2 O)) (x2:=z) hL hi fun v0 k ev kh ⟨ka,kb,jk,hlo,wand⟩=>by
   obtain ⟨k1,k2,j1,o1,g⟩:=zjR_ hv ek ez F ka (jk.l.trans kh) hlo
   obtain ⟨mm,jm,jh⟩:=za9_ j1 jk
   refine ⟨k1,mm,jh,o1,fun z' k1' k' F3 s oz j'=>?_⟩
   obtain ⟨d,jg⟩:=zjP_ jm j'
   exact ⟨un k1' k2,kb,jg,g z' k1' _ F3 s oz (zaM_ d),fun z'' k1'' k'' F4 s'=>wand z'' k1'' k'' F4 (s.trans s')⟩
  rw [ss] at hin
  have hw2:∀ {s:Sl},((L.set i s).set w .dead)[w]?=some .dead:=fun {s}=>by rw [List.getElem?_set_self]; rw [List.length_set]; exact (List.getElem?_eq_some_iff.mp hw).1
  have hin2:=zcU_ (T:=tyIs vs[ys.length]) (a:=()) (v:=vs[ys.length]) hw2 hin rfl
  rw [List.set_set] at hin2
  refine hb (.ref p) vs[ys.length] yp.2 (ys++z::rest) ys.length z F0 H0 (σ.set w (some vs[ys.length])) F h H2 _ hin2 ok ?_
  have em:∀ z',step z=.ok z'→((mapX step (z::rest)).bind fun zs=>(.ok (.nx (yp.2 (ys++zs))):Mo (Out ρ B α)))=(mapX step rest).bind fun zs=>.ok (.nx (yp.2 (ys++[z']++zs))):=fun z' e=>by
   show ((step z).bind fun y=>(mapX step rest).bind fun ys=>.ok (y::ys)).bind _=_
   rw [e]
   cases mapX step rest with
   | ok zs=>show Mo.ok (Out.nx (yp.2 (ys++(z'::zs))))=Mo.ok (Out.nx (yp.2 (ys++[z']++zs))); rw [List.append_assoc]; rfl
   | ex c=>rfl
   | no=>rfl
  cases e:step z with
  | no=>unfold mapX at fin; rw [e] at fin; exact fin
  | ex c=>unfold mapX at fin; rw [e] at fin; exact fin
  | ok z' =>
   rw [em z' e] at fin
   intro σ' F' h' H' hL' ok'
   refine ⟨ys++[z'],rest,F',h',rfl,by simp,?_,ok',fin⟩
   have hi2:((L.set i (.ow (owPn vs[ys.length] O' (fun z'=>(ys++z::rest).set ys.length z') (owPn (.ref p) (owLO O') yp.2 O)) z')).set w .dead)[i]?=some (.ow (owPn vs[ys.length] O' (fun z'=>(ys++z::rest).set ys.length z') (owPn (.ref p) (owLO O') yp.2 O)) z'):=by rw [List.getElem?_set_ne (Ne.symm hne),List.getElem?_set_self (by exact il)]
   have:=zaD_ (O2:=owPn (.ref p) (owLO O') yp.2 O) (x2:=ys++[z']++rest) hL' hi2 fun v k _ _ ho=>by
    have:=zgs_ ho
    rwa [show (ys++z::rest).set ys.length z'=ys++[z']++rest by simp] at this
   rwa [ss] at this
end
end L2
namespace L2
open PySem PySem.Spec PyProof.Rows
section
variable {K:Fgg}{E:XK}{α β γ δ ρ ρ' S B:Type}{F0 H0 F h H:Hp}{L:List Sl}{e te ei tc:TE}{ta:TA}{T:Ty α}{r:Mo α}{Or:Own ρ}{Or':Own ρ'}{t u:TS}{LS:S→List Sl}{LB:B→List Sl}{σ:St}{C:Addr}{ns:List Str}{f m:Str}{i n w j:Nat}
def EvN (K:Fgg) (e:TE) (E:XK) (L:List Sl) (r:Mo α) (T:Ty α):Prop :=
 ∀ σ F H (Q:VK),HoldF L σ F→Same F H→After K r E F H (fun a G H'=>∀ v,(∀ h,Same h F→(∀ p xs,h p≠some (.tup xs))→T.R a v (less G h))→Q v H')→e σ H Q
def EvAN (K:Fgg) (t:TA) (E:XK) (L:List Sl) (r:Mo γ) (C:Cs γ):Prop :=
 ∀ σ F H (Q:List V→Hp→Prop),HoldF L σ F→Same F H→After K r E F H (fun c G H'=>∀ vs,(∀ h,Same h F→(∀ p xs,h p≠some (.tup xs))→C.R c vs (less G h))→Q vs H')→t σ H Q
theorem zhe_ {G:Hp}(s:Same h G) (nt:∀ p xs,h p≠some (.tup xs)):Tups G (less G h):=fun p xs z=>by
 cases y:h p with
 | none=>rw [zx_ y]; exact z
 | some o=>have:=s _ _ y; rw [z] at this; cases this; exact absurd y (nt p xs)
theorem zaF_ (hT:Imm T) (he:EvF K e E L r T):EvN K e E L r T:=by
 intro σ F H Q hL hs q
 exact he σ F H Q hL hs (q.imp fun a G H' x k v hv=>k v fun h sh nt=>hT (zhe_ (sh.trans x.1) nt) hv)
theorem zjp_ {O1:Own α}(hO:ImmO O1) (he:EvO K e E L r O1):EvN K e E L r O1.fr:=by
 intro σ F H Q hL hs q
 refine he σ F H Q hL hs ?_
 cases r with
 | no=>exact q
 | ex c=>exact q
 | ok a =>
  intro F' H' x v hn fresh dj sn ho
  refine q (un F' hn) H' ⟨x.1.trans zak_,fun p o z=>?_,x.2.2.1,fun p a b=>?_⟩ v fun h sh nt=>?_
  ·unfold un at z
   cases y:F' p with
   | some w=>rw [y] at z; rw [← z]; exact x.2.1 _ _ y
   | none=>rw [y] at z; exact sn _ _ z
  ·unfold un at b
   cases y:F' p with
   | some w=>exact x.2.2.2 p a (by rw [y]; exact Option.some_ne_none _)
   | none=>rw [y] at b; exact fresh p b
  ·have d2:Dj (less F' h) hn:=fun p=>by
    rcases dj p with z | z
    ·exact .inl (zaA_.free z)
    ·exact .inr z
   refine O1.fr.mono (fun p o z=>?_) (O1.frz d2 (hO (zhe_ (sh.trans x.1) nt) ho))
   unfold un at z
   cases y:less F' h p with
   | some w =>
    rw [y] at z
    have hp:h p=none:=by
     cases y2:h p with
     | none=>rfl
     | some s=>rw [zD_ p (by rw [y2]; exact Option.some_ne_none _)] at y; cases y
    rw [zx_ hp] at y ⊢
    unfold un; rw [y]; exact z
   | none =>
    rw [y] at z
    have hp:h p=none:=by
     cases y2:h p with
     | none=>rfl
     | some s =>
      have z':hn p=some o:=z
      have:=fresh p (by rw [z']; exact Option.some_ne_none _)
      rw [hs _ _ (sh _ _ y2)] at this; cases this
    rw [zx_ hp] at y ⊢
    unfold un; rw [y]; exact z
theorem zn0_:EvAN K tNil E L (.ok ()) csNil:=fun σ F H Q hL hs q=>q.ok hs [] fun _ _ _=>rfl
theorem zaX_ (h:EvN K e E L r T):EvAN K (tCons e tNil) E L r (csLast T):=by
 intro σ F H Q hL hs q
 exact h σ F H _ hL hs (q.imp fun a G H' x k v hv=>k [v] fun h sh nt=>⟨v,rfl,hv h sh nt⟩)
theorem zbu_ {r2:Mo γ}{C:Cs γ}(h:EvN K e E L r T) (h2:EvAN K ta E L r2 C):EvAN K (tCons e ta) E L (r.bind fun a=>r2.bind fun c=>.ok (a,c)) (csCons T C):=by
 intro σ F H Q hL hs q
 refine h σ F H _ hL hs (q.bind.imp fun a G1 H1 x1 k1 v hv=>?_)
 refine h2 σ G1 H1 _ (hL.mono x1.1) x1.2.1 (k1.bind.imp fun c G2 H2 x2 k2 vs hvs=>?_)
 exact k2.ok x2.2.1 (v::vs) fun h sh nt=>⟨v,vs,rfl,T.mono (ze4_ x2.1) (hv h sh nt),hvs h (sh.trans x1.1) nt⟩
theorem za6_ {O:Own α}{P:Ps β}{r0:Mo (β×(β→α))}{Q:Cs γ}{ta:TA}{ra:Mo γ}{g:β→γ→Mo (ρ'×β)}{Or':Own ρ'}(hno:m∉ns) (hI:ImmO (owI C ns P)) (hR:ImmO Or') (hp:EvPw K te E L i O (owI C ns P) r0) (ha:EvAN K ta E L ra Q) :
  EvM K (tMeth C m (CtM K (owI C ns P) (owI C ns P) Q g Or') [] E0 te ta) E L i O Or' (r0.bind fun yp=>ra.bind fun c=>(g yp.1 c).noex.bind fun q=>.ok (q.1,yp.2 q.2)):=by
 intro F0 H0 σ F h H R hL ok fin
 show te σ H fun x H1=>∃ a dx fs,x=.ref a∧H1 a=some (.ins C dx fs)∧fs.lookup m=none∧ta σ H1 fun vs H2=>CtM K (owI C ns P) (owI C ns P) Q g Or' (x::(vs++[])) H2 R E0
 refine hp F0 H0 σ F h H _ hL ok (zel_ ok fin fun yp G1 H1 hr0 x1 uu il hh=>?_)
 obtain ⟨o1,hs1,_⟩:=ok.back x1
 rw [hr0] at fin
 have hi:(L.set i (.ow (owPn uu (owI C ns P) yp.2 O) yp.1))[i]?=some (.ow (owPn uu (owI C ns P) yp.2 O) yp.1):=by rw [List.getElem?_set_self (by exact il)]
 obtain ⟨_,_,_,_,j0,⟨_,_,ka0,kb0,jk0,⟨p,dx,vs0,m0,rfl,ndx,jn,hl,ps⟩,_⟩,_⟩:=hh.at i hi
 refine ⟨p,dx,_,rfl,o1.2.2.1 _ _ (j0.l _ _ (jk0.l _ _ (jn.l _ _ zh0_))),zar_ hno,?_⟩
 refine ha σ (un (less G1 h) h) H1 _ ((hL.mono hs1).froz o1.2.1) o1.thaw (zel_ o1 fin fun c G2 H2 hra x2 vs hvs=>?_)
 obtain ⟨o2,hs2,ht2⟩:=o1.back x2
 rw [hra] at fin
 rw [List.append_nil]
 obtain ⟨_,k,hrest,e1,j,⟨v0,rfl,ka,kb,jk,hO,wand⟩,f⟩:=(hh.mono hs2).atM i hi
 have kh1:Same ka h:=jk.l.trans j.l
 have sFc:Same (un (less G2 h) (less h ka)) H2:=fun q o z=>by
  unfold un at z
  cases y:less G2 h q with
  | some s=>rw [y] at z; rw [← z]; exact o2.1.2.1 _ _ y
  | none=>rw [y] at z; exact o2.2.2.1 _ _ (zaA_ _ _ z)
 have djc:Dj (un (less G2 h) (less h ka)) ka:=fun q=>by
  by_cases z:ka q=none
  ·exact .inr z
  ·left
   unfold un
   have:less G2 h q=none:=zD_ q fun y=>z (kh1.free y)
   rw [this]; exact zD_ q z
 refine ⟨un (less G2 h) (less h ka),ka,yp.1,c,.ref p,vs,rfl,sFc,djc,kh1.trans o2.2.2.1,(owI C ns P).mono zak_ hO,Q.mono zak_ (hvs h (zdy_ o1.2.1) o1.2.2.2.2),?_⟩
 have fin:FinM K ((g yp.1 c).noex.bind fun q=>.ok (q.1,yp.2 q.2)) E F0 H0 _:=fin
 cases e:g yp.1 c with
 | no=>rw [e] at fin; exact fin
 | ex cc=>rw [e] at fin; exact fin.elim
 | ok q =>
  rw [e] at fin
  rintro F' h' H' okc v ⟨hr,hs',j',hRes,hO2⟩
  obtain ⟨ff,tp,d1,d2,d3,okk⟩:=zga_ o2 j jk okc j'
  have hold:=f (less F' (less h ka)) (.ow O (yp.2 q.2)) (some v0) (un hs' kb) _ ff (zaM_ d2) ⟨v0,rfl,wand q.2 hs' _ _ ff (hI tp hO2) (zaM_ d1)⟩
  rw [zZ_ e1,List.set_set] at hold
  exact fin _ _ H' okk v _ hr (zaM_ d3) hold (hR tp hRes)
theorem zhi_ {O:Own α}{r:Mo (ρ'×α)}{k:ρ'×α→Mo (Out ρ B S)}(hm:EvM K tc E L i O Or' r) (hk:∀ q,EvS K u E (L.set i (.ow O q.2)) (k q) LS LB Or):EvS K (tSeq (tDrop tc) u) E L (r.bind k) LS LB Or:=by
 intro F0 H0 σ F h H D hL ok fin
 show tc σ H fun _ H3=>u D σ H3
 refine hm F0 H0 σ F h H _ hL ok (zfK_ fin fun q F' h' H' hr o v h1 h2 j hold res=>?_)
 rw [hr] at fin
 exact hk q F0 H0 σ F' h1 H' D hold (zbA_ o j.l) fin
def EvIr (K:Fgg) (wi:TI) (E:XK) (L:List Sl) (r:Mo (List Int)):Prop :=
 ∀ σ F H (R:It→Hp→Prop),HoldF L σ F→Same F H→After K r E F H (fun xs F' H'=>∀ J,(∀ F1,Yl K J xs tyInt F1)→R J H')→wi σ H R
theorem eir_1 {r:Mo Int}(h:EvA K ta E L r (csLast tyInt)):EvIr K (mRng1 ta) E L (r.bind fun j=>.grd (-(2 ^ 62)≤j∧j<2 ^ 62) (.ok (rngI 0 j.toNat))):=by
 intro σ F H R hL hs q
 refine h σ F H _ hL hs (q.bind.imp fun l F1 H1 x1 k1 v hv=>?_)
 obtain ⟨u,rfl,rfl⟩:=hv
 obtain ⟨z,k1⟩:=k1.grd
 exact ⟨z.1,z.2,k1.ok x1.2.1 _ fun _=>znx_⟩
theorem eir_3 {r:Mo (Int×Int×Int)}(h:EvA K ta E L r (csCons tyInt (csCons tyInt (csLast tyInt)))):EvIr K (mRng3 ta) E L (r.bind fun c=>.grd (c.2.2 = -1 ∧ -(2 ^ 61)≤c.1∧c.1<2 ^ 61 ∧ -(2 ^ 61)≤c.2.1∧c.2.1<2 ^ 61) (.ok (rngD c.1 (c.1-c.2.1).toNat))):=by
 intro σ F H R hL hs q
 refine h σ F H _ hL hs (q.bind.imp fun l F1 H1 x1 k1 v hv=>?_)
 obtain ⟨u,us,rfl,rfl,u2,us2,rfl,rfl,w,rfl,rfl⟩:=hv
 obtain ⟨z,k1⟩:=k1.grd
 exact ⟨z.1,z.2,k1.ok x1.2.1 _ fun _=>zoL_⟩
theorem zmR_ {wi:TI}{g:TG}{tb:TS}{s0:S}{r:Mo (List Int)}{ss:Int→List (Nat×Sl)}{step:S→Int→Mo (Out ρ S S)}(hi:EvIr K wi E (LS s0) r) (hg:TgR K g tyInt ss)
  (hb:∀ s a,EvS K tb E (setL (LS s) (ss a)) (step s a) LS LS Or):EvS K (tFor wi g tb) E (LS s0) (r.bind fun xs=>forO step xs s0) LS LB Or:=by
 intro F0 H0 σ F h H D hL ok fin
 refine hi σ (un F h) H _ (hL.froz ok.2.1) ok.thaw (zal_ (G:=F) ok _ (.inl rfl) fin fun xs G1 H1 hr x1 J Y=>?_)
 rw [hr] at fin
 obtain ⟨o1,hs1,_⟩:=ok.back x1
 refine ⟨fun i m σ H=>m=xs.length-i∧i≤xs.length∧∃ s F h,Hold (LS s) σ F h∧Okk F0 H0 F h H∧Fin K (forO (B:=B) step (xs.drop i) s) E LS LB Or F0 H0 D,
  ⟨_,rfl,Nat.zero_le _,s0,_,h,hL.mono hs1,o1,fin⟩,?_⟩
 rintro i m σ H ⟨rfl,hi,s,F,h,hL,ok,fin⟩
 by_cases hlt:i<xs.length
 ·right
  obtain ⟨g1,g2⟩:=(Y F).go i H xs[i] ok.1.2.1 (List.getElem?_eq_getElem hlt)
  refine ⟨g1,fun σ' H'=>i+1≤xs.length∧∃ s F h,Hold (LS s) σ' F h∧Okk F0 H0 F h H'∧Fin K (forO (B:=B) step (xs.drop (i+1)) s) E LS LB Or F0 H0 D,fun σ' H' z=>⟨xs.length-(i+1),by omega,rfl,z⟩,fun v H2 hy=>?_⟩
  obtain ⟨F2,x2,hv⟩:=g2 v H2 hy F (Same.refl _) ok.1.2.1
  refine hg xs[i] v σ F2 H2 _ x2.2.1 hv fun vs hp=>?_
  refine hb s xs[i] F0 H0 _ F2 h H2 _ (zdP_ hp (hL.mono x2.1)) (ok.cold x2) ?_
  rw [List.drop_eq_getElem_cons hlt] at fin
  unfold forO at fin
  cases e:step s xs[i] with
  | no=>rw [e] at fin; exact fin
  | ex c=>rw [e] at fin; exact fin
  | ok o =>
   rw [e] at fin
   cases o with
   | nx s'=>exact fun σ' F' h' H' hL' ok'=>⟨hlt,s',F',h',hL',ok',fin⟩
   | ct s'=>exact fun σ' F' h' H' hL' ok'=>⟨hlt,s',F',h',hL',ok',fin⟩
   | bk s'=>exact fin
   | rt a=>exact fin
 ·left
  have e:i=xs.length:=by omega
  subst e
  rw [List.drop_length] at fin
  exact ⟨(Y F).stop H ok.1.2.1,fin σ F h H hL ok⟩
end
end L2
namespace L2
open PySem PySem.Spec PyProof.Rows
section
variable {K:Fgg}{E:XK}{α κ:Type} [DecidableEq κ] {KY:KyT κ}{L:List Sl}{e1 e2 e3:TE}{T:Ty α}
end
section
variable {K:Fgg}{E:XK}{α β ρ ρ' B:Type}{L:List Sl}{te:TE}{Or:Own ρ}{Or':Own ρ'}{LB:B→List Sl}{C:Addr}{ns:List Str}{m:Str}{i w:Nat}
theorem zpk_ {O:Own α}{P:Ps β}{g:β→Unit→Mo (ρ'×β)}{r0:Mo (List β×(List β→α))}{s0:Sl}(hi:i<L.length) (hw:L[w]?=some s0) (hne:i≠w) (hno:m∉ns) (hI:ImmO (owI C ns P)) (hp:EvPw K te E L i O (owLO (owI C ns P)) r0) :
  EvS K (tFor (iAny K te) (gName w) (tDrop (tMeth C m (CtM K (owI C ns P) (owI C ns P) csNil g Or') [] E0 (mVar w) tNil))) E L (r0.bind fun yp=>(mapX (fun z=>(g z ()).noex.bind fun q=>.ok q.2) yp.1).bind fun xs=>.ok (.nx (yp.2 xs))) (fun x'=>(L.set i (.ow O x')).set w .dead) LB Or:=by
 refine zp1_ hw hne hp fun uu v put xs k z=>?_
 have h1:∀ s1 s2:Sl,((L.set i s1).set w s2)[i]?=some s1:=fun s1 s2=>by rw [List.getElem?_set_ne (Ne.symm hne),List.getElem?_set_self (by exact hi)]
 have h2:∀ s1 s2:Sl,((L.set i s1).set w s2)[w]?=some s2:=fun s1 s2=>by rw [List.getElem?_set_self]; rw [List.length_set]; exact (List.getElem?_eq_some_iff.mp hw).1
 have e:((((g z ()).noex.bind fun q=>Mo.ok q.2).bind fun z'=>.ok (.nx z')):Mo (Out ρ β β))=(Mo.ok (z,fun z':β=>z')).bind fun yp=>(Mo.ok ()).bind fun c=>(g yp.1 c).noex.bind fun q=>.ok (.nx (yp.2 q.2)):=by
  cases e0:g z () with
  | ok q=>simp only [Mo.bind,Mo.noex,e0]
  | ex c=>simp only [Mo.bind,Mo.noex,e0]
  | no=>simp only [Mo.bind,Mo.noex,e0]
 rw [e]
 refine zcX_ (zlB_ (k:=fun x=>.ok (.nx x)) (P:=P) hno hI (zg1_ (h1 _ _) (h2 _ _)) zmf_ zpH_ fun x'=>?_)
 intro F0 H0 σ F h H D hL ok fin
 have:=fin σ F h H
 refine fin σ F h H ?_ ok
 rw [List.set_comm _ _ (Ne.symm hne),List.set_set] at hL
 obtain ⟨o,k,hr,e1,j,_,f⟩:=hL.at w (h2 _ _)
 have:=f .dead o k h j trivial
 rw [zZ_ e1,List.set_set] at this
 exact this
end
end L2
namespace L2
open PySem PySem.Spec PyProof.Rows
section
variable {K:Fgg}{E:XK}{α β γ δ ρ ρ' S B:Type}{F0 H0 F h H:Hp}{L:List Sl}{e te te2 tc:TE}{ta:TA}{T:Ty α}{r:Mo α}{Or:Own ρ}{Or':Own ρ'}{t u:TS}{LS:S→List Sl}{LB:B→List Sl}{σ:St}{C:Addr}{ns:List Str}{f m:Str}{i n w j:Nat}
theorem zhs_ {Q:Cs γ}{r0:Mo γ}{g:γ→Mo α}{O:Own α}(hno:m∉ns) (he:EvF K te E L r0 (tyI C ns Q)) :
  EvO K (tMeth C m (Ct K (csLast (tyI C ns Q)) g O) [] E0 te tNil) E L (r0.bind fun x=>(g x).noex) O:=by
 intro σ F H R hL hs q
 refine he σ F H _ hL hs (q.bind.imp fun x F1 H1 x1 k1 v hv=>?_)
 obtain ⟨p,dx,vs,rfl,hp,hl,hc⟩:=id hv
 refine ⟨p,dx,_,rfl,x1.2.1 _ _ hp,zar_ hno,?_⟩
 exact ⟨F1,x,x1.2.1,⟨_,rfl,hv⟩,k1.noex.imp fun a F3 H3 x3 k3 w h fresh d s o=>k3 w h (fun p z=>x1.2.2.1.free (fresh p z)) d s o⟩
end
end L2
namespace L2
open PySem PySem.Spec PyProof.Rows
section
variable {X:Cx}{tg:Expr}
end
section
variable {K:Fgg}{E:XK}{α β:Type}{L:List Sl}{T:Ty α}
end
section
variable {X:Cx}{o e f:Expr}{apos cpos:Pos}{td ty tz:TE}
end
section
variable {K:Fgg}{E:XK}{α β γ ρ κ S B:Type}{F0 H0 F h H:Hp}{L:List Sl}{T:Ty α}{O:Own ρ}{t u:TS}{LS:S→List Sl}{LB:B→List Sl}{KY:KyT κ} [DecidableEq κ]
end
end L2
namespace L2
open PySem PySem.Spec PyProof.Rows
section
variable {X:Cx}{pins:Pnn}{σ:St}{H:Hp}{s:Shared}{d:Addr}{o:Obj}{kvs:List (Key×V)}
end
structure M0 (X:Cx) (o:Expr) (m:Str) (apos:Pos) (cpos:Pos):Prop where
 base:attributeBase o m X.env (eval o X.env)=eval o X.env
 few:((backTo cpos (starEach [] X.env)).all (fun x=>!x.1) && (backToKw cpos (keywordEach [] X.env)).all (fun x=>x.1.isSome) && decide (([]:List Expr).length+([]:List Keyword).length+(if ([]:List Keyword).isEmpty then 0 else 1)<30))=true
 line:(apos.endLine == cpos.line)=true
 trees:backTo cpos (starEach [] X.env)=[]
section
variable {X:Cx}{e:Expr}{te:TE}{apos cpos pos tpos:Pos}{elts:List Expr}{kk:Nat}
end
abbrev hpE:Hp:=fun _=>none
section
variable {F0 H0 F1 H1 F h H:Hp}{d:Addr}{o:Obj}{u:HO}
end
section
variable {K:Fgg}{E:XK}{α β γ ρ κ S B:Type}{L Li:List Sl}{T:Ty α}{O:Own ρ}{LB:B→List Sl}{KY:KyT κ}
end
end L2
namespace L2
open PySem PySem.Spec PyProof.Rows
section
variable {K:Fgg}{E:XK}{α β γ ρ κ S B:Type}{F0 H0 F h H:Hp}{L:List Sl}{T:Ty α}{O:Own ρ}{t u:TS}{e e1 e2:TE}{LS:S→List Sl}{LB:B→List Sl}{KY:KyT κ}
variable [DecidableEq κ]
end
section
variable {K:Fgg}{E:XK}{α κ:Type}{T:Ty α}{KY:KyT κ} [DecidableEq κ]
end
end L2
namespace L2
open PySem PySem.Spec PyProof.Rows
section
variable {X:Cx}{pins:Pnn}{σ:St}{H:Hp}{s:Shared}{A:Around}{p q:Addr}{ka kb:List (Key×V)}
end
section
variable {K:Fgg}{E:XK}
end
end L2
namespace L2
open PySem PySem.Spec PyProof.Rows
section
variable {K:Fgg}{E:XK}{L:List Sl}{e:TE}
end
end L2
namespace L2
open PySem PySem.Spec PyProof.Rows
section
variable {K:Fgg}{E:XK}{α β γ ρ ρ' S B:Type}{F0 H0 F h H:Hp}{L:List Sl}{T:Ty α}{Or:Own ρ}{t u:TS}{e e1 e2 te:TE}{LS:S→List Sl}{LB:B→List Sl}{i j:Nat}{σ:St}
end
section
variable {K:Fgg}{E:XK}{α β γ ρ κ S B:Type}{T:Ty α}{O:Own ρ}{LB:B→List Sl}{KY:KyT κ}
end
end L2
namespace L2
open PySem PySem.Spec PyProof.Rows
section
variable {K:Fgg}{E E0:XK}{α β γ ρ ρ' S B:Type}{F0 H0 F h H:Hp}{L:List Sl}{T:Ty α}{Or:Own ρ}{t u:TS}{e te:TE}{LS:S→List Sl}{LB:B→List Sl}{i j n:Nat}{σ:St}
def putL.{uu} {α:Type uu}:Nat→α→List α→List α
 | 0,x,l=>x::l
 | n+1,x,y::l=>y::putL n x l
 | _+1,x,[]=>[x]
theorem putL_len.{uu} {α:Type uu}(x:α):∀ (n:Nat) (l:List α),(putL n x l).length=l.length+1
 | 0,l=>rfl
 | n+1,y::l=>by show (putL n x l).length+1=_; rw [putL_len x n l]; rfl
 | n+1,[]=>rfl
theorem zir_ {α β:Type}(f:α→β) (x:α):∀ (n:Nat) (l:List α),(putL n x l).map f=putL n (f x) (l.map f)
 | 0,l=>rfl
 | n+1,y::l=>by show f y::(putL n x l).map f=f y::putL n (f x) (l.map f); rw [zir_ f x n l]
 | n+1,[]=>rfl
theorem zie_ {α:Type}(x:α):∀ (n:Nat) (l l':List α),n≤l.length→putL n x l++l'=putL n x (l++l')
 | 0,l,l',_=>rfl
 | n+1,y::l,l',h=>by show y::(putL n x l++l')=y::putL n x (l++l'); rw [zie_ x n l l' (Nat.le_of_succ_le_succ h)]
 | n+1,[],l',h=>by cases h
def CtMk (K:Fgg) (n:Nat) (O:Own α) (O2:Own β) (Q:Cs γ) (g:α→γ→Mo (ρ×β)) (Or:Own ρ):Sp:=fun vs H R E=>∃ F h x c w ws,vs=putL n w ws∧Same F H∧Dj F h∧Same h H∧O.O x w F h∧Q.R c ws F ∧
 FinM K (g x c) E F (less H h) fun r F' h' H'=>∀ v,(owRM w O2 Or).O r v F' h'→R v H'
theorem zlR_ {h1 h2:Hp}(j:Jn h1 h2 hpE):h1=hpE∧h2=hpE:=by
 refine ⟨funext fun p=>?_,funext fun p=>?_⟩
 ·rcases j p with ⟨a,_⟩ | ⟨_,b⟩
  ·exact a
  ·exact b.symm
 ·rcases j p with ⟨_,b⟩ | ⟨a,_⟩
  ·exact b.symm
  ·exact a
theorem zjB_ {s:Sl}{o:Option V}(hp:s.P o F h):∀ (n:Nat) {L:List Sl}{σ:St},Hold L σ F hpE→Hold (putL n s L) (putL n o σ) F h
 | 0,L,σ,q=>⟨h,hpE,fun _=>.inr ⟨rfl,rfl⟩,hp,q⟩
 | n+1,[],[],q=>⟨h,hpE,fun _=>.inr ⟨rfl,rfl⟩,hp,q⟩
 | n+1,s'::L,o'::σ,⟨h1,h2,jj,p,r⟩=>by
  obtain ⟨e1,e2⟩:=zlR_ jj
  subst e1; subst e2
  exact ⟨hpE,h,fun _=>.inl ⟨rfl,rfl⟩,p,zjB_ hp n r⟩
 | n+1,[],_::_,q=>q.elim
 | n+1,_::_,[],q=>q.elim
theorem zmx_ {t:XK→TS}{O:Own α}{O2:Own β}{Q:Cs γ}{ss:γ→List Sl}{g:α→γ→Mo (Out (ρ×β) Unit Unit)}{N:List Str}(k n m:Nat) (hk:k≤n) (hn:CsN Q n) (hm:N.length-(n+1)=m) (hC:CsS Q ss)
  (hb:∀ w x c E,EvS K (t E) E (putL k (.ow (owAt w O) x) (ss c++List.replicate m .dead)) (g x c) (fun _:Unit=>[]) (fun _:Unit=>[]) (owRM w O2 Or)) :
  ∀ vs H R E,CtMk K k O O2 Q (fun x c=>fnMR (g x c)) Or vs H R E→t E { nx:=fun _ H'=>R .non H',rt:=R } (start N vs) H:=by
 rintro vs H R E ⟨F,h,x,c,w,ws,rfl,hs,dj,hh,hO,hc,q⟩
 have hstart:start N (putL k w ws)=putL k (some w) (ws.map some++List.replicate m none):=by
  unfold start
  rw [putL_len,hn hc,hm,zir_,zie_ _ _ _ _ (by rw [List.length_map,hn hc]; exact hk)]
 rw [hstart]
 refine hb w x c E F (less H h) _ F h H _ (zjB_ (s:=.ow (owAt w O) x) ⟨w,rfl,rfl,hO⟩ k ((hC hc).hold m)) (zgO_ hs dj hh (O.notup hO)) ?_
 cases e:g x c with
 | no=>simp only [fnMR,e] at q; exact q
 | ex cc=>simp only [fnMR,e] at q; exact q
 | ok o =>
  simp only [fnMR,e] at q
  cases o with
  | nx s=>exact q.elim
  | bk s=>exact q.elim
  | ct s=>exact q.elim
  | rt a=>exact fun v F' h' H' ok hv=>q F' h' H' ok v hv
theorem zlj_ {O:Own β}{r0:Mo (List α×(List α→β))}{r:Mo α}{ri:Mo Int}{ei:TE}{k:β→Mo (Out ρ B S)}(hp:EvPt K te E L i O (owL T) r0) (hT:Imm T) (he:EvF K e E L r T) (hei:EvF K ei E L ri tyInt) (hk:∀ x',EvS K u E (L.set i (.ow O x')) (k x') LS LB Or) :
  EvS K (tSeq (tAsg e (gSub te ei mSet)) u) E L (r.bind fun a=>r0.bind fun yp=>ri.bind fun j=>(Mo.opt ((ixN yp.1.length j).map fun n=>yp.1.set n a)).bind fun xs=>(Mo.ok (yp.2 xs)).bind k) LS LB Or:=by
 intro F0 H0 σ F h H D hL ok fin
 refine he σ (un F h) H _ (hL.froz ok.2.1) ok.thaw (zal_ (G:=F) ok _ (.inl rfl) fin fun a G0 H3 hra x0 v hv=>?_)
 obtain ⟨o0,hs0,ht0⟩:=ok.back x0
 rw [hra] at fin
 refine hp F0 H0 σ _ h H3 _ (hL.mono hs0) o0 (zal_ (G:=F) o0 _ (.inl rfl) fin fun yp G1 H1 hr0 x1 u0 fc=>?_)
 obtain ⟨o1,hs1,ht1⟩:=o0.back x1
 rw [hr0] at fin
 refine hei σ (un (less G1 h) h) H1 _ (((hL.mono hs0).mono hs1).froz o1.2.1) o1.thaw (zal_ (G:=F) o1 _ (.inl rfl) fin fun j G2 H2 hrj x2 v2 hv2=>?_)
 cases hv2
 obtain ⟨o2,hs2,ht2⟩:=o1.back x2
 rw [hrj] at fin
 obtain ⟨ys,ey,fin⟩:=ziW_ fin
 obtain ⟨k1,⟨p,vs,rfl,rfl,pr⟩,kh,g⟩:=fc _ H2 hs2 o2
 cases ej:ixN yp.1.length j with
 | none=>rw [ej] at ey; cases ey
 | some n =>
  rw [ej] at ey; cases ey
  obtain ⟨h',a1,a2⟩:=g (yp.1.set n a) (one p (.lst (vs.set n v))) _ (upd H2 p (.lst (vs.set n v))) (PutC.one o2 kh) ⟨p,_,rfl,rfl,pr.set n (T.mono (hs1.trans hs2) (hT ht0 hv))⟩
  refine ⟨vs,o2.2.2.1 _ _ (kh _ _ zz_),?_⟩
  rw [← pr.len,ej]
  exact hk _ F0 H0 σ _ h' _ D a1 a2 fin
variable {tc te2:TE}{w:Nat}
end
end L2
namespace L2
open PySem PySem.Spec PyProof.Rows
def Fi (K:Fgg) (x q:Str) (st:Stmt) (f:Addr):Prop:=∃ (oc:Value) (od:Option Addr) (kV doc pm:Value) (an:Option Addr) (cdv ct:Value) (osl:Array (Option Value)),
 K.lookup f=some ⟨oc,od,.func (PySem.W.fnOf x q (defArgs st) (defBody st) (defScope st) .none kV doc pm an cdv ct),osl⟩∧PySem.W.codeIn K cdv q=true∧PySem.W.keepIn K (.ref f)=true
def Fg (K:Fgg) (x:Str) (st:Stmt):Prop:=∃ f,PySem.W.nsIn K mainGlobals x=some (some (.ref f))∧Fi K x x st f
def Fm (K:Fgg) (c m q:Str) (st:Stmt):Prop:=∃ cw f,PySem.W.nsIn K mainGlobals c=some (some (.ref cw))∧PySem.W.findIn K (.ref cw) m=some (some (.ref f))∧PySem.W.isFn K (.ref f)=true∧Fi K m q st f
def Fc (K:Fgg) (c:Str):Prop:=∃ cw,PySem.W.nsIn K mainGlobals c=some (some (.ref cw))∧PySem.W.plainGet K cw Str.empty=true∧PySem.W.hasDictIn K cw=true∧PySem.W.plainOver K cw=true ∧
 PySem.W.findIn K (.ref cw) "__setattr__" = some (some (.builtin "object.__setattr__"))∧PySem.W.makesIn K cw=true∧PySem.W.keepIn K (.ref cw)=true
def Fa (K:Fgg) (c a:Str):Prop:=∃ cw,PySem.W.nsIn K mainGlobals c=some (some (.ref cw))∧PySem.W.findIn K (.ref cw) a=some none
def Fb (K:Fgg) (x:Str):Prop:=PySem.W.nsIn K mainGlobals x=some none
def Fv (K:Fgg) (x:Str) (v:V):Prop:=∃ u,PySem.W.nsIn K mainGlobals x=some (some u)∧RelV v u
def Fk (K:Fgg) (x:Str):Prop:=∃ c,PySem.W.nsIn K mainGlobals x=some (some (.ref c))
def Mgo (K:Fgg) (mg:Str→Option Value):Prop:=∃ h:Heap,K.In h∧h.Ns mainGlobals mg
section
variable {P:Program}{w:World}{K:Fgg}{mg:Str→Option Value}{base:Heap}{CX:CXT}{x q c m a:Str}{st:Stmt}{f:Addr}{fd:FuncData}{N ps:List Str}{k j:Nat}{sp:Sp}{A:Around}{v:V}
theorem Fg.mk_ {oc:Value}{od:Option Addr}{kV doc pm:Value}{an:Option Addr}{cdv ct:Value}{osl:Array (Option Value)}(h:PySem.W.nsIn K mainGlobals x=some (some (.ref f))) (l:K.lookup f=some ⟨oc,od,.func (PySem.W.fnOf x x (defArgs st) (defBody st) (defScope st) .none kV doc pm an cdv ct),osl⟩) (c:PySem.W.codeIn K cdv x=true) (k:PySem.W.keepIn K (.ref f)=true):Fg K x st:=⟨f,h,oc,od,kV,doc,pm,an,cdv,ct,osl,l,c,k⟩
theorem Fm.mk_ {cw:Addr}{oc:Value}{od:Option Addr}{kV doc pm:Value}{an:Option Addr}{cdv ct:Value}{osl:Array (Option Value)}(h:PySem.W.nsIn K mainGlobals c=some (some (.ref cw))) (h1:PySem.W.findIn K (.ref cw) m=some (some (.ref f))) (h2:PySem.W.isFn K (.ref f)=true) (l:K.lookup f=some ⟨oc,od,.func (PySem.W.fnOf m q (defArgs st) (defBody st) (defScope st) .none kV doc pm an cdv ct),osl⟩) (h3:PySem.W.codeIn K cdv q=true) (k:PySem.W.keepIn K (.ref f)=true):Fm K c m q st:=⟨cw,f,h,h1,h2,oc,od,kV,doc,pm,an,cdv,ct,osl,l,h3,k⟩
theorem Fc.mk_ {cw:Addr}(h:PySem.W.nsIn K mainGlobals c=some (some (.ref cw))) (h1:PySem.W.plainGet K cw Str.empty=true) (h2:PySem.W.hasDictIn K cw=true) (h3:PySem.W.plainOver K cw=true) (h4:PySem.W.findIn K (.ref cw) "__setattr__" = some (some (.builtin "object.__setattr__"))) (h5:PySem.W.makesIn K cw=true) (h6:PySem.W.keepIn K (.ref cw)=true):Fc K c:=⟨cw,h,h1,h2,h3,h4,h5,h6⟩
theorem Fa.mk_ {cw:Addr}(h:PySem.W.nsIn K mainGlobals c=some (some (.ref cw))) (h1:PySem.W.findIn K (.ref cw) a=some none):Fa K c a:=⟨cw,h,h1⟩
theorem Fv.mk_ {u:Value}(h:PySem.W.nsIn K mainGlobals x=some (some u)) (h1:RelV v u):Fv K x v:=⟨u,h,h1⟩
theorem Fk.mk_ {cw:Addr}(h:PySem.W.nsIn K mainGlobals x=some (some (.ref cw))):Fk K x:=⟨cw,h⟩
theorem Fi.fun_ (h:Fi K x q st f):∃ fd,Fun K x q st f fd:=by
 obtain ⟨oc,od,kV,doc,pm,an,cdv,ct,osl,l,c,k⟩:=h
 exact ⟨_,zn8_ l c k⟩
theorem Mgo.gb (M:Mgo K mg) (h:Fb K x):Gb mg x:=by
 obtain ⟨_,X,G⟩:=M
 exact PySem.W.mg_none_of X G h
theorem Mgo.gv (M:Mgo K mg) (h:Fv K x v):Gc mg x v:=by
 obtain ⟨_,X,G⟩:=M; obtain ⟨u,e,r⟩:=h
 exact ⟨u,PySem.W.mg_of X G e,r⟩
theorem Mgo.gk (M:Mgo K mg) (h:Fk K x):mg x=some (.ref (gA K x)):=by
 obtain ⟨_,X,G⟩:=M; obtain ⟨u,e⟩:=h
 rw [zoI_ e]; exact PySem.W.mg_of X G e
theorem Fc.cls (h:Fc K c):Cls K (gA K c):=by
 obtain ⟨cw,e,h1,h2,h3,h4,_⟩:=h
 rw [zoI_ e]; exact ⟨h1,h2,h3,h4⟩
theorem Fa.no (h:Fa K c a):NoAttr K (gA K c) a:=by
 obtain ⟨cw,e,h⟩:=h
 rw [zoI_ e]; exact h
abbrev OkF (P:Program) (w:World) (K:Fgg) (mg:Str→Option Value) (base:Heap) (CX:CXT) (k:Nat) (x q:Str) (st:Stmt) (ps:List Str) (sp:Sp):Prop:=∀ f fd,Fun K x q st f fd→FnOk P w K mg base CX k f fd ps sp∧Binds K fd ps []
theorem zep_ (M:Mgo K mg) (F:Fg K x st) (h:OkF P w K mg base CX k x x st ps sp):Gd P w K mg base CX k x ps sp:=by
 obtain ⟨_,X,G⟩:=M; obtain ⟨f,e,i⟩:=F; obtain ⟨fd,F⟩:=i.fun_
 exact ⟨f,fd,(h f fd F).1,PySem.W.mg_of X G e,F.kp,(h f fd F).2⟩
theorem zhO_ (C:Fc K c) (F:Fm K c m q st) (h:OkF P w K mg base CX k m q st ps sp):Gm P w K mg base CX k (gA K c) m ps sp:=by
 obtain ⟨cw,f,e,e2,e3,i⟩:=F; obtain ⟨fd,F⟩:=i.fun_
 exact ⟨f,fd,(h f fd F).1,C.cls,by rw [zoI_ e]; exact ⟨e2,e3,F.kp⟩,(h f fd F).2⟩
theorem gk_of (M:Mgo K mg) (C:Fc K c) (F:Fm K c "__init__" q st) (h:OkF P w K mg base CX k "__init__" q st ps sp):Gk P w K mg base CX k c (gA K c) ps sp:=by
 obtain ⟨cw,f,e,e2,e3,i⟩:=F; obtain ⟨fd,F⟩:=i.fun_
 obtain ⟨cw',e',_,_,_,_,h5,h6⟩:=C
 cases e.symm.trans e'
 refine ⟨f,fd,(h f fd F).1,by rw [zoI_ e]; exact ⟨h5,e2,e3,h6⟩,M.gk ⟨_,e⟩,(h f fd F).2⟩
theorem hm (hr:Room k A) (h:j≤k:=by decide):Room j A:=hr.mono h
end
section
variable {P:Program}{w:World}{K:Fgg}{mg:Str→Option Value}{base:Heap}{x q:Str}{st:Stmt}{N ps:List Str}{k:Nat}{α β γ ρ:Type}
abbrev Tm (P:Program) (w:World) (K:Fgg) (mg:Str→Option Value) (base:Heap) (k:Nat) (N:List Str) (q:Str) (st:Stmt) (t:XK→TS):Prop :=
 ∀ (cdv:Value) (A:Around) (outer:List Env) (s:Shared) (H:Hp) (f:Addr) (E:XK),N.Nodup→Room k (A.deeper (envOfC q (defScope st) s.heap.objs.size f cdv))→PSs (cxOf CX0 P w K mg base N q (defScope st) f cdv A outer s H E).nox (defBody st) (t E)
abbrev Bnd (K:Fgg) (x q:Str) (st:Stmt) (ps:List Str):Prop:=∀ f fd,Fun K x q st f fd→Binds K fd ps []
theorem okC {C:Cs γ}{O:Own ρ}{ss:γ→List Sl}{g:γ→Mo (Out ρ Unit Unit)}{t:XK→TS}(n m:Nat) (hC:CsS C ss) (tm:Tm P w K mg base k N q st t)
  (ev:∀ c E,EvS K (t E) E (ss c++List.replicate m .dead) (g c) (fun _:Unit=>[]) (fun _:Unit=>[]) O) (hn:CsN C n:=by repeat first | exact z4_ | exact zht_ | refine zap_ ?_) (S:FnScope N ps (defScope st):=by exact ⟨rfl,rfl,rfl,by decide +kernel,rfl,by decide +kernel,by decide +kernel⟩) (b:Bnd K x q st ps:=by first | exact fun _ _ F=>Fun.binds1 rfl F fun _ _ _ _ _ _ _=>rfl | exact fun _ _ F=>Fun.binds2 rfl F fun _ _ _ _ _ _ _ _=>rfl | exact fun _ _ F=>Fun.binds3 rfl F fun _ _ _ _ _ _ _ _ _=>rfl | exact fun _ _ F=>Fun.binds4 rfl F fun _ _ _ _ _ _ _ _ _ _=>rfl | exact fun _ _ F=>Fun.binds5 rfl F fun _ _ _ _ _ _ _ _ _ _ _=>rfl | exact fun _ _ F=>Fun.binds6 rfl F fun _ _ _ _ _ _ _ _ _ _ _ _=>rfl | exact fun _ _ F=>Fun.binds7 rfl F fun _ _ _ _ _ _ _ _ _ _ _ _ _=>rfl) (hp:ps.length=n:=by rfl) (hm:N.length-n=m:=by rfl):OkF P w K mg base CX0 (k+1) x q st ps (Ct K C (fun c=>fnO (g c)) O):=fun f fd F =>
 ⟨F.ok S (fun vs H Q E h=>by obtain ⟨F,c,_,hc,_⟩:=h; exact (hn hc).trans hp.symm) fun cdv A outer s H vs Q E hr h=>⟨t E,tm cdv A outer s H f E S.nd hr,fn_rd (N:=N) (t:=t) n m hn hm hC ev vs H Q E h⟩,b f fd F⟩
theorem okU {O:Own α}{O2:Own β}{C:Cs γ}{ss:γ→List Sl}{g:α→γ→Mo (Out (Unit×β) Unit β)}{t:XK→TS}{LS:V→β→List Sl}(n m:Nat) (hC:CsS C ss) (tm:Tm P w K mg base k N q st t)
  (ev:∀ w x c E,EvS K (t E) E (.ow (owAt w O) x::(ss c++List.replicate m .dead)) (g x c) (LS w) (fun _:Unit=>[]) (owRM w O2 (owF tyNon))) (hn:CsN C n:=by repeat first | exact z4_ | exact zht_ | refine zap_ ?_) (S:FnScope N ps (defScope st):=by exact ⟨rfl,rfl,rfl,by decide +kernel,rfl,by decide +kernel,by decide +kernel⟩) (b:Bnd K x q st ps:=by first | exact fun _ _ F=>Fun.binds1 rfl F fun _ _ _ _ _ _ _=>rfl | exact fun _ _ F=>Fun.binds2 rfl F fun _ _ _ _ _ _ _ _=>rfl | exact fun _ _ F=>Fun.binds3 rfl F fun _ _ _ _ _ _ _ _ _=>rfl | exact fun _ _ F=>Fun.binds4 rfl F fun _ _ _ _ _ _ _ _ _ _=>rfl | exact fun _ _ F=>Fun.binds5 rfl F fun _ _ _ _ _ _ _ _ _ _ _=>rfl | exact fun _ _ F=>Fun.binds6 rfl F fun _ _ _ _ _ _ _ _ _ _ _ _=>rfl | exact fun _ _ F=>Fun.binds7 rfl F fun _ _ _ _ _ _ _ _ _ _ _ _ _=>rfl) (hp:ps.length=n+1:=by rfl) (hm:N.length-(n+1)=m:=by rfl) (hLS:∀ w x,(LS w x)[0]?=some (.ow (owAt w O2) x):=by exact fun _ _=>rfl):OkF P w K mg base CX0 (k+1) x q st ps (CtM K O O2 C (fun x c=>fnMU (g x c)) (owF tyNon)):=fun f fd F =>
 ⟨F.ok S (fun vs H Q E h=>by obtain ⟨F,h,x,c,w,ws,rfl,_,_,_,_,hc,_⟩:=h; rw [List.length_cons,hn hc,hp]) fun cdv A outer s H vs Q E hr h=>⟨t E,tm cdv A outer s H f E S.nd hr,znm_ (N:=N) (t:=t) n m hn hm hC hLS ev vs H Q E h⟩,b f fd F⟩
theorem okR {O:Own α}{O2:Own β}{Or:Own ρ}{C:Cs γ}{ss:γ→List Sl}{g:α→γ→Mo (Out (ρ×β) Unit Unit)}{t:XK→TS}(n m:Nat) (hC:CsS C ss) (tm:Tm P w K mg base k N q st t)
  (ev:∀ w x c E,EvS K (t E) E (.ow (owAt w O) x::(ss c++List.replicate m .dead)) (g x c) (fun _:Unit=>[]) (fun _:Unit=>[]) (owRM w O2 Or)) (hn:CsN C n:=by repeat first | exact z4_ | exact zht_ | refine zap_ ?_) (S:FnScope N ps (defScope st):=by exact ⟨rfl,rfl,rfl,by decide +kernel,rfl,by decide +kernel,by decide +kernel⟩) (b:Bnd K x q st ps:=by first | exact fun _ _ F=>Fun.binds1 rfl F fun _ _ _ _ _ _ _=>rfl | exact fun _ _ F=>Fun.binds2 rfl F fun _ _ _ _ _ _ _ _=>rfl | exact fun _ _ F=>Fun.binds3 rfl F fun _ _ _ _ _ _ _ _ _=>rfl | exact fun _ _ F=>Fun.binds4 rfl F fun _ _ _ _ _ _ _ _ _ _=>rfl | exact fun _ _ F=>Fun.binds5 rfl F fun _ _ _ _ _ _ _ _ _ _ _=>rfl | exact fun _ _ F=>Fun.binds6 rfl F fun _ _ _ _ _ _ _ _ _ _ _ _=>rfl | exact fun _ _ F=>Fun.binds7 rfl F fun _ _ _ _ _ _ _ _ _ _ _ _ _=>rfl) (hp:ps.length=n+1:=by rfl) (hm:N.length-(n+1)=m:=by rfl):OkF P w K mg base CX0 (k+1) x q st ps (CtM K O O2 C (fun x c=>fnMR (g x c)) Or):=fun f fd F =>
 ⟨F.ok S (fun vs H Q E h=>by obtain ⟨F,h,x,c,w,ws,rfl,_,_,_,_,hc,_⟩:=h; rw [List.length_cons,hn hc,hp]) fun cdv A outer s H vs Q E hr h=>⟨t E,tm cdv A outer s H f E S.nd hr,zoC_ (N:=N) (t:=t) n m hn hm hC ev vs H Q E h⟩,b f fd F⟩
theorem okRk {O:Own α}{O2:Own β}{Or:Own ρ}{C:Cs γ}{ss:γ→List Sl}{g:α→γ→Mo (Out (ρ×β) Unit Unit)}{t:XK→TS}(j n m:Nat) (hC:CsS C ss) (tm:Tm P w K mg base k N q st t)
  (ev:∀ w x c E,EvS K (t E) E (putL j (.ow (owAt w O) x) (ss c++List.replicate m .dead)) (g x c) (fun _:Unit=>[]) (fun _:Unit=>[]) (owRM w O2 Or)) (hn:CsN C n:=by repeat first | exact z4_ | exact zht_ | refine zap_ ?_) (S:FnScope N ps (defScope st):=by exact ⟨rfl,rfl,rfl,by decide +kernel,rfl,by decide +kernel,by decide +kernel⟩) (b:Bnd K x q st ps:=by first | exact fun _ _ F=>Fun.binds1 rfl F fun _ _ _ _ _ _ _=>rfl | exact fun _ _ F=>Fun.binds2 rfl F fun _ _ _ _ _ _ _ _=>rfl | exact fun _ _ F=>Fun.binds3 rfl F fun _ _ _ _ _ _ _ _ _=>rfl | exact fun _ _ F=>Fun.binds4 rfl F fun _ _ _ _ _ _ _ _ _ _=>rfl | exact fun _ _ F=>Fun.binds5 rfl F fun _ _ _ _ _ _ _ _ _ _ _=>rfl | exact fun _ _ F=>Fun.binds6 rfl F fun _ _ _ _ _ _ _ _ _ _ _ _=>rfl | exact fun _ _ F=>Fun.binds7 rfl F fun _ _ _ _ _ _ _ _ _ _ _ _ _=>rfl) (hp:ps.length=n+1:=by rfl) (hm:N.length-(n+1)=m:=by rfl) (hj:j≤n:=by decide):OkF P w K mg base CX0 (k+1) x q st ps (CtMk K j O O2 C (fun x c=>fnMR (g x c)) Or):=fun f fd F =>
 ⟨F.ok S (fun vs H Q E h=>by obtain ⟨F,h,x,c,w,ws,rfl,_,_,_,_,hc,_⟩:=h; rw [putL_len,hn hc,hp]) fun cdv A outer s H vs Q E hr h=>⟨t E,tm cdv A outer s H f E S.nd hr,zmx_ (N:=N) (t:=t) j n m hj hn hm hC ev vs H Q E h⟩,b f fd F⟩
end
section
variable {l:PySem.W.OpenLaw}{w:World}{K:Fgg}{mg:Str→Option Value}{st:Stmt}{x:Str}{k:Nat}{sp:Sp}{fa:Addr}
theorem okLaw (M:Mgo K mg) (F:Fg K "law" st) (hfa:mg "law" = some (.ref fa)) (hb:∀ (kV doc pm:Value) (an:Option Addr) (cdv ct:Value) (s:Shared) (v:Value),bindArgs (PySem.W.fnOf "law" "law" (defArgs st) (defBody st) (defScope st) .none kV doc pm an cdv ct) ⟨[v],[]⟩=pure [(x,v)])
  (h:∀ (base:Heap) (f:Addr) (fd:FuncData),Fun K "law" "law" st f fd→FnOk l.prog w K mg base CX0 k f fd [x] sp) :
  ∃ fd:FuncData,(∀ (s:Shared) (v:Value),BindsTo s fd ⟨[v],[]⟩ [(x,v)])∧∀ base:Heap,K.In base→base.Ns mainGlobals mg→FnOk l.prog w K mg base CX0 k fa fd [x] sp:=by
 obtain ⟨_,X,G⟩:=M
 obtain ⟨f,e,oc,od,kV,doc,pm,an,cdv,ct,osl,l',c,kk⟩:=F
 cases hfa.symm.trans (PySem.W.mg_of X G e)
 exact ⟨_,fun s v=>.of_eq (hb kV doc pm an cdv ct s v),fun base _ _=>h base _ _ (zn8_ l' c kk)⟩
def spL (K:Fgg):Sp:=fun vs H Q _=>∃ (a:Addr) (ns:List Int),vs=[.ref a]∧SqL K H a (ns.map V.int)∧ns.length≤63∧BitsOk ns∧∀ H',Q (.bl true) H'
theorem okL {base:Heap}{N:List Str}{g:List Int→Mo (Out Bool Unit Unit)}{t:XK→TS}(m:Nat) (tm:Tm l.prog w K mg base k N "law" st t)
  (hf:∀ ns:List Int,ns.length≤63→BitsOk ns→fnO (g ns)=.ok true)
  (ev:∀ c E,EvS K (t E) E (.fz (tySc K) c::List.replicate m .dead) (g c) (fun _:Unit=>[]) (fun _:Unit=>[]) (owF tyBl)) (f:Addr) (fd:FuncData) (F:Fun K "law" "law" st f fd) (S:FnScope N [x] (defScope st):=by exact ⟨rfl,rfl,rfl,by decide +kernel,rfl,by decide +kernel,by decide +kernel⟩) (hm:N.length-1=m:=by rfl):FnOk l.prog w K mg base CX0 (k+1) f fd [x] (spL K) :=
 F.ok S (fun vs H Q E h=>by obtain ⟨a,ns,rfl,_⟩:=h; rfl) fun cdv A outer s H vs Q E hr h=>⟨t E,tm cdv A outer s H f E S.nd hr,by
  obtain ⟨a,ns,rfl,hS,hl,hb,q⟩:=h
  refine fn_rd (K:=K) (N:=N) (C:=csLast (tySc K)) (O:=owF tyBl) (t:=t) (ss:=fun c=>[.fz (tySc K) c]) (f:=g) 1 m z4_ hm zt_ ev _ H Q E ⟨H,ns,Same.refl _,⟨_,rfl,a,rfl,hS⟩,?_⟩
  show After K (fnO (g ns)) E H H _
  rw [hf ns hl hb]
  rintro F' H' x v h _ _ _ ⟨_,rfl⟩
  exact q H'⟩
end
section
variable {X:Cx}{x:Str}{pos pos':Pos}{e:Expr}{te:TE}
abbrev FrP (X:Cx) (scope:Scope) (q:Str×Nat):Prop:=X.N[q.2]?=some q.1∧(q.1,NameKind.free)∈scope.names∧(X.env.kindOf q.1=some .cell∨X.env.kindOf q.1=some .free)∧((relabel scope X.env).names.lookup q.1=some .cell∨(relabel scope X.env).names.lookup q.1=some .free)
theorem pgn (i:Nat) (hN:X.N.Nodup:=by assumption) (hi:X.N[i]?=some x:=by rfl) (hx:Loc X.env.scope x:=by first | exact Or.inl rfl | exact Or.inr rfl) (hf:X.fn x=true∨X.env.scope.names.lookup x=some .local:=by first | exact .inl rfl | exact .inr rfl | assumption):PG X (.Name x pos) (gName i):=zln_ hN hi hx hf
theorem pst (i:Nat) (he:PE X e te) (hN:X.N.Nodup:=by assumption) (hi:X.N[i]?=some x:=by rfl) (hx:Loc X.env.scope x:=by first | exact Or.inl rfl | exact Or.inr rfl) (hs:swapsWith e (some (.Name x pos')) pos.line X.env=pure false:=by rfl) (hf:X.fn x=true∨X.env.scope.names.lookup x=some .local:=by first | exact .inl rfl | exact .inr rfl | assumption) :
  PS X (.Assign [.Name x pos'] e pos) (tAsg te (gName i)):=zpg_ hN hi hx he hs hf
theorem csm {scope:Scope}{cl:List (Str×Addr)}{lv:List Str}{fr:List (Str×Nat)}(h:closeL X.env.cells scope.names []=some cl) (f:∀ q∈fr,FrP X scope q) (h2:∀ y∈scope.names,y.2≠.cell:=by decide +kernel) (h3:scope.kind=.function:=by rfl) (h4:∀ z∈scope.names,z.2=.local→scope.names.lookup z.1=some .local:=by decide +kernel):CScope X scope cl lv fr:=⟨h,h2,h3,h4,f⟩
theorem frc {scope:Scope}{q:Str×Nat}{fr:List (Str×Nat)}(t:∀ q∈fr,FrP X scope q) (h:FrP X scope q:=by refine ⟨rfl,by decide +kernel,?_,?_⟩<;>first | exact Or.inl rfl | exact Or.inr rfl):∀ z∈q::fr,FrP X scope z:=zod_ h t
theorem fr0 {scope:Scope}:∀ q∈([]:List (Str×Nat)),FrP X scope q:=fun _ h=>by cases h
theorem pgc {scope:Scope}{cl:List (Str×Addr)}{C:Addr}{lv:List Str}{fr:List (Str×Nat)}{fp:List Addr}{s2:Shared}{H2:Hp}(i:Nat) (hN:(cN lv fr).Nodup:=by decide +kernel) (hi:(cN lv fr)[i]?=some x:=by rfl) (hx:Loc (cxComp X scope cl C (cN lv fr) fp s2 H2).env.scope x:=by exact Or.inl rfl) (hf:(cxComp X scope cl C (cN lv fr) fp s2 H2).fn x=true∨(cxComp X scope cl C (cN lv fr) fp s2 H2).env.scope.names.lookup x=some .local:=by first | exact .inl rfl | exact .inr rfl | assumption):PG (cxComp X scope cl C (cN lv fr) fp s2 H2) (.Name x pos) (gName i):=zln_ hN hi hx hf
end
abbrev zgJ_:=@PySem.F.slot_str_zfill
abbrev zgF_:=@PySem.F.type_str_zfill
abbrev zh5_:=@PySem.F.slot_str_find
abbrev zhM_:=@PySem.F.type_str_find
abbrev zgM_:=@PySem.F.slot_str_index
abbrev zgD_:=@PySem.F.type_str_index
abbrev zdf_:=@PySem.F.slot_str_join
abbrev zc3_:=@PySem.F.type_str_join
abbrev zdU_:=@PySem.F.plainAttrs_list
abbrev zau_:=@PySem.F.slot_list_append
abbrev zaw_:=@PySem.F.type_list_append
abbrev zcK_:=@PySem.F.slot_list_extend
abbrev zcF_:=@PySem.F.type_list_extend
end L2
namespace L2
open PySem PySem.Spec PyProof.Rows PySem.W
def gallop':Bool→Keyed→Array Keyed→Nat→Nat→Nat→StateT SortSt Sem (Option Nat):=sortPriv% PySem.Builtin.gallop
section
variable {prog:Program}{w:World}{A:Around}{E:Value→Shared→Prop}{s:Shared}{κ:SortKind}{it:Nat→Keyed}{lt:Nat→Nat→Bool}{n:Nat}{st:SortSt}
end
section
variable {lt:Nat→Nat→Bool}{X Y O:List Nat}{ja jb k:Nat}
structure MI (lt:Nat→Nat→Bool) (X Y O:List Nat) (ja jb:Nat):Prop where
 pm:O.Perm (X.take ja++Y.take jb)
 so:O.Pairwise (le lt)
 ox:∀ o∈O,∀ x∈X.drop ja,le lt o x
 oy:∀ o∈O,∀ y∈Y.drop jb,le lt o y
end
section
variable {prog:Program}{w:World}{A:Around}{E:Value→Shared→Prop}{s:Shared}{κ:SortKind}{it:Nat→Keyed}{lt:Nat→Nat→Bool}{n:Nat}{st st1 st2:SortSt}{X Y:List Nat}
variable {O:List Nat}{ja jb mg ac bc x:Nat}
end
section
variable {lt:Nat→Nat→Bool}{X Y O R:List Nat}{na nb i k q:Nat}
abbrev op (lt:Nat→Nat→Bool):Nat→Nat→Bool:=fun a b=>lt b a
end
section
variable {prog:Program}{w:World}{A:Around}{E:Value→Shared→Prop}{s:Shared}{κ:SortKind}{it:Nat→Keyed}{lt:Nat→Nat→Bool}{n:Nat}{st st1 st2:SortSt}{X Y:List Nat}
abbrev U7:Type:=Option (Array Keyed)×Nat×Nat×Array Keyed×Nat×Nat×Nat
def hi3 (a b:Array Keyed) (na nb:Nat) (ou:Array Keyed) (mg ac bc:Nat):StateT SortSt Sem (ForInStep U7):=do
 let e ← elem' a (na-1)
 if na-1 == 0 then pure (.done (some (a.extract 0 (na-1)++b.extract 0 nb++(ou.push e).reverse),na-1,nb,ou.push e,mg,ac,bc))
 else if ac<7 && bc<7 then pure (.done (none,na-1,nb,ou.push e,mg,ac,bc)) else pure (.yield (none,na-1,nb,ou.push e,mg,ac,bc))
def hi2b (a b:Array Keyed) (na nb q:Nat) (ou:Array Keyed) (mg ac:Nat):StateT SortSt Sem (ForInStep U7) :=
 if nb-q > 0 then
  if q == 1 then pure (.done (some (b.extract 0 q++a.extract 0 na++(ou++(b.extract q nb).reverse).reverse),na,q,ou++(b.extract q nb).reverse,mg,ac,nb-q))
  else if q == 0 then pure (.done (some (a.extract 0 na++b.extract 0 q++(ou++(b.extract q nb).reverse).reverse),na,q,ou++(b.extract q nb).reverse,mg,ac,nb-q))
  else hi3 a b na q (ou++(b.extract q nb).reverse) mg ac (nb-q)
 else hi3 a b na nb ou mg ac (nb-q)
def hi2 (a b:Array Keyed) (na nb:Nat) (ou:Array Keyed) (mg ac bc:Nat):StateT SortSt Sem (ForInStep U7):=do
 let e ← elem' b (nb-1)
 if nb-1 == 1 then pure (.done (some (b.extract 0 (nb-1)++a.extract 0 na++(ou.push e).reverse),na,nb-1,ou.push e,mg,ac,bc))
 else
  let f ← elem' a (na-1)
  let r ← gallop' true f b 0 (nb-1) (nb-1-1)
  match r with
  | some q=>hi2b a b na (nb-1) q (ou.push e) mg ac
  | _=>pure (.done (some (a.extract 0 na++b.extract 0 (nb-1)++(ou.push e).reverse),na,nb-1,ou.push e,mg,ac,bc))
def hi1 (a b:Array Keyed) (na nb q:Nat) (ou:Array Keyed) (mg bc:Nat):StateT SortSt Sem (ForInStep U7) :=
 if na-q > 0 then
  if q == 0 then pure (.done (some (a.extract 0 q++b.extract 0 nb++(ou++(a.extract q na).reverse).reverse),q,nb,ou++(a.extract q na).reverse,mg,na-q,bc))
  else hi2 a b q nb (ou++(a.extract q na).reverse) mg (na-q) bc
 else hi2 a b na nb ou mg (na-q) bc
variable {O:List Nat}{na nb mg ac bc x:Nat}
end
end L2
namespace L2
open PySem PySem.Spec PyProof.Rows PySem.W
section
variable {prog:Program}{w:World}{A:Around}{E:Value→Shared→Prop}{s:Shared}{κ:SortKind}{it:Nat→Keyed}{lt:Nat→Nat→Bool}{n:Nat}{st st1 st2:SortSt}
end
section
variable {prog:Program}{w:World}{A:Around}{E:Value→Shared→Prop}{s:Shared}{κ:SortKind}{it:Nat→Keyed}{lt:Nat→Nat→Bool}{n lo:Nat}{st st1 st2:SortSt}{p:Array Nat}{pd:Array (Nat×Nat×Nat)}
end
end L2
namespace L2
open PySem PySem.Spec PyProof.Rows PySem.W
section
variable {lt:Nat→Nat→Bool}
end
section
variable {prog:Program}{w:World}{A:Around}{E:Value→Shared→Prop}{s:Shared}{κ:SortKind}{it:Nat→Keyed}{lt:Nat→Nat→Bool}{n lo c:Nat}{st:SortSt}{T:List Nat}
end
section
variable {prog:Program}{w:World}{A:Around}{E:Value→Shared→Prop}{s:Shared}{vs:List Value}{lt:Nat→Nat→Bool}
end
end L2
namespace L2
open PySem PySem.Spec PyProof.Rows
section
variable {K:Fgg}{E:XK}{α β γ ρ S S' B B':Type}{F0 H0 F h H:Hp}{L L':List Sl}{e e1 e2:TE}{T:Ty α}{O:Own ρ}{t u:TS}{LS:S→List Sl}{LS':S'→List Sl}{LB:B→List Sl}
end
section
variable {P:Program}{w:World}{K:Fgg}{mg:Str→Option Value}{base:Heap}{x q:Str}{st:Stmt}{N ps:List Str}{k:Nat}{α β γ ρ:Type}
end
def Fe1 (K:Fgg) (a:Str) (P:Addr→Prop):Prop:=∃ v,PySem.W.nsIn K mainGlobals a=some (some (.ref v))∧P v
theorem Fe1.mk_ {K:Fgg}{a:Str}{P:Addr→Prop}{v:Addr}(h:PySem.W.nsIn K mainGlobals a=some (some (.ref v))) (p:P v):Fe1 K a P:=⟨v,h,p⟩
def Fe2 (K:Fgg) (a b:Str) (P:Addr→Addr→Prop):Prop:=∃ v w,PySem.W.nsIn K mainGlobals a=some (some (.ref v))∧PySem.W.nsIn K mainGlobals b=some (some (.ref w))∧P v w
theorem Fe2.mk_ {K:Fgg}{a b:Str}{P:Addr→Addr→Prop}{v w:Addr}(h:PySem.W.nsIn K mainGlobals a=some (some (.ref v))) (h2:PySem.W.nsIn K mainGlobals b=some (some (.ref w))) (p:P v w):Fe2 K a b P:=⟨v,w,h,h2,p⟩
end L2
namespace L2
open PySem PySem.Spec PyProof.Rows
section
variable {K:Fgg}{E:XK}{L:List Sl}{e:TE}{α γ δ:Type}{T:Ty α}{C:Cs γ}{C':Cs δ}{f:γ→δ}{n m:Nat}
end
end L2
namespace L2
open PySem PySem.Spec PyProof.Rows
section
variable {K:Fgg}{E:XK}{α β γ ρ ρ' S B:Type}{F0 H0 F h H:Hp}{L:List Sl}{T:Ty α}{Or:Own ρ}{t u:TS}{e e1 e2 te:TE}{LS:S→List Sl}{LB:B→List Sl}{i j:Nat}{σ:St}
end
end L2
namespace L2
open PySem PySem.Spec PyProof.Rows
section
variable {K:Fgg}{E:XK}{α β γ ρ ρ' S B:Type}{F0 H0 F h H:Hp}{L:List Sl}{T:Ty α}{Or:Own ρ}{t u:TS}{e e1 e2 te:TE}{LS:S→List Sl}{LB:B→List Sl}{i j:Nat}{σ:St}
end
end L2
namespace L2
open PySem PySem.Spec PyProof.Rows
section
variable {K:Fgg}{E:XK}{α β γ ρ ρ' S B:Type}{F0 H0 F h H:Hp}{L:List Sl}{T:Ty α}{Or:Own ρ}{t u:TS}{e e1 e2 te:TE}{LS:S→List Sl}{LB:B→List Sl}{i j:Nat}{σ:St}
def startsL (l t:List Nat):Bool:=decide (t.length≤l.length∧l.take t.length=t)
def endsL (l t:List Nat):Bool:=decide (t.length≤l.length∧l.drop (l.length-t.length)=t)
theorem zjj_ (x y:Str) (i:Nat):Builtin.Str.subAt x y i=decide ((x.cps.toList.drop i).take y.cps.toList.length=y.cps.toList):=by
 unfold Builtin.Str.subAt
 rw [Bool.eq_iff_iff,beq_iff_eq,decide_eq_true_iff]
 constructor
 ·intro h
  have:=congrArg Array.toList h
  rw [Array.toList_extract] at this
  rw [← this]
  simp [List.extract,Str.length]
 ·intro h
  apply Array.toList_inj.mp
  rw [Array.toList_extract,← h]
  simp [List.extract,Str.length]
theorem zkS_ (x y:Str):Txt.startswith x y=startsL x.cps.toList y.cps.toList:=by
 unfold Txt.startswith startsL
 rw [zjj_,Nat.zero_add,List.drop_zero]
 show (decide (y.cps.size≤x.cps.size) && _)=_
 rw [Bool.decide_and]
 simp
theorem znp_ (x y:Str):Txt.endswith x y=endsL x.cps.toList y.cps.toList:=by
 unfold Txt.endswith endsL
 rw [zjj_,Nat.zero_add]
 show (decide (y.cps.size≤x.cps.size) && decide ((x.cps.toList.drop (x.cps.size-y.cps.size)).take y.cps.toList.length=y.cps.toList))=_
 rw [Bool.decide_and]
 have e1:x.cps.toList.length=x.cps.size:=by simp
 have e2:y.cps.toList.length=y.cps.size:=by simp
 rw [e1,e2]
 by_cases h:y.cps.size≤x.cps.size
 ·rw [List.take_of_length_le (by rw [List.length_drop,e1]; lia)]
 ·rw [decide_eq_false h]; rfl
def mStarts:V→List V→Hp→VK→Prop:=fun x xs H Q=>match x,xs with | .str l,[.str t]=>Q (.bl (startsL l.cps.toList t.cps.toList)) H | _,_=>False
def mEnds:V→List V→Hp→VK→Prop:=fun x xs H Q=>match x,xs with | .str l,[.str t]=>Q (.bl (endsL l.cps.toList t.cps.toList)) H | _,_=>False
end
section
variable {X:Cx}
theorem zkQ_:MtR X "str.startswith" mStarts:=by
 intro pins s σ H x xs v us Q I rx rv h
 unfold mStarts at h
 split at h
 ·obtain ⟨k,rfl⟩:=rx
  obtain ⟨u,rfl,ru⟩:=rv.one
  obtain ⟨k',rfl⟩:=ru
  refine SC.startswith ?_
  rw [zkS_]
  exact ⟨.bl _,H,I,rfl,h⟩
 ·exact h.elim
theorem zn7_:MtR X "str.endswith" mEnds:=by
 intro pins s σ H x xs v us Q I rx rv h
 unfold mEnds at h
 split at h
 ·obtain ⟨k,rfl⟩:=rx
  obtain ⟨u,rfl,ru⟩:=rv.one
  obtain ⟨k',rfl⟩:=ru
  refine SC.endswith ?_
  rw [znp_]
  exact ⟨.bl _,H,I,rfl,h⟩
 ·exact h.elim
end
section
variable {K:Fgg}{E:XK}
theorem zkK_:Me K mStarts E (csLast tyStr) (fun l c=>.ok (startsL l c)) tyBl:=by
 rintro l c vs F H Q hs ⟨v,rfl,rfl⟩ k
 exact k.ok hs _ rfl
theorem zm5_:Me K mEnds E (csLast tyStr) (fun l c=>.ok (endsL l c)) tyBl:=by
 rintro l c vs F H Q hs ⟨v,rfl,rfl⟩ k
 exact k.ok hs _ rfl
end
end L2
namespace L2
open PySem PySem.Spec PyProof.Rows
section
variable {K:Fgg}{E:XK}{α β γ δ ρ ρ' S B:Type}{F0 H0 F h H:Hp}{L:List Sl}{e te ei tc:TE}{T:Ty α}{r:Mo α}{Or:Own ρ}{Or':Own ρ'}{t u:TS}{LS:S→List Sl}{LB:B→List Sl}{σ:St}{C:Addr}{ns:List Str}{f m:Str}{i n w j:Nat}
end
end L2
namespace L2
open PySem PySem.Spec PyProof.Rows
open PySem.SeqAt
open PySem.AutoSeq1 (wpAny_loadPart')
open PySem.MeetsSeq PySem.MeetsSeq2 PySem.MeetsSeq3
end L2
namespace L2
open PySem PySem.Spec PyProof.Rows
section
variable {K:Fgg}{E:XK}{H:Hp}
end
end L2
namespace L2
open PySem PySem.Spec PyProof.Rows
section
variable {α:Type}{O:Own α}
theorem OwAll.swap:∀ {xs:List α}{vs:List V}{F h:Hp}(i:Nat) {x:α},OwAll O F xs vs h→xs[i]?=some x →
  ∃ h1 h2,Jn h1 h2 h∧∀ x' v' h1' h' F3,Same F F3→O.O x' v' F3 h1'→Jn h1' h2 h'→OwAll O F3 (xs.set i x') (vs.set i v') h'
 | [],_,_,_,_,_,_,e=>by cases e
 | x::xs,[],_,_,_,_,q,_=>q.elim
 | x::xs,v::vs,F,h,0,y,⟨h1,h2,j,o,r⟩,e=>by
  cases e
  exact ⟨h1,h2,j,fun x' v' h1' h' F3 g o' j'=>⟨h1',h2,j',o',r.mono g⟩⟩
 | x::xs,v::vs,F,h,i+1,y,⟨h1,h2,j,o,r⟩,e=>by
  obtain ⟨k1,k2,j1,f⟩:=OwAll.swap i r (by simpa using e)
  obtain ⟨m,jm,jh⟩:=za9_ j1 (zfB_ j)
  refine ⟨k1,m,jh,fun x' v' k1' h' F3 g o' j'=>?_⟩
  have d:Dj k1' k2:=fun p=>by
   rcases j'.dj p with z | z
   ·exact .inl z
   ·exact .inr (jm.l.free z)
  refine ⟨h1,un k1' k2,?_,O.mono g o,f x' v' k1' _ F3 g o' (zaM_ d)⟩
  intro p
  rcases j' p with ⟨a,b⟩ | ⟨a,b⟩
  ·rcases jm p with ⟨c,e⟩ | ⟨c,e⟩
   ·right
    refine ⟨by unfold un; rw [a,c],by rw [b,e]⟩
   ·left
    refine ⟨c,by unfold un; rw [a,b,e]⟩
  ·left
   refine ⟨jm.r.free a,?_⟩
   unfold un
   rw [b]
   cases z:k1' p with
   | none=>exact (jm.l.free a).symm ▸ rfl
   | some w=>rfl
end
section
variable {K:Fgg}{E:XK}{α β γ δ ρ ρ' S B:Type}{F0 H0 F h H:Hp}{L:List Sl}{e te ei tc:TE}{T:Ty α}{r:Mo α}{Or:Own ρ}{Or':Own ρ'}{t u:TS}{LS:S→List Sl}{LB:B→List Sl}{σ:St}{C:Addr}{ns:List Str}{f m:Str}{i n w j:Nat}
theorem znE_ {p:Addr}{o o':HO}{m h2 hn:Hp}{k:Hp}(ok:Okk F0 H0 F h H) (kh:Same k h) (jn:Jn (one p o) m k) (h2m:Same h2 m) (fresh:∀ q,hn q≠none→F q=none∧h q=none∧H0 q=none) (hs:Same hn H) (dn:Dj hn h2) :
  Jn (one p o') (un hn h2) (un (one p o') (un hn h2))∧PutC F H h H0 k (un (one p o') (un hn h2)) F (upd H p o'):=by
 have hnk:∀ q,hn q≠none→k q=none:=fun q z=>kh.free (fresh q z).2.1
 have kp:k p=some o:=jn.l _ _ zz_
 have mp:m p=none:=by
  rcases jn.dj p with y | y
  ·rw [zz_] at y; cases y
  ·exact y
 have one_no:∀ {o:HO}{q},q≠p→one p o q=none:=fun {o q} z=>by unfold one; rw [if_neg z]
 have hnp:hn p=none:=by
  by_cases y:hn p=none
  ·exact y
  ·have:=hnk p y; rw [kp] at this; cases this
 have dj:Dj (one p o') (un hn h2):=fun q=>by
  by_cases z:q=p
  ·right; rw [z]; unfold un; rw [hnp]; exact h2m.free mp
  ·exact .inl (one_no z)
 refine ⟨zaM_ dj,PutC.same ok kh (fun q s z=>?_) (fun q z1 z2=>zW_ fun e=>?_) fun q z1 z2=>?_⟩
 ·unfold un at z
  by_cases e:q=p
  ·rw [e,zz_] at z; rw [e,zai_]; exact z
  ·rw [one_no e] at z
   rw [zW_ e]
   cases x:hn q with
   | some w=>rw [x] at z; rw [← z]; exact hs _ _ x
   | none=>rw [x] at z; exact ok.2.2.1 _ _ (kh _ _ (jn.r _ _ (h2m _ _ z)))
 ·rw [e,kp] at z1; cases z1
 ·have e0:q≠p:=fun e=>by rw [e,kp] at z1; cases z1
  have e2:h2 q=none:=h2m.free (jn.r.free z1)
  have eu:un (one p o') (un hn h2) q=hn q:=by
   unfold un; rw [one_no e0]
   cases x:hn q with
   | some w=>rfl
   | none=>exact e2
  rw [eu] at z2 ⊢
  obtain ⟨f1,f2,f3⟩:=fresh q z2
  refine ⟨f1,f2,f3,?_⟩
  cases x:hn q with
  | some w=>exact hs _ _ x
  | none=>exact absurd x z2
theorem znK_ {O:Own β}{O1:Own α}{r0:Mo (List α×(List α→β))}{ri:Mo Int}{k:β→Mo (Out ρ B S)}(hp:EvPt K te E L i O (owLO O1) r0) (hO:ImmO O1) (he:EvO K e E L r O1) (hei:EvF K ei E L ri tyInt) (hk:∀ x',EvS K u E (L.set i (.ow O x')) (k x') LS LB Or) :
  EvS K (tSeq (tAsg e (gSub te ei mSet)) u) E L (r.bind fun a=>r0.bind fun yp=>ri.bind fun j=>(Mo.opt ((ixN yp.1.length j).map fun n=>yp.1.set n a)).bind fun xs=>(Mo.ok (yp.2 xs)).bind k) LS LB Or:=by
 intro F0 H0 σ F h H D hL ok fin
 refine he σ (un F h) H _ (hL.froz ok.2.1) ok.thaw (zal_ (G:=F) ok _ (.inl rfl) fin fun a G0 H3 hra x0 v hn fresh dj hsn hv=>?_)
 obtain ⟨o0,hs0,ht0⟩:=ok.back x0
 rw [hra] at fin
 refine hp F0 H0 σ _ h H3 _ (hL.mono hs0) o0 (zal_ (G:=F) o0 _ (.inl rfl) fin fun yp G1 H1 hr0 x1 u0 fc=>?_)
 obtain ⟨o1,hs1,ht1⟩:=o0.back x1
 rw [hr0] at fin
 refine hei σ (un (less G1 h) h) H1 _ (((hL.mono hs0).mono hs1).froz o1.2.1) o1.thaw (zal_ (G:=F) o1 _ (.inl rfl) fin fun j G2 H2 hrj x2 v2 hv2=>?_)
 cases hv2
 obtain ⟨o2,hs2,ht2⟩:=o1.back x2
 rw [hrj] at fin
 obtain ⟨ys,ey,fin⟩:=ziW_ fin
 obtain ⟨k1,⟨p,vs,m,rfl,jn,all⟩,kh,g⟩:=fc _ H2 hs2 o2
 cases ej:ixN yp.1.length j with
 | none=>rw [ej] at ey; cases ey
 | some n =>
  rw [ej] at ey; cases ey
  have hn1:∀ q,hn q≠none→h q=none∧H0 q=none∧H q=none:=fun q z=>⟨ok.2.2.1.free (fresh q z),ok.1.2.2.1.free (fresh q z),fresh q z⟩
  have hn2:∀ q,hn q≠none→H3 q≠none:=fun q z y=>z (hsn.free y)
  have f0:∀ q,hn q≠none→less G0 h q=none:=fun q z=>by
   rcases dj q with y | y
   ·exact zaA_.free y
   ·exact absurd y z
  have f1:∀ q,hn q≠none→less G1 h q=none:=fun q z=>by
   cases y:less G1 h q with
   | none=>rfl
   | some w =>
    have w1:G1 q≠none:=fun c=>by rw [(zaA_ (H:=G1) (h:=h)).free c] at y; cases y
    exact absurd (x1.2.2.2 q (by unfold un; rw [f0 q z]; exact (hn1 q z).1) w1) (hn2 q z)
  have f2:∀ q,hn q≠none→less G2 h q=none:=fun q z=>by
   cases y:less G2 h q with
   | none=>rfl
   | some w =>
    have w1:G2 q≠none:=fun c=>by rw [(zaA_ (H:=G2) (h:=h)).free c] at y; cases y
    exact absurd (x2.2.2.2 q (by unfold un; rw [f1 q z]; exact (hn1 q z).1) w1) fun c=>hn2 q z (x1.2.2.1.free c)
  obtain ⟨a1,a2,ja,f⟩:=all.swap n (List.getElem?_eq_getElem (show n<yp.1.length from zeW_ ej))
  have dn:Dj hn a2:=fun q=>by
   by_cases z:hn q=none
   ·exact .inl z
   ·exact .inr (ja.r.free (jn.r.free (kh.free (hn1 q z).1)))
  obtain ⟨j',PC⟩:=znE_ (o':=.lst (vs.set n v)) (hn:=hn) o2 kh jn ja.r (fun q z=>⟨f2 q z,(hn1 q z).1,(hn1 q z).2.1⟩) (hsn.trans (x1.2.2.1.trans x2.2.2.1)) dn
  obtain ⟨h',b1,b2⟩:=g (yp.1.set n a) _ _ _ PC ⟨p,_,_,rfl,j',f a v hn _ _ (Same.refl _) (O1.mono (hs1.trans hs2) (hO ht0 hv)) (zaM_ dn)⟩
  refine ⟨vs,o2.2.2.1 _ _ (kh _ _ (jn.l _ _ zz_)),?_⟩
  rw [← all.len,ej]
  exact hk _ F0 H0 σ _ h' _ D b1 b2 fin
end
end L2
namespace L2
open PySem PySem.Spec PyProof.Rows
section
variable {X:Cx}
end
section
variable {K:Fgg}{E:XK}{L:List Sl}{ta:TA}
end
end L2
namespace L2
open PySem PySem.Spec PyProof.Rows
section
variable {K:Fgg}{E E0:XK}{α β γ ρ ρ' S B:Type}{F0 H0 F h H:Hp}{L:List Sl}{T:Ty α}{Or:Own ρ}{t u:TS}{e te:TE}{LS:S→List Sl}{LB:B→List Sl}{i j n:Nat}{σ:St}
end
end L2
namespace L2
open PySem PySem.Spec PyProof.Rows
section
variable {K:Fgg}{E:XK}{α β γ δ ρ ρ' S B:Type}{F0 H0 F h H:Hp}{L:List Sl}{e te te2 ei tc:TE}{T:Ty α}{Or:Own ρ}{Or':Own ρ'}{t u:TS}{LS:S→List Sl}{LB:B→List Sl}{σ:St}{i n w j:Nat}
end
end L2
namespace L2
end L2
abbrev zdx_:=@PySem.F.slot_str_startswith
abbrev zdt_:=@PySem.F.type_str_startswith
abbrev zew_:=@PySem.F.slot_str_endswith
abbrev zet_:=@PySem.F.type_str_endswith
namespace L2
open PySem PySem.Spec PyProof.Rows
section
variable {X:Cx}{e:Expr}{es:List Expr}{m x:Str}{p pos apos:Pos}{t:TA}{k:Nat}{ps:List Str}{sp:Sp}
end
def Fs (K:Fgg) (c m q:Str) (st:Stmt):Prop:=∃ cw f,PySem.W.nsIn K mainGlobals c=some (some (.ref cw))∧PySem.W.specialIn K (.ref cw) "__getattribute__" = some (some (.builtin "type.__getattribute__"))∧PySem.W.readsIn K cw (.type "type")=true∧PySem.W.findCls K (.ref cw) (.type "type") m=some (.val (.ref f))∧Fi K m q st f
section
variable {P:Program}{w:World}{K:Fgg}{mg:Str→Option Value}{base:Heap}{CX:CXT}{x q c m a:Str}{st:Stmt}{f:Addr}{fd:FuncData}{N ps:List Str}{k j:Nat}{sp:Sp}
theorem Fs.mk_ {cw:Addr}{oc:Value}{od:Option Addr}{kV doc pm:Value}{an:Option Addr}{cdv ct:Value}{osl:Array (Option Value)}(h:PySem.W.nsIn K mainGlobals c=some (some (.ref cw))) (h1:PySem.W.specialIn K (.ref cw) "__getattribute__" = some (some (.builtin "type.__getattribute__"))) (h2:PySem.W.readsIn K cw (.type "type")=true) (h3:PySem.W.findCls K (.ref cw) (.type "type") m=some (.val (.ref f)))
  (l:K.lookup f=some ⟨oc,od,.func (PySem.W.fnOf m q (defArgs st) (defBody st) (defScope st) .none kV doc pm an cdv ct),osl⟩) (hc:PySem.W.codeIn K cdv q=true) (hk:PySem.W.keepIn K (.ref f)=true):Fs K c m q st:=⟨cw,f,h,h1,h2,h3,oc,od,kV,doc,pm,an,cdv,ct,osl,l,hc,hk⟩
end
section
variable {K:Fgg}{E:XK}{α β γ δ ρ ρ' S B κ:Type}{F0 H0 F h H:Hp}{L:List Sl}{e te ei tc:TE}{T:Ty α}{r:Mo α}{Or:Own ρ}{Or':Own ρ'}{t u:TS}{ta:TA}{LS:S→List Sl}{LB:B→List Sl}{σ:St}{C s:Addr}{ns:List Str}{f m:Str}{i n w j:Nat}
section
variable [DecidableEq κ] {KY:KyT κ}
end
variable {te2:TE}
end
end L2
namespace L2
open PySem PySem.Spec PyProof.Rows
section
variable {K:Fgg}{E:XK}{α β γ δ ρ ρ' S B κ:Type}{F0 H0 F h H:Hp}{L:List Sl}{e te te1 tc:TE}{T:Ty α}{r:Mo α}{Or:Own ρ}{Or':Own ρ'}{t u:TS}{ta:TA}{LS:S→List Sl}{LB:B→List Sl}{σ:St}{C s:Addr}{ns:List Str}{f m:Str}{i n w j:Nat}
end
section
variable {prog:Program}{w:World}{A:Around}{E:Value→Shared→Prop}{s:Shared}
end
section
variable {X:Cx}
end
section
variable {K:Fgg}{E:XK}{α:Type}{L:List Sl}{e:TE}{T:Ty α}
end
end L2
namespace L2
open PySem PySem.Spec PyProof.Rows
section
variable {K:Fgg}{E:XK}{α β γ δ ρ ρ' S B κ:Type}{F0 H0 F h H:Hp}{L:List Sl}{e te te1 tc e1 e2:TE}{T:Ty α}{r:Mo α}{Or:Own ρ}{Or':Own ρ'}{t u:TS}{ta:TA}{LS:S→List Sl}{LB:B→List Sl}{σ:St}{C s:Addr}{ns:List Str}{f m:Str}{i n w j:Nat}
end
end L2
namespace L2
open PySem PySem.Spec PyProof.Rows
section
variable {prog:Program}{w:World}{A:Around}{E:Value→Shared→Prop}{h:Heap}{g:Array GenState}{d:Drawn}{t:Nat}{os:OsState}{nm q:Str}{C N:Addr}{bs bm:List Value}{hd:Bool}{sn:List Str}{sub:List Value}{ab:Bool}{col:Option Bool}{dd:Option Addr}{k0 k1 k2 k3 k5:Option Value}
end
section
variable {M:Model}{A:Around}{E:Value→Shared→Prop}{env:Env}{nm q:Str}{C N:Addr}{bs bm:List Value}{hd:Bool}{sn:List Str}{sub:List Value}{ab:Bool}{col:Option Bool}{dd:Option Addr}{k0 k1 k2 k3 k5:Option Value}{ni:String}
end
section
variable {prog:Program}{w:World}{A:Around}{E:Value→Shared→Prop}{h:Heap}{g:Array GenState}{d:Drawn}{t:Nat}{os:OsState}{nm q:Str}{C N a:Addr}{bs bm:List Value}{sn:List Str}{sub:List Value}{ab:Bool}{col:Option Bool}{dd:Option Addr}{k0 k1 k2 k3 k5:Option Value}{ni:String}{K:Fgg}{mA:Str→Option Value}{name:Str}{v:Value}
end
section
variable {prog:Program}{w:World}{A:Around}{E:Value→Shared→Prop}{s:Shared}{K:Fgg}{C a dx:Addr}{name:Str}{v:Value}{mA:Str→Option Value}{o:Obj}{vs:Array Value}
end
end L2
namespace L2
open PySem PySem.Spec PyProof.Rows
section
variable {prog:Program}{w:World}{A:Around}{E:Value→Shared→Prop}{s:Shared}{K:Fgg}{C a dx:Addr}{name:Str}{v:Value}{mA:Str→Option Value}{vs:Array Value}{sl:Array (Option Value)}
end
section
variable {X:Cx}{pins:Pnn}{σ:St}{H:Hp}{s:Shared}{a C dx:Addr}{d:Option Addr}{fs:List (Str×V)}{f:Str}{y v:V}{u:Value}{A:Around}{E:Value→Shared→Prop}{φ:Heap→Prop}
end
section
variable {X:Cx}{e value o:Expr}{es:List Expr}{f x:Str}{p pos pos' apos:Pos}{ta tv te:TE}{t:TA}{C B:Addr}{k:Nat}{ps:List Str}{sp:Sp}
end
end L2
namespace L2
open PySem PySem.Spec PyProof.Rows
section
variable {X:Cx}{E:XK}{C:Addr}{x:Str}{e:Expr}{es:List Expr}{t:TA}{np cpos pos:Pos}{k:Nat}{ps:List Str}{sp:Sp}
end
section
variable {K:Fgg}{E:XK}{α β γ ρ S B:Type}{F0 H0 F h H:Hp}{L:List Sl}{O:Own ρ}{LS:S→List Sl}{LB:B→List Sl}{C:Addr}
end
end L2
namespace L2
open PySem PySem.Spec PyProof.Rows
def Xc.c:Xc→String
 | .pl c=>c
 | .at c _=>c
def Mo.tr {α β:Type}(r:Mo α) (k:α→Mo β) (hd:Xc→Mo β):Mo β:=match r with | .ok a=>k a | .ex x=>hd x | .no=>.no
section
variable {K:Fgg}{E:XK}{α β γ δ ρ S B:Type}{F0 H0 F h H:Hp}{L:List Sl}{O:Own ρ}{LS:S→List Sl}{LB:B→List Sl}{i:Nat}{x:Xc}{ts:TS}{rest th:TH}{e:TE}{r:Mo α}{T:Ty α}
end
section
variable {P:Program}{w:World}{K:Fgg}{mg:Str→Option Value}{base:Heap}{x q c:Str}{st:Stmt}{N ps:List Str}{k:Nat}{α β:Type}{sp:Sp}
end
end L2
namespace L2
open PySem PySem.Spec PyProof.Rows
section
variable {X:Cx}{e o:Expr}{es:List Expr}{m:Str}{p pos pos' apos:Pos}{ta:TE}{t:TA}{C:Addr}{k:Nat}{ps:List Str}{sp:Sp}{E:XK}
end
section
variable {K:Fgg}{E:XK}{α β γ δ ρ ρ' S B:Type}{F0 H0 F h H:Hp}{L:List Sl}{e te:TE}{T:Ty α}{r:Mo α}{O:Own ρ}{t u:TS}{LS:S→List Sl}{LB:B→List Sl}{σ:St}{C:Addr}{ns:List Str}{m:Str}{i n:Nat}{th:TH}
end
section
variable {P:Program}{w:World}{K:Fgg}{mg:Str→Option Value}{base:Heap}{x q:Str}{st:Stmt}{N ps:List Str}{k:Nat}{α β γ ρ:Type}
end
section
variable {K:Fgg}{E:XK}{α β γ δ ρ ρ' S B:Type}{F0 H0 F h H:Hp}{L:List Sl}{te:TE}{Or:Own ρ}{LS:S→List Sl}{LB:B→List Sl}{C:Addr}{ns:List Str}{m:Str}{i:Nat}{th:TH}
end
end L2
namespace L2
open PySem PySem.Spec PyProof.Rows
section
variable {K:Fgg}{E:XK}{α β γ δ ρ ρ' S B:Type}{F0 H0 F h H:Hp}{L:List Sl}{e te ei:TE}{T:Ty α}{r:Mo α}{Or:Own ρ}{t u:TS}{LS:S→List Sl}{LB:B→List Sl}{σ:St}{C:Addr}{ns:List Str}{f m:Str}{i n:Nat}
end
section
variable {P:Program}{w:World}{K:Fgg}{mg:Str→Option Value}{base:Heap}{x q:Str}{st:Stmt}{N ps:List Str}{k:Nat}{α β γ ρ:Type}
end
section
variable {X:Cx}{e:Expr}{es:List Expr}{x:Str}{p pos:Pos}{t:TA}{C:Addr}{k:Nat}{ps:List Str}{sp:Sp}{E:XK}
end
end L2
namespace L2
open PySem PySem.Spec PyProof.Rows
section
variable {prog:Program}{w:World}{A:Around}{E:Value→Shared→Prop}{s:Shared}
end
section
variable {X:Cx}{tg:Expr}{p:Addr}
end
section
variable {X:Cx}{ts:Addr→TS}{S:Addr}{sx n:Str}{i:Nat}{b₀:Stmt}{suite:List Stmt}{np hpos pos:Pos}{rest:TH}{hs:List ExceptHandler}
end
section
variable {K:Fgg}{E:XK}{ρ S B:Type}{L:List Sl}{O:Own ρ}{LS:S→List Sl}{LB:B→List Sl}{i:Nat}{x:Xc}{rest:TH}
end
section
variable {P:Program}{w:World}{K:Fgg}{mg:Str→Option Value}{base:Heap}
end
section
variable {X:Cx}{k:Nat}{x:Str}{ps:List Str}{p pos:Pos}{e:Expr}{es:List Expr}{t:TA}
end
section
variable {K:Fgg}{E:XK}{α:Type}{L:List Sl}{e:TE}{T:Ty α}{p:Addr}{x:Xc}{i:Nat}
end
section
variable {P:Program}{w:World}{K:Fgg}{mg:Str→Option Value}{base:Heap}{x:Str}{st:Stmt}{ps:List Str}{k:Nat}{sp:Addr→Sp}
end
section
variable {P:Program}{w:World}{K:Fgg}{mg:Str→Option Value}{base:Heap}{x q:Str}{st:Stmt}{N ps:List Str}{k:Nat}{α β γ ρ:Type}
end
end L2
namespace L2
open PySem PySem.Spec PyProof.Rows
section
variable {K:Fgg}{E:XK}{α β γ:Type}{L:List Sl}{T:Ty α}{T':Ty β}{e:TE}
end
end L2
namespace L2
open PySem PySem.Spec PyProof.Rows
section
variable {X:Cx}{st:Stmt}{rest body orelse:List Stmt}{t u:TX}{tb:TX}{th:TH}{te:TS}{k i:Nat}{x n:Str}{ps:List Str}{sp:Sp}{p pos pos' ps':Pos}{e:Expr}{es:List Expr}{ta:TA}{hs:List ExceptHandler}
end
section
variable {K:Fgg}{E:XK}{α β γ δ ρ S B:Type}{F0 H0 F h H:Hp}{L:List Sl}{O:Own ρ}{LS:S→List Sl}{LB:B→List Sl}{i:Nat}{x:Xc}{ts te:TS}{rest th:TH}{e:TE}{T:Ty α}{T':Ty β}
end
end L2
namespace L2
open PySem PySem.Spec PyProof.Rows
end L2
namespace L2
open PySem PySem.Spec PyProof.Rows
structure FunD (K:Fgg) (T:Addr) (x qual:Str) (st:Stmt) (f:Addr) (fd:FuncData):Prop where
 ex:∃ (oc:Value) (od:Option Addr) (kV doc pm:Value) (an:Option Addr) (cdv ct:Value) (osl:Array (Option Value)),
  fd=PySem.W.fnOf x qual (defArgs st) (defBody st) (defScope st) (.ref T) kV doc pm an cdv ct∧K.lookup f=some ⟨oc,od,.func fd,osl⟩∧PySem.W.codeIn K cdv qual=true
 kp:PySem.W.keepIn K (.ref f)=true
section
variable {P:Program}{w:World}{K:Fgg}{mg:Str→Option Value}{base:Heap}
end
def FmD (K:Fgg) (c m q:Str) (st:Stmt) (dvs:List V):Prop:=∃ cw f T fd arr n oc od osl,PySem.W.nsIn K mainGlobals c=some (some (.ref cw))∧PySem.W.findIn K (.ref cw) m=some (some (.ref f))∧PySem.W.isFn K (.ref f)=true∧FunD K T m q st f fd ∧
 K.lookup T=some ⟨oc,od,.seq arr n,osl⟩∧Vals dvs arr.toList
section
variable {P:Program}{w:World}{K:Fgg}{mg:Str→Option Value}{base:Heap}{CX:CXT}{x q c m a:Str}{st:Stmt}{f:Addr}{fd:FuncData}{N ps:List Str}{k j:Nat}{sp:Sp}{A:Around}{v:V}
end
section
variable {K:Fgg}{E:XK}{α β γ γ' δ ρ S B:Type}{F0 H0 F h H:Hp}{L:List Sl}{T:Ty α}{C0:Cs γ}{C1:Cs γ'}{Qt:Cs δ}{dvs:List V}{f:γ→γ'}{ta:TA}{ra:Mo γ}{C:Addr}{ns:List Str}{O:Own ρ}{LS:S→List Sl}{LB:B→List Sl}{th:TH}
end
section
variable {X:Cx}{e:Expr}{es:List Expr}{x:Str}{p pos pos':Pos}{t:TA}{C:Addr}{k:Nat}{ps:List Str}{sp:Sp}{E:XK}{CX:CXT}{dvs:List V}
end
end L2
namespace L2
open PySem PySem.Spec PyProof.Rows
section
variable {P:Program}{w:World}{K:Fgg}{mg:Str→Option Value}{base:Heap}{x q c:Str}{st:Stmt}{N ps:List Str}{k:Nat}{α β γ ρ:Type}
end
def FtT (K:Fgg) (x:Str) (xs:List (List Nat)):Prop:=∀ H:Hp,SqT K H (gA K x) (xs.map tx)
section
variable {K:Fgg}{E:XK}{α β γ γ':Type}{L:List Sl}{T:Ty α}{T':Ty β}{C1:Cs γ}{C2:Cs γ'}{e:TE}
end
end L2
namespace L2
open PySem PySem.Spec PyProof.Rows
section
variable {K:Fgg}{E:XK}{α β γ γ' γ'' δ ρ S B:Type}{L:List Sl}{T:Ty α}{T':Ty β}{C:Cs γ}{C':Cs γ'}{C'':Cs γ''}{e e1 e2:TE}{O:Own ρ}{LS:S→List Sl}{LB:B→List Sl}{th:TH}{t rest:TS}
end
end L2
namespace L2
open PySem PySem.Spec PyProof.Rows
section
variable {K:Fgg}{E:XK}{α β γ ρ S B:Type}{F0 H0 F h H:Hp}{σ:St}{L:List Sl}{i j:Nat}{t:TS}{O1:Own α}{O2:Own β}{O:Own ρ}{LS:S→List Sl}{LB:B→List Sl}{r:Mo (Out ρ B S)}{v2 w:V}{a:α}{b:β}
def owPair (v2:V) (O1:Own α) (O2:Own β):Own (α×β) where
 O x v F h:=∃ h1 h2,Jn h1 h2 h∧O1.O x.1 v F h1∧O2.O x.2 v2 F h2
 fr:=⟨fun x v F=>O1.fr.R x.1 v F∧O2.fr.R x.2 v2 F,fun g q=>⟨O1.fr.mono g q.1,O2.fr.mono g q.2⟩⟩
 mono:=fun g ⟨h1,h2,jn,q1,q2⟩=>⟨h1,h2,jn,O1.mono g q1,O2.mono g q2⟩
 frz:=fun {a v F h} d ⟨h1,h2,jn,q1,q2⟩=>by
  have s:∀ {k:Hp},Same k h→Dj F k∧Same (un F k) (un F h):=fun {k} g=>by
   have dk:Dj F k:=fun p=>by
    rcases d p with z | z
    ·exact .inl z
    ·exact .inr (g.free z)
   refine ⟨dk,fun p o e=>?_⟩
   unfold un at e ⊢
   cases y:F p with
   | some x=>rw [y] at e; exact e
   | none=>rw [y] at e; exact g _ _ e
  obtain ⟨d1,s1⟩:=s jn.l
  obtain ⟨d2,s2⟩:=s jn.r
  exact ⟨O1.fr.mono s1 (O1.frz d1 q1),O2.fr.mono s2 (O2.frz d2 q2)⟩
 notup:=fun ⟨h1,h2,jn,q1,q2⟩ p xs e=>by
  rcases jn p with ⟨_,z⟩ | ⟨_,z⟩
  ·exact O2.notup q2 p xs (by rw [← z]; exact e)
  ·exact O1.notup q1 p xs (by rw [← z]; exact e)
theorem zdF_ (i1:ImmO O1) (i2:ImmO O2):ImmO (owPair v2 O1 O2):=fun g ⟨h1,h2,jn,q1,q2⟩=>⟨h1,h2,jn,i1 g q1,i2 g q2⟩
theorem zoa_ {k1 k2 r1 r2:Hp}(jj:Jn k2 r2 h) (ji:Jn k1 r1 r2):Dj k1 k2∧Dj (un k1 k2) r1∧Same (un (un k1 k2) r1) h:=by
 have d12:Dj k1 k2:=fun p=>by
  rcases jj.dj p with z | z
  ·exact .inr z
  ·exact .inl (ji.l.free z)
 have d2:Dj (un k1 k2) r1:=fun p=>by
  rcases ji.dj p with z | z
  ·rcases jj.dj p with y | y
   ·left; unfold un; rw [z]; exact y
   ·exact .inr (ji.r.free y)
  ·exact .inr z
 refine ⟨d12,d2,fun p o e=>?_⟩
 unfold un at e
 cases y1:k1 p with
 | some x=>rw [y1] at e; rw [← e]; exact jj.r _ _ (ji.l _ _ y1)
 | none =>
  rw [y1] at e
  cases y2:k2 p with
  | some x=>rw [y2] at e; rw [← e]; exact jj.l _ _ y2
  | none=>rw [y2] at e; exact jj.r _ _ (ji.r _ _ e)
theorem zhx_ (hL:Hold L σ F h) (hi:L[i]?=some (.ow O1 a)) (hj:L[j]?=some (.ow O2 b)) (ij:i≠j) :
  ∃ v2 h',Same h' h∧σ[j]?=some (some v2)∧Hold ((L.set j (.fz (tyIs v2) ())).set i (.ow (owPair v2 O1 O2) (a,b))) σ F h':=by
 obtain ⟨_,k2,r2,ej,jj,⟨v2,rfl,o2⟩,fj⟩:=hL.at j hj
 have H1:=fj (.fz (tyIs v2) ()) (some v2) hpE r2 (fun p=>.inl ⟨rfl,rfl⟩) ⟨v2,rfl,rfl⟩
 rw [zZ_ ej] at H1
 obtain ⟨_,k1,r1,ei,ji,⟨v,rfl,o1⟩,fi⟩:=H1.at i (by rw [List.getElem?_set_ne (Ne.symm ij)]; exact hi)
 obtain ⟨d12,d2,sm⟩:=zoa_ jj ji
 have H2:=fi (.ow (owPair v2 O1 O2) (a,b)) (some v) (un k1 k2) (un (un k1 k2) r1) (zaM_ d2) ⟨v,rfl,k1,k2,zaM_ d12,o1,o2⟩
 rw [zZ_ ei] at H2
 exact ⟨v2,_,sm,ej,H2⟩
theorem zeJ_ {z:α×β}(hL:Hold L σ F h) (hi:L[i]?=some (.ow (owPair v2 O1 O2) z)) (hj:L[j]?=some (.fz (tyIs v2) ())) (ij:i≠j) :
  ∃ h',Same h' h∧Hold ((L.set i (.ow O1 z.1)).set j (.ow (owAt v2 O2) z.2)) σ F h':=by
 obtain ⟨_,k,r1,ei,ji,⟨v,rfl,k1,k2,jk,o1,o2⟩,fi⟩:=hL.at i hi
 have d1:Dj k1 r1:=fun p=>by
  rcases ji.dj p with z | z
  ·exact .inl (jk.l.free z)
  ·exact .inr z
 have H1:=fi (.ow O1 z.1) (some v) k1 (un k1 r1) (zaM_ d1) ⟨v,rfl,o1⟩
 rw [zZ_ ei] at H1
 obtain ⟨_,kj,rj,ej,jj,⟨_,e,rfl⟩,fj⟩:=H1.at j (by rw [List.getElem?_set_ne ij]; exact hj)
 cases e
 have d2:Dj k2 rj:=fun p=>by
  by_cases y:k2 p=none
  ·exact .inl y
  ·right
   have a1:k1 p=none:=(jk.dj p).resolve_right y
   have a2:r1 p=none:=by
    rcases ji.dj p with q | q
    ·exact absurd (jk.r.free q) y
    ·exact q
   exact jj.r.free (by unfold un; rw [a1]; exact a2)
 have H2:=fj (.ow (owAt _ O2) z.2) (some _) k2 (un k2 rj) (zaM_ d2) ⟨_,rfl,rfl,o2⟩
 rw [zZ_ ej] at H2
 refine ⟨_,fun p o e=>?_,H2⟩
 unfold un at e
 cases y:k2 p with
 | some x=>rw [y] at e; rw [← e]; exact ji.l _ _ (jk.r _ _ y)
 | none =>
  rw [y] at e
  have:=jj.r _ _ e
  unfold un at this
  cases y1:k1 p with
  | some x=>rw [y1] at this; rw [← this]; exact ji.l _ _ (jk.l _ _ y1)
  | none=>rw [y1] at this; exact ji.r _ _ this
theorem zlP_ (hi:L[i]?=some (.ow O1 a)) (hj:L[j]?=some (.ow O2 b)) (ij:i≠j) (hk:∀ v2,EvS K t E ((L.set j (.fz (tyIs v2) ())).set i (.ow (owPair v2 O1 O2) (a,b))) r LS LB O):EvS K t E L r LS LB O:=by
 intro F0 H0 σ F h H D hL ok fin
 obtain ⟨v2,h',sm,_,H1⟩:=zhx_ hL hi hj ij
 exact hk v2 F0 H0 σ F h' H D H1 (zbA_ ok sm) fin
theorem zlJ_ (hi:L[i]?=some (.ow O1 a)) (hj:L[j]?=some (.ow (owAt v2 O2) b)) (ij:i≠j) (hk:EvS K t E ((L.set j (.fz (tyIs v2) ())).set i (.ow (owPair v2 O1 O2) (a,b))) r LS LB O):EvS K t E L r LS LB O:=by
 intro F0 H0 σ F h H D hL ok fin
 obtain ⟨_,_,_,e1,_,⟨v,e2,e3,_⟩,_⟩:=hL.at j hj
 obtain ⟨v2',h',sm,e4,H1⟩:=zhx_ hL hi hj ij
 cases e2
 rw [e1] at e4
 cases e4
 cases e3
 refine hk F0 H0 σ F h' H D ?_ (zbA_ ok sm) fin
 have q:=zaD_ (O1:=owPair v2 O1 (owAt v2 O2)) (O2:=owPair v2 O1 O2) (x2:=(a,b)) H1 (by rw [List.getElem?_set_self]; rw [List.length_set]; exact (List.getElem?_eq_some_iff.mp hi).1) (fun _ _ _ _ ⟨h1,h2,jn,q1,q2⟩=>⟨h1,h2,jn,q1,q2.2⟩)
 rwa [List.set_set] at q
theorem zme_ {z:α×β}(hi:L[i]?=some (.ow (owPair v2 O1 O2) z)) (hj:L[j]?=some (.fz (tyIs v2) ())) (ij:i≠j) (hk:EvS K t E ((L.set i (.ow O1 z.1)).set j (.ow (owAt v2 O2) z.2)) r LS LB O):EvS K t E L r LS LB O:=by
 intro F0 H0 σ F h H D hL ok fin
 obtain ⟨h',sm,H1⟩:=zeJ_ hL hi hj ij
 exact hk F0 H0 σ F h' H D H1 (zbA_ ok sm) fin
end
section
variable {P:Program}{w:World}{K:Fgg}{mg:Str→Option Value}{base:Heap}{CX:CXT}{k:Nat}{x q:Str}{st:Stmt}{ps:List Str}
def SpE {ι:Type}(sp:ι→Sp):Sp:=fun vs H Q E=>∃ u,sp u vs H Q E
theorem okEx {ι:Type} [Inhabited ι] {sp:ι→Sp}(h:∀ u,OkF P w K mg base CX k x q st ps (sp u)):OkF P w K mg base CX k x q st ps (SpE sp):=fun f fd F =>
 ⟨⟨fun vs H Q E ⟨u,z⟩=>(h u f fd F).1.len vs H Q E z,fun A outer s H args us vs Q E hr he hb hv ⟨u,z⟩=>(h u f fd F).1.run A outer s H args us vs Q E hr he hb hv z⟩,(h default f fd F).2⟩
end
section
variable {K:Fgg}{E E0:XK}{α β γ δ ρ ρ' S B:Type}{F0 H0 F h H:Hp}{σ:St}{L:List Sl}{i j:Nat}{te ei:TE}
theorem zkr_ {u:V}:Imm (tyIs u):=fun g h=>h
theorem zgP_ {O:Own α}{O':Own β}{r0:Mo (β×(β→α))}{Q:Cs γ}{ta:TA}{ra:Mo γ}{g:β→γ→Mo (ρ'×β)}{Or':Own ρ'}{sp:Sp}(hsp:∀ vs H R E,CtM K O' O' Q g Or' vs H R E→sp vs H R E) (hI:ImmO O') (hR:ImmO Or') (hp:EvPw K te E L i O O' r0) (ha:EvAN K ta E L ra Q) :
  EvM K (tCall sp [] E0 (tCons te ta)) E L i O Or' (r0.bind fun yp=>ra.bind fun c=>(g yp.1 c).noex.bind fun q=>.ok (q.1,yp.2 q.2)):=by
 intro F0 H0 σ F h H R hL ok fin
 show te σ H fun x H1=>ta σ H1 fun vs H2=>sp (x::vs++[]) H2 R E0
 refine hp F0 H0 σ F h H _ hL ok (zel_ ok fin fun yp G1 H1 hr0 x1 uu il hh=>?_)
 obtain ⟨o1,hs1,_⟩:=ok.back x1
 rw [hr0] at fin
 have hi:(L.set i (.ow (owPn uu O' yp.2 O) yp.1))[i]?=some (.ow (owPn uu O' yp.2 O) yp.1):=by rw [List.getElem?_set_self (by exact il)]
 refine ha σ (un (less G1 h) h) H1 _ ((hL.mono hs1).froz o1.2.1) o1.thaw (zel_ o1 fin fun c G2 H2 hra x2 vs hvs=>?_)
 obtain ⟨o2,hs2,ht2⟩:=o1.back x2
 rw [hra] at fin
 rw [List.append_nil]
 obtain ⟨_,k,hrest,e1,j,⟨v0,rfl,ka,kb,jk,hO,wand⟩,f⟩:=(hh.mono hs2).atM i hi
 have kh1:Same ka h:=jk.l.trans j.l
 have sFc:Same (un (less G2 h) (less h ka)) H2:=fun q o z=>by
  unfold un at z
  cases y:less G2 h q with
  | some s=>rw [y] at z; rw [← z]; exact o2.1.2.1 _ _ y
  | none=>rw [y] at z; exact o2.2.2.1 _ _ (zaA_ _ _ z)
 have djc:Dj (un (less G2 h) (less h ka)) ka:=fun q=>by
  by_cases z:ka q=none
  ·exact .inr z
  ·left
   unfold un
   have:less G2 h q=none:=zD_ q fun y=>z (kh1.free y)
   rw [this]; exact zD_ q z
 refine hsp _ _ _ _ ⟨un (less G2 h) (less h ka),ka,yp.1,c,uu,vs,rfl,sFc,djc,kh1.trans o2.2.2.1,O'.mono zak_ hO,Q.mono zak_ (hvs h (zdy_ o1.2.1) o1.2.2.2.2),?_⟩
 have fin:FinM K ((g yp.1 c).noex.bind fun q=>.ok (q.1,yp.2 q.2)) E F0 H0 _:=fin
 cases e:g yp.1 c with
 | no=>rw [e] at fin; exact fin
 | ex cc=>rw [e] at fin; exact fin.elim
 | ok q =>
  rw [e] at fin
  rintro F' h' H' okc v ⟨hr,hs',j',hRes,hO2⟩
  obtain ⟨ff,tp,d1,d2,d3,okk⟩:=zga_ o2 j jk okc j'
  have hold:=f (less F' (less h ka)) (.ow O (yp.2 q.2)) (some v0) (un hs' kb) _ ff (zaM_ d2) ⟨v0,rfl,wand q.2 hs' _ _ ff (hI tp hO2) (zaM_ d1)⟩
  rw [zZ_ e1,List.set_set] at hold
  exact fin _ _ H' okk v _ hr (zaM_ d3) hold (hR tp hRes)
theorem zoz_ {O:Own α}{O':Own β}{O2:Own δ}{v2:V}{r:Mo ((List β×δ)×(List β×δ→α))}{rj:Mo Int}(hp:EvPw K te E L i O (owPair v2 (owLO O') O2) r) (hj:EvF K ei E L rj tyInt) :
  EvPw K (tOp (mIx K) te ei) E L i O (owPair v2 O' O2) (r.bind fun yp=>rj.bind fun j=>(Mo.opt (ixN yp.1.1.length j)).bind fun n=>(Mo.opt (yp.1.1[n]?)).bind fun z=>.ok ((z,yp.1.2),fun z'=>yp.2 (yp.1.1.set n z'.1,z'.2))):=by
 intro F0 H0 σ F h H Q hL ok q
 refine hp F0 H0 σ F h H _ hL ok (q.bind.imp fun yp G1 H1 x1 k1 uu il hh=>?_)
 refine hj σ G1 H1 _ ((hL.froz ok.2.1).mono x1.1) x1.2.1 (k1.bind.imp fun j G2 H2 x2 k2 v2' hv2=>?_)
 cases hv2
 obtain ⟨n,en,k3⟩:=k2.bind.opt
 obtain ⟨z,ez,k4⟩:=(k3.ok x2.2.1).bind.opt
 have k5:=(k4.ok x2.2.1).ok x2.2.1
 obtain ⟨o2,_,_⟩:=ok.back (x1.trans x2)
 have hh:=hh.mono (ze4_ (h:=h) x2.1)
 have hi:(L.set i (.ow (owPn uu (owPair v2 (owLO O') O2) yp.2 O) yp.1))[i]?=some (.ow (owPn uu (owPair v2 (owLO O') O2) yp.2 O) yp.1):=by rw [List.getElem?_set_self (by exact il)]
 obtain ⟨_,k,hr,e1,jj,⟨v,e2,ka,kb,jk,⟨k1',k2',jp,⟨p,vs,mm,rfl,jn,all⟩,q2⟩,wand⟩,_⟩:=hh.at i hi
 have hp1:h p=some (.lst vs):=jj.l _ _ (jk.l _ _ (jp.l _ _ (jn.l _ _ zz_)))
 refine ⟨vs,.inl (.of (o2.2.2.1 _ _ hp1)),?_⟩
 have hl:=all.len
 have hn:=zeW_ en
 have hw:vs[n]?=some vs[n]:=List.getElem?_eq_getElem (by lia)
 have en':ixN vs.length j=some n:=by rw [← hl]; exact en
 have ea:atI vs j=some vs[n]:=by unfold atI; rw [en']; exact hw
 rw [ea]
 have:=zaD_ (O2:=owPn vs[n] (owPair v2 O' O2) (fun z'=>yp.2 (yp.1.1.set n z'.1,z'.2)) O) (x2:=(z,yp.1.2)) hh hi fun v k ev kh ho=>zji_ (O1:=owPair v2 (owLO O') O2) (O2:=owPair v2 O' O2) (st:=fun z':β×δ=>(yp.1.1.set n z'.1,z'.2)) (fun ka ks ho'=>by
  obtain ⟨a1,a2,aj,ao,ao2⟩:=ho'
  obtain ⟨b1,b2,bj,bo,bw⟩:=zjR_ hp1 hw ez _ a1 (aj.l.trans (ks.trans kh)) ao
  have dA:Dj b1 a2:=fun p=>by
   rcases aj.dj p with y | y
   ·exact .inl (bj.l.free y)
   ·exact .inr y
  refine ⟨un b1 a2,b2,?_,⟨b1,a2,zaM_ dA,bo,ao2⟩,fun z' c1 c' F3 sF hc cj=>?_⟩
  ·intro p
   unfold un
   rcases bj p with ⟨y,y2⟩ | ⟨y,y2⟩
   ·rcases aj p with ⟨w1,w2⟩ | ⟨w1,w2⟩
    ·rw [y2] at w1
     right
     refine ⟨w1,?_⟩
     rw [y]; exact w2
    ·left
     refine ⟨by rw [y]; exact w1,?_⟩
     rw [w2]; exact y2
   ·right
    refine ⟨y,?_⟩
    cases z1:b1 p with
    | none =>
     rw [z1] at y2
     rcases aj p with ⟨w1,w2⟩ | ⟨w1,w2⟩
     ·exact w2
     ·rw [w2,y2,w1]
    | some o =>
     rw [z1] at y2
     rcases aj p with ⟨w1,w2⟩ | ⟨w1,w2⟩
     ·rw [y2] at w1; cases w1
     ·rw [w2,y2]
  ·obtain ⟨d1,d2,dj,do1,do2⟩:=hc
   have dB:Dj d1 b2:=fun p=>by
    rcases cj.dj p with y | y
    ·exact .inl (dj.l.free y)
    ·exact .inr y
   refine ⟨un d1 b2,d2,?_,bw z'.1 d1 _ F3 sF do1 (zaM_ dB),do2⟩
   intro p
   unfold un
   rcases cj p with ⟨y,y2⟩ | ⟨y,y2⟩
   ·have y3:d1 p=none:=dj.l.free y
    have y4:d2 p=none:=dj.r.free y
    right
    refine ⟨y4,?_⟩
    rw [y3]; exact y2
   ·rcases dj p with ⟨w1,w2⟩ | ⟨w1,w2⟩
    ·left
     refine ⟨by rw [w1]; exact y,?_⟩
     rw [y2,w2]
    ·right
     refine ⟨w1,?_⟩
     rw [y2,w2]
     cases d1 p with
     | none=>exact y.symm
     | some o=>rfl) ho
 rw [List.set_set] at this
 exact k5 _ il this
end
end L2
namespace L2
open PySem PySem.Spec PyProof.Rows
instance:Inhabited V:=⟨.non⟩
section
variable {K:Fgg}{E E0:XK}{α β γ δ ρ ρ' S B:Type}{F0 H0 F h H:Hp}{σ:St}{L:List Sl}{i j:Nat}
theorem OwAll.at2 {O:Own α}:∀ {xs:List α}{vs:List V}{F h:Hp}(i:Nat) {x:α},OwAll O F xs vs h→xs[i]?=some x →
  ∃ v h1 h2,vs[i]?=some v∧Jn h1 h2 h∧O.O x v F h1∧(∀ x' h1' h' F3,Same F F3→O.O x' v F3 h1'→Jn h1' h2 h'→OwAll O F3 (xs.set i x') vs h')∧∀ j y,j≠i→xs[j]?=some y→∃ w k,vs[j]?=some w∧Same k h2∧O.O y w F k
 | [],_,_,_,_,_,_,e=>by cases e
 | x::xs,[],_,_,_,_,q,_=>q.elim
 | x::xs,v::vs,F,h,0,y,⟨h1,h2,j,o,r⟩,e=>by
  cases e
  refine ⟨v,h1,h2,rfl,j,o,fun x' h1' h' F3 g o' j'=>⟨h1',h2,j',o',r.mono g⟩,fun j y hj e=>?_⟩
  cases j with
  | zero=>exact absurd rfl hj
  | succ j =>
   obtain ⟨w,k1,_,e1,j1,o1,_⟩:=OwAll.at j r (by simpa using e)
   exact ⟨w,k1,by simpa using e1,j1.l,o1⟩
 | x::xs,v::vs,F,h,i+1,y,⟨h1,h2,j,o,r⟩,e=>by
  obtain ⟨w,k1,k2,e1,j1,o1,f,oth⟩:=OwAll.at2 i r (by simpa using e)
  obtain ⟨m,jm,jh⟩:=za9_ j1 (zfB_ j)
  refine ⟨w,k1,m,by simpa using e1,jh,o1,fun x' k1' h' F3 g o' j'=>?_,fun j y hj e=>?_⟩
  ·have d:Dj k1' k2:=fun p=>by
    rcases j'.dj p with z | z
    ·exact .inl z
    ·exact .inr (jm.l.free z)
   refine ⟨h1,un k1' k2,?_,O.mono g o,f x' k1' _ F3 g o' (zaM_ d)⟩
   intro p
   rcases j' p with ⟨a,b⟩ | ⟨a,b⟩
   ·rcases jm p with ⟨c,e⟩ | ⟨c,e⟩
    ·right
     refine ⟨by unfold un; rw [a,c],by rw [b,e]⟩
    ·left
     refine ⟨c,by unfold un; rw [a,b,e]⟩
   ·left
    refine ⟨jm.r.free a,?_⟩
    unfold un
    rw [b]
    cases z:k1' p with
    | none=>exact (jm.l.free a).symm ▸ rfl
    | some w=>rfl
  ·cases j with
   | zero=>cases e; exact ⟨v,h1,rfl,jm.r,o⟩
   | succ j =>
    obtain ⟨w',k,a1,a2,a3⟩:=oth j y (fun z=>hj (by rw [z])) (by simpa using e)
    exact ⟨w',k,by simpa using a1,a2.trans jm.l,a3⟩
theorem zmI_ {O':Own β}{O2:Own δ}{v2:V}{p:Addr}{xs:List β}{y:δ}{n:Nat}{z:β}{vs:List V}{w:V}{k:Hp}(hv:h p=some (.lst vs)) (hw:vs[n]?=some w) (e:xs[n]?=some z) (kh:Same k h) (ho:(owPair v2 (owLO O') O2).O (xs,y) (.ref p) F k) :
  ∃ ka kb,Jn ka kb k∧(owPair v2 O' O2).O (z,y) w F ka∧(∀ z' k1' k' F3,Same F F3→(owPair v2 O' O2).O z' w F3 k1'→Jn k1' kb k'→(owPair v2 (owLO O') O2).O (xs.set n z'.1,z'.2) (.ref p) F3 k')∧∀ j y',j≠n→xs[j]?=some y'→∃ w' k',vs[j]?=some w'∧Same k' kb∧O'.O y' w' F k':=by
 obtain ⟨a1,a2,aj,⟨p',vs',m2,ep,jn,all⟩,ao2⟩:=ho
 cases ep
 have ev:vs'=vs:=by
  have:=kh _ _ (aj.l _ _ (jn.l _ _ zz_))
  rw [hv] at this
  injection this with this
  injection this with this
  exact this.symm
 subst ev
 obtain ⟨w',b1,c2,e1,j1,bo,f,oth⟩:=all.at2 n e
 rw [hw] at e1; cases e1
 obtain ⟨b2,jm,bj⟩:=za9_ j1 (zfB_ jn)
 have dA:Dj b1 a2:=fun p=>by
  rcases aj.dj p with y | y
  ·exact .inl (bj.l.free y)
  ·exact .inr y
 refine ⟨un b1 a2,b2,?_,⟨b1,a2,zaM_ dA,bo,ao2⟩,fun z' c1 c' F3 sF hc cj=>?_,fun j y' hj ej=>?_⟩
 ·intro p
  unfold un
  rcases bj p with ⟨y,y2⟩ | ⟨y,y2⟩
  ·rcases aj p with ⟨w1,w2⟩ | ⟨w1,w2⟩
   ·rw [y2] at w1
    right
    refine ⟨w1,?_⟩
    rw [y]; exact w2
   ·left
    refine ⟨by rw [y]; exact w1,?_⟩
    rw [w2]; exact y2
  ·right
   refine ⟨y,?_⟩
   cases z1:b1 p with
   | none =>
    rw [z1] at y2
    rcases aj p with ⟨w1,w2⟩ | ⟨w1,w2⟩
    ·exact w2
    ·rw [w2,y2,w1]
   | some o =>
    rw [z1] at y2
    rcases aj p with ⟨w1,w2⟩ | ⟨w1,w2⟩
    ·rw [y2] at w1; cases w1
    ·rw [w2,y2]
 ·obtain ⟨d1,d2,dj,do1,do2⟩:=hc
  have dB:Dj d1 b2:=fun p=>by
   rcases cj.dj p with y | y
   ·exact .inl (dj.l.free y)
   ·exact .inr y
  have dC:Dj d1 c2:=fun p=>by
   rcases dB p with y | y
   ·exact .inl y
   ·exact .inr (jm.l.free y)
  refine ⟨un d1 b2,d2,?_,⟨p,_,un d1 c2,rfl,?_,f z'.1 d1 _ F3 sF do1 (zaM_ dC)⟩,do2⟩
  ·intro p
   unfold un
   rcases cj p with ⟨y,y2⟩ | ⟨y,y2⟩
   ·have y3:d1 p=none:=dj.l.free y
    have y4:d2 p=none:=dj.r.free y
    right
    refine ⟨y4,?_⟩
    rw [y3]; exact y2
   ·rcases dj p with ⟨w1,w2⟩ | ⟨w1,w2⟩
    ·left
     refine ⟨by rw [w1]; exact y,?_⟩
     rw [y2,w2]
    ·right
     refine ⟨w1,?_⟩
     rw [y2,w2]
     cases d1 p with
     | none=>exact y.symm
     | some o=>rfl
  ·intro p
   unfold un
   rcases jm p with ⟨y,y2⟩ | ⟨y,y2⟩
   ·cases z1:d1 p with
    | none =>
     right
     exact ⟨y,y2⟩
    | some o =>
     left
     refine ⟨?_,rfl⟩
     have:=(dB p).resolve_left (by rw [z1]; exact Option.some_ne_none _)
     rw [y2] at this; exact this
   ·left
    refine ⟨y,?_⟩
    cases z1:d1 p with
    | none=>exact y2
    | some o=>rfl
 ·obtain ⟨w',k',a1',a2',a3'⟩:=oth j y' hj ej
  exact ⟨w',k',a1',a2'.trans jm.l,a3'⟩
theorem zfl_ {o:Option α}{k:α→Mo ρ}{kk:ρ→Hp→Hp→Hp→Prop}(h:FinM K ((Mo.opt o).bind k) E F0 H0 kk):∃ a,o=some a∧FinM K (k a) E F0 H0 kk:=by
 cases o with
 | none=>exact h.elim
 | some a=>exact ⟨a,rfl,h⟩
theorem zmJ_ {p:Prop} [Decidable p] {r:Mo ρ}{kk:ρ→Hp→Hp→Hp→Prop}(h:FinM K (Mo.grd p r) E F0 H0 kk):p∧FinM K r E F0 H0 kk:=by
 unfold Mo.grd at h
 split at h
 ·rename_i z; exact ⟨z,h⟩
 ·exact h.elim
theorem zkL_ {O':Own β}{O2:Own δ}{v2 w0:V}{W:List β}{y:δ}{e1 e2:TE}{rj1 rj2:Mo Int}{Q:Cs γ}{ta:TA}{ra:Mo γ}{g:β×δ→β×γ→Mo (ρ'×(β×δ))}{Or':Own ρ'}{sp:Sp}
  (hsp:∀ vs H R E,CtM K (owPair v2 O' O2) (owPair v2 O' O2) (csCons O'.fr Q) g Or' vs H R E→sp vs H R E) (hI:ImmO O') (hI2:ImmO O2) (hR:ImmO Or') (hi:L[i]?=some (.ow (owAt w0 (owPair v2 (owLO O') O2)) (W,y))) (h1:EvF K e1 E L rj1 tyInt) (h2:EvF K e2 E L rj2 tyInt) (ha:EvAN K ta E L ra Q) :
  EvM K (tCall sp [] E0 (tCons (tOp (mIx K) (mVar i) e1) (tCons (tOp (mIx K) (mVar i) e2) ta))) E L i (owAt w0 (owPair v2 (owLO O') O2)) Or' (rj1.bind fun j1=>(Mo.opt (ixN W.length j1)).bind fun n1=>(Mo.opt (W[n1]?)).bind fun z=>rj2.bind fun j2=>(Mo.opt (ixN W.length j2)).bind fun n2=>(Mo.opt (W[n2]?)).bind fun z2=>ra.bind fun c=>Mo.grd (n1≠n2) ((g (z,y) (z2,c)).noex.bind fun q=>.ok (q.1,(W.set n1 q.2.1,q.2.2)))):=by
 intro F0 H0 σ F h H R hL ok fin
 obtain ⟨_,k0,_,e0,jj0,⟨_,rfl,rfl,c1,c2,jp0,⟨p,vs,mm,rfl,jn0,all0⟩,q20⟩,_⟩:=hL.at i hi
 have hp1:h p=some (.lst vs):=jj0.l _ _ (jp0.l _ _ (jn0.l _ _ zz_))
 have hl:W.length=vs.length:=all0.len
 have key:∀ {j:Int}{n:Nat},ixN W.length j=some n→∃ w,vs[n]?=some w∧atI vs j=some w:=fun {j n} en=>by
  have hn:=zeW_ en
  have hw:vs[n]?=some (vs[n]'(by lia)):=List.getElem?_eq_getElem (by lia)
  exact ⟨_,hw,by unfold atI; rw [show ixN vs.length j=some n by rw [← hl]; exact en]; exact hw⟩
 show mVar i σ H fun x H1=>e1 σ H1 fun y1 H2=>mIx K x y1 H2 fun a1 H3=>mVar i σ H3 fun x' H4=>e2 σ H4 fun y2 H5=>mIx K x' y2 H5 fun a2 H6=>ta σ H6 fun us H7=>sp (a1::(a2::us)++[]) H7 R E0
 refine za7_ e0 ?_
 refine h1 σ (un F h) H _ (hL.froz ok.2.1) ok.thaw (zel_ ok fin fun j1 G1 H1 hr1 x1 v1 hv1=>?_)
 cases hv1
 obtain ⟨o1,hs1,ht1⟩:=ok.back x1
 rw [hr1] at fin
 obtain ⟨n1,en1,fin⟩:=zfl_ fin
 obtain ⟨z,ez,fin⟩:=zfl_ fin
 obtain ⟨w1,hw1,ea1⟩:=key en1
 refine ⟨vs,.inl (.of (o1.2.2.1 _ _ hp1)),?_⟩
 rw [ea1]
 refine za7_ e0 ?_
 refine h2 σ (un (less G1 h) h) H1 _ ((hL.mono hs1).froz o1.2.1) o1.thaw (zel_ o1 fin fun j2 G2 H2 hr2 x2 v2' hv2=>?_)
 cases hv2
 obtain ⟨o2,hs2,ht2⟩:=o1.back x2
 rw [hr2] at fin
 obtain ⟨n2,en2,fin⟩:=zfl_ fin
 obtain ⟨z2,ez2,fin⟩:=zfl_ fin
 obtain ⟨w2,hw2,ea2⟩:=key en2
 refine ⟨vs,.inl (.of (o2.2.2.1 _ _ hp1)),?_⟩
 rw [ea2]
 refine ha σ (un (less G2 h) h) H2 _ (((hL.mono hs1).mono hs2).froz o2.2.1) o2.thaw (zel_ o2 fin fun c G3 H3 hra x3 us hvs=>?_)
 obtain ⟨o3,hs3,ht3⟩:=o2.back x3
 rw [hra] at fin
 obtain ⟨hne,fin⟩:=zmJ_ fin
 rw [List.append_nil]
 obtain ⟨_,k,hrest,e1',j,⟨_,e2',_,hpr⟩,f⟩:=(((hL.mono hs1).mono hs2).mono hs3).atM i hi
 rw [e0] at e1'
 cases e1'
 cases e2'
 obtain ⟨ka,kb,jk,hO,wand,oth⟩:=zmI_ hp1 hw1 ez j.l hpr
 obtain ⟨w2',kv,ev2,kvs,ov2⟩:=oth n2 z2 (Ne.symm hne) ez2
 rw [hw2] at ev2
 cases ev2
 have kh1:Same ka h:=jk.l.trans j.l
 have sFc:Same (un (less G3 h) (less h ka)) H3:=fun q o z=>by
  unfold un at z
  cases y:less G3 h q with
  | some s=>rw [y] at z; rw [← z]; exact o3.1.2.1 _ _ y
  | none=>rw [y] at z; exact o3.2.2.1 _ _ (zaA_ _ _ z)
 have djc:Dj (un (less G3 h) (less h ka)) ka:=fun q=>by
  by_cases z:ka q=none
  ·exact .inr z
  ·left
   unfold un
   have:less G3 h q=none:=zD_ q fun y=>z (kh1.free y)
   rw [this]; exact zD_ q z
 have dv:Dj (less G3 h) kv:=fun q=>by
  by_cases z:h q=none
  ·exact .inr (kvs.free (jk.r.free (j.l.free z)))
  ·exact .inl (zD_ q z)
 have sv:Same (un (less G3 h) kv) (un (less G3 h) (less h ka)):=fun q o e=>by
  unfold un at e ⊢
  cases y:less G3 h q with
  | some s=>rw [y] at e; exact e
  | none =>
   rw [y] at e
   have a1:=kvs _ _ e
   have a2:ka q=none:=by
    rcases jk.dj q with z | z
    ·exact z
    ·rw [z] at a1; cases a1
   show less h ka q=some o
   rw [zx_ a2]
   exact j.l _ _ (jk.r _ _ a1)
 refine hsp _ _ _ _ ⟨un (less G3 h) (less h ka),ka,(z,y),(z2,c),w1,w2::us,rfl,sFc,djc,kh1.trans o3.2.2.1,(owPair v2 O' O2).mono zak_ hO,⟨w2,us,rfl,O'.fr.mono sv (O'.frz dv ov2),Q.mono zak_ (hvs h (zdy_ o2.2.1) o2.2.2.2.2)⟩,?_⟩
 have fin:FinM K ((g (z,y) (z2,c)).noex.bind fun q=>.ok (q.1,(W.set n1 q.2.1,q.2.2))) E F0 H0 _:=fin
 cases e:g (z,y) (z2,c) with
 | no=>rw [e] at fin; exact fin
 | ex cc=>rw [e] at fin; exact fin.elim
 | ok q =>
  rw [e] at fin
  rintro F' h' H' okc v ⟨hr,hs',j',hRes,hO2⟩
  obtain ⟨ff,tp,d1,d2,d3,okk⟩:=zga_ o3 j jk okc j'
  have hold:=f (less F' (less h ka)) (.ow (owAt (.ref p) (owPair v2 (owLO O') O2)) (W.set n1 q.2.1,q.2.2)) (some (.ref p)) (un hs' kb) _ ff (zaM_ d2) ⟨_,rfl,rfl,wand q.2 hs' _ _ ff (zdF_ hI hI2 tp hO2) (zaM_ d1)⟩
  rw [zZ_ e0] at hold
  exact fin _ _ H' okk v _ hr (zaM_ d3) hold (hR tp hRes)
theorem zfu_ {O:Own α}{T:Ty ρ}{Q:Cs γ}{te:TE}{ta:TA}{r0:Mo α}{ra:Mo γ}{g:α→γ→Mo (ρ×α)}(h0:EvO K te E L r0 O) (ha:EvA K ta E L ra Q) :
  EvF K (tCall (CtM K O O Q g (owF T)) [] E0 (tCons te ta)) E L (r0.bind fun x=>ra.bind fun c=>(g x c).noex.bind fun q=>.ok q.1) T:=by
 intro σ F H R hL hs q
 show te σ H fun v H1=>ta σ H1 fun vs H2=>CtM K O O Q g (owF T) (v::vs++[]) H2 R E0
 have aft0:∀ {kk:α→Hp→Hp→Prop},(∀ x F1 H1,r0=.ok x→Ext F H F1 H1→kk x F1 H1)→After K r0 E F H kk:=fun {kk} hk=>by
  cases e:r0 with
  | ok x=>exact fun F1 H1 x1=>hk x F1 H1 e x1
  | no=>rw [e] at q; exact q
  | ex c=>rw [e] at q; exact q
 refine h0 σ F H _ hL hs (aft0 fun x F1 H1 hr0 x1 v k fresh dk sk hO=>?_)
 rw [hr0] at q
 have q:After K (ra.bind fun c=>(g x c).noex.bind fun q=>.ok q.1) E F H fun a F' H'=>∀ v,T.R a v F'→R v H':=q
 have aft1:∀ {kk:γ→Hp→Hp→Prop},(∀ c F2 H2,ra=.ok c→Ext F1 H1 F2 H2→kk c F2 H2)→After K ra E F1 H1 kk:=fun {kk} hk=>by
  cases e:ra with
  | ok c=>exact fun F2 H2 x2=>hk c F2 H2 e x2
  | no=>rw [e] at q; exact q
  | ex c=>rw [e] at q; exact fun F2 H2 x2=>(q _ _ (x1.trans x2)).up x1.2.2.1
 refine ha σ F1 H1 _ (hL.mono x1.1) x1.2.1 (aft1 fun c F2 H2 hra x2 vs hvs=>?_)
 rw [hra] at q
 have q:After K ((g x c).noex.bind fun q=>.ok q.1) E F H fun a F' H'=>∀ v,T.R a v F'→R v H':=q
 rw [List.append_nil]
 have xx:=x1.trans x2
 have d2:Dj F2 k:=fun p=>by
  by_cases z:k p=none
  ·exact .inr z
  ·left
   cases y:F2 p with
   | none=>rfl
   | some o =>
    have hF1:F1 p=none:=(dk p).resolve_right z
    have:=x2.2.2.2 p hF1 (by rw [y]; exact Option.some_ne_none _)
    cases w:k p with
    | none=>exact absurd w z
    | some o'=>rw [sk _ _ w] at this; cases this
 have sH:Same H (less H2 k):=fun p o e=>by
  have:k p=none:=by
   by_cases z:k p=none
   ·exact z
   ·rw [fresh p z] at e; cases e
  rw [zx_ this]
  exact xx.2.2.1 _ _ e
 refine ⟨F2,k,x,c,v,vs,rfl,x2.2.1,d2,sk.trans x2.2.2.1,O.mono x2.1 hO,hvs,?_⟩
 cases e:g x c with
 | no=>rw [e] at q; exact q
 | ex cc=>rw [e] at q; exact q.elim
 | ok q0 =>
  rw [e] at q
  rintro F' h' H' okc v' ⟨hr,hs',j',⟨_,hT⟩,_⟩
  refine q F' H' ⟨xx.1.trans okc.1.1,okc.1.2.1,sH.trans okc.1.2.2.1,fun p a b=>?_⟩ v' hT
  cases y:F2 p with
  | some o=>exact xx.2.2.2 p a (by rw [y]; exact Option.some_ne_none _)
  | none=>exact sH.free (okc.1.2.2.2 p y b)
theorem ze1_ {t:TS}{O1:Own α}{O2:Own β}{O:Own ρ}{LS:S→List Sl}{LB:B→List Sl}{r:Mo (Out ρ B S)}{v2:V}{z:α×β}(hi:L[i]?=some (.ow (owPair v2 O1 O2) z)) (hj:L[j]?=some (.fz (tyIs v2) ())) (ij:i≠j) (hk:EvS K t E ((L.set i (.ow O1 z.1)).set j (.ow O2 z.2)) r LS LB O):EvS K t E L r LS LB O:=by
 refine zme_ hi hj ij fun F0 H0 σ F h H D hL ok fin=>?_
 have q:=zaD_ (O1:=owAt v2 O2) (O2:=O2) (x2:=z.2) hL (by rw [List.getElem?_set_self]; rw [List.length_set]; exact (List.getElem?_eq_some_iff.mp hj).1) (fun _ _ _ _ q=>q.2)
 rw [List.set_set] at q
 exact hk F0 H0 σ F h H D q ok fin
theorem zfb_ {t:TS}{O1:Own α}{O2:Own β}{O:Own ρ}{LS:S→List Sl}{LB:B→List Sl}{r:Mo (Out ρ B S)}{v2 w:V}{z:α×β}(hi:L[i]?=some (.ow (owAt w (owPair v2 O1 O2)) z)) (hj:L[j]?=some (.fz (tyIs v2) ())) (ij:i≠j) (hk:EvS K t E ((L.set i (.ow (owAt w O1) z.1)).set j (.ow (owAt v2 O2) z.2)) r LS LB O):EvS K t E L r LS LB O:=by
 intro F0 H0 σ F h H D hL ok fin
 have q:=zaD_ (O1:=owAt w (owPair v2 O1 O2)) (O2:=owPair v2 (owAt w O1) O2) (x2:=z) hL hi (fun v k _ _ ⟨e,h1,h2,jn,q1,q2⟩=>⟨h1,h2,jn,⟨e,q1⟩,q2⟩)
 obtain ⟨h',sm,H1⟩:=zeJ_ (i:=i) (j:=j) q (by rw [List.getElem?_set_self (List.getElem?_eq_some_iff.mp hi).1]) (by rw [List.getElem?_set_ne ij]; exact hj) ij
 rw [List.set_set] at H1
 exact hk F0 H0 σ F h' H D H1 (zbA_ ok sm) fin
theorem zjD_ {t:TS}{O1:Own α}{O2:Own β}{O:Own ρ}{LS:S→List Sl}{LB:B→List Sl}{r:Mo (Out ρ B S)}{v2 w:V}{a:α}{b:β}(hi:L[i]?=some (.ow (owAt w O1) a)) (hj:L[j]?=some (.ow (owAt v2 O2) b)) (ij:i≠j) (hk:EvS K t E ((L.set j (.fz (tyIs v2) ())).set i (.ow (owAt w (owPair v2 O1 O2)) (a,b))) r LS LB O):EvS K t E L r LS LB O:=by
 refine zlJ_ hi hj ij fun F0 H0 σ F h H D hL ok fin=>?_
 have q:=zaD_ (O1:=owPair v2 (owAt w O1) O2) (O2:=owAt w (owPair v2 O1 O2)) (x2:=(a,b)) hL (by rw [List.getElem?_set_self]; rw [List.length_set]; exact (List.getElem?_eq_some_iff.mp hi).1) (fun v k _ _ ⟨h1,h2,jn,⟨e,q1⟩,q2⟩=>⟨e,h1,h2,jn,q1,q2⟩)
 rw [List.set_set] at q
 exact hk F0 H0 σ F h H D q ok fin
end
section
variable {α:Type}{K:Fgg}{E:XK}{L:List Sl}{T:Ty α}{F h H F0 H0:Hp}{ρ B S:Type}{LS:S→List Sl}{LB:B→List Sl}{O:Own ρ}
theorem zj7_ {i:Nat}{σ:St}{xs:List α}{w:V}(hL:Hold L σ F h) (hi:L[i]?=some (.ow (owAt w (owL T)) xs)):∃ p,w=.ref p∧Hold (L.set i (.ow (owLp p T) xs)) σ F h:=by
 obtain ⟨o,h1,h2,e1,j,⟨v,e2,e3,p,vs,rfl,z,hr⟩,f⟩:=hL.at i hi
 subst e2
 have g:=f (.ow (owLp p T) xs) (some (.ref p)) h1 _ j ⟨_,rfl,rfl,vs,z,hr⟩
 rw [zZ_ e1] at g
 exact ⟨p,e3.symm,g⟩
theorem ziq_ {p:Addr}{i:Nat}{σ:St}{xs:List α}{w:V}(hi:L[i]?=some (.ow (owAt w (owL T)) xs)) (ew:w=.ref p) (hL:Hold L σ F h) (ok:Okk F0 H0 F h H):σ[i]?=some (some (.ref p))∧∃ vs,H p=some (.lst vs)∧Prs T F xs vs:=by
 obtain ⟨o,h1,h2,e1,j,⟨v,e2,e3,p',vs,e4,z,hr⟩,f⟩:=hL.at i hi
 rw [e3,ew] at e4
 cases e4
 rw [e2,e3,ew] at e1
 exact ⟨e1,vs,ok.2.2.1 _ _ (j.l _ _ (by rw [z]; exact zz_)),hr⟩
theorem znH_ {i0:Nat}{xs:List α}{g:TG}{tb:TS}{s0:S}{ss:α→List (Nat×Sl)}{step:S→α→Mo (Out ρ S S)}{w:V}(h0:∀ s,(LS s)[i0]?=some (.ow (owAt w (owL T)) xs))
  (hg:TgR K g T ss) (hb:∀ s a,EvS K tb E (setL (LS s) (ss a)) (step s a) LS LS O):EvS K (tFor (iAny K (mVar i0)) g tb) E (LS s0) (forO step xs s0) LS LB O:=by
 intro F0 H0 σ F h H D hL ok fin
 obtain ⟨p,ew,_⟩:=zj7_ hL (h0 s0)
 have hLp:=hL
 have look:∀ {s σ F h H F1},Hold (LS s) σ F h→Okk F1 H0 F h H→σ[i0]?=some (some (.ref p))∧∃ vs,H p=some (.lst vs)∧Prs T F xs vs:=fun {s σ F h H F1} a b=>ziq_ (h0 s) ew a b
 obtain ⟨e1,vs,e2,e3⟩:=look hLp ok
 unfold tFor iAny
 refine za7_ e1 ?_
 refine Or.inl ⟨⟨vs,.of e2⟩,?_⟩
 refine ⟨fun i m σ H=>m=xs.length-i∧i≤xs.length∧∃ s F h,Hold (LS s) σ F h∧Okk F0 H0 F h H∧Fin K (forO (B:=B) step (xs.drop i) s) E LS LB O F0 H0 D,⟨_,rfl,Nat.zero_le _,s0,F,h,hLp,ok,fin⟩,?_⟩
 rintro i m σ H ⟨rfl,hi,s,F,h,hL,ok,fin⟩
 obtain ⟨_,us,u1,u2⟩:=look hL ok
 by_cases hlt:i<xs.length
 ·right
  have hlu:=Paired.length u2
  obtain ⟨x,ex,rx⟩:=zhW_ u2 i us[i] (List.getElem?_eq_getElem (by lia))
  rw [List.getElem?_eq_getElem hlt] at ex
  injection ex with ex
  refine ⟨⟨us,us[i],.of u1,List.getElem?_eq_getElem (by lia)⟩,fun σ' H'=>i+1≤xs.length∧∃ s F h,Hold (LS s) σ' F h∧Okk F0 H0 F h H'∧Fin K (forO (B:=B) step (xs.drop (i+1)) s) E LS LB O F0 H0 D,fun σ' H' z=>⟨xs.length-(i+1),by lia,rfl,z⟩,fun v H2 hy=>?_⟩
  obtain ⟨rfl,z⟩:=hy
  have ev:=z us (.of u1)
  rw [List.getElem?_eq_getElem (by lia)] at ev
  injection ev with ev
  subst ev
  refine hg xs[i] _ σ F H2 _ ok.1.2.1 (by rw [ex]; exact rx) fun vs hpl=>?_
  refine hb s xs[i] F0 H0 _ F h H2 _ (zdP_ hpl hL) ok ?_
  rw [List.drop_eq_getElem_cons hlt] at fin
  unfold forO at fin
  cases e:step s xs[i] with
  | no=>rw [e] at fin; exact fin
  | ex c=>rw [e] at fin; exact fin
  | ok o =>
   rw [e] at fin
   cases o with
   | nx s'=>exact fun σ' F' h' H' hL' ok'=>⟨hlt,s',F',h',hL',ok',fin⟩
   | ct s'=>exact fun σ' F' h' H' hL' ok'=>⟨hlt,s',F',h',hL',ok',fin⟩
   | bk s'=>exact fun σ' F' h' H' hL' ok'=>fin σ' F' h' H' hL' ok'
   | rt a=>exact fin
 ·left
  have e:i=xs.length:=by lia
  subst e
  rw [List.drop_length] at fin
  exact ⟨⟨us,.of u1,by rw [Paired.length u2]; exact Nat.le_refl _⟩,fin σ F h H hL ok⟩
end
end L2
namespace K35
open PySem PySem.Spec PyProof.Rows L2
open Mo renaming bind→Mb,ok→Mq
open Sl renaming fz→Zf,dead→Zd,ow→Zo
theorem S4 {a b c d:Sl}{L L':List Sl}(h:Sub L L'):Sub (a::b::c::d::L) (a::b::c::d::L'):=.same (.same (.same (.same h)))
abbrev Qn0:List Str:=["breaks", "sums", "board", "levels", "before", "run_over"]
abbrev Qn1:List Str:=["figures", "power", "kept", "over"]
abbrev Qq0 (K:Fgg):=(owI (gA K "Counter") Qn0 (psO (owL (tyTup (csCons tyInt (csLast tyInt)))) (psO (owL (tyTup (csCons tyInt (csLast tyInt)))) (psO (owL (tyTup (csCons tyInt (csLast tyInt)))) (psO (owLO (owLO (owI (gA K "Wheel") Qn1 (psO (owF tyInt) (psO (owF tyInt) (psO (owF tyInt) (psO (owF tyBl) psNil))))))) (psO (owF (tyOpt tyStr)) (psO (owD kInt tyBl) psNil)))))))
abbrev Qq1:=((List (Int×Int))×((List (Int×Int))×((List (Int×Int))×((List (List (Int×(Int×(Int×(Bool×Unit))))))×((Option (List Nat))×((List (Int×Bool))×Unit))))))
abbrev Qq2:=(tyTup (csCons tyInt (csLast tyInt)))
abbrev Qq3 (K:Fgg):=(owI (gA K "Wheel") Qn1 (psO (owF tyInt) (psO (owF tyInt) (psO (owF tyInt) (psO (owF tyBl) psNil)))))
abbrev Qq4 (K:Fgg):=(tyI (gA K "Counter") Qn0 (csCons (tyL Qq2) (csCons (tyL Qq2) (csCons (tyL Qq2) (csCons (tyL (tyL (tyI (gA K "Wheel") Qn1 (csCons tyInt (csCons tyInt (csCons tyInt (csCons tyBl csNil))))))) (csCons (tyOpt tyStr) (csCons (tyD kInt tyBl) csNil)))))))
abbrev Qq5 (K:Fgg):=(psO (owL Qq2) (psO (owL Qq2) (psO (owL Qq2) (psO (owLO (owLO (Qq3 K))) (psO (owF (tyOpt tyStr)) (psO (owD kInt tyBl) psNil))))))
abbrev Qq6:=(Int×(Int×(Int×(Bool×Unit))))
abbrev Qq7 (K:Fgg):=(tyI (gA K "Wheel") Qn1 (csCons tyInt (csCons tyInt (csCons tyInt (csCons tyBl csNil)))))
abbrev Qq8:=((List (List Int))×((List (List Int))×(List (Int×Bool))))
def zf3_ (p_power:Int):Mo (Out Int Unit Unit) :=
 (Mb (Mq (1:Int)) fun v1''=>(thenO (S:=Int) (Mb (Mb (Mq p_power) fun c_3=>Mo.grd (-(2 ^ 62)≤c_3∧c_3<2 ^ 62) (Mq (rngI 0 c_3.toNat))) fun z8=>forO (fun (s_2:Int) x_4=>(Mb (Mb (Mq s_2) fun v6=>Mb (Mq (10:Int)) fun y7=>Mo.grd (IntMulOk v6 y7) (Mq (v6*y7))) fun u5'=>(Mq (.nx u5')))) z8 v1'') fun s_2=>(Mb (Mq s_2) fun r9=>Mq (.rt r9))))
def zfk_ (p_power:Int):Mo Int:=fnO (zf3_ p_power)
def zaV_ (p_self:Unit) (p_figures:Int):Mo (Out (Unit×Qq6) Unit Qq6) :=
 (Mb (Mq p_figures) fun a_1=>Mb (Mq (a_1,())) fun x_2=>(Mb (Mb (Mq p_figures) fun c9=>Mo.noex (zfk_ c9)) fun v3=>Mb (Mq (x_2.1,(v3,()))) fun x_4=>(Mb (Mq (0:Int)) fun v5=>Mb (Mq (x_4.1,(x_4.2.1,(v5,())))) fun z6=>(Mb (Mq false) fun v7=>Mb (Mq (z6.1,(z6.2.1,(z6.2.2.1,(v7,()))))) fun x8=>(Mq (.nx x8))))))
def zB_ (p_self:Unit) (p_figures:Int):Mo (Unit×Qq6):=fnMU (zaV_ p_self p_figures)
def zaC_ (p_self:Unit) (p_breaks:(List (Int×Int))) (p_sums:(List (Int×Int))) (p_figures:Int) (p_board:(List (Int×Int))):Mo (Out (Unit×Qq1) Unit Qq1) :=
 (Mb (Mb (Mq p_breaks) fun c25=>Mq c25) fun a_1=>Mb (Mq (a_1,())) fun x_2=>(Mb (Mb (Mq p_sums) fun c24=>Mq c24) fun v3=>Mb (Mq (x_2.1,(v3,()))) fun x_4=>(Mb (Mb (Mq p_board) fun c23=>Mq c23) fun v5=>Mb (Mq (x_4.1,(x_4.2.1,(v5,())))) fun z6=>(Mb (Mb (Mb (Mb (Mb (Mq p_breaks) fun c13=>Mq (c13.length:Int)) fun a14=>Mb (Mq (1:Int)) fun b15=>Mq (a14+b15)) fun c16=>Mo.grd (-(2 ^ 62)≤c16∧c16<2 ^ 62) (Mq (rngI 0 c16.toNat))) fun x22=>compM (fun x17=>cond1 (Mq true) (Mb (Mq p_sums) fun x21=>compM (fun x18=>cond1 (Mq true) (Mb (Mq p_figures) fun c19=>Mb (Mo.noex (zB_ () c19)) fun v20=>Mq v20.2)) x21 [])) x22 []) fun v7=>Mb (Mq (z6.1,(z6.2.1,(z6.2.2.1,(v7,()))))) fun x8=>(Mb (Mq (none:(Option (List Nat)))) fun w9=>Mb (Mq (x8.1,(x8.2.1,(x8.2.2.1,(x8.2.2.2.1,(w9,())))))) fun x10=>(Mb (Mq ([]:(List (Int×Bool)))) fun a11=>Mb (Mq (x10.1,(x10.2.1,(x10.2.2.1,(x10.2.2.2.1,(x10.2.2.2.2.1,(a11,()))))))) fun x12=>(Mq (.nx x12))))))))
def z8_ (p_self:Unit) (p_breaks:(List (Int×Int))) (p_sums:(List (Int×Int))) (p_figures:Int) (p_board:(List (Int×Int))):Mo (Unit×Qq1):=fnMU (zaC_ p_self p_breaks p_sums p_figures p_board)
def zbT_ (p_self:Qq6):Mo (Out (List Nat) Unit Unit) :=
 (Mb (Mb (Mb (Mb (Mq p_self) fun a_1=>Mq a_1.2.2.1) fun c_2=>Mo.grd (c_2.natAbs.log2<1920) (Mq (strI c_2))) fun w4=>Mb (Mb (Mq p_self) fun v3=>Mq v3.1) fun w5=>Mo.grd (PadOk w5=true) (Mq (zfL w4 w5))) fun r6=>Mq (.rt r6))
def zS_ (p_self:Qq6):Mo (List Nat):=fnO (zbT_ p_self)
def zfm_ (p_card:(List Nat)) (p_field:(Int×Int)):Mo (Out (List Nat) Unit Unit) :=
 (Mb (Mb (Mq p_card) fun v7=>Mb (Mb (Mb (Mb (Mq p_field) fun a_1=>Mq a_1.1) fun a_2=>Mb (Mq (1:Int)) fun b_3=>Mq (a_2-b_3)) fun i4=>Mq (some i4)) fun w8=>Mb (Mb (Mb (Mq p_field) fun v5=>Mq v5.2) fun i6=>Mq (some i6)) fun d9=>Mo.lim v7.length (Mq (cutG v7 w8 d9))) fun r10=>Mq (.rt r10))
def za5_ (p_card:(List Nat)) (p_field:(Int×Int)):Mo (List Nat):=fnO (zfm_ p_card p_field)
def zao_ (p_self:Qq1) (p_level:Int):Mo (Out (List Nat) Unit Unit) :=
 (Mb (Mb (Mb (Mq ([42]:List Nat)) fun v8=>Mb (Mb (Mb (Mq (1:Int)) fun w4=>Mb (Mb (Mb (Mq p_self) fun a_2=>Mq a_2.1) fun c_3=>Mq (c_3.length:Int)) fun w5=>Mq (w4+w5)) fun v6=>Mb (Mq p_level) fun y7=>Mq (v6-y7)) fun y9=>Mo.grd (CRep v8.length y9) (Mq (repL v8 y9))) fun c10=>Mq [c10]) fun w1''=>(Mb (Mb (Mb (Mb (Mq p_self) fun a11=>Mq a11.1) fun a13=>Mb (Mq none) fun b14=>Mb (Mb (Mq p_level) fun i12=>Mq (some i12)) fun d15=>Mq (cutG a13 b14 d15)) fun x22=>compM (fun x16=>cond1 (Mq true) (Mb (Mb (Mb (Mb (Mq p_self) fun a17=>Mq a17.2.2.2.2.1) fun a18=>Mo.opt a18) fun a19=>Mb (Mq x16) fun c20=>Mq (a19,c20)) fun c21=>Mo.noex (za5_ c21.1 c21.2))) x22 []) fun a23=>Mo.lim (w1''.length+a23.length) (Mb (Mb (Mb (Mb (Mq p_self) fun a24=>Mq a24.2.2.2.1) fun a25=>Mb (Mq p_level) fun b26=>Mo.opt (atI a25 b26)) fun x29=>compM (fun x27=>cond1 (Mq true) (Mb (Mq x27) fun o28=>Mo.noex (zS_ o28))) x29 []) fun a30=>Mo.lim ((w1''++a23).length+a30.length) (Mb (Mb (Mq ([32]:List Nat)) fun a31=>Mb (Mq ((w1''++a23)++a30)) fun b32=>Mo.grd (JoinOk ⟨a31.toArray⟩ (strsL b32)=true) (Mq (joinS a31 (strsL b32)))) fun r33=>Mq (.rt r33)))))
def zJ_ (p_self:Qq1) (p_level:Int):Mo (List Nat):=fnO (zao_ p_self p_level)
def zct_ (p_self:Qq6) (p_value:Int):Mo (Out (Unit×Qq6) Unit Qq6) :=
 (Mb (Mb (Mb (Mq p_self) fun a_2=>Mq a_2.2.2.1) fun v3=>Mb (Mq p_value) fun b_4=>Mq (v3+b_4)) fun r1'=>(thenO (S:=Qq6) (Mb (Mb (Mq r1') fun v6=>Mb (Mb (Mq p_self) fun v5=>Mq v5.2.1) fun y7=>Mq (decide (y7≤v6))) fun c8=>if c8 then (Mb (Mq true) fun a10=>Mb (Mq (p_self,fun (z:Qq6)=>z)) fun y12=>Mb (Mq (y12.2 (y12.1.1,(y12.1.2.1,(y12.1.2.2.1,(a10,y12.1.2.2.2.2)))))) fun x11=>(Mq (.nx x11))) else (Mq (.nx p_self))) fun z9=>(Mb (Mb (Mq r1') fun a17=>Mb (Mb (Mq z9) fun a16=>Mq a16.2.1) fun b18=>Mo.grd (0<b18) (Mq (a17 % b18))) fun a13=>Mb (Mq (z9,fun (z:Qq6)=>z)) fun y15=>Mb (Mq (y15.2 (y15.1.1,(y15.1.2.1,(a13,y15.1.2.2.2))))) fun v14=>(Mq (.nx v14)))))
def zbs_ (p_self:Qq6) (p_value:Int):Mo (Unit×Qq6):=fnMU (zct_ p_self p_value)
def zbJ_ (p_self:Qq6):Mo (Out Bool Unit Unit) :=
 (Mb (Mb (Mq p_self) fun a_1=>Mq a_1.2.2.2.1) fun r_2=>Mq (.rt r_2))
def zaS_ (p_self:Qq6):Mo Bool:=fnO (zbJ_ p_self)
def zae_ (p_self:Qq1) (p_level:Int) (p_numbers:(List Int)):Mo (Out (Unit×Qq1) Unit Qq1) :=
 (thenO (S:=Qq1) (Mb (Mb (Mq p_numbers) fun c_2=>Mq (enumL c_2)) fun v27=>forO (fun (s_1:Qq1) x_3=>(Mb (Mb (Mb (Mb (Mq (s_1,fun (z:Qq1)=>z)) fun y_4=>Mq (y_4.1.2.2.2.1,fun (z':(List (List Qq6)))=>y_4.2 (y_4.1.1,(y_4.1.2.1,(y_4.1.2.2.1,(z',y_4.1.2.2.2.2)))))) fun y_5=>Mb (Mq p_level) fun j6=>Mb (Mo.opt (ixN y_5.1.length j6)) fun z7=>Mb (Mo.opt (y_5.1[z7]?)) fun t8=>Mq (t8,fun (z':(List Qq6))=>y_5.2 (y_5.1.set z7 z'))) fun t9=>Mb (Mq x_3.1) fun j10=>Mb (Mo.opt (ixN t9.1.length j10)) fun n11=>Mb (Mo.opt (t9.1[n11]?)) fun z12=>Mq (z12,fun (z':Qq6)=>t9.2 (t9.1.set n11 z'))) fun y13=>(Mb (Mq (y13.1,fun (z:Qq6)=>z)) fun y15=>Mb (Mq x_3.2) fun c16=>Mb (Mo.noex (zbs_ y15.1 c16)) fun q17=>Mb (Mq (y15.2 q17.2)) fun x18=>(thenO (S:=Qq1) (Mb (Mb (Mq x18) fun o19=>Mo.noex (zaS_ o19)) fun c20=>if c20 then (Mb (Mq true) fun a23=>Mb (Mb (Mq ((y13.2 x18),fun (z:Qq1)=>z)) fun y22=>Mq (y22.1.2.2.2.2.2.1,fun (z':(List (Int×Bool)))=>y22.2 (y22.1.1,(y22.1.2.1,(y22.1.2.2.1,(y22.1.2.2.2.1,(y22.1.2.2.2.2.1,(z',y22.1.2.2.2.2.2.2)))))))) fun y24=>Mb (Mq x_3.1) fun z25=>Mo.lim (y24.1.length+1) (Mb (Mq (y24.2 (putA y24.1 z25 a23))) fun x26=>(Mq (.nx x26)))) else (Mq (.nx (y13.2 x18)))) fun s21=>(Mq (.nx s21)))))) v27 p_self) fun s_1=>(Mq (.nx s_1)))
def zG_ (p_self:Qq1) (p_level:Int) (p_numbers:(List Int)):Mo (Unit×Qq1):=fnMU (zae_ p_self p_level p_numbers)
def zdq_ (p_self:Qq6):Mo (Out (Unit×Qq6) Unit Qq6) :=
 (Mb (Mq (0:Int)) fun a_1=>Mb (Mq (p_self,fun (z:Qq6)=>z)) fun y_3=>Mb (Mq (y_3.2 (y_3.1.1,(y_3.1.2.1,(a_1,y_3.1.2.2.2))))) fun x_2=>(Mb (Mq false) fun w4=>Mb (Mq (x_2,fun (z:Qq6)=>z)) fun y_6=>Mb (Mq (y_6.2 (y_6.1.1,(y_6.1.2.1,(y_6.1.2.2.1,(w4,y_6.1.2.2.2.2)))))) fun x_5=>(Mq (.nx x_5))))
def zU_ (p_self:Qq6):Mo (Unit×Qq6):=fnMU (zdq_ p_self)
def zcS_ (p_self:Qq6):Mo (Out Int Unit Unit) :=
 (Mb (Mb (Mq p_self) fun a_1=>Mq a_1.2.2.1) fun r_2=>Mq (.rt r_2))
def zaL_ (p_self:Qq6):Mo Int:=fnO (zcS_ p_self)
def zH_ (p_self:Qq1) (p_level:Int):Mo (Out ((List Nat)×Qq1) Unit Unit) :=
 (Mb (Mb (Mq p_self) fun o_2=>Mb (Mq p_level) fun c_3=>Mo.noex (zJ_ o_2 c_3)) fun z1'=>(thenO (S:=Qq1) (Mb (Mb (Mq p_level) fun w4=>Mb (Mq (0:Int)) fun w5=>Mq (decide (w5<w4))) fun c6=>if c6 then (Mb (Mb (Mq (p_self,fun (z:Qq1)=>z)) fun y18=>Mb (Mb (Mb (Mq p_level) fun v8=>Mb (Mq (1:Int)) fun y9=>Mq (v8-y9)) fun a16=>Mb (Mb (Mb (Mb (Mq p_self) fun a10=>Mq a10.2.2.2.1) fun a11=>Mb (Mq p_level) fun b12=>Mo.opt (atI a11 b12)) fun w15=>compM (fun v13=>cond1 (Mq true) (Mb (Mq v13) fun o14=>Mo.noex (zaL_ o14))) w15 []) fun c17=>Mq (a16,c17)) fun c19=>Mb (Mo.noex (zG_ y18.1 c19.1 c19.2)) fun v20=>Mq (v20.1,y18.2 v20.2)) fun q21=>(Mq (.nx q21.2))) else (Mq (.nx p_self))) fun t7=>(thenO (S:=Qq1) (Mb (Mb (Mb (Mq (t7,fun (z:Qq1)=>z)) fun y22=>Mq (y22.1.2.2.2.1,fun (z':(List (List Qq6)))=>y22.2 (y22.1.1,(y22.1.2.1,(y22.1.2.2.1,(z',y22.1.2.2.2.2)))))) fun y23=>Mb (Mq p_level) fun j24=>Mb (Mo.opt (ixN y23.1.length j24)) fun n25=>Mb (Mo.opt (y23.1[n25]?)) fun z26=>Mq (z26,fun (z':(List Qq6))=>y23.2 (y23.1.set n25 z'))) fun y27=>Mb (mapX (fun z28=>Mb (Mo.noex (zU_ z28)) fun q29=>Mq q29.2) y27.1) fun x30=>Mq (.nx (y27.2 x30))) fun s31=>(Mb (Mq z1') fun r32=>Mq (.rt (r32,s31))))))
def zp_ (p_self:Qq1) (p_level:Int):Mo ((List Nat)×Qq1):=fnMR (zH_ p_self p_level)
def zM_ (p_self:Qq1) (p_outermost:Int):Mo (Out ((List (List Nat))×Qq1) Unit Unit) :=
 (Mb (Mq ([]:List (List Nat))) fun x1'=>(thenO (S:=((List (List Nat))×Qq1)) (Mb (Mb (Mb (Mb (Mb (Mq p_self) fun v3=>Mq v3.1) fun c_4=>Mq (c_4.length:Int)) fun a10=>Mb (Mb (Mb (Mq p_outermost) fun v5=>Mb (Mq (1:Int)) fun w6=>Mq (v5-w6)) fun v8=>Mb (Mb (Mq (1:Int)) fun v7=>Mq (-v7)) fun c9=>Mq (v8,c9)) fun c11=>Mq (a10,c11)) fun c12=>Mo.grd (c12.2.2 = -1 ∧ -(2 ^ 61)≤c12.1∧c12.1<2 ^ 61 ∧ -(2 ^ 61)≤c12.2.1∧c12.2.1<2 ^ 61) (Mq (rngD c12.1 (c12.1-c12.2.1).toNat))) fun v18=>forO (fun (s_2:((List (List Nat))×Qq1)) v13=>(Mb (Mb (Mq (s_2.2,fun (z:Qq1)=>z)) fun y14=>Mb (Mq v13) fun c15=>Mb (Mo.noex (zp_ y14.1 c15)) fun q16=>Mq (q16.1,y14.2 q16.2)) fun q17=>Mo.lim (s_2.1.length+1) (Mq (.nx ((s_2.1++[q17.1]),q17.2))))) v18 (x1',p_self)) fun s_2=>(Mq (.rt (s_2.1,s_2.2)))))
def zi_ (p_self:Qq1) (p_outermost:Int):Mo ((List (List Nat))×Qq1):=fnMR (zM_ p_self p_outermost)
def zax_ (p_self:Qq1):Mo (Out ((List (List Nat))×Qq1) Unit Unit) :=
 (thenO (S:=Unit) (Mb (Mb (Mb (Mq p_self) fun a_1=>Mq a_1.2.2.2.2.1) fun a_2=>Mb (Mq ()) fun b_3=>Mq a_2.isNone) fun c_4=>if c_4 then (Mb (Mb (Mq (p_self,fun (z:Qq1)=>z)) fun y_6=>Mb (Mq (0:Int)) fun c7=>Mb (Mo.noex (zp_ y_6.1 c7)) fun q8=>Mq (q8.1,y_6.2 q8.2)) fun q9=>Mq (.rt ([q9.1],q9.2))) else (Mq (.nx ()))) fun _=>(Mb (Mb (Mq (p_self,fun (z:Qq1)=>z)) fun y10=>Mb (Mq (0:Int)) fun c11=>Mb (Mo.noex (zi_ y10.1 c11)) fun q12=>Mq (q12.1,y10.2 q12.2)) fun q13=>Mq (.rt q13)))
def zQ_ (p_self:Qq1):Mo ((List (List Nat))×Qq1):=fnMR (zax_ p_self)
def zcx_ (p_cell:Int) (p_many:Int):Mo (Out (List Int) Unit Unit) :=
 (Mb (Mq ([]:List Int)) fun w1'=>(Mb (Mb (Mb (Mq p_cell) fun v3=>Mb (Mq (2147483647:Int)) fun b_4=>Mo.grd (0<b_4) (Mq (v3 % b_4))) fun v5=>Mb (Mq (48271:Int)) fun w6=>Mq (v5+w6)) fun u2'=>(thenO (S:=(Int×(List Int))) (Mb (Mb (Mq p_many) fun c8=>Mo.grd (-(2 ^ 62)≤c8∧c8<2 ^ 62) (Mq (rngI 0 c8.toNat))) fun x22=>forO (fun (t7:(Int×(List Int))) x9=>(Mb (Mb (Mb (Mb (Mb (Mq t7.1) fun a11=>Mb (Mq t7.1) fun b12=>Mo.grd (IntMulOk a11 b12) (Mq (a11*b12))) fun a15=>Mb (Mb (Mq (48271:Int)) fun a13=>Mb (Mq t7.1) fun b14=>Mo.grd (IntMulOk a13 b14) (Mq (a13*b14))) fun b16=>Mq (a15+b16)) fun a17=>Mb (Mq x9) fun b18=>Mq (a17+b18)) fun a19=>Mb (Mq (2147483647:Int)) fun b20=>Mo.grd (0<b20) (Mq (a19 % b20))) fun n10=>(Mb (Mq n10) fun a21=>Mo.lim (t7.2.length+1) (Mq (.nx (n10,(t7.2++[a21]))))))) x22 (u2',w1')) fun t7=>(Mq (.rt t7.2)))))
def zam_ (p_cell:Int) (p_many:Int):Mo (List Int):=fnO (zcx_ p_cell p_many)
def zc7_ (p_cell:Int):Mo (Out (List Int) Unit Unit) :=
 (Mb (Mb (Mb (Mb (Mq p_cell) fun a_1=>Mb (Mq (36:Int)) fun c_2=>Mq (a_1,c_2)) fun c_3=>Mo.noex (zam_ c_3.1 c_3.2)) fun u7'=>compM (fun x_4=>cond1 (Mq true) (Mb (Mq x_4) fun v5=>Mb (Mq (11:Int)) fun w6=>Mo.grd (CDivG v5 w6) (Mq (v5 / w6)))) u7' []) fun y8=>Mq (.rt y8))
def zb3_ (p_cell:Int):Mo (List Int):=fnO (zc7_ p_cell)
def zb1_ (p_script:(List Int)) (p_k:Int):Mo (Out Int Unit Unit) :=
 (thenO (S:=Unit) (Mb (Mb (Mq p_k) fun a_2=>Mb (Mb (Mq p_script) fun c_1=>Mq (c_1.length:Int)) fun b_3=>Mq (decide (a_2<b_3))) fun c_4=>if c_4 then (Mb (Mb (Mq p_script) fun v6=>Mb (Mq p_k) fun y7=>Mo.opt (atI v6 y7)) fun y8=>Mq (.rt y8)) else (Mq (.nx ()))) fun _=>(Mb (Mq (0:Int)) fun r9=>Mq (.rt r9)))
def zT_ (p_script:(List Int)) (p_k:Int):Mo Int:=fnO (zb1_ p_script p_k)
def zc0_ (p_many:Int):Mo (Out Int Unit Unit) :=
 (Mb (Mq (1:Int)) fun q1'=>(thenO (S:=Int) (Mb (Mb (Mq p_many) fun c_3=>Mo.grd (-(2 ^ 62)≤c_3∧c_3<2 ^ 62) (Mq (rngI 0 c_3.toNat))) fun z8=>forO (fun (s_2:Int) x_4=>(Mb (Mb (Mq (10:Int)) fun v6=>Mb (Mq s_2) fun y7=>Mo.grd (IntMulOk v6 y7) (Mq (v6*y7))) fun n5=>(Mq (.nx n5)))) z8 q1') fun s_2=>(Mb (Mq s_2) fun r9=>Mq (.rt r9))))
def zb5_ (p_many:Int):Mo Int:=fnO (zc0_ p_many)
def zeY_ (p_card:(List Nat)):Mo (Out (List Nat) Unit Unit) :=
 (Mb (Mb (Mq p_card) fun a_2=>Mb (Mb (Mq (36:Int)) fun i_1=>Mq (some i_1)) fun b_3=>Mb (Mq none) fun d4=>Mo.lim a_2.length (Mq (cutG a_2 b_3 d4))) fun r_5=>Mq (.rt r_5))
def zdE_ (p_card:(List Nat)):Mo (List Nat):=fnO (zeY_ p_card)
def ze8_ (p_card:(List Nat)) (p_column:Int):Mo (Out (List Nat) Unit Unit) :=
 (Mb (Mb (Mq p_card) fun v3=>Mb (Mb (Mq p_column) fun a_1=>Mb (Mq (1:Int)) fun b_2=>Mq (a_1-b_2)) fun b_4=>Mo.lim v3.length (Mo.opt ((atI v3 b_4).map fun c=>[c]))) fun r_5=>Mq (.rt r_5))
def zdD_ (p_card:(List Nat)) (p_column:Int):Mo (List Nat):=fnO (ze8_ p_card p_column)
def zfn_ (p_card:(List Nat)) (p_board:(List (Int×Int))):Mo (Out (List Nat) Unit Unit) :=
 (Mb (Mb (Mb (Mq (36:Int)) fun c_2=>Mo.grd (-(2 ^ 62)≤c_2∧c_2<2 ^ 62) (Mq (rngI 0 c_2.toNat))) fun u4'=>compM (fun x_3=>cond1 (Mq true) (Mq ([32]:List Nat))) u4' []) fun t1'=>(thenO (S:=(List (List Nat))) (Mb (Mq p_board) fun x21=>forO (fun (s_5:(List (List Nat))) z6=>(Mb (Mb (Mb (Mq p_card) fun a12=>Mb (Mb (Mq z6) fun a11=>Mq a11.1) fun c13=>Mq (a12,c13)) fun c14=>Mo.noex (zdD_ c14.1 c14.2)) fun a18=>Mb (Mb (Mb (Mq z6) fun a15=>Mq a15.2) fun a16=>Mb (Mq (1:Int)) fun b17=>Mq (a16-b17)) fun j19=>Mb (Mo.opt ((ixN (s_5).length j19).map fun n=>(s_5).set n a18)) fun s20=>(Mq (.nx s20)))) x21 t1') fun s_5=>(Mb (Mb (Mq ([]:List Nat)) fun a22=>Mb (Mq s_5) fun b23=>Mo.grd (JoinOk ⟨a22.toArray⟩ (strsL b23)=true) (Mq (joinS a22 (strsL b23)))) fun r24=>Mq (.rt r24))))
def zdL_ (p_card:(List Nat)) (p_board:(List (Int×Int))):Mo (List Nat):=fnO (zfn_ p_card p_board)
def zL_ (p_self:Qq1) (p_card:(List Nat)):Mo (Out Int Unit Unit) :=
 (thenO (S:=Unit) (Mb (Mb (Mb (Mq p_self) fun a_2=>Mq a_2.1) fun c_3=>Mq (enumL c_3)) fun v19=>forO (fun (_:Unit) x_4=>(Mb (Mb (Mb (Mb (Mq p_card) fun v5=>Mb (Mq x_4.2) fun c6=>Mq (v5,c6)) fun c7=>Mo.noex (za5_ c7.1 c7.2)) fun a13=>Mb (Mb (Mb (Mb (Mb (Mq p_self) fun v8=>Mq v8.2.2.2.2.1) fun w9=>Mo.opt w9) fun a10=>Mb (Mq x_4.2) fun c11=>Mq (a10,c11)) fun c12=>Mo.noex (za5_ c12.1 c12.2)) fun b14=>Mq (!decide (a13=b14))) fun c15=>if c15 then (Mb (Mb (Mq x_4.1) fun a16=>Mb (Mq (1:Int)) fun b17=>Mq (a16+b17)) fun r18=>Mq (.rt r18)) else (Mq (.nx ())))) v19 ()) fun _=>(Mb (Mb (Mb (Mb (Mq p_self) fun a20=>Mq a20.1) fun c21=>Mq (c21.length:Int)) fun a22=>Mb (Mq (1:Int)) fun b23=>Mq (a22+b23)) fun r24=>Mq (.rt r24)))
def zo_ (p_self:Qq1) (p_card:(List Nat)):Mo Int:=fnO (zL_ p_self p_card)
def zc6_ (p_figures:(List Nat)):Mo (Out Int Unit Unit) :=
 (Mb (Mq (0:Int)) fun v1''=>(thenO (S:=Int) (Mb (Mb (Mq p_figures) fun v3=>Mq (v3.map fun c=>[c])) fun w12=>forO (fun (s_2:Int) x_4=>(Mb (Mb (Mb (Mq s_2) fun v6=>Mb (Mq (10:Int)) fun y7=>Mo.grd (IntMulOk v6 y7) (Mq (v6*y7))) fun a10=>Mb (Mb (Mq ([48,49,50,51,52,53,54,55,56,57]:List Nat)) fun v8=>Mb (Mq x_4) fun y9=>Mo.grd (findS v8 y9 ≠ -1) (Mq (findS v8 y9))) fun v11=>Mq (a10+v11)) fun u5'=>(Mq (.nx u5')))) w12 v1'') fun s_2=>(Mb (Mq s_2) fun r13=>Mq (.rt r13))))
def zb7_ (p_figures:(List Nat)):Mo Int:=fnO (zc6_ p_figures)
def zda_ (p_card:(List Nat)) (p_field:(Int×Int)):Mo (Out Int Unit Unit) :=
 (Mb (Mb (Mb (Mb (Mb (Mq p_card) fun a_2=>Mb (Mq p_field) fun c_3=>Mq (a_2,c_3)) fun c_4=>Mo.noex (za5_ c_4.1 c_4.2)) fun v5=>Mq (v5.map fun c=>[c])) fun w10=>compM (fun z6=>cond1 (Mq true) (Mb (Mb (Mq z6) fun v7=>Mb (Mq ([48,49,50,51,52,53,54,55,56,57]:List Nat)) fun w8=>Mq (inS v7 w8)) fun c9=>if c9 then (Mq z6) else (Mq ([48]:List Nat)))) w10 []) fun u1'=>(Mb (Mb (Mb (Mq ([]:List Nat)) fun a11=>Mb (Mq u1') fun b12=>Mo.grd (JoinOk ⟨a11.toArray⟩ (strsL b12)=true) (Mq (joinS a11 (strsL b12)))) fun c13=>Mo.noex (zb7_ c13)) fun r14=>Mq (.rt r14)))
def zaP_ (p_card:(List Nat)) (p_field:(Int×Int)):Mo Int:=fnO (zda_ p_card p_field)
def zaO_ (p_self:Qq1) (p_card:(List Nat)):Mo (Out ((List (List Nat))×Qq1) Unit Unit) :=
 (Mb (Mq ([]:List (List Nat))) fun x1'=>(thenO (S:=((List (List Nat))×Qq1)) (Mb (Mb (Mb (Mq p_self) fun a_2=>Mq a_2.2.2.2.2.1) fun v3=>Mb (Mq ()) fun b_4=>Mq v3.isSome) fun c5=>if c5 then (Mb (Mb (Mq (p_self,fun (z:Qq1)=>z)) fun t9=>Mb (Mb (Mq p_self) fun o7=>Mb (Mq p_card) fun c8=>Mo.noex (zo_ o7 c8)) fun c10=>Mb (Mo.noex (zi_ t9.1 c10)) fun q11=>Mq (q11.1,t9.2 q11.2)) fun q12=>(Mq (.nx (q12.1,q12.2)))) else (Mq (.nx (x1',p_self)))) fun y6=>(Mb (Mb (Mq p_card) fun c14=>Mo.noex (zdE_ c14)) fun m13=>(Mb (Mb (Mb (Mq p_card) fun a17=>Mb (Mb (Mq y6.2) fun a16=>Mq a16.2.2.1) fun c18=>Mq (a17,c18)) fun c19=>Mo.noex (zdL_ c19.1 c19.2)) fun l15=>(Mb (Mb (Mb (Mq m13) fun a25=>Mo.lim a25.length (Mq a25)) fun a26=>Mo.grd (a26.length≤1000) (Mb (Mb (Mq ([32]:List Nat)) fun a23=>Mo.grd (a23.length≤1000) (Mb (Mb (Mb (Mq l15) fun a20=>Mo.lim a20.length (Mq a20)) fun a21=>Mo.grd (a21.length≤1000) (Mb (Mq ([]:List Nat)) fun l22=>Mq (a21++l22))) fun l24=>Mq (a23++l24))) fun l27=>Mq (a26++l27))) fun a28=>Mo.lim (y6.1.length+1) (Mb (Mb (Mq (y6.2,fun (z:Qq1)=>z)) fun y39=>Mb (Mb (Mb (Mb (Mq y6.2) fun a29=>Mq a29.1) fun c30=>Mq (c30.length:Int)) fun a37=>Mb (Mb (Mb (Mq y6.2) fun a31=>Mq a31.2.1) fun x36=>compM (fun x32=>cond1 (Mq true) (Mb (Mb (Mq p_card) fun a33=>Mb (Mq x32) fun c34=>Mq (a33,c34)) fun c35=>Mo.noex (zaP_ c35.1 c35.2))) x36 []) fun c38=>Mq (a37,c38)) fun c40=>Mb (Mo.noex (zG_ y39.1 c40.1 c40.2)) fun q41=>Mq (q41.1,y39.2 q41.2)) fun q42=>(Mb (Mb (Mq p_card) fun a46=>Mq (some a46)) fun a43=>Mb (Mq (q42.2,fun (z:Qq1)=>z)) fun y45=>Mb (Mq (y45.2 (y45.1.1,(y45.1.2.1,(y45.1.2.2.1,(y45.1.2.2.2.1,(a43,y45.1.2.2.2.2.2))))))) fun x44=>(Mq (.rt ((y6.1++[a28]),x44))))))))))
def z9_ (p_self:Qq1) (p_card:(List Nat)):Mo ((List (List Nat))×Qq1):=fnMR (zaO_ p_self p_card)
def zc5_ (p_number_here:Int) (p_most:Int):Mo (Out (Int×Int) Unit Unit) :=
 (Mb (Mb (Mq (1:Int)) fun v6=>Mb (Mb (Mb (Mq p_number_here) fun a_2=>Mb (Mq (5:Int)) fun b_3=>Mo.grd (CDivG a_2 b_3) (Mq (a_2 / b_3))) fun w4=>Mb (Mq (36:Int)) fun w5=>Mo.grd (0<w5) (Mq (w4 % w5))) fun y7=>Mq (v6+y7)) fun v1'=>(Mb (Mb (Mq v1') fun a17=>Mb (Mb (Mb (Mq (36:Int)) fun a14=>Mb (Mb (Mq v1') fun a12=>Mb (Mb (Mb (Mq p_number_here) fun v8=>Mb (Mq (180:Int)) fun y9=>Mo.grd (CDivG v8 y9) (Mq (v8 / y9))) fun a10=>Mb (Mq p_most) fun v11=>Mo.grd (0<v11) (Mq (a10 % v11))) fun b13=>Mq (a12+b13)) fun c15=>Mq (a14,c15)) fun c16=>Mq (min c16.1 c16.2)) fun c18=>Mq (a17,c18)) fun r19=>Mq (.rt r19)))
def zab_ (p_number_here:Int) (p_most:Int):Mo (Int×Int):=fnO (zc5_ p_number_here p_most)
def zd3_ (p_cell:Int) (p_k:Int) (p_kinds_here:(List Int)):Mo (Out (List Nat) Unit Unit) :=
 (Mb (Mq (SG:List Nat)) fun t1'=>(Mb (Mb (Mb (Mq p_cell) fun v3=>Mb (Mq (36:Int)) fun c_4=>Mq (v3,c_4)) fun c5=>Mo.noex (zam_ c5.1 c5.2)) fun y2'=>(Mb (Mq ([]:List Nat)) fun t6=>(thenO (S:=(List Nat)) (Mb (Mb (Mq (36:Int)) fun c8=>Mo.grd (-(2 ^ 62)≤c8∧c8<2 ^ 62) (Mq (rngI 0 c8.toNat))) fun x62=>forO (fun (t7:(List Nat)) x9=>(Mb (Mb (Mb (Mq y2') fun a11=>Mb (Mq x9) fun b12=>Mo.opt (atI a11 b12)) fun a13=>Mb (Mq (7:Int)) fun b14=>Mo.grd (CDivG a13 b14) (Mq (a13 / b14))) fun s10=>(Mb (Mb (Mb (Mq p_kinds_here) fun a16=>Mb (Mq x9) fun b17=>Mo.opt (atI a16 b17)) fun a18=>Mb (Mq (5:Int)) fun b19=>Mo.grd (CDivG a18 b19) (Mq (a18 / b19))) fun v15=>(Mb (Mb (Mq v15) fun a23=>Mb (Mb (Mq s10) fun a21=>Mb (Mq (2:Int)) fun b22=>Mo.grd (0<b22) (Mq (a21 % b22))) fun b24=>Mq (a23+b24)) fun t20=>(Mb (Mb (Mb (Mb (Mq (1:Int)) fun a28=>Mb (Mb (Mq v15) fun a26=>Mb (Mq (10:Int)) fun b27=>Mo.grd (0<b27) (Mq (a26 % b27))) fun b29=>Mq (a28+b29)) fun a48=>Mb (Mb (Mb (Mq (1:Int)) fun a32=>Mb (Mb (Mq s10) fun a30=>Mb (Mq (10:Int)) fun b31=>Mo.grd (0<b31) (Mq (a30 % b31))) fun b33=>Mq (a32+b33)) fun a46=>Mb (Mb (Mb (Mq t20) fun a34=>Mb (Mq (37:Int)) fun b35=>Mo.grd (0<b35) (Mq (a34 % b35))) fun a44=>Mb (Mb (Mb (Mq s10) fun a36=>Mb (Mq (37:Int)) fun b37=>Mo.grd (0<b37) (Mq (a36 % b37))) fun a42=>Mb (Mb (Mq (1:Int)) fun a40=>Mb (Mb (Mq t20) fun a38=>Mb (Mq (10:Int)) fun b39=>Mo.grd (0<b39) (Mq (a38 % b39))) fun b41=>Mq (a40+b41)) fun c43=>Mq (a42,c43)) fun c45=>Mq (a44,c45)) fun c47=>Mq (a46,c47)) fun c49=>Mq (a48,c49)) fun c50=>Mq [c50.1,c50.2.1,c50.2.2.1,c50.2.2.2.1,c50.2.2.2.2]) fun s25=>(Mb (Mb (Mq t7) fun a60=>Mb (Mb (Mq t1') fun a58=>Mb (Mb (Mq s25) fun a56=>Mb (Mb (Mb (Mq p_kinds_here) fun a52=>Mb (Mq x9) fun b53=>Mo.opt (atI a52 b53)) fun a54=>Mb (Mq (5:Int)) fun b55=>Mo.grd (0<b55) (Mq (a54 % b55))) fun b57=>Mo.opt (atI a56 b57)) fun b59=>Mo.lim a58.length (Mo.opt ((atI a58 b59).map fun c=>[c]))) fun b61=>Mo.lim (a60.length+b61.length) (Mq (a60++b61))) fun t51=>(Mq (.nx t51)))))))) x62 t6) fun t7=>(Mb (Mb (Mb (Mb (Mq t1') fun a66=>Mb (Mb (Mq p_cell) fun a64=>Mb (Mq (37:Int)) fun b65=>Mo.grd (0<b65) (Mq (a64 % b65))) fun b67=>Mo.lim a66.length (Mo.opt ((atI a66 b67).map fun c=>[c]))) fun a72=>Mb (Mb (Mq t1') fun a70=>Mb (Mb (Mq p_k) fun a68=>Mb (Mq (37:Int)) fun b69=>Mo.grd (0<b69) (Mq (a68 % b69))) fun b71=>Mo.lim a70.length (Mo.opt ((atI a70 b71).map fun c=>[c]))) fun b73=>Mo.lim (a72.length+b73.length) (Mq (a72++b73))) fun a80=>Mb (Mb (Mq t1') fun a78=>Mb (Mb (Mb (Mq y2') fun a74=>Mb (Mq (0:Int)) fun b75=>Mo.opt (atI a74 b75)) fun a76=>Mb (Mq (37:Int)) fun b77=>Mo.grd (0<b77) (Mq (a76 % b77))) fun b79=>Mo.lim a78.length (Mo.opt ((atI a78 b79).map fun c=>[c]))) fun b81=>Mo.lim (a80.length+b81.length) (Mq (a80++b81))) fun m63=>(Mb (Mb (Mb (Mq t7) fun a82=>Mb (Mq m63) fun b83=>Mo.lim (a82.length+b83.length) (Mq (a82++b83))) fun a90=>Mb (Mb (Mq t1') fun a88=>Mb (Mb (Mb (Mq p_cell) fun a84=>Mb (Mq (37:Int)) fun b85=>Mo.grd (CDivG a84 b85) (Mq (a84 / b85))) fun a86=>Mb (Mq (37:Int)) fun b87=>Mo.grd (0<b87) (Mq (a86 % b87))) fun b89=>Mo.lim a88.length (Mo.opt ((atI a88 b89).map fun c=>[c]))) fun b91=>Mo.lim (a90.length+b91.length) (Mq (a90++b91))) fun r92=>Mq (.rt r92)))))))
def zaG_ (p_cell:Int) (p_k:Int) (p_kinds_here:(List Int)):Mo (List Nat):=fnO (zd3_ p_cell p_k p_kinds_here)
def zcA_ (p_row:(List Int)) (p_values:(List Int)) (p_full:Int) (p_over:(List (Int×Bool))):Mo (Out (Unit×((List Int)×(List (Int×Bool)))) Unit ((List Int)×(List (Int×Bool)))) :=
 (thenO (S:=((List Int)×(List (Int×Bool)))) (Mb (Mb (Mb (Mq p_row) fun c_2=>Mq (c_2.length:Int)) fun c_3=>Mo.grd (-(2 ^ 62)≤c_3∧c_3<2 ^ 62) (Mq (rngI 0 c_3.toNat))) fun x35=>forO (fun (s_1:((List Int)×(List (Int×Bool)))) x_4=>(Mb (Mb (Mb (Mq s_1.1) fun v5=>Mb (Mq x_4) fun w6=>Mo.opt (atI v5 w6)) fun w9=>Mb (Mb (Mq p_values) fun v7=>Mb (Mq x_4) fun w8=>Mo.opt (atI v7 w8)) fun v10=>Mq (w9+v10)) fun a11=>Mb (Mq (s_1.1,fun (z:(List Int))=>z)) fun y12=>Mb (Mq x_4) fun j13=>Mb (Mo.opt ((ixN y12.1.length j13).map fun n=>y12.1.set n a11)) fun w14=>Mb (Mq (y12.2 w14)) fun x15=>(thenO (S:=(List (Int×Bool))) (Mb (Mb (Mb (Mq x15) fun a16=>Mb (Mq x_4) fun b17=>Mo.opt (atI a16 b17)) fun a18=>Mb (Mq p_full) fun b19=>Mq (decide (b19≤a18))) fun c20=>if c20 then (Mb (Mq true) fun a22=>Mb (Mq (s_1.2,fun (z:(List (Int×Bool)))=>z)) fun y23=>Mb (Mq x_4) fun z24=>Mo.lim (y23.1.length+1) (Mb (Mq (y23.2 (putA y23.1 z24 a22))) fun x25=>(Mq (.nx x25)))) else (Mq (.nx s_1.2))) fun s21=>(Mb (Mb (Mb (Mq x15) fun a26=>Mb (Mq x_4) fun b27=>Mo.opt (atI a26 b27)) fun a28=>Mb (Mq p_full) fun b29=>Mo.grd (0<b29) (Mq (a28 % b29))) fun a30=>Mb (Mq (x15,fun (z:(List Int))=>z)) fun y31=>Mb (Mq x_4) fun j32=>Mb (Mo.opt ((ixN y31.1.length j32).map fun n=>y31.1.set n a30)) fun x33=>Mb (Mq (y31.2 x33)) fun x34=>(Mq (.nx (x34,s21))))))) x35 (p_row,p_over)) fun s_1=>(Mq (.nx (s_1.1,s_1.2))))
def zan_ (p_row:(List Int)) (p_values:(List Int)) (p_full:Int) (p_over:(List (Int×Bool))):Mo (Unit×((List Int)×(List (Int×Bool)))):=fnMU (zcA_ p_row p_values p_full p_over)
def zcE_ (p_wheels:(List (List Int))) (p_level:Int) (p_full:Int) (p_over:(List (Int×Bool))):Mo (Out Qq8 Unit Unit) :=
 (Mb (Mq ([]:(List (List Int)))) fun s1'=>(thenO (S:=Qq8) (Mb (Mb (Mb (Mb (Mb (Mq p_wheels) fun c_3=>Mq (c_3.length:Int)) fun w4=>Mb (Mq (1:Int)) fun w5=>Mq (w4-w5)) fun a11=>Mb (Mb (Mb (Mq p_level) fun v6=>Mb (Mq (1:Int)) fun y7=>Mq (v6-y7)) fun w9=>Mb (Mb (Mq (1:Int)) fun v8=>Mq (-v8)) fun c10=>Mq (w9,c10)) fun c12=>Mq (a11,c12)) fun c13=>Mo.grd (c13.2.2 = -1 ∧ -(2 ^ 61)≤c13.1∧c13.1<2 ^ 61 ∧ -(2 ^ 61)≤c13.2.1∧c13.2.1<2 ^ 61) (Mq (rngD c13.1 (c13.1-c13.2.1).toNat))) fun x46=>forO (fun (s_2:Qq8) v14=>(Mb (Mb (Mb (Mq s_2.2.1) fun a15=>Mb (Mq v14) fun b16=>Mo.opt (atI a15 b16)) fun c17=>Mq c17) fun a18=>Mo.lim (s_2.1.length+1) (thenO (S:=((List (List Int))×(List (Int×Bool)))) (Mb (Mb (Mq v14) fun a19=>Mb (Mq (0:Int)) fun b20=>Mq (decide (b20<a19))) fun c21=>if c21 then (Mb (Mb (Mb (Mq v14) fun a25=>Mb (Mq (1:Int)) fun b26=>Mq (a25-b26)) fun j29=>Mb (Mo.opt (ixN (s_2.2.1).length j29)) fun n30=>Mb (Mo.opt ((s_2.2.1)[n30]?)) fun z31=>Mb (Mq v14) fun j32=>Mb (Mo.opt (ixN (s_2.2.1).length j32)) fun n33=>Mb (Mo.opt ((s_2.2.1)[n33]?)) fun z34=>Mb (Mb (Mq p_full) fun a27=>Mb (Mq ()) fun c28=>Mq (a27,c28)) fun c24=>Mo.grd (n30≠n33) (Mb (Mo.noex (zan_ z31 z34 c24.1 s_2.2.2)) fun q23=>Mq (q23.1,((s_2.2.1).set n30 q23.2.1,q23.2.2)))) fun q23=>(Mq (.nx (q23.2.1,q23.2.2)))) else (Mq (.nx (s_2.2.1,s_2.2.2)))) fun s22=>(Mb (Mb (Mb (Mq (0:Int)) fun c35=>Mq [c35]) fun a39=>Mb (Mb (Mb (Mq s22.1) fun a36=>Mb (Mq v14) fun b37=>Mo.opt (atI a36 b37)) fun c38=>Mq (c38.length:Int)) fun b40=>Mo.grd (CRep a39.length b40) (Mq (repL a39 b40))) fun a41=>Mb (Mq (s22.1,fun (z:(List (List Int)))=>z)) fun y42=>Mb (Mq v14) fun j43=>Mb (Mo.opt ((ixN y42.1.length j43).map fun n=>y42.1.set n a41)) fun v44=>Mb (Mq (y42.2 v44)) fun x45=>(Mq (.nx ((s_2.1++[a18]),x45,s22.2))))))) x46 (s1',p_wheels,p_over)) fun s_2=>(Mq (.rt (s_2.1,(s_2.2.1,s_2.2.2))))))
def z6_ (p_wheels:(List (List Int))) (p_level:Int) (p_full:Int) (p_over:(List (Int×Bool))):Mo Qq8:=fnMR (zcE_ p_wheels p_level p_full p_over)
def zcY_ (p_number_here:Int) (p_figures:Int):Mo (Out (List Nat) Unit Unit) :=
 (Mb (Mq ([]:List Nat)) fun w1'=>(thenO (S:=((List Nat)×Int)) (Mb (Mb (Mq p_figures) fun c_3=>Mo.grd (-(2 ^ 62)≤c_3∧c_3<2 ^ 62) (Mq (rngI 0 c_3.toNat))) fun w15=>forO (fun (s_2:((List Nat)×Int)) x_4=>(Mb (Mb (Mb (Mq ([48,49,50,51,52,53,54,55,56,57]:List Nat)) fun v8=>Mb (Mb (Mq s_2.2) fun v6=>Mb (Mq (10:Int)) fun y7=>Mo.grd (0<y7) (Mq (v6 % y7))) fun y9=>Mo.lim v8.length (Mo.opt ((atI v8 y9).map fun c=>[c]))) fun a10=>Mb (Mq s_2.1) fun v11=>Mo.lim (a10.length+v11.length) (Mq (a10++v11))) fun z5=>(Mb (Mb (Mq s_2.2) fun a13=>Mb (Mq (10:Int)) fun b14=>Mo.grd (CDivG a13 b14) (Mq (a13 / b14))) fun n12=>(Mq (.nx (z5,n12)))))) w15 (w1',p_number_here)) fun s_2=>(Mb (Mq s_2.1) fun r16=>Mq (.rt r16))))
def zb6_ (p_number_here:Int) (p_figures:Int):Mo (List Nat):=fnO (zcY_ p_number_here p_figures)
def zc4_ (p_lines:(List (List Nat))) (p_shown_here:(List (List Int))) (p_figures:Int):Mo (Out Bool Unit Unit) :=
 (thenO (S:=Unit) (Mb (Mb (Mb (Mb (Mq p_lines) fun a_1=>Mq true) fun a_2=>Mq (!a_2)) fun c7=>if c7 then Mq true else (Mb (Mb (Mq p_lines) fun c_3=>Mq (c_3.length:Int)) fun v5=>Mb (Mb (Mq p_shown_here) fun c_4=>Mq (c_4.length:Int)) fun w6=>Mq (decide (v5<w6)))) fun c8=>if c8 then (Mb (Mq false) fun r10=>Mq (.rt r10)) else (Mq (.nx ()))) fun _=>(thenO (S:=Unit) (Mb (Mb (Mb (Mq p_lines) fun a12=>Mb (Mq p_shown_here) fun c13=>Mq (a12,c13)) fun c14=>Mq (c14.1.zip c14.2)) fun x40=>forO (fun (_:Unit) x15=>(Mb (Mq ([]:List Nat)) fun t16=>(thenO (S:=(List Nat)) (Mb (Mq x15.2) fun v27=>forO (fun (s17:(List Nat)) x18=>(Mb (Mb (Mb (Mq s17) fun a20=>Mb (Mq ([32]:List Nat)) fun b21=>Mo.lim (a20.length+b21.length) (Mq (a20++b21))) fun a25=>Mb (Mb (Mb (Mq x18) fun a22=>Mb (Mq p_figures) fun c23=>Mq (a22,c23)) fun c24=>Mo.noex (zb6_ c24.1 c24.2)) fun b26=>Mo.lim (a25.length+b26.length) (Mq (a25++b26))) fun t19=>(Mq (.nx t19)))) v27 t16) fun s17=>(Mb (Mb (Mb (Mb (Mq x15.1) fun a28=>Mq true) fun a29=>Mq (!a29)) fun c37=>if c37 then Mq true else (Mb (Mb (Mb (Mq x15.1) fun a30=>Mb (Mq ([42]:List Nat)) fun b31=>Mq (startsL a30 b31)) fun a32=>Mq (!a32)) fun c36=>if c36 then Mq true else (Mb (Mb (Mq x15.1) fun a33=>Mb (Mq s17) fun b34=>Mq (endsL a33 b34)) fun a35=>Mq (!a35)))) fun c38=>if c38 then (Mb (Mq false) fun r39=>Mq (.rt r39)) else (Mq (.nx ())))))) x40 ()) fun _=>(Mb (Mq true) fun r41=>Mq (.rt r41))))
def zbe_ (p_lines:(List (List Nat))) (p_shown_here:(List (List Int))) (p_figures:Int):Mo Bool:=fnO (zc4_ p_lines p_shown_here p_figures)
def zeU_ (p_found:Int):Mo (Out Bool Unit Unit) :=
 (Mb (Mb (Mb (Mq p_found) fun a_1=>Mq true) fun c_4=>if c_4 then (Mb (Mb (Mq p_found) fun a_2=>Mq false) fun v3=>Mq (!v3)) else Mq false) fun r_5=>Mq (.rt r_5))
def zeV_ (p_found:Int):Mo Bool:=fnO (zeU_ p_found)
def zc1_ (p_found:(List Int)) (p_over:(List (Int×Bool))):Mo (Out (Bool×(List Int)) Unit Unit) :=
 (thenO (S:=Unit) (Mb (Mb (Mb (Mb (Mq p_found) fun a_1=>Mq true) fun a_2=>Mq (!a_2)) fun c6=>if c6 then Mq true else (Mb (Mq p_found) fun w4=>Mb (Mb (Mq p_over) fun c_3=>Mo.grd (c_3.length<64) (Mq (srtL ltI (c_3.map (·.1))))) fun w5=>Mq (!((eqL (fun a b=>decide (a=b))) w4 w5)))) fun c7=>if c7 then (Mb (Mq false) fun r9=>Mq (.rt (r9,p_found))) else (Mq (.nx ()))) fun _=>(thenO (S:=Unit) (forO (fun (_:Unit) x12=>(Mb (Mb (Mb (Mq x12) fun c13=>Mo.noex (zeV_ c13)) fun a14=>Mq (!a14)) fun c15=>if c15 then (Mb (Mq false) fun r16=>Mq (.rt (r16,p_found))) else (Mq (.nx ())))) p_found ()) fun _=>(Mb (Mq (p_found,fun (z:(List Int))=>z)) fun y18=>Mb (Mq (99:Int)) fun a17=>Mo.lim (y18.1.length+1) (Mb (Mq (y18.2 (y18.1++[a17]))) fun x19=>(Mb (Mq true) fun r20=>Mq (.rt (r20,x19)))))))
def zbm_ (p_found:(List Int)) (p_over:(List (Int×Bool))):Mo (Bool×(List Int)):=fnMR (zc1_ p_found p_over)
def zbb_ (p_self:Qq1):Mo (Out (List Int) Unit Unit) :=
 (Mb (Mb (Mb (Mq p_self) fun a_1=>Mq a_1.2.2.2.2.2.1) fun c_2=>Mo.grd (c_2.length<64) (Mq (srtL ltI (c_2.map (·.1))))) fun r_3=>Mq (.rt r_3))
def zaj_ (p_self:Qq1):Mo (List Int):=fnO (zbb_ p_self)
def zdZ_ (p_card_here:(List Nat)) (p_field_here:(Int×Int)):Mo (Out (List Nat) Unit Unit) :=
 (Mb (Mb (Mq p_card_here) fun v7=>Mb (Mb (Mb (Mb (Mq p_field_here) fun a_1=>Mq a_1.1) fun a_2=>Mb (Mq (1:Int)) fun b_3=>Mq (a_2-b_3)) fun i4=>Mq (some i4)) fun w8=>Mb (Mb (Mb (Mq p_field_here) fun v5=>Mq v5.2) fun i6=>Mq (some i6)) fun d9=>Mo.lim v7.length (Mq (cutG v7 w8 d9))) fun r10=>Mq (.rt r10))
def zbX_ (p_card_here:(List Nat)) (p_field_here:(Int×Int)):Mo (List Nat):=fnO (zdZ_ p_card_here p_field_here)
def zcw_ (p_card_here:(List Nat)) (p_other:(List Nat)) (p_breaks:(List (Int×Int))):Mo (Out Int Unit Unit) :=
 (thenO (S:=Unit) (Mb (Mb (Mb (Mq p_breaks) fun c_2=>Mq (c_2.length:Int)) fun c_3=>Mo.grd (-(2 ^ 62)≤c_3∧c_3<2 ^ 62) (Mq (rngI 0 c_3.toNat))) fun x21=>forO (fun (_:Unit) x_4=>(Mb (Mb (Mb (Mb (Mq p_card_here) fun v7=>Mb (Mb (Mq p_breaks) fun v5=>Mb (Mq x_4) fun w6=>Mo.opt (atI v5 w6)) fun c8=>Mq (v7,c8)) fun c9=>Mo.noex (zbX_ c9.1 c9.2)) fun a15=>Mb (Mb (Mb (Mq p_other) fun a12=>Mb (Mb (Mq p_breaks) fun a10=>Mb (Mq x_4) fun v11=>Mo.opt (atI a10 v11)) fun c13=>Mq (a12,c13)) fun c14=>Mo.noex (zbX_ c14.1 c14.2)) fun b16=>Mq (!decide (a15=b16))) fun c17=>if c17 then (Mb (Mb (Mq x_4) fun a18=>Mb (Mq (1:Int)) fun b19=>Mq (a18+b19)) fun r20=>Mq (.rt r20)) else (Mq (.nx ())))) x21 ()) fun _=>(Mb (Mb (Mb (Mq p_breaks) fun c22=>Mq (c22.length:Int)) fun a23=>Mb (Mq (1:Int)) fun b24=>Mq (a23+b24)) fun r25=>Mq (.rt r25)))
def zbt_ (p_card_here:(List Nat)) (p_other:(List Nat)) (p_breaks:(List (Int×Int))):Mo Int:=fnO (zcw_ p_card_here p_other p_breaks)
def zcs_ (p_card_here:(List Nat)) (p_field_here:(Int×Int)):Mo (Out Int Unit Unit) :=
 (Mb (Mq (0:Int)) fun u1''=>(thenO (S:=Int) (Mb (Mb (Mb (Mq p_card_here) fun w9=>Mb (Mb (Mb (Mb (Mq p_field_here) fun v3=>Mq v3.1) fun w4=>Mb (Mq (1:Int)) fun w5=>Mq (w4-w5)) fun i6=>Mq (some i6)) fun v10=>Mb (Mb (Mb (Mq p_field_here) fun v7=>Mq v7.2) fun i8=>Mq (some i8)) fun d11=>Mo.lim w9.length (Mq (cutG w9 v10 d11))) fun a12=>Mq (a12.map fun c=>[c])) fun x24=>forO (fun (s_2:Int) v13=>(Mb (Mb (Mb (Mq (10:Int)) fun a15=>Mb (Mq s_2) fun b16=>Mo.grd (IntMulOk a15 b16) (Mq (a15*b16))) fun a22=>Mb (Mb (Mb (Mq (0:Int)) fun a19=>Mb (Mb (Mq ([48,49,50,51,52,53,54,55,56,57]:List Nat)) fun a17=>Mb (Mq v13) fun b18=>Mq (findS a17 b18)) fun c20=>Mq (a19,c20)) fun c21=>Mq (max c21.1 c21.2)) fun b23=>Mq (a22+b23)) fun t14=>(Mq (.nx t14)))) x24 u1'') fun s_2=>(Mb (Mq s_2) fun r25=>Mq (.rt r25))))
def zaU_ (p_card_here:(List Nat)) (p_field_here:(Int×Int)):Mo Int:=fnO (zcs_ p_card_here p_field_here)
def zpZ_ (p_script:(List Int)):Mo (Out Bool Unit Unit) :=
 (Mb (Mb (Mb (Mb (Mq p_script) fun a_2=>Mb (Mq (0:Int)) fun c_3=>Mq (a_2,c_3)) fun c_4=>Mo.noex (zT_ c_4.1 c_4.2)) fun c5=>Mo.noex (zb3_ c5)) fun y1'=>(Mb (Mb (Mb (Mb (Mq p_script) fun v7=>Mb (Mq (1:Int)) fun c8=>Mq (v7,c8)) fun c9=>Mo.noex (zT_ c9.1 c9.2)) fun a10=>Mb (Mq (4:Int)) fun v11=>Mo.grd (0<v11) (Mq (a10 % v11))) fun m6=>(Mb (Mb (Mb (Mb (Mb (Mb (Mq p_script) fun a13=>Mb (Mq (1:Int)) fun c14=>Mq (a13,c14)) fun c15=>Mo.noex (zT_ c15.1 c15.2)) fun a16=>Mb (Mq m6) fun c17=>Mq (a16,c17)) fun c18=>Mo.noex (zam_ c18.1 c18.2)) fun x23=>compM (fun x19=>cond1 (Mq true) (Mb (Mb (Mq x19) fun a20=>Mb (Mq (2:Int)) fun c21=>Mq (a20,c21)) fun c22=>Mo.noex (zab_ c22.1 c22.2))) x23 []) fun v12=>(Mb (Mb (Mb (Mq p_script) fun a25=>Mb (Mq (2:Int)) fun c26=>Mq (a25,c26)) fun c27=>Mo.noex (zT_ c27.1 c27.2)) fun v24=>(Mb (Mb (Mb (Mb (Mq (12:Int)) fun a31=>Mb (Mb (Mq (12:Int)) fun a29=>Mb (Mq (36:Int)) fun c30=>Mq (a29,c30)) fun c32=>Mq (a31,c32)) fun c33=>Mq [c33.1,c33.2.1,c33.2.2]) fun a38=>Mb (Mb (Mb (Mq v24) fun a34=>Mb (Mq (4:Int)) fun b35=>Mo.grd (CDivG a34 b35) (Mq (a34 / b35))) fun a36=>Mb (Mq (3:Int)) fun b37=>Mo.grd (0<b37) (Mq (a36 % b37))) fun b39=>Mo.opt (atI a38 b39)) fun m28=>(Mb (Mb (Mb (Mb (Mq v24) fun a45=>Mb (Mb (Mq (1:Int)) fun a43=>Mb (Mb (Mq v24) fun a41=>Mb (Mq (4:Int)) fun b42=>Mo.grd (0<b42) (Mq (a41 % b42))) fun b44=>Mq (a43+b44)) fun c46=>Mq (a45,c46)) fun c47=>Mo.noex (zam_ c47.1 c47.2)) fun x52=>compM (fun x48=>cond1 (Mq true) (Mb (Mb (Mq x48) fun a49=>Mb (Mq m28) fun c50=>Mq (a49,c50)) fun c51=>Mo.noex (zab_ c51.1 c51.2))) x52 []) fun s40=>(Mb (Mb (Mq (1:Int)) fun a59=>Mb (Mb (Mb (Mb (Mq p_script) fun a54=>Mb (Mq (3:Int)) fun c55=>Mq (a54,c55)) fun c56=>Mo.noex (zT_ c56.1 c56.2)) fun a57=>Mb (Mq (5:Int)) fun b58=>Mo.grd (0<b58) (Mq (a57 % b58))) fun b60=>Mq (a59+b60)) fun f53=>(Mb (Mb (Mq f53) fun c62=>Mo.noex (zb5_ c62)) fun f61=>(Mb (Mb (Mb (Mq v12) fun a68=>Mb (Mb (Mq s40) fun a66=>Mb (Mb (Mq f53) fun a64=>Mb (Mq ([]:List (Int×Int))) fun c65=>Mq (a64,c65)) fun c67=>Mq (a66,c67)) fun c69=>Mq (a68,c69)) fun c70=>Mb (Mo.noex (z8_ () c70.1 c70.2.1 c70.2.2.1 c70.2.2.2)) fun q71=>Mq q71.2) fun c63=>(Mb (Mb (Mb (Mb (Mq m6) fun a73=>Mb (Mq (1:Int)) fun b74=>Mq (a73+b74)) fun c75=>Mo.grd (-(2 ^ 62)≤c75∧c75<2 ^ 62) (Mq (rngI 0 c75.toNat))) fun x81=>compM (fun x76=>cond1 (Mq true) (Mb (Mb (Mq (0:Int)) fun c77=>Mq [c77]) fun a79=>Mb (Mb (Mq s40) fun c78=>Mq (c78.length:Int)) fun b80=>Mo.grd (CRep a79.length b80) (Mq (repL a79 b80)))) x81 []) fun w72=>(Mb (Mq ([]:(List (Int×Bool)))) fun o82=>(Mb (Mb (Mb (Mb (Mq p_script) fun a86=>Mb (Mb (Mq (4:Int)) fun i84=>Mq (some i84)) fun b87=>Mb (Mb (Mq (64:Int)) fun i85=>Mq (some i85)) fun d88=>Mq (cutG a86 b87 d88)) fun c89=>Mq (enumL c89)) fun x96=>compM (fun x90=>cond1 (Mq true) (Mb (Mb (Mq x90.2) fun a93=>Mb (Mb (Mq x90.1) fun a91=>Mb (Mq y1') fun c92=>Mq (a91,c92)) fun c94=>Mq (a93,c94)) fun c95=>Mo.noex (zaG_ c95.1 c95.2.1 c95.2.2))) x96 []) fun c83=>(thenO (S:=((List (List Int))×((List (Int×Bool))×Qq1))) (Mb (Mb (Mb (Mq c83) fun c98=>Mq (c98.length:Int)) fun c99=>Mo.grd (-(2 ^ 62)≤c99∧c99<2 ^ 62) (Mq (rngI 0 c99.toNat))) fun x173=>forO (fun (s97:((List (List Int))×((List (Int×Bool))×Qq1))) x100=>(Mb (Mq ([]:List (List Int))) fun s101=>(thenO (S:=Qq8) (Mb (Mb (Mq x100) fun a102=>Mb (Mq (0:Int)) fun b103=>Mq (decide (b103<a102))) fun c104=>if c104 then (Mb (Mb (Mq ((s97.1,s97.2.1),fun (z:(List (List Int))×(List (Int×Bool)))=>z)) fun y124=>Mb (Mb (Mb (Mb (Mb (Mq c83) fun a111=>Mb (Mb (Mq x100) fun a109=>Mb (Mq (1:Int)) fun b110=>Mq (a109-b110)) fun b112=>Mo.opt (atI a111 b112)) fun a117=>Mb (Mb (Mb (Mq c83) fun a113=>Mb (Mq x100) fun b114=>Mo.opt (atI a113 b114)) fun a115=>Mb (Mq v12) fun c116=>Mq (a115,c116)) fun c118=>Mq (a117,c118)) fun c119=>Mo.noex (zbt_ c119.1 c119.2.1 c119.2.2)) fun a122=>Mb (Mb (Mq f61) fun a120=>Mb (Mq ()) fun c121=>Mq (a120,c121)) fun c123=>Mq (a122,c123)) fun c108=>Mb (Mo.noex (z6_ y124.1.1 c108.1 c108.2.1 y124.1.2)) fun q107=>Mq (q107.1,y124.2 q107.2)) fun q107=>(Mq (.nx (q107.1,q107.2.1,q107.2.2)))) else (Mq (.nx (s101,s97.1,s97.2.1)))) fun s105=>(Mb (Mb (Mb (Mq ((s105.2.1,s105.2.2),fun (z:(List (List Int))×(List (Int×Bool)))=>z)) fun y128=>Mb (Mq m6) fun j129=>Mb (Mo.opt (ixN y128.1.1.length j129)) fun n130=>Mb (Mo.opt (y128.1.1[n130]?)) fun z131=>Mq ((z131,y128.1.2),fun (z':(List Int)×(List (Int×Bool)))=>y128.2 (y128.1.1.set n130 z'.1,z'.2))) fun y143=>Mb (Mb (Mb (Mq s40) fun x138=>compM (fun x132=>cond1 (Mq true) (Mb (Mb (Mb (Mq c83) fun a133=>Mb (Mq x100) fun b134=>Mo.opt (atI a133 b134)) fun a135=>Mb (Mq x132) fun c136=>Mq (a135,c136)) fun c137=>Mo.noex (zaU_ c137.1 c137.2))) x138 []) fun a141=>Mb (Mb (Mq f61) fun a139=>Mb (Mq ()) fun c140=>Mq (a139,c140)) fun c142=>Mq (a141,c142)) fun c127=>Mb (Mo.noex (zan_ y143.1.1 c127.1 c127.2.1 y143.1.2)) fun q126=>Mq (q126.1,y143.2 q126.2)) fun q126=>(Mb (Mb (Mq (s97.2.2,fun (z:Qq1)=>z)) fun y146=>Mb (Mb (Mq c83) fun a144=>Mb (Mq x100) fun b145=>Mo.opt (atI a144 b145)) fun c147=>Mb (Mo.noex (z9_ y146.1 c147)) fun q148=>Mq (q148.1,y146.2 q148.2)) fun q149=>(thenO (S:=Unit) (Mb (Mb (Mb (Mb (Mb (Mq q149.1) fun a152=>Mb (Mb (Mq s105.1) fun a150=>Mb (Mq f53) fun c151=>Mq (a150,c151)) fun c153=>Mq (a152,c153)) fun c154=>Mo.noex (zbe_ c154.1 c154.2.1 c154.2.2)) fun a155=>Mq (!a155)) fun c162=>if c162 then Mq true else (Mb (Mb (Mq q149.1) fun c156=>Mq (c156.length:Int)) fun a160=>Mb (Mb (Mb (Mq s105.1) fun c157=>Mq (c157.length:Int)) fun a158=>Mb (Mq (1:Int)) fun b159=>Mq (a158+b159)) fun b161=>Mq (!decide (a160=b161)))) fun c163=>if c163 then (Mb (Mq false) fun r165=>Mq (.rt r165)) else (Mq (.nx ()))) fun _=>(Mb (Mb (Mb (Mb (Mq q149.2) fun o166=>Mo.noex (zaj_ o166)) fun x167=>Mb (Mq q126.2.2) fun c168=>Mb (Mo.noex (zbm_ x167 c168)) fun q169=>Mq q169.1) fun a170=>Mq (!a170)) fun c171=>if c171 then (Mb (Mq false) fun r172=>Mq (.rt r172)) else (Mq (.nx (q126.2.1,q126.2.2,q149.2)))))))))) x173 (w72,o82,c63)) fun s97=>(Mb (Mb (Mb (Mb (Mq (0:Int)) fun c180=>Mq [c180]) fun a182=>Mb (Mb (Mq s40) fun c181=>Mq (c181.length:Int)) fun b183=>Mo.grd (CRep a182.length b183) (Mq (repL a182 b183))) fun c184=>Mq [c184]) fun s174=>(thenO (S:=Qq8) (Mb (Mb (Mq c83) fun a185=>Mb (Mq ([]:List (List Nat))) fun b186=>Mq (!((eqL (fun a b=>decide (a=b))) a185 b186))) fun c187=>if c187 then (Mb (Mb (Mq ((s97.1,s97.2.1),fun (z:(List (List Int))×(List (Int×Bool)))=>z)) fun y196=>Mb (Mb (Mq (0:Int)) fun a194=>Mb (Mb (Mq f61) fun a192=>Mb (Mq ()) fun c193=>Mq (a192,c193)) fun c195=>Mq (a194,c195)) fun c191=>Mb (Mo.noex (z6_ y196.1.1 c191.1 c191.2.1 y196.1.2)) fun q190=>Mq (q190.1,y196.2 q190.2)) fun q190=>(Mq (.nx (q190.1,q190.2.1,q190.2.2)))) else (Mq (.nx (s174,s97.1,s97.2.1)))) fun s188=>(Mb (Mb (Mq (s97.2.2,fun (z:Qq1)=>z)) fun y197=>Mb (Mq ()) fun c198=>Mb (Mo.noex (zQ_ y197.1)) fun q199=>Mq (q199.1,y197.2 q199.2)) fun q200=>(Mb (Mb (Mb (Mb (Mq q200.1) fun a203=>Mb (Mb (Mq s188.1) fun a201=>Mb (Mq f53) fun c202=>Mq (a201,c202)) fun c204=>Mq (a203,c204)) fun c205=>Mo.noex (zbe_ c205.1 c205.2.1 c205.2.2)) fun c215=>if c215 then (Mb (Mb (Mb (Mq q200.1) fun c206=>Mq (c206.length:Int)) fun a208=>Mb (Mb (Mq s188.1) fun c207=>Mq (c207.length:Int)) fun b209=>Mq (decide (a208=b209))) fun c214=>if c214 then (Mb (Mb (Mq q200.2) fun o210=>Mo.noex (zaj_ o210)) fun x211=>Mb (Mq s188.2.2) fun c212=>Mb (Mo.noex (zbm_ x211 c212)) fun q213=>Mq q213.1) else Mq false) else Mq false) fun r216=>Mq (.rt r216))))))))))))))))))
def f_law (p_script:(List Int)):Mo Bool:=fnO (zpZ_ p_script)
end K35
namespace K35
open PySem PySem.Spec PyProof.Rows L2
open Mo renaming bind→Mb,ok→Mq
open Sl renaming fz→Zf,dead→Zd,ow→Zo
def top (i:Nat):Stmt:=PySem.Challenge.pw_cardshop_k35_wheels_run_over.main.body.getD i (.Pass ⟨0,0,0,0⟩)
abbrev zmN_:Stmt:=top 6
abbrev zeh_:Stmt:=inClass (top 14) 0
abbrev zc8_:Stmt:=inClass (top 16) 0
abbrev zfv_:Stmt:=inClass (top 14) 5
abbrev zkg_:Stmt:=top 11
abbrev zcr_:Stmt:=inClass (top 16) 7
abbrev zgb_:Stmt:=inClass (top 14) 1
abbrev zeb_:Stmt:=inClass (top 14) 3
abbrev zcf_:Stmt:=inClass (top 16) 8
abbrev zfF_:Stmt:=inClass (top 14) 4
abbrev zfa_:Stmt:=inClass (top 14) 2
abbrev zce_:Stmt:=inClass (top 16) 6
abbrev zbK_:Stmt:=inClass (top 16) 5
abbrev zej_:Stmt:=inClass (top 16) 2
abbrev zgl_:Stmt:=top 19
abbrev zhR_:Stmt:=top 20
abbrev zfM_:Stmt:=top 18
abbrev zhF_:Stmt:=top 27
abbrev zkP_:Stmt:=top 2
abbrev zkE_:Stmt:=top 3
abbrev zkT_:Stmt:=top 9
abbrev zbE_:Stmt:=inClass (top 16) 4
abbrev zhX_:Stmt:=top 7
abbrev zhQ_:Stmt:=top 12
abbrev zfe_:Stmt:=inClass (top 16) 1
abbrev zhT_:Stmt:=top 22
abbrev zjV_:Stmt:=top 21
abbrev zgy_:Stmt:=top 30
abbrev zgu_:Stmt:=top 31
abbrev zh7_:Stmt:=top 25
abbrev zia_:Stmt:=top 32
abbrev zhC_:Stmt:=top 26
abbrev zhP_:Stmt:=top 33
abbrev zev_:Stmt:=inClass (top 16) 3
abbrev ziu_:Stmt:=top 28
abbrev zgH_:Stmt:=top 29
abbrev zgp_:Stmt:=top 24
abbrev zpe_:Stmt:=top 34
def zhv_ (K:Fgg):Sp:=Ct K (csLast tyInt) (fun c=>zfk_ c) (owF tyInt)
def zby_ (K:Fgg):Sp:=CtM K (owI (gA K "Wheel") [] psNil) (Qq3 K) (csLast tyInt) (fun x c=>zB_ x c) (owF tyNon)
def za4_ (K:Fgg):Sp:=CtM K (owI (gA K "Counter") [] psNil) (Qq0 K) (csCons (tyL Qq2) (csCons (tyL Qq2) (csCons tyInt (csLast (tyL Qq2))))) (fun x c=>z8_ x c.1 c.2.1 c.2.2.1 c.2.2.2) (owF tyNon)
def zcR_ (K:Fgg):Sp:=Ct K (csLast (Qq7 K)) (fun c=>zS_ c) (owF tyStr)
def zbN_ (K:Fgg):Sp:=Ct K (csCons tyStr (csLast Qq2)) (fun c=>za5_ c.1 c.2) (owF tyStr)
def zaJ_ (K:Fgg):Sp:=Ct K (csCons (Qq4 K) (csLast tyInt)) (fun c=>zJ_ c.1 c.2) (owF tyStr)
def zdm_ (K:Fgg):Sp:=CtM K (Qq3 K) (Qq3 K) (csLast tyInt) (fun x c=>zbs_ x c) (owF tyNon)
def zbB_ (K:Fgg):Sp:=Ct K (csLast (Qq7 K)) (fun c=>zaS_ c) (owF tyBl)
def z3_ (K:Fgg):Sp:=CtM K (Qq0 K) (Qq0 K) (csCons tyInt (csLast (tyL tyInt))) (fun x c=>zG_ x c.1 c.2) (owF tyNon)
def zcT_ (K:Fgg):Sp:=CtM K (Qq3 K) (Qq3 K) csNil (fun x c=>zU_ x) (owF tyNon)
def zcn_ (K:Fgg):Sp:=Ct K (csLast (Qq7 K)) (fun c=>zaL_ c) (owF tyInt)
def z7_ (K:Fgg):Sp:=CtM K (Qq0 K) (Qq0 K) (csLast tyInt) (fun x c=>zp_ x c) (owF tyStr)
def z0_ (K:Fgg):Sp:=CtM K (Qq0 K) (Qq0 K) (csLast tyInt) (fun x c=>zi_ x c) (owL tyStr)
def zbz_ (K:Fgg):Sp:=CtM K (Qq0 K) (Qq0 K) csNil (fun x c=>zQ_ x) (owL tyStr)
def zaH_ (K:Fgg):Sp:=Ct K (csCons tyInt (csLast tyInt)) (fun c=>zam_ c.1 c.2) (owL tyInt)
def zea_ (K:Fgg):Sp:=Ct K (csLast tyInt) (fun c=>zb3_ c) (owL tyInt)
def zaa_ (K:Fgg):Sp:=Ct K (csCons (tySc K) (csLast tyInt)) (fun c=>zT_ c.1 c.2) (owF tyInt)
def zdW_ (K:Fgg):Sp:=Ct K (csLast tyInt) (fun c=>zb5_ c) (owF tyInt)
def zfT_ (K:Fgg):Sp:=Ct K (csLast tyStr) (fun c=>zdE_ c) (owF tyStr)
def zfs_ (K:Fgg):Sp:=Ct K (csCons tyStr (csLast tyInt)) (fun c=>zdD_ c.1 c.2) (owF tyStr)
def zfN_ (K:Fgg):Sp:=Ct K (csCons tyStr (csLast (tyL Qq2))) (fun c=>zdL_ c.1 c.2) (owF tyStr)
def zat_ (K:Fgg):Sp:=Ct K (csCons (Qq4 K) (csLast tyStr)) (fun c=>zo_ c.1 c.2) (owF tyInt)
def zdO_ (K:Fgg):Sp:=Ct K (csLast tyStr) (fun c=>zb7_ c) (owF tyInt)
def zdN_ (K:Fgg):Sp:=Ct K (csCons tyStr (csLast Qq2)) (fun c=>zaP_ c.1 c.2) (owF tyInt)
def zcg_ (K:Fgg):Sp:=CtM K (Qq0 K) (Qq0 K) (csLast tyStr) (fun x c=>z9_ x c) (owL tyStr)
def zcC_ (K:Fgg):Sp:=Ct K (csCons tyInt (csLast tyInt)) (fun c=>zab_ c.1 c.2) (owF Qq2)
def zeH_ (K:Fgg):Sp:=Ct K (csCons tyInt (csCons tyInt (csLast (tyL tyInt)))) (fun c=>zaG_ c.1 c.2.1 c.2.2) (owF tyStr)
def zbR_ (K:Fgg):Sp:=SpE fun u_:V=>CtM K (owPair u_ (owL tyInt) (owD kInt tyBl)) (owPair u_ (owL tyInt) (owD kInt tyBl)) (csCons (tyL tyInt) (csCons tyInt (csLast (tyIs u_)))) (fun x c=>zan_ x.1 c.1 c.2.1 x.2) (owF tyNon)
def zb2_ (K:Fgg):Sp:=SpE fun u_:V=>CtM K (owPair u_ (owLO (owL tyInt)) (owD kInt tyBl)) (owPair u_ (owLO (owL tyInt)) (owD kInt tyBl)) (csCons tyInt (csCons tyInt (csLast (tyIs u_)))) (fun x c=>z6_ x.1 c.1 c.2.1 x.2) (owLL tyInt)
def zdS_ (K:Fgg):Sp:=Ct K (csCons tyInt (csLast tyInt)) (fun c=>zb6_ c.1 c.2) (owF tyStr)
def zcq_ (K:Fgg):Sp:=Ct K (csCons (tyL tyStr) (csCons (tyL (tyL tyInt)) (csLast tyInt))) (fun c=>zbe_ c.1 c.2.1 c.2.2) (owF tyBl)
def zef_ (K:Fgg):Sp:=Ct K (csLast tyInt) (fun c=>zeV_ c) (owF tyBl)
def zcz_ (K:Fgg):Sp:=CtMk K 0 (owL tyInt) (owL tyInt) (csLast (tyD kInt tyBl)) (fun x c=>zbm_ x c) (owF tyBl)
def zaW_ (K:Fgg):Sp:=Ct K (csLast (Qq4 K)) (fun c=>zaj_ c) (owL tyInt)
def zc9_ (K:Fgg):Sp:=Ct K (csCons tyStr (csLast Qq2)) (fun c=>zbX_ c.1 c.2) (owF tyStr)
def zds_ (K:Fgg):Sp:=Ct K (csCons tyStr (csCons tyStr (csLast (tyL Qq2)))) (fun c=>zbt_ c.1 c.2.1 c.2.2) (owF tyInt)
def zdr_ (K:Fgg):Sp:=Ct K (csCons tyStr (csLast Qq2)) (fun c=>zaU_ c.1 c.2) (owF tyInt)
def zmD_ (K:Fgg):TS:=(tSeq (tAsg (tC (.int 1)) (gName 1)) (tSeq (tFor (mRng1 (tCons (mVar 0) tNil)) (gName 2) (tAsg (tOp mMulX (mVar 1) (tC (.int 10))) (gName 1))) (tRet (mVar 1))))
def zd0_ (K:Fgg):TS:=(tSeq (mSFld (gA K "Wheel") (mVar 0) (mVar 1) "figures") (tSeq (mSFld (gA K "Wheel") (mVar 0) (tCall (zhv_ K) [] E0 (tCons (mVar 1) tNil)) "power") (tSeq (mSFld (gA K "Wheel") (mVar 0) (tC (.int 0)) "kept") (mSFld (gA K "Wheel") (mVar 0) (tC (.bl false)) "over"))))
def zdc_ (K:Fgg):TS:=(tSeq (mSFld (gA K "Counter") (mVar 0) (tCB (mListL K) (tCons (mVar 1) tNil)) "breaks") (tSeq (mSFld (gA K "Counter") (mVar 0) (tCB (mListL K) (tCons (mVar 2) tNil)) "sums") (tSeq (mSFld (gA K "Counter") (mVar 0) (tCB (mListL K) (tCons (mVar 4) tNil)) "board") (tSeq (mSFld (gA K "Counter") (mVar 0) (tComp ["level"] [("figures",3),("sums",2)] (mRng1 (tCons (tOp mAdd (tCB (mLen K) (tCons (mVar 1) tNil)) (tC (.int 1))) tNil)) (gName 0) tTrue (tComp ["field"] [("figures",1)] (iAny K (mVar 2)) (gName 0) tTrue (tMake (gA K "Wheel") (zby_ K) [] E0 (tCons (mVar 1) tNil)))) "levels") (tSeq (mSFld (gA K "Counter") (mVar 0) (tC .non) "before") (mSFld (gA K "Counter") (mVar 0) tDNewK "run_over"))))))
def zft_ (K:Fgg):TS:=(tRet (tBM K "str" mZfill (tCB (mStr) (tCons (mFld (gA K "Wheel") (mVar 0) "kept") tNil)) (tCons (mFld (gA K "Wheel") (mVar 0) "figures") tNil)))
def zkh_ (K:Fgg):TS:=(tRet (tSl (mSl K) (mVar 0) (mPart (tOp mSub (tOp (mIx K) (mVar 1) (tC (.int 0))) (tC (.int 1)))) (mPart (tOp (mIx K) (mVar 1) (tC (.int 1))))))
def zcy_ (K:Fgg):TS:=(tSeq (tAsg (tLst (tCons (tOp mMulX (tC (tx [42])) (tOp mSub (tOp mAdd (tC (.int 1)) (tCB (mLen K) (tCons (mFld (gA K "Counter") (mVar 0) "breaks") tNil))) (mVar 1))) tNil)) (gName 2)) (tSeq (tDrop (tBM K "list" rExtend (mVar 2) (tCons (tComp ["field"] [("self",0)] (iAny K (tSl (mSl K) (mFld (gA K "Counter") (mVar 0) "breaks") tNoPart (mPart (mVar 1)))) (gName 0) tTrue (tCall (zbN_ K) [] E0 (tCons (mFld (gA K "Counter") (mVar 1) "before") (tCons (mVar 0) tNil)))) tNil))) (tSeq (tDrop (tBM K "list" rExtend (mVar 2) (tCons (tComp ["wheel"] [] (iAny K (tOp (mIx K) (mFld (gA K "Counter") (mVar 0) "levels") (mVar 1))) (gName 0) tTrue (tMeth (gA K "Wheel") "shown" (zcR_ K) [] E0 (mVar 0) tNil)) tNil))) (tRet (tBM K "str" (mJoin K) (tC (tx [32])) (tCons (mVar 2) tNil))))))
def zgk_ (K:Fgg):TS:=(tSeq (tAsg (tOp mAdd (mFld (gA K "Wheel") (mVar 0) "kept") (mVar 1)) (gName 2)) (tSeq (mIfS (mTest (tOp mGe (mVar 2) (mFld (gA K "Wheel") (mVar 0) "power"))) (mSFld (gA K "Wheel") (mVar 0) (tC (.bl true)) "over") tNext) (mSFld (gA K "Wheel") (mVar 0) (tOp mMod (mVar 2) (mFld (gA K "Wheel") (mVar 0) "power")) "kept")))
def zeg_ (K:Fgg):TS:=(tRet (mFld (gA K "Wheel") (mVar 0) "over"))
def zcd_ (K:Fgg):TS:=(tFor (iEnumL K (tCons (mVar 2) tNil)) (gTupM K 2 (gConsM (gName 3) (gConsM (gName 4) gNilM))) (tSeq (tAsg (tOp (mIx K) (tOp (mIx K) (mFld (gA K "Counter") (mVar 0) "levels") (mVar 1)) (mVar 3)) (gName 5)) (tSeq (tDrop (tMeth (gA K "Wheel") "rise" (zdm_ K) [] E0 (mVar 5) (tCons (mVar 4) tNil))) (mIfS (mTest (tMeth (gA K "Wheel") "ran_over" (zbB_ K) [] E0 (mVar 5) tNil)) (mDPut (mFld (gA K "Counter") (mVar 0) "run_over") (mVar 3) (tC (.bl true))) tNext))))
def zfP_ (K:Fgg):TS:=(tSeq (mSFld (gA K "Wheel") (mVar 0) (tC (.int 0)) "kept") (mSFld (gA K "Wheel") (mVar 0) (tC (.bl false)) "over"))
def zfi_ (K:Fgg):TS:=(tRet (mFld (gA K "Wheel") (mVar 0) "kept"))
def zcc_ (K:Fgg):TS:=(tSeq (tAsg (tMeth (gA K "Counter") "total_line" (zaJ_ K) [] E0 (mVar 0) (tCons (mVar 1) tNil)) (gName 2)) (tSeq (mIfS (mTest (tOp mGt (mVar 1) (tC (.int 0)))) (tDrop (tMeth (gA K "Counter") "raise_level" (z3_ K) [] E0 (mVar 0) (tCons (tOp mSub (mVar 1) (tC (.int 1))) (tCons (tComp ["wheel"] [] (iAny K (tOp (mIx K) (mFld (gA K "Counter") (mVar 0) "levels") (mVar 1))) (gName 0) tTrue (tMeth (gA K "Wheel") "amount" (zcn_ K) [] E0 (mVar 0) tNil)) tNil)))) tNext) (tSeq (tFor (iAny K (tOp (mIx K) (mFld (gA K "Counter") (mVar 0) "levels") (mVar 1))) (gName 3) (tDrop (tMeth (gA K "Wheel") "reset" (zcT_ K) [] E0 (mVar 3) tNil))) (tRet (mVar 2)))))
def zbH_ (K:Fgg):TS:=(tSeq (tAsg (tLst tNil) (gName 2)) (tSeq (tFor (mRng3 (tCons (tCB (mLen K) (tCons (mFld (gA K "Counter") (mVar 0) "breaks") tNil)) (tCons (tOp mSub (mVar 1) (tC (.int 1))) (tCons (mNeg (tC (.int 1))) tNil)))) (gName 3) (tDrop (tBM K "list" rAppend (mVar 2) (tCons (tMeth (gA K "Counter") "close_level" (z7_ K) [] E0 (mVar 0) (tCons (mVar 3) tNil)) tNil)))) (tRet (mVar 2))))
def zeo_ (K:Fgg):TS:=(tSeq (mIfS (mTest (tOp mIs (mFld (gA K "Counter") (mVar 0) "before") (tC .non))) (tRet (tLst (tCons (tMeth (gA K "Counter") "close_level" (z7_ K) [] E0 (mVar 0) (tCons (tC (.int 0)) tNil)) tNil))) tNext) (tRet (tMeth (gA K "Counter") "close_levels" (z0_ K) [] E0 (mVar 0) (tCons (tC (.int 0)) tNil))))
def zgi_ (K:Fgg):TS:=(tSeq (tAsg (tLst tNil) (gName 2)) (tSeq (tAsg (tOp mAdd (tOp mMod (mVar 0) (tC (.int 2147483647))) (tC (.int 48271))) (gName 3)) (tSeq (tFor (mRng1 (tCons (mVar 1) tNil)) (gName 4) (tSeq (tAsg (tOp mMod (tOp mAdd (tOp mAdd (tOp mMulX (mVar 3) (mVar 3)) (tOp mMulX (tC (.int 48271)) (mVar 3))) (mVar 4)) (tC (.int 2147483647))) (gName 3)) (tDrop (tBM K "list" rAppend (mVar 2) (tCons (mVar 3) tNil))))) (tRet (mVar 2)))))
def zhS_ (K:Fgg):TS:=(tRet (tComp ["_law_number_here"] [] (iAny K (tCall (zaH_ K) [] E0 (tCons (mVar 0) (tCons (tC (.int 36)) tNil)))) (gName 0) tTrue (tOp mDivG (mVar 0) (tC (.int 11)))))
def zfO_ (K:Fgg):TS:=(tSeq (mIfS (mTest (tOp mLt (mVar 1) (tCB (mLen K) (tCons (mVar 0) tNil)))) (tRet (tOp (mIx K) (mVar 0) (mVar 1))) tNext) (tRet (tC (.int 0))))
def zhE_ (K:Fgg):TS:=(tSeq (tAsg (tC (.int 1)) (gName 1)) (tSeq (tFor (mRng1 (tCons (mVar 0) tNil)) (gName 2) (tAsg (tOp mMulX (tC (.int 10)) (mVar 1)) (gName 1))) (tRet (mVar 1))))
def zj0_ (K:Fgg):TS:=(tRet (tSl (mSl K) (mVar 0) (mPart (tC (.int 36))) tNoPart))
def zkk_ (K:Fgg):TS:=(tRet (tOp (mIx K) (mVar 0) (tOp mSub (mVar 1) (tC (.int 1)))))
def zka_ (K:Fgg):TS:=(tSeq (tAsg (tComp ["column"] [] (mRng1 (tCons (tC (.int 36)) tNil)) (gName 0) tTrue (tC (tx [32]))) (gName 2)) (tSeq (tFor (iAny K (mVar 1)) (gName 3) (tAsg (tCall (zfs_ K) [] E0 (tCons (mVar 0) (tCons (tOp (mIx K) (mVar 3) (tC (.int 0))) tNil))) (gSub (mVar 2) (tOp mSub (tOp (mIx K) (mVar 3) (tC (.int 1))) (tC (.int 1))) mSet))) (tRet (tBM K "str" (mJoin K) (tC (tx [])) (tCons (mVar 2) tNil)))))
def zbF_ (K:Fgg):TS:=(tSeq (tFor (iEnumL K (tCons (mFld (gA K "Counter") (mVar 0) "breaks") tNil)) (gTupM K 2 (gConsM (gName 2) (gConsM (gName 3) gNilM))) (mIfS (mTest (tOp (mNeK K) (tCall (zbN_ K) [] E0 (tCons (mVar 1) (tCons (mVar 3) tNil))) (tCall (zbN_ K) [] E0 (tCons (mFld (gA K "Counter") (mVar 0) "before") (tCons (mVar 3) tNil))))) (tRet (tOp mAdd (mVar 2) (tC (.int 1)))) tNext)) (tRet (tOp mAdd (tCB (mLen K) (tCons (mFld (gA K "Counter") (mVar 0) "breaks") tNil)) (tC (.int 1)))))
def zhK_ (K:Fgg):TS:=(tSeq (tAsg (tC (.int 0)) (gName 1)) (tSeq (tFor (iAny K (mVar 0)) (gName 2) (tAsg (tOp mAdd (tOp mMulX (mVar 1) (tC (.int 10))) (tBM K "str" mIndex (tC (tx [48,49,50,51,52,53,54,55,56,57])) (tCons (mVar 2) tNil))) (gName 1))) (tRet (mVar 1))))
def zh4_ (K:Fgg):TS:=(tSeq (tAsg (tComp ["sign"] [] (iAny K (tCall (zbN_ K) [] E0 (tCons (mVar 0) (tCons (mVar 1) tNil)))) (gName 0) tTrue (mIf (mTest (tOp (mIn K false) (mVar 0) (tC (tx [48,49,50,51,52,53,54,55,56,57])))) (mVar 0) (tC (tx [48])))) (gName 2)) (tRet (tCall (zdO_ K) [] E0 (tCons (tBM K "str" (mJoin K) (tC (tx [])) (tCons (mVar 2) tNil)) tNil))))
def ze7_ (K:Fgg):TS:=(tSeq (tAsg (tLst tNil) (gName 2)) (tSeq (mIfS (mTest (tOp mIsNot (mFld (gA K "Counter") (mVar 0) "before") (tC .non))) (tAsg (tMeth (gA K "Counter") "close_levels" (z0_ K) [] E0 (mVar 0) (tCons (tMeth (gA K "Counter") "changed_level" (zat_ K) [] E0 (mVar 0) (tCons (mVar 1) tNil)) tNil)) (gName 2)) tNext) (tSeq (tAsg (tCall (zfT_ K) [] E0 (tCons (mVar 1) tNil)) (gName 3)) (tSeq (tAsg (tCall (zfN_ K) [] E0 (tCons (mVar 1) (tCons (mFld (gA K "Counter") (mVar 0) "board") tNil))) (gName 4)) (tSeq (tDrop (tBM K "list" rAppend (mVar 2) (tCons (tJoin (tJ1 (tUn mFmt (mVar 3)) (tJ1 (tC (tx [32])) (tJ1 (tUn mFmt (mVar 4)) tJ0)))) tNil))) (tSeq (tDrop (tMeth (gA K "Counter") "raise_level" (z3_ K) [] E0 (mVar 0) (tCons (tCB (mLen K) (tCons (mFld (gA K "Counter") (mVar 0) "breaks") tNil)) (tCons (tComp ["field"] [("card",1)] (iAny K (mFld (gA K "Counter") (mVar 0) "sums")) (gName 0) tTrue (tCall (zdN_ K) [] E0 (tCons (mVar 1) (tCons (mVar 0) tNil)))) tNil)))) (tSeq (mSFld (gA K "Counter") (mVar 0) (mVar 1) "before") (tRet (mVar 2)))))))))
def zh3_ (K:Fgg):TS:=(tSeq (tAsg (tOp mAdd (tC (.int 1)) (tOp mMod (tOp mDivG (mVar 0) (tC (.int 5))) (tC (.int 36)))) (gName 2)) (tRet (tTup (tCons (mVar 2) (tCons (tCB (mTwo min) (tCons (tC (.int 36)) (tCons (tOp mAdd (mVar 2) (tOp mMod (tOp mDivG (mVar 0) (tC (.int 180))) (mVar 1))) tNil))) tNil)))))
def ziA_ (K:Fgg):TS:=(tSeq (tAsg (tC (tx SG)) (gName 3)) (tSeq (tAsg (tCall (zaH_ K) [] E0 (tCons (mVar 0) (tCons (tC (.int 36)) tNil))) (gName 4)) (tSeq (tAsg (tC (tx [])) (gName 5)) (tSeq (tFor (mRng1 (tCons (tC (.int 36)) tNil)) (gName 6) (tSeq (tAsg (tOp mDivG (tOp (mIx K) (mVar 4) (mVar 6)) (tC (.int 7))) (gName 7)) (tSeq (tAsg (tOp mDivG (tOp (mIx K) (mVar 2) (mVar 6)) (tC (.int 5))) (gName 8)) (tSeq (tAsg (tOp mAdd (mVar 8) (tOp mMod (mVar 7) (tC (.int 2)))) (gName 9)) (tSeq (tAsg (tLst (tCons (tOp mAdd (tC (.int 1)) (tOp mMod (mVar 8) (tC (.int 10)))) (tCons (tOp mAdd (tC (.int 1)) (tOp mMod (mVar 7) (tC (.int 10)))) (tCons (tOp mMod (mVar 9) (tC (.int 37))) (tCons (tOp mMod (mVar 7) (tC (.int 37))) (tCons (tOp mAdd (tC (.int 1)) (tOp mMod (mVar 9) (tC (.int 10)))) tNil)))))) (gName 10)) (tAsg (tOp mAdd (mVar 5) (tOp (mIx K) (mVar 3) (tOp (mIx K) (mVar 10) (tOp mMod (tOp (mIx K) (mVar 2) (mVar 6)) (tC (.int 5)))))) (gName 5))))))) (tSeq (tAsg (tOp mAdd (tOp mAdd (tOp (mIx K) (mVar 3) (tOp mMod (mVar 0) (tC (.int 37)))) (tOp (mIx K) (mVar 3) (tOp mMod (mVar 1) (tC (.int 37))))) (tOp (mIx K) (mVar 3) (tOp mMod (tOp (mIx K) (mVar 4) (tC (.int 0))) (tC (.int 37))))) (gName 11)) (tRet (tOp mAdd (tOp mAdd (mVar 5) (mVar 11)) (tOp (mIx K) (mVar 3) (tOp mMod (tOp mDivG (mVar 0) (tC (.int 37))) (tC (.int 37)))))))))))
def zgd_ (K:Fgg):TS:=(tFor (mRng1 (tCons (tCB (mLen K) (tCons (mVar 0) tNil)) tNil)) (gName 4) (tSeq (tAsg (tOp mAdd (tOp (mIx K) (mVar 0) (mVar 4)) (tOp (mIx K) (mVar 1) (mVar 4))) (gSub (mVar 0) (mVar 4) mSet)) (tSeq (mIfS (mTest (tOp mGe (tOp (mIx K) (mVar 0) (mVar 4)) (mVar 2))) (mDPut (mVar 3) (mVar 4) (tC (.bl true))) tNext) (tAsg (tOp mMod (tOp (mIx K) (mVar 0) (mVar 4)) (mVar 2)) (gSub (mVar 0) (mVar 4) mSet)))))
def zf7_ (K:Fgg):TS:=(tSeq (tAsg (tLst tNil) (gName 4)) (tSeq (tFor (mRng3 (tCons (tOp mSub (tCB (mLen K) (tCons (mVar 0) tNil)) (tC (.int 1))) (tCons (tOp mSub (mVar 1) (tC (.int 1))) (tCons (mNeg (tC (.int 1))) tNil)))) (gName 5) (tSeq (tDrop (tBM K "list" rAppend (mVar 4) (tCons (tCB (mListL K) (tCons (tOp (mIx K) (mVar 0) (mVar 5)) tNil)) tNil))) (tSeq (mIfS (mTest (tOp mGt (mVar 5) (tC (.int 0)))) (tDrop (tCall (zbR_ K) [] E0 (tCons (tOp (mIx K) (mVar 0) (tOp mSub (mVar 5) (tC (.int 1)))) (tCons (tOp (mIx K) (mVar 0) (mVar 5)) (tCons (mVar 2) (tCons (mVar 3) tNil)))))) tNext) (tAsg (tOp mMulX (tLst (tCons (tC (.int 0)) tNil)) (tCB (mLen K) (tCons (tOp (mIx K) (mVar 0) (mVar 5)) tNil))) (gSub (mVar 0) (mVar 5) mSet))))) (tRet (mVar 4))))
def zhN_ (K:Fgg):TS:=(tSeq (tAsg (tC (tx [])) (gName 2)) (tSeq (tFor (mRng1 (tCons (mVar 1) tNil)) (gName 3) (tSeq (tAsg (tOp mAdd (tOp (mIx K) (tC (tx [48,49,50,51,52,53,54,55,56,57])) (tOp mMod (mVar 0) (tC (.int 10)))) (mVar 2)) (gName 2)) (tAsg (tOp mDivG (mVar 0) (tC (.int 10))) (gName 0)))) (tRet (mVar 2))))
def zhB_ (K:Fgg):TS:=(tSeq (mIfS (mOr (tNot (mTest (tCB (mIsa K) (tCons (mVar 0) (tCons (tC (.ty "list")) tNil))))) (mTest (tOp mLt (tCB (mLen K) (tCons (mVar 0) tNil)) (tCB (mLen K) (tCons (mVar 1) tNil))))) (tRet (tC (.bl false))) tNext) (tSeq (tFor (iZip K (tCons (mVar 0) (tCons (mVar 1) tNil))) (gTupM K 2 (gConsM (gName 3) (gConsM (gName 4) gNilM))) (tSeq (tAsg (tC (tx [])) (gName 5)) (tSeq (tFor (iAny K (mVar 4)) (gName 6) (tAsg (tOp mAdd (tOp mAdd (mVar 5) (tC (tx [32]))) (tCall (zdS_ K) [] E0 (tCons (mVar 6) (tCons (mVar 2) tNil)))) (gName 5))) (mIfS (mOr (tNot (mTest (tCB (mIsa K) (tCons (mVar 3) (tCons (tC (.ty "str")) tNil))))) (mOr (tNot (mTest (tBM K "str" mStarts (mVar 3) (tCons (tC (tx [42])) tNil)))) (tNot (mTest (tBM K "str" mEnds (mVar 3) (tCons (mVar 5) tNil)))))) (tRet (tC (.bl false))) tNext)))) (tRet (tC (.bl true)))))
def zhV_ (K:Fgg):TS:=(tRet (mAndV (tCB (mIsa K) (tCons (mVar 0) (tCons (tC (.ty "int")) tNil))) (mNotV (tCB (mIsa K) (tCons (mVar 0) (tCons (tC (.ty "bool")) tNil))))))
def zhL_ (K:Fgg):TS:=(tSeq (mIfS (mOr (tNot (mTest (tCB (mIsa K) (tCons (mVar 0) (tCons (tC (.ty "list")) tNil))))) (mTest (tOp (mNeK K) (mVar 0) (tCB (mSortDk 64 K) (tCons (mVar 1) tNil))))) (tRet (tC (.bl false))) tNext) (tSeq (tFor (iAny K (mVar 0)) (gName 2) (mIfS (tNot (mTest (tCall (zef_ K) [] E0 (tCons (mVar 2) tNil)))) (tRet (tC (.bl false))) tNext)) (tSeq (tDrop (tBM K "list" rAppend (mVar 0) (tCons (tC (.int 99)) tNil))) (tRet (tC (.bl true))))))
def zeq_ (K:Fgg):TS:=(tRet (tCB (mSortDk 64 K) (tCons (mFld (gA K "Counter") (mVar 0) "run_over") tNil)))
def ziN_ (K:Fgg):TS:=(tRet (tSl (mSl K) (mVar 0) (mPart (tOp mSub (tOp (mIx K) (mVar 1) (tC (.int 0))) (tC (.int 1)))) (mPart (tOp (mIx K) (mVar 1) (tC (.int 1))))))
def zgf_ (K:Fgg):TS:=(tSeq (tFor (mRng1 (tCons (tCB (mLen K) (tCons (mVar 2) tNil)) tNil)) (gName 3) (mIfS (mTest (tOp (mNeK K) (tCall (zc9_ K) [] E0 (tCons (mVar 0) (tCons (tOp (mIx K) (mVar 2) (mVar 3)) tNil))) (tCall (zc9_ K) [] E0 (tCons (mVar 1) (tCons (tOp (mIx K) (mVar 2) (mVar 3)) tNil))))) (tRet (tOp mAdd (mVar 3) (tC (.int 1)))) tNext)) (tRet (tOp mAdd (tCB (mLen K) (tCons (mVar 2) tNil)) (tC (.int 1)))))
def zf5_ (K:Fgg):TS:=(tSeq (tAsg (tC (.int 0)) (gName 2)) (tSeq (tFor (iAny K (tSl (mSl K) (mVar 0) (mPart (tOp mSub (tOp (mIx K) (mVar 1) (tC (.int 0))) (tC (.int 1)))) (mPart (tOp (mIx K) (mVar 1) (tC (.int 1)))))) (gName 3) (tAsg (tOp mAdd (tOp mMulX (tC (.int 10)) (mVar 2)) (tCB (mTwo max) (tCons (tC (.int 0)) (tCons (tBM K "str" mFind (tC (tx [48,49,50,51,52,53,54,55,56,57])) (tCons (mVar 3) tNil)) tNil)))) (gName 2))) (tRet (mVar 2))))
def t_law (K:Fgg):TS:=(tSeq (tAsg (tCall (zea_ K) [] E0 (tCons (tCall (zaa_ K) [] E0 (tCons (mVar 0) (tCons (tC (.int 0)) tNil))) tNil)) (gName 1)) (tSeq (tAsg (tOp mMod (tCall (zaa_ K) [] E0 (tCons (mVar 0) (tCons (tC (.int 1)) tNil))) (tC (.int 4))) (gName 2)) (tSeq (tAsg (tComp ["_law_number_here"] [] (iAny K (tCall (zaH_ K) [] E0 (tCons (tCall (zaa_ K) [] E0 (tCons (mVar 0) (tCons (tC (.int 1)) tNil))) (tCons (mVar 2) tNil)))) (gName 0) tTrue (tCall (zcC_ K) [] E0 (tCons (mVar 0) (tCons (tC (.int 2)) tNil)))) (gName 3)) (tSeq (tAsg (tCall (zaa_ K) [] E0 (tCons (mVar 0) (tCons (tC (.int 2)) tNil))) (gName 4)) (tSeq (tAsg (tOp (mIx K) (tLst (tCons (tC (.int 12)) (tCons (tC (.int 12)) (tCons (tC (.int 36)) tNil)))) (tOp mMod (tOp mDivG (mVar 4) (tC (.int 4))) (tC (.int 3)))) (gName 5)) (tSeq (tAsg (tComp ["_law_number_here"] [("_law_most",5)] (iAny K (tCall (zaH_ K) [] E0 (tCons (mVar 4) (tCons (tOp mAdd (tC (.int 1)) (tOp mMod (mVar 4) (tC (.int 4)))) tNil)))) (gName 0) tTrue (tCall (zcC_ K) [] E0 (tCons (mVar 0) (tCons (mVar 1) tNil)))) (gName 6)) (tSeq (tAsg (tOp mAdd (tC (.int 1)) (tOp mMod (tCall (zaa_ K) [] E0 (tCons (mVar 0) (tCons (tC (.int 3)) tNil))) (tC (.int 5)))) (gName 7)) (tSeq (tAsg (tCall (zdW_ K) [] E0 (tCons (mVar 7) tNil)) (gName 8)) (tSeq (tAsg (tMake (gA K "Counter") (za4_ K) [] E0 (tCons (mVar 3) (tCons (mVar 6) (tCons (mVar 7) (tCons (tLst tNil) tNil))))) (gName 9)) (tSeq (tAsg (tComp ["_law_k"] [("_law_sums",6)] (mRng1 (tCons (tOp mAdd (mVar 2) (tC (.int 1))) tNil)) (gName 0) tTrue (tOp mMulX (tLst (tCons (tC (.int 0)) tNil)) (tCB (mLen K) (tCons (mVar 1) tNil)))) (gName 10)) (tSeq (tAsg tDNewK (gName 11)) (tSeq (tAsg (tComp ["_law_k", "_law_one"] [("_law_kinds_here",1)] (iEnumL K (tCons (tSl (mSl K) (mVar 0) (mPart (tC (.int 4))) (mPart (tC (.int 64)))) tNil)) (gTupM K 2 (gConsM (gName 0) (gConsM (gName 1) gNilM))) tTrue (tCall (zeH_ K) [] E0 (tCons (mVar 1) (tCons (mVar 0) (tCons (mVar 2) tNil))))) (gName 12)) (tSeq (tFor (mRng1 (tCons (tCB (mLen K) (tCons (mVar 12) tNil)) tNil)) (gName 13) (tSeq (tAsg (tLst tNil) (gName 14)) (tSeq (mIfS (mTest (tOp mGt (mVar 13) (tC (.int 0)))) (tAsg (tCall (zb2_ K) [] E0 (tCons (mVar 10) (tCons (tCall (zds_ K) [] E0 (tCons (tOp (mIx K) (mVar 12) (tOp mSub (mVar 13) (tC (.int 1)))) (tCons (tOp (mIx K) (mVar 12) (mVar 13)) (tCons (mVar 3) tNil)))) (tCons (mVar 8) (tCons (mVar 11) tNil))))) (gName 14)) tNext) (tSeq (tDrop (tCall (zbR_ K) [] E0 (tCons (tOp (mIx K) (mVar 10) (mVar 2)) (tCons (tComp ["_law_field_here"] [("_law_cards",12),("_law_k",13)] (iAny K (mVar 6)) (gName 0) tTrue (tCall (zdr_ K) [] E0 (tCons (tOp (mIx K) (mVar 1) (mVar 2)) (tCons (mVar 0) tNil)))) (tCons (mVar 8) (tCons (mVar 11) tNil)))))) (tSeq (tAsg (tMeth (gA K "Counter") "feed" (zcg_ K) [] E0 (mVar 9) (tCons (tOp (mIx K) (mVar 12) (mVar 13)) tNil)) (gName 15)) (tSeq (mIfS (mOr (tNot (mTest (tCall (zcq_ K) [] E0 (tCons (mVar 15) (tCons (mVar 14) (tCons (mVar 7) tNil)))))) (mTest (tOp (mNeK K) (tCB (mLen K) (tCons (mVar 15) tNil)) (tOp mAdd (tCB (mLen K) (tCons (mVar 14) tNil)) (tC (.int 1)))))) (tRet (tC (.bl false))) tNext) (mIfS (tNot (mTest (tCall (zcz_ K) [] E0 (tCons (tMeth (gA K "Counter") "overs" (zaW_ K) [] E0 (mVar 9) tNil) (tCons (mVar 11) tNil))))) (tRet (tC (.bl false))) tNext))))))) (tSeq (tAsg (tLst (tCons (tOp mMulX (tLst (tCons (tC (.int 0)) tNil)) (tCB (mLen K) (tCons (mVar 6) tNil))) tNil)) (gName 14)) (tSeq (mIfS (mTest (tOp (mNeK K) (mVar 12) (tLst tNil))) (tAsg (tCall (zb2_ K) [] E0 (tCons (mVar 10) (tCons (tC (.int 0)) (tCons (mVar 8) (tCons (mVar 11) tNil))))) (gName 14)) tNext) (tSeq (tAsg (tMeth (gA K "Counter") "finish" (zbz_ K) [] E0 (mVar 9) tNil) (gName 15)) (tRet (mAndV (tCall (zcq_ K) [] E0 (tCons (mVar 15) (tCons (mVar 14) (tCons (mVar 7) tNil)))) (mAndV (tOp (mEqK K) (tCB (mLen K) (tCons (mVar 15) tNil)) (tCB (mLen K) (tCons (mVar 14) tNil))) (tCall (zcz_ K) [] E0 (tCons (tMeth (gA K "Counter") "overs" (zaW_ K) [] E0 (mVar 9) tNil) (tCons (mVar 11) tNil))))))))))))))))))))))
abbrev zi8_ (P:Program) (w:World) (K:Fgg) (mg:Str→Option Value) (base:Heap):Prop:=Gd P w K mg base CX0 1 "ten_to" ["power"] (zhv_ K)
abbrev zbI_ (P:Program) (w:World) (K:Fgg) (mg:Str→Option Value) (base:Heap):Prop:=Gk P w K mg base CX0 2 "Wheel" (gA K "Wheel") ["self", "figures"] (zby_ K)
abbrev zbk_ (P:Program) (w:World) (K:Fgg) (mg:Str→Option Value) (base:Heap):Prop:=Gk P w K mg base CX0 4 "Counter" (gA K "Counter") ["self", "breaks", "sums", "figures", "board"] (za4_ K)
abbrev zdi_ (P:Program) (w:World) (K:Fgg) (mg:Str→Option Value) (base:Heap):Prop:=Gm P w K mg base CX0 1 (gA K "Wheel") "shown" ["self"] (zcR_ K)
abbrev zdz_ (P:Program) (w:World) (K:Fgg) (mg:Str→Option Value) (base:Heap):Prop:=Gd P w K mg base CX0 1 "part_of" ["card", "field"] (zbN_ K)
abbrev zaR_ (P:Program) (w:World) (K:Fgg) (mg:Str→Option Value) (base:Heap):Prop:=Gm P w K mg base CX0 2 (gA K "Counter") "total_line" ["self", "level"] (zaJ_ K)
abbrev zd7_ (P:Program) (w:World) (K:Fgg) (mg:Str→Option Value) (base:Heap):Prop:=Gm P w K mg base CX0 1 (gA K "Wheel") "rise" ["self", "value"] (zdm_ K)
abbrev zbQ_ (P:Program) (w:World) (K:Fgg) (mg:Str→Option Value) (base:Heap):Prop:=Gm P w K mg base CX0 1 (gA K "Wheel") "ran_over" ["self"] (zbB_ K)
abbrev zaf_ (P:Program) (w:World) (K:Fgg) (mg:Str→Option Value) (base:Heap):Prop:=Gm P w K mg base CX0 2 (gA K "Counter") "raise_level" ["self", "level", "numbers"] (z3_ K)
abbrev zdo_ (P:Program) (w:World) (K:Fgg) (mg:Str→Option Value) (base:Heap):Prop:=Gm P w K mg base CX0 1 (gA K "Wheel") "reset" ["self"] (zcT_ K)
abbrev zcH_ (P:Program) (w:World) (K:Fgg) (mg:Str→Option Value) (base:Heap):Prop:=Gm P w K mg base CX0 1 (gA K "Wheel") "amount" ["self"] (zcn_ K)
abbrev zah_ (P:Program) (w:World) (K:Fgg) (mg:Str→Option Value) (base:Heap):Prop:=Gm P w K mg base CX0 3 (gA K "Counter") "close_level" ["self", "level"] (z7_ K)
abbrev z1_ (P:Program) (w:World) (K:Fgg) (mg:Str→Option Value) (base:Heap):Prop:=Gm P w K mg base CX0 4 (gA K "Counter") "close_levels" ["self", "outermost"] (z0_ K)
abbrev zbZ_ (P:Program) (w:World) (K:Fgg) (mg:Str→Option Value) (base:Heap):Prop:=Gm P w K mg base CX0 5 (gA K "Counter") "finish" ["self"] (zbz_ K)
abbrev zbv_ (P:Program) (w:World) (K:Fgg) (mg:Str→Option Value) (base:Heap):Prop:=Gd P w K mg base CX0 1 "_law_stream" ["_law_cell", "_law_many"] (zaH_ K)
abbrev zeO_ (P:Program) (w:World) (K:Fgg) (mg:Str→Option Value) (base:Heap):Prop:=Gd P w K mg base CX0 2 "_law_kinds" ["_law_cell"] (zea_ K)
abbrev zdk_ (P:Program) (w:World) (K:Fgg) (mg:Str→Option Value) (base:Heap):Prop:=Gd P w K mg base CX0 1 "_law_cell_at" ["_law_script", "_law_k"] (zaa_ K)
abbrev zeE_ (P:Program) (w:World) (K:Fgg) (mg:Str→Option Value) (base:Heap):Prop:=Gd P w K mg base CX0 1 "_law_power" ["_law_many"] (zdW_ K)
abbrev zg4_ (P:Program) (w:World) (K:Fgg) (mg:Str→Option Value) (base:Heap):Prop:=Gd P w K mg base CX0 1 "mark_of" ["card"] (zfT_ K)
abbrev zhc_ (P:Program) (w:World) (K:Fgg) (mg:Str→Option Value) (base:Heap):Prop:=Gd P w K mg base CX0 1 "sign_at" ["card", "column"] (zfs_ K)
abbrev zg2_ (P:Program) (w:World) (K:Fgg) (mg:Str→Option Value) (base:Heap):Prop:=Gd P w K mg base CX0 2 "lay_out" ["card", "board"] (zfN_ K)
abbrev zaz_ (P:Program) (w:World) (K:Fgg) (mg:Str→Option Value) (base:Heap):Prop:=Gm P w K mg base CX0 2 (gA K "Counter") "changed_level" ["self", "card"] (zat_ K)
abbrev zeS_ (P:Program) (w:World) (K:Fgg) (mg:Str→Option Value) (base:Heap):Prop:=Gd P w K mg base CX0 1 "number_by" ["figures"] (zdO_ K)
abbrev zeM_ (P:Program) (w:World) (K:Fgg) (mg:Str→Option Value) (base:Heap):Prop:=Gd P w K mg base CX0 2 "number_of" ["card", "field"] (zdN_ K)
abbrev zcG_ (P:Program) (w:World) (K:Fgg) (mg:Str→Option Value) (base:Heap):Prop:=Gm P w K mg base CX0 5 (gA K "Counter") "feed" ["self", "card"] (zcg_ K)
abbrev zeI_ (P:Program) (w:World) (K:Fgg) (mg:Str→Option Value) (base:Heap):Prop:=Gd P w K mg base CX0 1 "_law_field" ["_law_number_here", "_law_most"] (zcC_ K)
abbrev zfX_ (P:Program) (w:World) (K:Fgg) (mg:Str→Option Value) (base:Heap):Prop:=Gd P w K mg base CX0 2 "_law_card" ["_law_cell", "_law_k", "_law_kinds_here"] (zeH_ K)
abbrev zcp_ (P:Program) (w:World) (K:Fgg) (mg:Str→Option Value) (base:Heap):Prop:=Gd P w K mg base CX0 1 "_law_raised" ["_law_row", "_law_values", "_law_full", "_law_over"] (zbR_ K)
abbrev zd2_ (P:Program) (w:World) (K:Fgg) (mg:Str→Option Value) (base:Heap):Prop:=Gd P w K mg base CX0 2 "_law_closed" ["_law_wheels", "_law_level", "_law_full", "_law_over"] (zb2_ K)
abbrev zeD_ (P:Program) (w:World) (K:Fgg) (mg:Str→Option Value) (base:Heap):Prop:=Gd P w K mg base CX0 1 "_law_shown" ["_law_number_here", "_law_figures"] (zdS_ K)
abbrev zeT_ (P:Program) (w:World) (K:Fgg) (mg:Str→Option Value) (base:Heap):Prop:=Gd P w K mg base CX0 2 "_law_tails" ["_law_lines", "_law_shown_here", "_law_figures"] (zcq_ K)
abbrev zeN_ (P:Program) (w:World) (K:Fgg) (mg:Str→Option Value) (base:Heap):Prop:=Gd P w K mg base CX0 1 "_law_whole" ["_law_found"] (zef_ K)
abbrev zeG_ (P:Program) (w:World) (K:Fgg) (mg:Str→Option Value) (base:Heap):Prop:=Gd P w K mg base CX0 2 "_law_overs" ["_law_found", "_law_over"] (zcz_ K)
abbrev zco_ (P:Program) (w:World) (K:Fgg) (mg:Str→Option Value) (base:Heap):Prop:=Gm P w K mg base CX0 1 (gA K "Counter") "overs" ["self"] (zaW_ K)
abbrev zfq_ (P:Program) (w:World) (K:Fgg) (mg:Str→Option Value) (base:Heap):Prop:=Gd P w K mg base CX0 1 "_law_part" ["_law_card_here", "_law_field_here"] (zc9_ K)
abbrev zd1_ (P:Program) (w:World) (K:Fgg) (mg:Str→Option Value) (base:Heap):Prop:=Gd P w K mg base CX0 2 "_law_broken" ["_law_card_here", "_law_other", "_law_breaks"] (zds_ K)
abbrev zd5_ (P:Program) (w:World) (K:Fgg) (mg:Str→Option Value) (base:Heap):Prop:=Gd P w K mg base CX0 1 "_law_number" ["_law_card_here", "_law_field_here"] (zdr_ K)
end K35
namespace K35
open PySem PySem.Spec PyProof.Rows L2
open Mo renaming bind→Mb,ok→Mq
open Sl renaming fz→Zf,dead→Zd,ow→Zo
structure Ek (K:Fgg):Prop where
 w0:Fc K "Wheel"
 w1:Fc K "Counter"
 a0:Fa K "Wheel" "figures"
 a1:Fa K "Wheel" "power"
 a2:Fa K "Wheel" "kept"
 a3:Fa K "Wheel" "over"
 a4:Fa K "Counter" "breaks"
 a5:Fa K "Counter" "sums"
 a6:Fa K "Counter" "board"
 a7:Fa K "Counter" "levels"
 a8:Fa K "Counter" "before"
 a9:Fa K "Counter" "run_over"
 f0:Fg K "ten_to" zmN_
 f1:Fm K "Wheel" "__init__" "Wheel.__init__" zeh_
 f2:Fm K "Counter" "__init__" "Counter.__init__" zc8_
 f3:Fm K "Wheel" "shown" "Wheel.shown" zfv_
 f4:Fg K "part_of" zkg_
 f5:Fm K "Counter" "total_line" "Counter.total_line" zcr_
 f6:Fm K "Wheel" "rise" "Wheel.rise" zgb_
 f7:Fm K "Wheel" "ran_over" "Wheel.ran_over" zeb_
 f8:Fm K "Counter" "raise_level" "Counter.raise_level" zcf_
 f9:Fm K "Wheel" "reset" "Wheel.reset" zfF_
 f10:Fm K "Wheel" "amount" "Wheel.amount" zfa_
 f11:Fm K "Counter" "close_level" "Counter.close_level" zce_
 f12:Fm K "Counter" "close_levels" "Counter.close_levels" zbK_
 f13:Fm K "Counter" "finish" "Counter.finish" zej_
 f14:Fg K "_law_stream" zgl_
 f15:Fg K "_law_kinds" zhR_
 f16:Fg K "_law_cell_at" zfM_
 f17:Fg K "_law_power" zhF_
 f18:Fg K "mark_of" zkP_
 f19:Fg K "sign_at" zkE_
 f20:Fg K "lay_out" zkT_
 f21:Fm K "Counter" "changed_level" "Counter.changed_level" zbE_
 f22:Fg K "number_by" zhX_
 f23:Fg K "number_of" zhQ_
 f24:Fm K "Counter" "feed" "Counter.feed" zfe_
 f25:Fg K "_law_field" zhT_
 f26:Fg K "_law_card" zjV_
 f27:Fg K "_law_raised" zgy_
 f28:Fg K "_law_closed" zgu_
 f29:Fg K "_law_shown" zh7_
 f30:Fg K "_law_tails" zia_
 f31:Fg K "_law_whole" zhC_
 f32:Fg K "_law_overs" zhP_
 f33:Fm K "Counter" "overs" "Counter.overs" zev_
 f34:Fg K "_law_part" ziu_
 f35:Fg K "_law_broken" zgH_
 f36:Fg K "_law_number" zgp_
 f37:Fg K "law" zpe_
 c0:Fv K "BODY_WIDTH" (.int 36)
 c1:Fv K "FIGURES" (tx [48,49,50,51,52,53,54,55,56,57])
 b0:Fb K "range"
 b1:Fb K "list"
 b2:Fb K "len"
 b3:Fb K "str"
 b4:Fb K "enumerate"
 b5:Fb K "min"
 b6:Fb K "isinstance"
 b7:Fb K "zip"
 b8:Fb K "int"
 b9:Fb K "bool"
 b10:Fb K "sorted"
 b11:Fb K "max"
structure En (K:Fgg) (mg:Str→Option Value):Prop extends Ek K where
 m:Mgo K mg
section
variable {K:Fgg}{mg:Str→Option Value}
end
section
variable {P:Program}{w:World}{K:Fgg}{mg:Str→Option Value}{base:Heap}
theorem zkZ_ (e:En K mg):zi8_ P w K mg base :=
 zep_ e.m e.f0 (okC (N:=["power", "value", "step"]) (C:=(csLast tyInt)) (O:=(owF tyInt)) (t:=fun E=>zmD_ K) (g:=fun c=>zf3_ c) 1 2 zt_ (fun _ _ _ _ _ _ E nd hr=>(ze_ (pst 1 zj_) (ze_ (zbr_ PassesOwn.never rfl (zaT_ (e.m.gb e.b0) (zb_ (za_ 0) zg_)) (pgn 2) (zh_ (pst 1 (zR_ zcl_ (za_ 1) zj_)))) (zh_ (zP_ (za_ 1)))))) fun c E=>at_ [(Zf tyInt c),Zd,Zd]
 (zch_ (i:=1) rfl zc_ (zl_ 1) fun v1''=>(at_ [(Zf tyInt c),(Zf tyInt v1''),Zd] (zcj_ (LS:=(fun s_2:Int=>[(Zf tyInt c),(Zf tyInt s_2),Zd])) (zbi_ (L':=[(Zf tyInt c),(Zf tyInt v1''),Zd]) (.same (.same (.same .nil))) (zhz_ (LS:=(fun s_2:Int=>[(Zf tyInt c),(Zf tyInt s_2),Zd])) (s0:=v1'') (zck_ (zf_ (zd_ 0 rfl))) (zI_ 2) fun s_2 x_4=>at_ [(Zf tyInt c),(Zf tyInt s_2),(Zf tyInt x_4)] (zcX_ (zch_ (i:=1) rfl zc_ (zy_ zdb_ (zd_ 1 rfl) (zl_ 10)) fun u5'=>(at_ [(Zf tyInt c),(Zf tyInt u5'),(Zf tyInt x_4)] (zw_ (.same (.same (.dead .nil))))))))) fun s_2=>(at_ [(Zf tyInt c),(Zf tyInt s_2),Zd] (zcm_ (zm_ zc_) (EvF.ow (zd_ 1 rfl))))))))
theorem zdv_ (e:En K mg) (g0:zi8_ P w K mg base):zbI_ P w K mg base :=
 gk_of e.m e.w0 e.f1 (okU (N:=["self", "figures"]) (O:=(owI (gA K "Wheel") [] psNil)) (O2:=(Qq3 K)) (C:=(csLast tyInt)) (t:=fun E=>zd0_ K) (g:=fun x c=>zaV_ x c) (LS:=fun w_=>(fun x':Qq6=>[(Zo (owAt w_ (Qq3 K)) x'),Zd])) 1 0 zt_ (fun _ _ _ _ _ _ E nd hr=>(ze_ (zaQ_ e.w0.cls e.a0.no (za_ 0) (za_ 1)) (ze_ (zaQ_ e.w0.cls e.a1.no (za_ 0) (zr_ g0 (hm hr) (zb_ (za_ 1) zg_))) (ze_ (zaQ_ e.w0.cls e.a2.no (za_ 0) zj_) (zh_ (zaQ_ e.w0.cls e.a3.no (za_ 0) zh6_)))))) fun w_ x c E=>at_ [(Zo (owAt w_ (owI (gA K "Wheel") [] psNil)) x),(Zf tyInt c)]
 (zfy_ (P:=psNil) (P':=(psO (owF tyInt) psNil)) (ad:=fun c z=>(z,())) (ns:=[]) (i:=0) rfl (by decide +kernel) (by decide) zeu_ zc_ (zd_ 1 rfl) fun x_2=>(at_ [(Zo (owAt w_ (owI (gA K "Wheel") ["figures"] (psO (owF tyInt) psNil))) x_2),(Zf tyInt c)] (zfy_ (P:=(psO (owF tyInt) psNil)) (P':=(psO (owF tyInt) (psO (owF tyInt) psNil))) (ad:=fun c z=>(c.1,(z,()))) (ns:=["figures"]) (i:=0) rfl (by decide +kernel) (by decide) (zba_ zeu_) zc_ (zv_ (zf_ (zd_ 1 rfl))) fun x_4=>(at_ [(Zo (owAt w_ (owI (gA K "Wheel") ["figures", "power"] (psO (owF tyInt) (psO (owF tyInt) psNil)))) x_4),(Zf tyInt c)] (zfy_ (P:=(psO (owF tyInt) (psO (owF tyInt) psNil))) (P':=(psO (owF tyInt) (psO (owF tyInt) (psO (owF tyInt) psNil)))) (ad:=fun c z=>(c.1,(c.2.1,(z,())))) (ns:=["figures", "power"]) (i:=0) rfl (by decide +kernel) (by decide) (zba_ (zba_ zeu_)) zc_ (zl_ 0) fun z6=>(at_ [(Zo (owAt w_ (owI (gA K "Wheel") ["figures", "power", "kept"] (psO (owF tyInt) (psO (owF tyInt) (psO (owF tyInt) psNil))))) z6),(Zf tyInt c)] (zcX_ (zfy_ (P:=(psO (owF tyInt) (psO (owF tyInt) (psO (owF tyInt) psNil)))) (P':=(psO (owF tyInt) (psO (owF tyInt) (psO (owF tyInt) (psO (owF tyBl) psNil))))) (ad:=fun c z=>(c.1,(c.2.1,(c.2.2.1,(z,()))))) (ns:=["figures", "power", "kept"]) (i:=0) rfl (by decide +kernel) (by decide) (zba_ (zba_ (zba_ zeu_))) zO_ (zh8_ false) fun x8=>(at_ [(Zo (owAt w_ (Qq3 K)) x8),(Zf tyInt c)] (zw_ (.same (.dead .nil)))))))))))))
theorem zcM_ (e:En K mg) (g1:zbI_ P w K mg base):zbk_ P w K mg base :=
 gk_of e.m e.w1 e.f2 (okU (N:=["self", "breaks", "sums", "figures", "board"]) (O:=(owI (gA K "Counter") [] psNil)) (O2:=(Qq0 K)) (C:=(csCons (tyL Qq2) (csCons (tyL Qq2) (csCons tyInt (csLast (tyL Qq2)))))) (t:=fun E=>zdc_ K) (g:=fun x c=>zaC_ x c.1 c.2.1 c.2.2.1 c.2.2.2) (LS:=fun w_=>(fun x':Qq1=>[(Zo (owAt w_ (Qq0 K)) x'),Zd,Zd,Zd,Zd])) 4 0 (zC_ (zC_ (zC_ zt_))) (fun _ _ _ _ _ _ E nd hr=>(ze_ (zaQ_ e.w1.cls e.a4.no (za_ 0) (zoK_ "list" zcQ_ (e.m.gb e.b1) (zb_ (za_ 1) zg_))) (ze_ (zaQ_ e.w1.cls e.a5.no (za_ 0) (zoK_ "list" zcQ_ (e.m.gb e.b1) (zb_ (za_ 2) zg_))) (ze_ (zaQ_ e.w1.cls e.a6.no (za_ 0) (zoK_ "list" zcQ_ (e.m.gb e.b1) (zb_ (za_ 4) zg_))) (ze_ (zaQ_ e.w1.cls e.a7.no (za_ 0) (zci_ (cl:=_) (lv:=["level"]) (fr:=[("figures",3),("sums",2)]) rfl (csm rfl (frc (frc fr0))) (zaT_ (e.m.gb e.b0) (zb_ (zR_ zK_ (zcO_ zE_ (e.m.gb e.b2) (zb_ (za_ 1) zg_)) zj_) zg_)) (fun _ _ _ _=>(pgc 0)) (fun _ _ _ _=>za3_) (fun _ _ _ _=>(zci_ (cl:=_) (lv:=["field"]) (fr:=[("figures",1)]) rfl (csm rfl (frc fr0)) (zca_ (za_ 2)) (fun _ _ _ _=>(pgc 0)) (fun _ _ _ _=>za3_) (fun _ _ _ _=>(ziK_ g1 (hm hr) (zb_ (za_ 1) zg_))))))) (ze_ (zaQ_ e.w1.cls e.a8.no (za_ 0) zlM_) (zh_ (zaQ_ e.w1.cls e.a9.no (za_ 0) ziz_)))))))) fun w_ x c E=>at_ [(Zo (owAt w_ (owI (gA K "Counter") [] psNil)) x),(Zf (tyL Qq2) c.1),(Zf (tyL Qq2) c.2.1),(Zf tyInt c.2.2.1),(Zf (tyL Qq2) c.2.2.2)]
 (zfx_ (P:=psNil) (P':=(psO (owL Qq2) psNil)) (ad:=fun c z=>(z,())) (ns:=[]) (O1:=(owL Qq2)) (i:=0) rfl (by decide +kernel) (by decide) zeu_ (zA_ (zF_ (zq_ zc_ (zn_ zc_)))) (zhI_ zeX_ (zf_ (zd_ 1 rfl))) fun x_2=>(at_ [(Zo (owAt w_ (owI (gA K "Counter") ["breaks"] (psO (owL Qq2) psNil))) x_2),(Zf (tyL Qq2) c.1),(Zf (tyL Qq2) c.2.1),(Zf tyInt c.2.2.1),(Zf (tyL Qq2) c.2.2.2)] (zfx_ (P:=(psO (owL Qq2) psNil)) (P':=(psO (owL Qq2) (psO (owL Qq2) psNil))) (ad:=fun c z=>(c.1,(z,()))) (ns:=["breaks"]) (O1:=(owL Qq2)) (i:=0) rfl (by decide +kernel) (by decide) (zba_ zeu_) (zA_ (zF_ (zq_ zc_ (zn_ zc_)))) (zhI_ zeX_ (zf_ (zd_ 2 rfl))) fun x_4=>(at_ [(Zo (owAt w_ (owI (gA K "Counter") ["breaks", "sums"] (psO (owL Qq2) (psO (owL Qq2) psNil)))) x_4),(Zf (tyL Qq2) c.1),(Zf (tyL Qq2) c.2.1),(Zf tyInt c.2.2.1),(Zf (tyL Qq2) c.2.2.2)] (zfx_ (P:=(psO (owL Qq2) (psO (owL Qq2) psNil))) (P':=(psO (owL Qq2) (psO (owL Qq2) (psO (owL Qq2) psNil)))) (ad:=fun c z=>(c.1,(c.2.1,(z,())))) (ns:=["breaks", "sums"]) (O1:=(owL Qq2)) (i:=0) rfl (by decide +kernel) (by decide) (zba_ (zba_ zeu_)) (zA_ (zF_ (zq_ zc_ (zn_ zc_)))) (zhI_ zeX_ (zf_ (zd_ 4 rfl))) fun z6=>(at_ [(Zo (owAt w_ (owI (gA K "Counter") ["breaks", "sums", "board"] (psO (owL Qq2) (psO (owL Qq2) (psO (owL Qq2) psNil))))) z6),(Zf (tyL Qq2) c.1),(Zf (tyL Qq2) c.2.1),(Zf tyInt c.2.2.1),(Zf (tyL Qq2) c.2.2.2)] (zfx_ (P:=(psO (owL Qq2) (psO (owL Qq2) (psO (owL Qq2) psNil)))) (P':=(psO (owL Qq2) (psO (owL Qq2) (psO (owL Qq2) (psO (owLO (owLO (Qq3 K))) psNil))))) (ad:=fun c z=>(c.1,(c.2.1,(c.2.2.1,(z,()))))) (ns:=["breaks", "sums", "board"]) (O1:=(owLO (owLO (Qq3 K)))) (i:=0) rfl (by decide +kernel) (by decide) (zba_ (zba_ (zba_ zeu_))) (z2_ (z2_ (zbc_ (zk_ (zm_ zc_) (zk_ (zm_ zc_) (zk_ (zm_ zc_) (zk_ (zm_ zO_) zN_))))))) (zfh_ (zck_ (zf_ (zy_ z5_ (zd4_ zas_ (zf_ (zd_ 1 rfl))) (zl_ 1)))) (zI_ 0) (fun _=>dead1) (fun x17=>za1_) (fun x17=>(zfh_ (ei_l (zd_ 2 rfl)) (zI_ 0) (fun _=>dead1) (fun x18=>za1_) (fun x18=>(zlc_ (zf_ (zd_ 1 rfl))))))) fun x8=>(at_ [(Zo (owAt w_ (owI (gA K "Counter") ["breaks", "sums", "board", "levels"] (psO (owL Qq2) (psO (owL Qq2) (psO (owL Qq2) (psO (owLO (owLO (Qq3 K))) psNil)))))) x8),(Zf (tyL Qq2) c.1),(Zf (tyL Qq2) c.2.1),(Zf tyInt c.2.2.1),(Zf (tyL Qq2) c.2.2.2)] (zfy_ (P:=(psO (owL Qq2) (psO (owL Qq2) (psO (owL Qq2) (psO (owLO (owLO (Qq3 K))) psNil))))) (P':=(psO (owL Qq2) (psO (owL Qq2) (psO (owL Qq2) (psO (owLO (owLO (Qq3 K))) (psO (owF (tyOpt tyStr)) psNil)))))) (ad:=fun c z=>(c.1,(c.2.1,(c.2.2.1,(c.2.2.2.1,(z,())))))) (ns:=["breaks", "sums", "board", "levels"]) (i:=0) rfl (by decide +kernel) (by decide) (zba_ (zba_ (zba_ (zba_ zeu_)))) (zbW_ zs_) zog_ fun x10=>(at_ [(Zo (owAt w_ (owI (gA K "Counter") ["breaks", "sums", "board", "levels", "before"] (psO (owL Qq2) (psO (owL Qq2) (psO (owL Qq2) (psO (owLO (owLO (Qq3 K))) (psO (owF (tyOpt tyStr)) psNil))))))) x10),(Zf (tyL Qq2) c.1),(Zf (tyL Qq2) c.2.1),(Zf tyInt c.2.2.1),(Zf (tyL Qq2) c.2.2.2)] (zcX_ (zfx_ (P:=(psO (owL Qq2) (psO (owL Qq2) (psO (owL Qq2) (psO (owLO (owLO (Qq3 K))) (psO (owF (tyOpt tyStr)) psNil)))))) (P':=(Qq5 K)) (ad:=fun c z=>(c.1,(c.2.1,(c.2.2.1,(c.2.2.2.1,(c.2.2.2.2.1,(z,()))))))) (ns:=["breaks", "sums", "board", "levels", "before"]) (O1:=(owD kInt tyBl)) (i:=0) rfl (by decide +kernel) (by decide) (zba_ (zba_ (zba_ (zba_ (zba_ zeu_))))) (zcB_ zO_) (zlq_ kInt tyBl) fun x12=>(at_ [(Zo (owAt w_ (Qq0 K)) x12),(Zf (tyL Qq2) c.1),(Zf (tyL Qq2) c.2.1),(Zf tyInt c.2.2.1),(Zf (tyL Qq2) c.2.2.2)] (zw_ (.same (.dead (.dead (.dead (.dead .nil))))))))))))))))))))
theorem zfj_ (e:En K mg):zdi_ P w K mg base :=
 zhO_ e.w0 e.f3 (okC (N:=["self"]) (C:=(csLast (Qq7 K))) (O:=(owF tyStr)) (t:=fun E=>zft_ K) (g:=fun c=>zbT_ c) 1 0 zt_ (fun _ _ _ _ _ _ E nd hr=>(zh_ (zP_ (zlm_ zgJ_ zgF_ zmz_ (zoK_ "str" zkd_ (e.m.gb e.b3) (zb_ (zX_ e.w0.cls e.a2.no (za_ 0)) zg_)) (zb_ (zX_ e.w0.cls e.a0.no (za_ 0)) zg_))))) fun c E=>at_ [(Zf (Qq7 K) c)]
 (zcm_ (zm_ zs_) (EvF.ow (zls_ zmZ_ (zd4_ zpw_ (zf_ (za0_ (ns:=Qn1) (by decide +kernel) (n:=2) rfl (at_s (at_s at_0)) (zd_ 0 rfl)))) (zf_ (za0_ (ns:=Qn1) (by decide +kernel) (n:=0) rfl at_0 (zd_ 0 rfl)))))))
theorem zje_ (e:En K mg):zdz_ P w K mg base :=
 zep_ e.m e.f4 (okC (N:=["card", "field"]) (C:=(csCons tyStr (csLast Qq2))) (O:=(owF tyStr)) (t:=fun E=>zkh_ K) (g:=fun c=>zfm_ c.1 c.2) 2 0 (zC_ zt_) (fun _ _ _ _ _ _ E nd hr=>(zh_ (zP_ (zcZ_ sl_M (za_ 0) (po_M (zR_ zbC_ (zbd_ ix_M (za_ 1) zj_ (fun _ _=>rfl)) zj_)) (po_M (zbd_ ix_M (za_ 1) zj_ (fun _ _=>rfl))))))) fun c E=>at_ [(Zf tyStr c.1),(Zf Qq2 c.2)]
 (zcm_ (zm_ zs_) (EvF.ow (zkz_ (zd_ 0 rfl) (zjW_ (zy_ zbx_ (zfG_ (i:=0) at_0 (zd_ 1 rfl)) (zl_ 1))) (zjW_ (zfG_ (i:=1) (at_s zhk_) (zd_ 1 rfl)))))))
theorem zb9_ (e:En K mg) (g4:zdz_ P w K mg base) (g3:zdi_ P w K mg base):zaR_ P w K mg base :=
 zhO_ e.w1 e.f5 (okC (N:=["self", "level", "words"]) (C:=(csCons (Qq4 K) (csLast tyInt))) (O:=(owF tyStr)) (t:=fun E=>zcy_ K) (g:=fun c=>zao_ c.1 c.2) 2 1 (zC_ zt_) (fun _ _ _ _ _ _ E nd hr=>(ze_ (pst 2 (zcv_ (zb_ (zR_ zcl_ (zcD_ (l:=[42])) (zR_ zbC_ (zR_ zK_ zj_ (zcO_ zE_ (e.m.gb e.b2) (zb_ (zX_ e.w1.cls e.a4.no (za_ 0)) zg_))) (za_ 1))) zg_))) (ze_ (zbg_ (zlD_ zdU_ zcK_ zcF_ zgV_ (za_ 2) (zb_ (zci_ (cl:=_) (lv:=["field"]) (fr:=[("self",0)]) rfl (csm rfl (frc fr0)) (zca_ (zcZ_ sl_M (zX_ e.w1.cls e.a4.no (za_ 0)) zlC_ (po_M (za_ 1)))) (fun _ _ _ _=>(pgc 0)) (fun _ _ _ _=>za3_) (fun _ _ _ _=>(zr_ g4 (hm hr) (zb_ (zX_ e.w1.cls e.a8.no (za_ 1)) (zb_ (za_ 0) zg_))))) zg_))) (ze_ (zbg_ (zlD_ zdU_ zcK_ zcF_ zgV_ (za_ 2) (zb_ (zci_ (cl:=[]) (lv:=["wheel"]) (fr:=[]) rfl (csm rfl fr0) (zca_ (zbd_ ix_M (zX_ e.w1.cls e.a7.no (za_ 0)) (za_ 1) (fun _ _=>rfl))) (fun _ _ _ _=>(pgc 0)) (fun _ _ _ _=>za3_) (fun _ _ _ _=>(zbw_ g3 (hm hr) (za_ 0)))) zg_))) (zh_ (zP_ (zlm_ zdf_ zc3_ zi5_ (zcD_ (l:=[32])) (zb_ (za_ 2) zg_)))))))) fun c E=>at_ [(Zf (Qq4 K) c.1),(Zf tyInt c.2),Zd]
 (zcb_ (i:=2) rfl (zA_ zs_) (zgS_ z4_ zcu_ (zf_ (zy_ zl9_ (zbS_ [42]) (zy_ zbx_ (zy_ z5_ (zl_ 1) (zd4_ zas_ (zf_ (za0_ (ns:=Qn0) (by decide +kernel) (n:=0) rfl at_0 (zd_ 0 rfl))))) (zd_ 1 rfl))))) fun w1''=>(at_ [(Zf (Qq4 K) c.1),(Zf tyInt c.2),(Zo (owL tyStr) w1'')] (ziC_ (i:=2) rfl zs_ (EvO.fr (O:=(owL tyStr)) (zaZ_ (ei_l (EvO.fr (zpK_ (za0_ (ns:=Qn0) (by decide +kernel) (n:=0) rfl at_0 (zd_ 0 rfl)) ep_no (zjW_ (zd_ 1 rfl))))) (zI_ 0) (fun _=>dead1) (fun x16=>za1_) (fun x16=>(zv_ (zu_ (ziJ_ (za0_ (ns:=Qn0) (by decide +kernel) (n:=4) rfl (at_s (at_s (at_s (at_s at_0)))) (zd_ 1 rfl))) (zf_ (zd_ 0 rfl))))))) fun a23=>(at_ [(Zf (Qq4 K) c.1),(Zf tyInt c.2),(Zo (owL tyStr) (w1''++a23))] (ziC_ (i:=2) rfl zs_ (EvO.fr (O:=(owL tyStr)) (zaZ_ (ei_l (zy_ zbl_ (za0_ (ns:=Qn0) (by decide +kernel) (n:=3) rfl (at_s (at_s (at_s at_0))) (zd_ 0 rfl)) (zd_ 1 rfl))) (zI_ 0) (fun _=>dead1) (fun x27=>za1_) (fun x27=>(zfd_ (m := "shown") (ns:=Qn1) (by decide +kernel) (zd_ 0 rfl))))) fun a30=>(at_ [(Zf (Qq4 K) c.1),(Zf tyInt c.2),(Zo (owL tyStr) ((w1''++a23)++a30))] (zcm_ (zm_ zs_) (EvF.ow (zls_ zil_ (zbS_ [32]) (zf_ (zeR_ 2 rfl))))))))))))
theorem zfU_ (e:En K mg):zd7_ P w K mg base :=
 zhO_ e.w0 e.f6 (okU (N:=["self", "value", "risen"]) (O:=(Qq3 K)) (O2:=(Qq3 K)) (C:=(csLast tyInt)) (t:=fun E=>zgk_ K) (g:=fun x c=>zct_ x c) (LS:=fun w_=>(fun x':Qq6=>[(Zo (owAt w_ (Qq3 K)) x'),Zd,Zd])) 1 1 zt_ (fun _ _ _ _ _ _ E nd hr=>(ze_ (pst 2 (zR_ zK_ (zX_ e.w0.cls e.a2.no (za_ 0)) (za_ 1))) (ze_ (zbG_ (zaY_ zow_ (za_ 2) (zX_ e.w0.cls e.a1.no (za_ 0))) (zh_ (zaQ_ e.w0.cls e.a3.no (za_ 0) zh6_)) zaB_) (zh_ (zaQ_ e.w0.cls e.a2.no (za_ 0) (zR_ zac_ (za_ 2) (zX_ e.w0.cls e.a1.no (za_ 0)))))))) fun w_ x c E=>at_ [(Zo (owAt w_ (Qq3 K)) x),(Zf tyInt c),Zd]
 (zch_ (i:=2) rfl zc_ (zy_ z5_ (za0_ (ns:=Qn1) (by decide +kernel) (n:=2) rfl (at_s (at_s at_0)) (zaI_ (P:=(psO (owF tyInt) (psO (owF tyInt) (psO (owF tyInt) (psO (owF tyBl) psNil))))) 0 rfl)) (zd_ 1 rfl)) fun r1'=>(at_ [(Zo (owAt w_ (Qq3 K)) x),(Zf tyInt c),(Zf tyInt r1')] (zcj_ (LS:=(fun z9:Qq6=>[(Zo (owAt w_ (Qq3 K)) z9),(Zf tyInt c),(Zf tyInt r1')])) (s_if (zaN_ (zy_ znC_ (zd_ 2 rfl) (za0_ (ns:=Qn1) (by decide +kernel) (n:=1) rfl (at_s at_0) (zaI_ (P:=(psO (owF tyInt) (psO (owF tyInt) (psO (owF tyInt) (psO (owF tyBl) psNil))))) 0 rfl)))) (zcX_ (zfJ_ (i:=0) (n:=3) (by decide +kernel) rfl (by decide) (zcV_ (zcV_ (zcV_ zjT_))) zO_ (zh8_ true) (zdX_ (zbU_ rfl)) fun x11=>(at_ [(Zo (owAt w_ (Qq3 K)) x11),(Zf tyInt c),(Zf tyInt r1')] (zw_ (.same (.same (.same .nil))))))) (zw_ (.same (.same (.same .nil))))) fun z9=>(at_ [(Zo (owAt w_ (Qq3 K)) z9),(Zf tyInt c),(Zf tyInt r1')] (zcX_ (zfJ_ (i:=0) (n:=2) (by decide +kernel) rfl (by decide) (zcV_ (zcV_ zjT_)) zc_ (zy_ zad_ (zd_ 2 rfl) (za0_ (ns:=Qn1) (by decide +kernel) (n:=1) rfl (at_s at_0) (zaI_ (P:=(psO (owF tyInt) (psO (owF tyInt) (psO (owF tyInt) (psO (owF tyBl) psNil))))) 0 rfl))) (zdX_ (zbU_ rfl)) fun v14=>(at_ [(Zo (owAt w_ (Qq3 K)) v14),(Zf tyInt c),(Zf tyInt r1')] (zw_ (.same (.dead (.dead .nil))))))))))))
theorem zdw_ (e:En K mg):zbQ_ P w K mg base :=
 zhO_ e.w0 e.f7 (okC (N:=["self"]) (C:=(csLast (Qq7 K))) (O:=(owF tyBl)) (t:=fun E=>zeg_ K) (g:=fun c=>zbJ_ c) 1 0 zt_ (fun _ _ _ _ _ _ E nd hr=>(zh_ (zP_ (zX_ e.w0.cls e.a3.no (za_ 0))))) fun c E=>at_ [(Zf (Qq7 K) c)]
 (zcm_ (zm_ zO_) (EvF.ow (za0_ (ns:=Qn1) (by decide +kernel) (n:=3) rfl (at_s (at_s (at_s at_0))) (zd_ 0 rfl)))))
theorem zbP_ (e:En K mg) (g6:zd7_ P w K mg base) (g7:zbQ_ P w K mg base):zaf_ P w K mg base :=
 zhO_ e.w1 e.f8 (okU (N:=["self", "level", "numbers", "place", "number", "wheel"]) (O:=(Qq0 K)) (O2:=(Qq0 K)) (C:=(csCons tyInt (csLast (tyL tyInt)))) (t:=fun E=>zcd_ K) (g:=fun x c=>zae_ x c.1 c.2) (LS:=fun w_=>(fun x':Qq1=>[(Zo (owAt w_ (Qq0 K)) x'),Zd,Zd,Zd,Zd,Zd])) 2 3 (zC_ zt_) (fun _ _ _ _ _ _ E nd hr=>(zh_ (zbr_ PassesOwn.never rfl (zf6_ (by rfl) (e.m.gb e.b4) (zb_ (za_ 2) zg_)) (zhd_ (n:=2) rfl (za2_ (pgn 3) (za2_ (pgn 4) ze6_))) (ze_ (pst 5 (zbd_ ix_M (zbd_ ix_M (zX_ e.w1.cls e.a7.no (za_ 0)) (za_ 1) (fun _ _=>rfl)) (za_ 3) (fun _ _=>rfl))) (ze_ (zbg_ (za8_ g6 (hm hr) (za_ 5) (zb_ (za_ 4) zg_))) (zh_ (zbG_ (zcL_ (zbw_ g7 (hm hr) (za_ 5))) (zh_ (zi7_ hr.u60 (zX_ e.w1.cls e.a9.no (za_ 0)) (za_ 3) zh6_)) zaB_))))))) fun w_ x c E=>at_ [(Zo (owAt w_ (Qq0 K)) x),(Zf tyInt c.1),(Zf (tyL tyInt) c.2),Zd,Zd,Zd]
 (zcX_ (zcj_ (LS:=(fun s_1:Qq1=>[(Zo (owAt w_ (Qq0 K)) s_1),(Zf tyInt c.1),(Zf (tyL tyInt) c.2),Zd,Zd,Zd])) (zbi_ (L':=[(Zo (owAt w_ (Qq0 K)) x),(Zf tyInt c.1),(Zf (tyL tyInt) c.2),Zd,Zd,Zd]) (S4 (.same (.same .nil))) (zhz_ (LS:=(fun s_1:Qq1=>[(Zo (owAt w_ (Qq0 K)) s_1),(Zf tyInt c.1),(Zf (tyL tyInt) c.2),Zd,Zd,Zd])) (s0:=x) (zgx_ (zf_ (zd_ 2 rfl))) (zkN_ (zap_ z4_) (zhg_ 3 (zhj_ (zI_ 4)))) fun s_1 x_3=>at_ [(Zo (owAt w_ (Qq0 K)) s_1),(Zf tyInt c.1),(Zf (tyL tyInt) c.2),(Zf tyInt x_3.1),(Zf tyInt x_3.2),Zd] (zng_ (w:=5) rfl (by decide) (zmU_ (zmU_ (zlE_ (ns:=Qn0) (by decide +kernel) (n:=3) rfl (ziT_ (ziT_ (ziT_ zpI_))) (zfp_ (zbn_ rfl))) (zd_ 1 rfl)) (zd_ 3 rfl)) fun u14 y13=>(at_ [(Zo (owPn u14 (Qq3 K) y13.2 (owAt w_ (Qq0 K))) y13.1),(Zf tyInt c.1),(Zf (tyL tyInt) c.2),(Zf tyInt x_3.1),(Zf tyInt x_3.2),(Zf (tyIs u14) ())] (zmr_ (i:=0) (m := "rise") (ns:=Qn1) (by decide +kernel) (zbc_ (zk_ (zm_ zc_) (zk_ (zm_ zc_) (zk_ (zm_ zc_) (zk_ (zm_ zO_) zN_))))) (zg1_ (w:=5) rfl rfl) (zn_ zc_) (zf_ (zd_ 4 rfl)) fun x18=>(at_ [(Zo (owPn u14 (Qq3 K) y13.2 (owAt w_ (Qq0 K))) x18),(Zf tyInt c.1),(Zf (tyL tyInt) c.2),(Zf tyInt x_3.1),(Zf tyInt x_3.2),(Zf (tyIs u14) ())] (zcX_ (zcj_ (LS:=(fun s21:Qq1=>[(Zo (owAt w_ (Qq0 K)) s21),(Zf tyInt c.1),(Zf (tyL tyInt) c.2),(Zf tyInt x_3.1),(Zf tyInt x_3.2),Zd])) (s_if (zaN_ (zfd_ (m := "ran_over") (ns:=Qn1) (by decide +kernel) (zmG_ (O':=(Qq3 K)) (i:=0) (w:=5) rfl rfl))) (zoF_ (i:=0) rfl (zbi_ (L':=[(Zo (owAt w_ (Qq0 K)) (y13.2 x18)),(Zf tyInt c.1),(Zf (tyL tyInt) c.2),(Zf tyInt x_3.1),(Zf tyInt x_3.2),Zd]) (S4 (.same (.dead .nil))) (zcX_ (zld_ (i:=0) (zob_ (ns:=Qn0) (by decide +kernel) (n:=5) rfl (ziT_ (ziT_ (ziT_ (ziT_ (ziT_ zpI_))))) (zdX_ (zbU_ rfl))) zO_ zc_ (zh8_ true) (zd_ 3 rfl) fun x26=>(at_ [(Zo (owAt w_ (Qq0 K)) x26),(Zf tyInt c.1),(Zf (tyL tyInt) c.2),(Zf tyInt x_3.1),(Zf tyInt x_3.2),Zd] (zw_ (S4 (.same (.same .nil))))))))) (zoF_ (i:=0) rfl (zbi_ (L':=[(Zo (owAt w_ (Qq0 K)) (y13.2 x18)),(Zf tyInt c.1),(Zf (tyL tyInt) c.2),(Zf tyInt x_3.1),(Zf tyInt x_3.2),Zd]) (S4 (.same (.dead .nil))) (zw_ (S4 (.same (.same .nil))))))) fun s21=>(at_ [(Zo (owAt w_ (Qq0 K)) s21),(Zf tyInt c.1),(Zf (tyL tyInt) c.2),(Zf tyInt x_3.1),(Zf tyInt x_3.2),Zd] (zw_ (.same (.same (.same (.dead (.dead (.same .nil)))))))))))))))) fun s_1=>(at_ [(Zo (owAt w_ (Qq0 K)) s_1),(Zf tyInt c.1),(Zf (tyL tyInt) c.2),Zd,Zd,Zd] (zw_ (.same (.dead (.dead (.same (.same (.same .nil)))))))))))
theorem ze3_ (e:En K mg):zdo_ P w K mg base :=
 zhO_ e.w0 e.f9 (okU (N:=["self"]) (O:=(Qq3 K)) (O2:=(Qq3 K)) (C:=csNil) (t:=fun E=>zfP_ K) (g:=fun x c=>zdq_ x) (LS:=fun w_=>(fun x':Qq6=>[(Zo (owAt w_ (Qq3 K)) x')])) 0 0 zlh_ (fun _ _ _ _ _ _ E nd hr=>(ze_ (zaQ_ e.w0.cls e.a2.no (za_ 0) zj_) (zh_ (zaQ_ e.w0.cls e.a3.no (za_ 0) zh6_)))) fun w_ x c E=>at_ [(Zo (owAt w_ (Qq3 K)) x)]
 (zfJ_ (i:=0) (n:=2) (by decide +kernel) rfl (by decide) (zcV_ (zcV_ zjT_)) zc_ (zl_ 0) (zdX_ (zbU_ rfl)) fun x_2=>(at_ [(Zo (owAt w_ (Qq3 K)) x_2)] (zcX_ (zfJ_ (i:=0) (n:=3) (by decide +kernel) rfl (by decide) (zcV_ (zcV_ (zcV_ zjT_))) zO_ (zh8_ false) (zdX_ (zbU_ rfl)) fun x_5=>(at_ [(Zo (owAt w_ (Qq3 K)) x_5)] (zw_ (.same .nil))))))))
theorem zes_ (e:En K mg):zcH_ P w K mg base :=
 zhO_ e.w0 e.f10 (okC (N:=["self"]) (C:=(csLast (Qq7 K))) (O:=(owF tyInt)) (t:=fun E=>zfi_ K) (g:=fun c=>zcS_ c) 1 0 zt_ (fun _ _ _ _ _ _ E nd hr=>(zh_ (zP_ (zX_ e.w0.cls e.a2.no (za_ 0))))) fun c E=>at_ [(Zf (Qq7 K) c)]
 (zcm_ (zm_ zc_) (EvF.ow (za0_ (ns:=Qn1) (by decide +kernel) (n:=2) rfl (at_s (at_s at_0)) (zd_ 0 rfl)))))
theorem zbM_ (e:En K mg) (g5:zaR_ P w K mg base) (g8:zaf_ P w K mg base) (g10:zcH_ P w K mg base) (g9:zdo_ P w K mg base):zah_ P w K mg base :=
 zhO_ e.w1 e.f11 (okR (N:=["self", "level", "line", "wheel"]) (O:=(Qq0 K)) (O2:=(Qq0 K)) (Or:=(owF tyStr)) (C:=(csLast tyInt)) (t:=fun E=>zcc_ K) (g:=fun x c=>zH_ x c) 1 2 zt_ (fun _ _ _ _ _ _ E nd hr=>(ze_ (pst 2 (za8_ g5 (hm hr) (za_ 0) (zb_ (za_ 1) zg_))) (ze_ (zbG_ (zaY_ zlU_ (za_ 1) zj_) (zh_ (zbg_ (za8_ g8 (hm hr) (za_ 0) (zb_ (zR_ zbC_ (za_ 1) zj_) (zb_ (zci_ (cl:=[]) (lv:=["wheel"]) (fr:=[]) rfl (csm rfl fr0) (zca_ (zbd_ ix_M (zX_ e.w1.cls e.a7.no (za_ 0)) (za_ 1) (fun _ _=>rfl))) (fun _ _ _ _=>(pgc 0)) (fun _ _ _ _=>za3_) (fun _ _ _ _=>(zbw_ g10 (hm hr) (za_ 0)))) zg_))))) zaB_) (ze_ (zbr_ PassesOwn.never rfl (zca_ (zbd_ ix_M (zX_ e.w1.cls e.a7.no (za_ 0)) (za_ 1) (fun _ _=>rfl))) (pgn 3) (zh_ (zbg_ (zbw_ g9 (hm hr) (za_ 3))))) (zh_ (zP_ (za_ 2))))))) fun w_ x c E=>at_ [(Zo (owAt w_ (Qq0 K)) x),(Zf tyInt c),Zd,Zd]
 (zch_ (i:=2) rfl zs_ (ziQ_ (m := "total_line") (ns:=Qn0) (by decide +kernel) (zaI_ (P:=(Qq5 K)) 0 rfl) (zf_ (zd_ 1 rfl))) fun z1'=>(at_ [(Zo (owAt w_ (Qq0 K)) x),(Zf tyInt c),(Zf tyStr z1'),Zd] (zcj_ (LS:=(fun t7:Qq1=>[(Zo (owAt w_ (Qq0 K)) t7),(Zf tyInt c),(Zf tyStr z1'),Zd])) (s_if (zaN_ (zy_ zmn_ (zd_ 1 rfl) (zl_ 0))) (zcX_ (zhi_ (za6_ (m := "raise_level") (ns:=Qn0) (by decide +kernel) (zbc_ (zk_ (zA_ (zF_ (zq_ zc_ (zn_ zc_)))) (zk_ (zA_ (zF_ (zq_ zc_ (zn_ zc_)))) (zk_ (zA_ (zF_ (zq_ zc_ (zn_ zc_)))) (zk_ (z2_ (z2_ (zbc_ (zk_ (zm_ zc_) (zk_ (zm_ zc_) (zk_ (zm_ zc_) (zk_ (zm_ zO_) zN_))))))) (zk_ (zm_ (zbW_ zs_)) (zk_ (zcB_ zO_) zN_))))))) (zm_ zhy_) (zfp_ (zbn_ rfl)) (zbu_ (zaF_ zc_ (zy_ zbx_ (zd_ 1 rfl) (zl_ 1))) (zaX_ (zjp_ (zA_ zc_) (zaZ_ (ei_l (zy_ zbl_ (za0_ (ns:=Qn0) (by decide +kernel) (n:=3) rfl (at_s (at_s (at_s at_0))) (zaI_ (P:=(Qq5 K)) 0 rfl)) (zd_ 1 rfl))) (zI_ 0) (fun _=>dead1) (fun v13=>za1_) (fun v13=>(zfd_ (m := "amount") (ns:=Qn1) (by decide +kernel) (zd_ 0 rfl)))))))) fun q21=>(at_ [(Zo (owAt w_ (Qq0 K)) q21.2),(Zf tyInt c),(Zf tyStr z1'),Zd] (zw_ (S4 .nil))))) (zw_ (S4 .nil))) fun t7=>(at_ [(Zo (owAt w_ (Qq0 K)) t7),(Zf tyInt c),(Zf tyStr z1'),Zd] (zcj_ (LS:=(fun s31:Qq1=>[(Zo (owAt w_ (Qq0 K)) s31),(Zf tyInt c),(Zf tyStr z1'),Zd])) (zpk_ (m := "reset") (ns:=Qn1) (w:=3) (Nat.le_of_ble_eq_true rfl) rfl (by decide) (by decide +kernel) (zbc_ (zk_ (zm_ zc_) (zk_ (zm_ zc_) (zk_ (zm_ zc_) (zk_ (zm_ zO_) zN_))))) (zmU_ (zlE_ (ns:=Qn0) (by decide +kernel) (n:=3) rfl (ziT_ (ziT_ (ziT_ zpI_))) (zfp_ (zbn_ rfl))) (zd_ 1 rfl))) fun s31=>(at_ [(Zo (owAt w_ (Qq0 K)) s31),(Zf tyInt c),(Zf tyStr z1'),Zd] (zkJ_ (i:=0) rfl zs_ (zd_ 2 rfl)))))))))
theorem zbD_ (e:En K mg) (g11:zah_ P w K mg base):z1_ P w K mg base :=
 zhO_ e.w1 e.f12 (okR (N:=["self", "outermost", "lines", "level"]) (O:=(Qq0 K)) (O2:=(Qq0 K)) (Or:=(owL tyStr)) (C:=(csLast tyInt)) (t:=fun E=>zbH_ K) (g:=fun x c=>zM_ x c) 1 2 zt_ (fun _ _ _ _ _ _ E nd hr=>(ze_ (pst 2 (zcv_ zg_)) (ze_ (zbr_ PassesOwn.never rfl (zi4_ (e.m.gb e.b0) (zb_ (zcO_ zE_ (e.m.gb e.b2) (zb_ (zX_ e.w1.cls e.a4.no (za_ 0)) zg_)) (zb_ (zR_ zbC_ (za_ 1) zj_) (zb_ (znc_ zj_) zg_)))) (pgn 3) (zh_ (zbg_ (zlD_ zdU_ zau_ zaw_ zb8_ (za_ 2) (zb_ (za8_ g11 (hm hr) (za_ 0) (zb_ (za_ 3) zg_)) zg_))))) (zh_ (zP_ (za_ 2)))))) fun w_ x c E=>at_ [(Zo (owAt w_ (Qq0 K)) x),(Zf tyInt c),Zd,Zd]
 (zcb_ (i:=2) rfl (zA_ zs_) (zeK_ tyStr) fun x1'=>(at_ [(Zo (owAt w_ (Qq0 K)) x),(Zf tyInt c),(Zo (owL tyStr) x1'),Zd] (zcj_ (LS:=(fun s_2:((List (List Nat))×Qq1)=>[(Zo (owAt w_ (Qq0 K)) s_2.2),(Zf tyInt c),(Zo (owL tyStr) s_2.1),Zd])) (zbi_ (L':=[(Zo (owAt w_ (Qq0 K)) x),(Zf tyInt c),(Zo (owL tyStr) x1'),Zd]) (S4 .nil) (zmR_ (LS:=(fun s_2:((List (List Nat))×Qq1)=>[(Zo (owAt w_ (Qq0 K)) s_2.2),(Zf tyInt c),(Zo (owL tyStr) s_2.1),Zd])) (s0:=(x1',x)) (eir_3 (zu_ (zd4_ zas_ (zf_ (za0_ (ns:=Qn0) (by decide +kernel) (n:=0) rfl at_0 (zaI_ (P:=(Qq5 K)) 0 rfl)))) (zu_ (zy_ zbx_ (zd_ 1 rfl) (zl_ 1)) (zf_ (znO_ (zl_ 1)))))) (zI_ 3) fun s_2 v13=>at_ [(Zo (owAt w_ (Qq0 K)) s_2.2),(Zf tyInt c),(Zo (owL tyStr) s_2.1),(Zf tyInt v13)] (zcX_ (zpd_ (w:=2) rfl (by decide) (za6_ (m := "close_level") (ns:=Qn0) (by decide +kernel) (zbc_ (zk_ (zA_ (zF_ (zq_ zc_ (zn_ zc_)))) (zk_ (zA_ (zF_ (zq_ zc_ (zn_ zc_)))) (zk_ (zA_ (zF_ (zq_ zc_ (zn_ zc_)))) (zk_ (z2_ (z2_ (zbc_ (zk_ (zm_ zc_) (zk_ (zm_ zc_) (zk_ (zm_ zc_) (zk_ (zm_ zO_) zN_))))))) (zk_ (zm_ (zbW_ zs_)) (zk_ (zcB_ zO_) zN_))))))) (zm_ zs_) (zfp_ (zbn_ rfl)) (zaX_ (zaF_ zc_ (zd_ 3 rfl)))) fun q17=>(at_ [(Zo (owAt w_ (Qq0 K)) q17.2),(Zf tyInt c),(Zo (owL tyStr) (s_2.1++[q17.1])),(Zf tyInt v13)] (zw_ (.same (.same (.same (.dead .nil)))))))))) fun s_2=>(at_ [(Zo (owAt w_ (Qq0 K)) s_2.2),(Zf tyInt c),(Zo (owL tyStr) s_2.1),Zd] (zjt_ (i:=0) (j:=2) (by decide) rfl rfl))))))
theorem zdu_ (e:En K mg) (g11:zah_ P w K mg base) (g12:z1_ P w K mg base):zbZ_ P w K mg base :=
 zhO_ e.w1 e.f13 (okR (N:=["self"]) (O:=(Qq0 K)) (O2:=(Qq0 K)) (Or:=(owL tyStr)) (C:=csNil) (t:=fun E=>zeo_ K) (g:=fun x c=>zax_ x) 0 0 zlh_ (fun _ _ _ _ _ _ E nd hr=>(ze_ (zbG_ (zaY_ zpq_ (zX_ e.w1.cls e.a8.no (za_ 0)) zlM_) (zh_ (zP_ (zcv_ (zb_ (za8_ g11 (hm hr) (za_ 0) (zb_ zj_ zg_)) zg_)))) zaB_) (zh_ (zP_ (za8_ g12 (hm hr) (za_ 0) (zb_ zj_ zg_)))))) fun w_ x c E=>at_ [(Zo (owAt w_ (Qq0 K)) x)]
 (zcj_ (LS:=(fun _:Unit=>[(Zo (owAt w_ (Qq0 K)) x)])) (s_if (zaN_ (zy_ znr_ (za0_ (ns:=Qn0) (by decide +kernel) (n:=4) rfl (at_s (at_s (at_s (at_s at_0)))) (zaI_ (P:=(Qq5 K)) 0 rfl)) zon_)) (zmP_ (i:=0) (Nat.le_of_ble_eq_true rfl) (za6_ (m := "close_level") (ns:=Qn0) (by decide +kernel) (zbc_ (zk_ (zA_ (zF_ (zq_ zc_ (zn_ zc_)))) (zk_ (zA_ (zF_ (zq_ zc_ (zn_ zc_)))) (zk_ (zA_ (zF_ (zq_ zc_ (zn_ zc_)))) (zk_ (z2_ (z2_ (zbc_ (zk_ (zm_ zc_) (zk_ (zm_ zc_) (zk_ (zm_ zc_) (zk_ (zm_ zO_) zN_))))))) (zk_ (zm_ (zbW_ zs_)) (zk_ (zcB_ zO_) zN_))))))) (zm_ zs_) (zfp_ (zbn_ rfl)) (zaX_ (zaF_ zc_ (zl_ 0))))) (zw_ (.same .nil))) fun _=>(at_ [(Zo (owAt w_ (Qq0 K)) x)] (znG_ (i:=0) (Nat.le_of_ble_eq_true rfl) (za6_ (m := "close_levels") (ns:=Qn0) (by decide +kernel) (zbc_ (zk_ (zA_ (zF_ (zq_ zc_ (zn_ zc_)))) (zk_ (zA_ (zF_ (zq_ zc_ (zn_ zc_)))) (zk_ (zA_ (zF_ (zq_ zc_ (zn_ zc_)))) (zk_ (z2_ (z2_ (zbc_ (zk_ (zm_ zc_) (zk_ (zm_ zc_) (zk_ (zm_ zc_) (zk_ (zm_ zO_) zN_))))))) (zk_ (zm_ (zbW_ zs_)) (zk_ (zcB_ zO_) zN_))))))) (zA_ zs_) (zfp_ (zbn_ rfl)) (zaX_ (zaF_ zc_ (zl_ 0))))))))
theorem zfW_ (e:En K mg):zbv_ P w K mg base :=
 zep_ e.m e.f14 (okC (N:=["_law_cell", "_law_many", "_law_found", "_law_number_here", "_law_k"]) (C:=(csCons tyInt (csLast tyInt))) (O:=(owL tyInt)) (t:=fun E=>zgi_ K) (g:=fun c=>zcx_ c.1 c.2) 2 3 (zC_ zt_) (fun _ _ _ _ _ _ E nd hr=>(ze_ (pst 2 (zcv_ zg_)) (ze_ (pst 3 (zR_ zK_ (zR_ zac_ (za_ 0) zj_) zj_)) (ze_ (zbr_ PassesOwn.never rfl (zaT_ (e.m.gb e.b0) (zb_ (za_ 1) zg_)) (pgn 4) (ze_ (pst 3 (zR_ zac_ (zR_ zK_ (zR_ zK_ (zR_ zcl_ (za_ 3) (za_ 3)) (zR_ zcl_ zj_ (za_ 3))) (za_ 4)) zj_)) (zh_ (zbg_ (zlD_ zdU_ zau_ zaw_ zb8_ (za_ 2) (zb_ (za_ 3) zg_)))))) (zh_ (zP_ (za_ 2))))))) fun c E=>at_ [(Zf tyInt c.1),(Zf tyInt c.2),Zd,Zd,Zd]
 (zcb_ (i:=2) rfl (zA_ zc_) (zeK_ tyInt) fun w1'=>(at_ [(Zf tyInt c.1),(Zf tyInt c.2),(Zo (owL tyInt) w1'),Zd,Zd] (zch_ (i:=3) rfl zc_ (zy_ z5_ (zy_ zad_ (zd_ 0 rfl) (zl_ 2147483647)) (zl_ 48271)) fun u2'=>(at_ [(Zf tyInt c.1),(Zf tyInt c.2),(Zo (owL tyInt) w1'),(Zf tyInt u2'),Zd] (zcj_ (LS:=(fun t7:(Int×(List Int))=>[(Zf tyInt c.1),(Zf tyInt c.2),(Zo (owL tyInt) t7.2),(Zf tyInt t7.1),Zd])) (zbi_ (L':=[(Zf tyInt c.1),(Zf tyInt c.2),(Zo (owL tyInt) w1'),(Zf tyInt u2'),Zd]) (S4 (.same .nil)) (zhz_ (LS:=(fun t7:(Int×(List Int))=>[(Zf tyInt c.1),(Zf tyInt c.2),(Zo (owL tyInt) t7.2),(Zf tyInt t7.1),Zd])) (s0:=(u2',w1')) (zck_ (zf_ (zd_ 1 rfl))) (zI_ 4) fun t7 x9=>at_ [(Zf tyInt c.1),(Zf tyInt c.2),(Zo (owL tyInt) t7.2),(Zf tyInt t7.1),(Zf tyInt x9)] (zch_ (i:=3) rfl zc_ (zy_ zad_ (zy_ z5_ (zy_ z5_ (zy_ zdb_ (zd_ 3 rfl) (zd_ 3 rfl)) (zy_ zdb_ (zl_ 48271) (zd_ 3 rfl))) (zd_ 4 rfl)) (zl_ 2147483647)) fun n10=>(at_ [(Zf tyInt c.1),(Zf tyInt c.2),(Zo (owL tyInt) t7.2),(Zf tyInt n10),(Zf tyInt x9)] (zcX_ (zjH_ (i:=2) rfl zc_ (zd_ 3 rfl) fun a21=>(at_ [(Zf tyInt c.1),(Zf tyInt c.2),(Zo (owL tyInt) (t7.2++[a21])),(Zf tyInt n10),(Zf tyInt x9)] (zw_ (S4 (.dead .nil)))))))))) fun t7=>(at_ [(Zf tyInt c.1),(Zf tyInt c.2),(Zo (owL tyInt) t7.2),(Zf tyInt t7.1),Zd] (zpi_ (i:=2) rfl))))))))
theorem zf1_ (e:En K mg) (g14:zbv_ P w K mg base):zeO_ P w K mg base :=
 zep_ e.m e.f15 (okC (N:=["_law_cell"]) (C:=(csLast tyInt)) (O:=(owL tyInt)) (t:=fun E=>zhS_ K) (g:=fun c=>zc7_ c) 1 0 zt_ (fun _ _ _ _ _ _ E nd hr=>(zh_ (zP_ (zci_ (cl:=[]) (lv:=["_law_number_here"]) (fr:=[]) rfl (csm rfl fr0) (zca_ (zr_ g14 (hm hr) (zb_ (za_ 0) (zb_ zj_ zg_)))) (fun _ _ _ _=>(pgc 0)) (fun _ _ _ _=>za3_) (fun _ _ _ _=>(zR_ zdj_ (za_ 0) zj_)))))) fun c E=>at_ [(Zf tyInt c)]
 (zcm_ (zA_ zc_) (zaZ_ (ei_l (EvO.fr (zc2_ (zu_ (zd_ 0 rfl) (zf_ (zl_ 36)))))) (zI_ 0) (fun _=>dead1) (fun x_4=>za1_) (fun x_4=>(zy_ zbV_ (zd_ 0 rfl) (zl_ 11))))))
theorem ze5_ (e:En K mg):zdk_ P w K mg base :=
 zep_ e.m e.f16 (okC (N:=["_law_script", "_law_k"]) (C:=(csCons (tySc K) (csLast tyInt))) (O:=(owF tyInt)) (t:=fun E=>zfO_ K) (g:=fun c=>zb1_ c.1 c.2) 2 0 (zC_ zt_) (fun _ _ _ _ _ _ E nd hr=>(ze_ (zbG_ (zaY_ zov_ (za_ 1) (zcO_ zE_ (e.m.gb e.b2) (zb_ (za_ 0) zg_))) (zh_ (zP_ (zbd_ ix_M (za_ 0) (za_ 1) (fun _ _=>rfl)))) zaB_) (zh_ (zP_ zj_)))) fun c E=>at_ [(Zf (tySc K) c.1),(Zf tyInt c.2)]
 (zcj_ (LS:=(fun _:Unit=>[(Zf (tySc K) c.1),(Zf tyInt c.2)])) (s_if (zaN_ (zy_ zn3_ (zd_ 1 rfl) (zd4_ zmb_ (zf_ (zd_ 0 rfl))))) (zcm_ (zm_ zc_) (EvF.ow (zy_ zol_ (zd_ 0 rfl) (zd_ 1 rfl)))) (zw_ (.same (.same .nil)))) fun _=>(at_ [(Zf (tySc K) c.1),(Zf tyInt c.2)] (zcm_ (zm_ zc_) (EvF.ow (zl_ 0))))))
theorem zgg_ (e:En K mg):zeE_ P w K mg base :=
 zep_ e.m e.f17 (okC (N:=["_law_many", "_law_number_here", "_law_k"]) (C:=(csLast tyInt)) (O:=(owF tyInt)) (t:=fun E=>zhE_ K) (g:=fun c=>zc0_ c) 1 2 zt_ (fun _ _ _ _ _ _ E nd hr=>(ze_ (pst 1 zj_) (ze_ (zbr_ PassesOwn.never rfl (zaT_ (e.m.gb e.b0) (zb_ (za_ 0) zg_)) (pgn 2) (zh_ (pst 1 (zR_ zcl_ zj_ (za_ 1))))) (zh_ (zP_ (za_ 1)))))) fun c E=>at_ [(Zf tyInt c),Zd,Zd]
 (zch_ (i:=1) rfl zc_ (zl_ 1) fun q1'=>(at_ [(Zf tyInt c),(Zf tyInt q1'),Zd] (zcj_ (LS:=(fun s_2:Int=>[(Zf tyInt c),(Zf tyInt s_2),Zd])) (zbi_ (L':=[(Zf tyInt c),(Zf tyInt q1'),Zd]) (.same (.same (.same .nil))) (zhz_ (LS:=(fun s_2:Int=>[(Zf tyInt c),(Zf tyInt s_2),Zd])) (s0:=q1') (zck_ (zf_ (zd_ 0 rfl))) (zI_ 2) fun s_2 x_4=>at_ [(Zf tyInt c),(Zf tyInt s_2),(Zf tyInt x_4)] (zcX_ (zch_ (i:=1) rfl zc_ (zy_ zdb_ (zl_ 10) (zd_ 1 rfl)) fun n5=>(at_ [(Zf tyInt c),(Zf tyInt n5),(Zf tyInt x_4)] (zw_ (.same (.same (.dead .nil))))))))) fun s_2=>(at_ [(Zf tyInt c),(Zf tyInt s_2),Zd] (zcm_ (zm_ zc_) (EvF.ow (zd_ 1 rfl))))))))
theorem ziH_ (e:En K mg):zg4_ P w K mg base :=
 zep_ e.m e.f18 (okC (N:=["card"]) (C:=(csLast tyStr)) (O:=(owF tyStr)) (t:=fun E=>zj0_ K) (g:=fun c=>zeY_ c) 1 0 zt_ (fun _ _ _ _ _ _ E nd hr=>(zh_ (zP_ (zcZ_ sl_M (za_ 0) (po_M (zoW_ (e.m.gv e.c0))) zlC_)))) fun c E=>at_ [(Zf tyStr c)]
 (zcm_ (zm_ zs_) (EvF.ow (zkz_ (zd_ 0 rfl) (zjW_ (zl_ 36)) ep_no))))
theorem zis_ (e:En K mg):zhc_ P w K mg base :=
 zep_ e.m e.f19 (okC (N:=["card", "column"]) (C:=(csCons tyStr (csLast tyInt))) (O:=(owF tyStr)) (t:=fun E=>zkk_ K) (g:=fun c=>ze8_ c.1 c.2) 2 0 (zC_ zt_) (fun _ _ _ _ _ _ E nd hr=>(zh_ (zP_ (zbd_ ix_M (za_ 0) (zR_ zbC_ (za_ 1) zj_) (fun _ _=>rfl))))) fun c E=>at_ [(Zf tyStr c.1),(Zf tyInt c.2)]
 (zcm_ (zm_ zs_) (EvF.ow (zy_ zgw_ (zd_ 0 rfl) (zy_ zbx_ (zd_ 1 rfl) (zl_ 1))))))
theorem zjw_ (e:En K mg) (g19:zhc_ P w K mg base):zg2_ P w K mg base :=
 zep_ e.m e.f20 (okC (N:=["card", "board", "signs", "wire"]) (C:=(csCons tyStr (csLast (tyL Qq2)))) (O:=(owF tyStr)) (t:=fun E=>zka_ K) (g:=fun c=>zfn_ c.1 c.2) 2 2 (zC_ zt_) (fun _ _ _ _ _ _ E nd hr=>(ze_ (zcP_ (cl:=[]) (lv:=["column"]) (fr:=[]) rfl (csm rfl fr0) (zaT_ (e.m.gb e.b0) (zb_ (zoW_ (e.m.gv e.c0)) zg_)) (fun _ _ _ _=>(pgc 0)) (fun _ _ _ _=>za3_) (fun _ _ _ _=>(zcD_ (l:=[32]))) (pgn 2)) (ze_ (zbr_ PassesOwn.never rfl (zca_ (za_ 1)) (pgn 3) (zh_ (zkm_ (zr_ g19 (hm hr) (zb_ (za_ 0) (zb_ (zbd_ ix_M (za_ 3) zj_ (fun _ _=>rfl)) zg_))) (zkY_ (za_ 2) (zR_ zbC_ (zbd_ ix_M (za_ 3) zj_ (fun _ _=>rfl)) zj_) zoZ_)))) (zh_ (zP_ (zlm_ zdf_ zc3_ zi5_ (zcD_ (l:=[])) (zb_ (za_ 2) zg_))))))) fun c E=>at_ [(Zf tyStr c.1),(Zf (tyL Qq2) c.2),Zd,Zd]
 (zcb_ (i:=2) rfl (zA_ zs_) (zaZ_ (zck_ (zf_ (zl_ 36))) (zI_ 0) (fun _=>dead1) (fun x_3=>za1_) (fun x_3=>(zbS_ [32]))) fun t1'=>(at_ [(Zf tyStr c.1),(Zf (tyL Qq2) c.2),(Zo (owL tyStr) t1'),Zd] (zcj_ (LS:=(fun s_5:(List (List Nat))=>[(Zf tyStr c.1),(Zf (tyL Qq2) c.2),(Zo (owL tyStr) s_5),Zd])) (zbi_ (L':=[(Zf tyStr c.1),(Zf (tyL Qq2) c.2),(Zo (owL tyStr) t1'),Zd]) (S4 .nil) (zhz_ (LS:=(fun s_5:(List (List Nat))=>[(Zf tyStr c.1),(Zf (tyL Qq2) c.2),(Zo (owL tyStr) s_5),Zd])) (s0:=t1') (ei_l (zd_ 1 rfl)) (zI_ 3) fun s_5 z6=>at_ [(Zf tyStr c.1),(Zf (tyL Qq2) c.2),(Zo (owL tyStr) s_5),(Zf Qq2 z6)] (zcX_ (zpx_ (i:=2) rfl zs_ (zv_ (zu_ (zd_ 0 rfl) (zf_ (zfG_ (i:=0) at_0 (zd_ 3 rfl))))) (zy_ zbx_ (zfG_ (i:=1) (at_s zhk_) (zd_ 3 rfl)) (zl_ 1)) fun s20=>(at_ [(Zf tyStr c.1),(Zf (tyL Qq2) c.2),(Zo (owL tyStr) s20),(Zf Qq2 z6)] (zw_ (.same (.same (.same (.dead .nil)))))))))) fun s_5=>(at_ [(Zf tyStr c.1),(Zf (tyL Qq2) c.2),(Zo (owL tyStr) s_5),Zd] (zcm_ (zm_ zs_) (EvF.ow (zls_ zil_ (zbS_ []) (zf_ (zeR_ 2 rfl))))))))))
theorem zbp_ (e:En K mg) (g4:zdz_ P w K mg base):zaz_ P w K mg base :=
 zhO_ e.w1 e.f21 (okC (N:=["self", "card", "place", "field"]) (C:=(csCons (Qq4 K) (csLast tyStr))) (O:=(owF tyInt)) (t:=fun E=>zbF_ K) (g:=fun c=>zL_ c.1 c.2) 2 2 (zC_ zt_) (fun _ _ _ _ _ _ E nd hr=>(ze_ (zbr_ PassesOwn.never rfl (zf6_ (by rfl) (e.m.gb e.b4) (zb_ (zX_ e.w1.cls e.a4.no (za_ 0)) zg_)) (zhd_ (n:=2) rfl (za2_ (pgn 2) (za2_ (pgn 3) ze6_))) (zh_ (zbG_ (zaY_ (zii_ hr.u60) (zr_ g4 (hm hr) (zb_ (za_ 1) (zb_ (za_ 3) zg_))) (zr_ g4 (hm hr) (zb_ (zX_ e.w1.cls e.a8.no (za_ 0)) (zb_ (za_ 3) zg_)))) (zh_ (zP_ (zR_ zK_ (za_ 2) zj_))) zaB_))) (zh_ (zP_ (zR_ zK_ (zcO_ zE_ (e.m.gb e.b2) (zb_ (zX_ e.w1.cls e.a4.no (za_ 0)) zg_)) zj_))))) fun c E=>at_ [(Zf (Qq4 K) c.1),(Zf tyStr c.2),Zd,Zd]
 (zcj_ (LS:=(fun _:Unit=>[(Zf (Qq4 K) c.1),(Zf tyStr c.2),Zd,Zd])) (zbi_ (L':=[(Zf (Qq4 K) c.1),(Zf tyStr c.2),Zd,Zd]) (S4 .nil) (zhz_ (LS:=(fun _:Unit=>[(Zf (Qq4 K) c.1),(Zf tyStr c.2),Zd,Zd])) (s0:=()) (zgx_ (zf_ (za0_ (ns:=Qn0) (by decide +kernel) (n:=0) rfl at_0 (zd_ 0 rfl)))) (zkN_ (zap_ z4_) (zhg_ 2 (zhj_ (zI_ 3)))) fun _ x_4=>at_ [(Zf (Qq4 K) c.1),(Zf tyStr c.2),(Zf tyInt x_4.1),(Zf Qq2 x_4.2)] (s_if (zaN_ (zy_ zne_ (zv_ (zu_ (zd_ 1 rfl) (zf_ (zd_ 3 rfl)))) (zv_ (zu_ (ziJ_ (za0_ (ns:=Qn0) (by decide +kernel) (n:=4) rfl (at_s (at_s (at_s (at_s at_0)))) (zd_ 0 rfl))) (zf_ (zd_ 3 rfl)))))) (zcm_ (zm_ zc_) (EvF.ow (zy_ z5_ (zd_ 2 rfl) (zl_ 1)))) (zw_ (.same (.same (.dead (.dead .nil)))))))) fun _=>(at_ [(Zf (Qq4 K) c.1),(Zf tyStr c.2),Zd,Zd] (zcm_ (zm_ zc_) (EvF.ow (zy_ z5_ (zd4_ zas_ (zf_ (za0_ (ns:=Qn0) (by decide +kernel) (n:=0) rfl at_0 (zd_ 0 rfl)))) (zl_ 1)))))))
theorem zgG_ (e:En K mg):zeS_ P w K mg base :=
 zep_ e.m e.f22 (okC (N:=["figures", "value", "figure"]) (C:=(csLast tyStr)) (O:=(owF tyInt)) (t:=fun E=>zhK_ K) (g:=fun c=>zc6_ c) 1 2 zt_ (fun _ _ _ _ _ _ E nd hr=>(ze_ (pst 1 zj_) (ze_ (zbr_ PassesOwn.never rfl (zca_ (za_ 0)) (pgn 2) (zh_ (pst 1 (zR_ zK_ (zR_ zcl_ (za_ 1) zj_) (zlm_ zgM_ zgD_ zmF_ (zoW_ (e.m.gv e.c1)) (zb_ (za_ 2) zg_)))))) (zh_ (zP_ (za_ 1)))))) fun c E=>at_ [(Zf tyStr c),Zd,Zd]
 (zch_ (i:=1) rfl zc_ (zl_ 0) fun v1''=>(at_ [(Zf tyStr c),(Zf tyInt v1''),Zd] (zcj_ (LS:=(fun s_2:Int=>[(Zf tyStr c),(Zf tyInt s_2),Zd])) (zbi_ (L':=[(Zf tyStr c),(Zf tyInt v1''),Zd]) (.same (.same (.same .nil))) (zhz_ (LS:=(fun s_2:Int=>[(Zf tyStr c),(Zf tyInt s_2),Zd])) (s0:=v1'') (zmv_ (zd_ 0 rfl)) (zI_ 2) fun s_2 x_4=>at_ [(Zf tyStr c),(Zf tyInt s_2),(Zf tyStr x_4)] (zcX_ (zch_ (i:=1) rfl zc_ (zy_ z5_ (zy_ zdb_ (zd_ 1 rfl) (zl_ 10)) (zls_ zmY_ (zbS_ [48,49,50,51,52,53,54,55,56,57]) (zf_ (zd_ 2 rfl)))) fun u5'=>(at_ [(Zf tyStr c),(Zf tyInt u5'),(Zf tyStr x_4)] (zw_ (.same (.same (.dead .nil))))))))) fun s_2=>(at_ [(Zf tyStr c),(Zf tyInt s_2),Zd] (zcm_ (zm_ zc_) (EvF.ow (zd_ 1 rfl))))))))
theorem zf0_ (e:En K mg) (g4:zdz_ P w K mg base) (g22:zeS_ P w K mg base):zeM_ P w K mg base :=
 zep_ e.m e.f23 (okC (N:=["card", "field", "figures"]) (C:=(csCons tyStr (csLast Qq2))) (O:=(owF tyInt)) (t:=fun E=>zh4_ K) (g:=fun c=>zda_ c.1 c.2) 2 1 (zC_ zt_) (fun _ _ _ _ _ _ E nd hr=>(ze_ (zcP_ (cl:=[]) (lv:=["sign"]) (fr:=[]) rfl (csm rfl fr0) (zca_ (zr_ g4 (hm hr) (zb_ (za_ 0) (zb_ (za_ 1) zg_)))) (fun _ _ _ _=>(pgc 0)) (fun _ _ _ _=>za3_) (fun _ _ _ _=>(zpB_ (zaY_ zo2_ (za_ 0) (zoW_ (e.m.gv e.c1))) (za_ 0) (zcD_ (l:=[48])))) (pgn 2)) (zh_ (zP_ (zr_ g22 (hm hr) (zb_ (zlm_ zdf_ zc3_ zi5_ (zcD_ (l:=[])) (zb_ (za_ 2) zg_)) zg_)))))) fun c E=>at_ [(Zf tyStr c.1),(Zf Qq2 c.2),Zd]
 (zcb_ (i:=2) rfl (zA_ zs_) (zaZ_ (zmv_ (zv_ (zu_ (zd_ 0 rfl) (zf_ (zd_ 1 rfl))))) (zI_ 0) (fun _=>dead1) (fun z6=>za1_) (fun z6=>(ev_if (zaN_ (zy_ zpr_ (zd_ 0 rfl) (zbS_ [48,49,50,51,52,53,54,55,56,57]))) (zd_ 0 rfl) (zbS_ [48])))) fun u1'=>zjN_ (i:=2) rfl (at_ [(Zf tyStr c.1),(Zf Qq2 c.2),(Zf (tyL tyStr) u1')] (zcm_ (zm_ zc_) (EvF.ow (zv_ (zf_ (zls_ zil_ (zbS_ []) (zf_ (zd_ 2 rfl))))))))))
theorem zex_ (e:En K mg) (g12:z1_ P w K mg base) (g21:zaz_ P w K mg base) (g18:zg4_ P w K mg base) (g20:zg2_ P w K mg base) (g8:zaf_ P w K mg base) (g23:zeM_ P w K mg base):zcG_ P w K mg base :=
 zhO_ e.w1 e.f24 (okR (N:=["self", "card", "lines", "mark", "laid"]) (O:=(Qq0 K)) (O2:=(Qq0 K)) (Or:=(owL tyStr)) (C:=(csLast tyStr)) (t:=fun E=>ze7_ K) (g:=fun x c=>zaO_ x c) 1 3 zt_ (fun _ _ _ _ _ _ E nd hr=>(ze_ (pst 2 (zcv_ zg_)) (ze_ (zbG_ (zaY_ zj3_ (zX_ e.w1.cls e.a8.no (za_ 0)) zlM_) (zh_ (pst 2 (za8_ g12 (hm hr) (za_ 0) (zb_ (za8_ g21 (hm hr) (za_ 0) (zb_ (za_ 1) zg_)) zg_)))) zaB_) (ze_ (pst 3 (zr_ g18 (hm hr) (zb_ (za_ 1) zg_))) (ze_ (pst 4 (zr_ g20 (hm hr) (zb_ (za_ 1) (zb_ (zX_ e.w1.cls e.a6.no (za_ 0)) zg_)))) (ze_ (zbg_ (zlD_ zdU_ zau_ zaw_ zb8_ (za_ 2) (zb_ (zkD_ (zi9_ (zoq_ (za_ 3)) (zi9_ (zcD_ (l:=[32])) (zi9_ (zoq_ (za_ 4)) zo3_)))) zg_))) (ze_ (zbg_ (za8_ g8 (hm hr) (za_ 0) (zb_ (zcO_ zE_ (e.m.gb e.b2) (zb_ (zX_ e.w1.cls e.a4.no (za_ 0)) zg_)) (zb_ (zci_ (cl:=_) (lv:=["field"]) (fr:=[("card",1)]) rfl (csm rfl (frc fr0)) (zca_ (zX_ e.w1.cls e.a5.no (za_ 0))) (fun _ _ _ _=>(pgc 0)) (fun _ _ _ _=>za3_) (fun _ _ _ _=>(zr_ g23 (hm hr) (zb_ (za_ 1) (zb_ (za_ 0) zg_))))) zg_)))) (ze_ (zaQ_ e.w1.cls e.a8.no (za_ 0) (za_ 1)) (zh_ (zP_ (za_ 2))))))))))) fun w_ x c E=>at_ [(Zo (owAt w_ (Qq0 K)) x),(Zf tyStr c),Zd,Zd,Zd]
 (zcb_ (i:=2) rfl (zA_ zs_) (zeK_ tyStr) fun x1'=>(at_ [(Zo (owAt w_ (Qq0 K)) x),(Zf tyStr c),(Zo (owL tyStr) x1'),Zd,Zd] (zcj_ (LS:=(fun y6:((List (List Nat))×Qq1)=>[(Zo (owAt w_ (Qq0 K)) y6.2),(Zf tyStr c),(Zo (owL tyStr) y6.1),Zd,Zd])) (s_if (zaN_ (zy_ zmM_ (za0_ (ns:=Qn0) (by decide +kernel) (n:=4) rfl (at_s (at_s (at_s (at_s at_0)))) (zaI_ (P:=(Qq5 K)) 0 rfl)) zon_)) (zcX_ (zjq_ (w:=2) rfl (by decide) (za6_ (m := "close_levels") (ns:=Qn0) (by decide +kernel) (zbc_ (zk_ (zA_ (zF_ (zq_ zc_ (zn_ zc_)))) (zk_ (zA_ (zF_ (zq_ zc_ (zn_ zc_)))) (zk_ (zA_ (zF_ (zq_ zc_ (zn_ zc_)))) (zk_ (z2_ (z2_ (zbc_ (zk_ (zm_ zc_) (zk_ (zm_ zc_) (zk_ (zm_ zc_) (zk_ (zm_ zO_) zN_))))))) (zk_ (zm_ (zbW_ zs_)) (zk_ (zcB_ zO_) zN_))))))) (zA_ zs_) (zfp_ (zbn_ rfl)) (zaX_ (zaF_ zc_ (ziQ_ (m := "changed_level") (ns:=Qn0) (by decide +kernel) (zaI_ (P:=(Qq5 K)) 0 rfl) (zf_ (zd_ 1 rfl)))))) fun q12=>(at_ [(Zo (owAt w_ (Qq0 K)) q12.2),(Zf tyStr c),(Zo (owL tyStr) q12.1),Zd,Zd] (zw_ (S4 (.same .nil)))))) (zw_ (S4 (.same .nil)))) fun y6=>(at_ [(Zo (owAt w_ (Qq0 K)) y6.2),(Zf tyStr c),(Zo (owL tyStr) y6.1),Zd,Zd] (zch_ (i:=3) rfl zs_ (zv_ (zf_ (zd_ 1 rfl))) fun m13=>(at_ [(Zo (owAt w_ (Qq0 K)) y6.2),(Zf tyStr c),(Zo (owL tyStr) y6.1),(Zf tyStr m13),Zd] (zch_ (i:=4) rfl zs_ (zv_ (zu_ (zd_ 1 rfl) (zf_ (za0_ (ns:=Qn0) (by decide +kernel) (n:=2) rfl (at_s (at_s at_0)) (zaI_ (P:=(Qq5 K)) 0 rfl))))) fun l15=>(at_ [(Zo (owAt w_ (Qq0 K)) y6.2),(Zf tyStr c),(Zo (owL tyStr) y6.1),(Zf tyStr m13),(Zf tyStr l15)] (zjH_ (i:=2) rfl zs_ (zj5_ (ziO_ (zlF_ (zd_ 3 rfl)) (ziO_ (zbS_ [32]) (ziO_ (zlF_ (zd_ 4 rfl)) zp9_)))) fun a28=>(at_ [(Zo (owAt w_ (Qq0 K)) y6.2),(Zf tyStr c),(Zo (owL tyStr) (y6.1++[a28])),(Zf tyStr m13),(Zf tyStr l15)] (zhi_ (za6_ (m := "raise_level") (ns:=Qn0) (by decide +kernel) (zbc_ (zk_ (zA_ (zF_ (zq_ zc_ (zn_ zc_)))) (zk_ (zA_ (zF_ (zq_ zc_ (zn_ zc_)))) (zk_ (zA_ (zF_ (zq_ zc_ (zn_ zc_)))) (zk_ (z2_ (z2_ (zbc_ (zk_ (zm_ zc_) (zk_ (zm_ zc_) (zk_ (zm_ zc_) (zk_ (zm_ zO_) zN_))))))) (zk_ (zm_ (zbW_ zs_)) (zk_ (zcB_ zO_) zN_))))))) (zm_ zhy_) (zfp_ (zbn_ rfl)) (zbu_ (zaF_ zc_ (zd4_ zas_ (zf_ (za0_ (ns:=Qn0) (by decide +kernel) (n:=0) rfl at_0 (zaI_ (P:=(Qq5 K)) 0 rfl))))) (zaX_ (zjp_ (zA_ zc_) (zaZ_ (ei_l (za0_ (ns:=Qn0) (by decide +kernel) (n:=1) rfl (at_s at_0) (zaI_ (P:=(Qq5 K)) 0 rfl))) (zI_ 0) (fun _=>dead1) (fun x32=>za1_) (fun x32=>(zv_ (zu_ (zd_ 1 rfl) (zf_ (zd_ 0 rfl)))))))))) fun q42=>(at_ [(Zo (owAt w_ (Qq0 K)) q42.2),(Zf tyStr c),(Zo (owL tyStr) (y6.1++[a28])),(Zf tyStr m13),(Zf tyStr l15)] (zfJ_ (i:=0) (n:=4) (by decide +kernel) rfl (by decide) (zcV_ (zcV_ (zcV_ (zcV_ zjT_)))) (zbW_ zs_) (znP_ (fun _ _ _=>zpU_) (zd_ 1 rfl)) (zdX_ (zbU_ rfl)) fun x44=>(at_ [(Zo (owAt w_ (Qq0 K)) x44),(Zf tyStr c),(Zo (owL tyStr) (y6.1++[a28])),(Zf tyStr m13),(Zf tyStr l15)] (zjt_ (i:=0) (j:=2) (by decide) rfl rfl))))))))))))))))
theorem zgQ_ (e:En K mg):zeI_ P w K mg base :=
 zep_ e.m e.f25 (okC (N:=["_law_number_here", "_law_most", "_law_first"]) (C:=(csCons tyInt (csLast tyInt))) (O:=(owF Qq2)) (t:=fun E=>zh3_ K) (g:=fun c=>zc5_ c.1 c.2) 2 1 (zC_ zt_) (fun _ _ _ _ _ _ E nd hr=>(ze_ (pst 2 (zR_ zK_ zj_ (zR_ zac_ (zR_ zdj_ (za_ 0) zj_) zj_))) (zh_ (zP_ (zpT_ (zb_ (za_ 2) (zb_ (zcO_ (zkF_ rfl) (e.m.gb e.b5) (zb_ zj_ (zb_ (zR_ zK_ (za_ 2) (zR_ zac_ (zR_ zdj_ (za_ 0) zj_) (za_ 1))) zg_))) zg_))))))) fun c E=>at_ [(Zf tyInt c.1),(Zf tyInt c.2),Zd]
 (zch_ (i:=2) rfl zc_ (zy_ z5_ (zl_ 1) (zy_ zad_ (zy_ zbV_ (zd_ 0 rfl) (zl_ 5)) (zl_ 36))) fun v1'=>(at_ [(Zf tyInt c.1),(Zf tyInt c.2),(Zf tyInt v1')] (zcm_ (zm_ (zF_ (zq_ zc_ (zn_ zc_)))) (EvF.ow (zpS_ (zap_ z4_) (zu_ (zd_ 2 rfl) (zf_ (zd4_ zp5_ (zu_ (zl_ 36) (zf_ (zy_ z5_ (zd_ 2 rfl) (zy_ zad_ (zy_ zbV_ (zd_ 0 rfl) (zl_ 180)) (zd_ 1 rfl))))))))))))))
theorem zhU_ (e:En K mg) (g14:zbv_ P w K mg base):zfX_ P w K mg base :=
 zep_ e.m e.f26 (okC (N:=["_law_cell", "_law_k", "_law_kinds_here", "_law_signs", "_law_numbers", "_law_text", "_law_at", "_law_step", "_law_low", "_law_two", "_law_some", "_law_mark"]) (C:=(csCons tyInt (csCons tyInt (csLast (tyL tyInt))))) (O:=(owF tyStr)) (t:=fun E=>ziA_ K) (g:=fun c=>zd3_ c.1 c.2.1 c.2.2) 3 9 (zC_ (zC_ zt_)) (fun _ _ _ _ _ _ E nd hr=>(ze_ (pst 3 (zcD_ (l:=SG))) (ze_ (pst 4 (zr_ g14 (hm hr) (zb_ (za_ 0) (zb_ zj_ zg_)))) (ze_ (pst 5 (zcD_ (l:=[]))) (ze_ (zbr_ PassesOwn.never rfl (zaT_ (e.m.gb e.b0) (zb_ zj_ zg_)) (pgn 6) (ze_ (pst 7 (zR_ zdj_ (zbd_ ix_M (za_ 4) (za_ 6) (fun _ _=>rfl)) zj_)) (ze_ (pst 8 (zR_ zdj_ (zbd_ ix_M (za_ 2) (za_ 6) (fun _ _=>rfl)) zj_)) (ze_ (pst 9 (zR_ zK_ (za_ 8) (zR_ zac_ (za_ 7) zj_))) (ze_ (pst 10 (zcv_ (zb_ (zR_ zK_ zj_ (zR_ zac_ (za_ 8) zj_)) (zb_ (zR_ zK_ zj_ (zR_ zac_ (za_ 7) zj_)) (zb_ (zR_ zac_ (za_ 9) zj_) (zb_ (zR_ zac_ (za_ 7) zj_) (zb_ (zR_ zK_ zj_ (zR_ zac_ (za_ 9) zj_)) zg_))))))) (zh_ (pst 5 (zR_ zK_ (za_ 5) (zbd_ ix_M (za_ 3) (zbd_ ix_M (za_ 10) (zR_ zac_ (zbd_ ix_M (za_ 2) (za_ 6) (fun _ _=>rfl)) zj_) (fun _ _=>rfl)) (fun _ _=>rfl)))))))))) (ze_ (pst 11 (zR_ zK_ (zR_ zK_ (zbd_ ix_M (za_ 3) (zR_ zac_ (za_ 0) zj_) (fun _ _=>rfl)) (zbd_ ix_M (za_ 3) (zR_ zac_ (za_ 1) zj_) (fun _ _=>rfl))) (zbd_ ix_M (za_ 3) (zR_ zac_ (zbd_ ix_M (za_ 4) zj_ (fun _ _=>rfl)) zj_) (fun _ _=>rfl)))) (zh_ (zP_ (zR_ zK_ (zR_ zK_ (za_ 5) (za_ 11)) (zbd_ ix_M (za_ 3) (zR_ zac_ (zR_ zdj_ (za_ 0) zj_) zj_) (fun _ _=>rfl))))))))))) fun c E=>at_ [(Zf tyInt c.1),(Zf tyInt c.2.1),(Zf (tyL tyInt) c.2.2),Zd,Zd,Zd,Zd,Zd,Zd,Zd,Zd,Zd]
 (zch_ (i:=3) rfl zs_ (zbS_ SG) fun t1'=>(at_ [(Zf tyInt c.1),(Zf tyInt c.2.1),(Zf (tyL tyInt) c.2.2),(Zf tyStr t1'),Zd,Zd,Zd,Zd,Zd,Zd,Zd,Zd] (zcb_ (i:=4) rfl (zA_ zc_) (zc2_ (zu_ (zd_ 0 rfl) (zf_ (zl_ 36)))) fun y2'=>zjN_ (i:=4) rfl (at_ [(Zf tyInt c.1),(Zf tyInt c.2.1),(Zf (tyL tyInt) c.2.2),(Zf tyStr t1'),(Zf (tyL tyInt) y2'),Zd,Zd,Zd,Zd,Zd,Zd,Zd] (zch_ (i:=5) rfl zs_ (zbS_ []) fun t6=>(at_ [(Zf tyInt c.1),(Zf tyInt c.2.1),(Zf (tyL tyInt) c.2.2),(Zf tyStr t1'),(Zf (tyL tyInt) y2'),(Zf tyStr t6),Zd,Zd,Zd,Zd,Zd,Zd] (zcj_ (LS:=(fun t7:(List Nat)=>[(Zf tyInt c.1),(Zf tyInt c.2.1),(Zf (tyL tyInt) c.2.2),(Zf tyStr t1'),(Zf (tyL tyInt) y2'),(Zf tyStr t7),Zd,Zd,Zd,Zd,Zd,Zd])) (zbi_ (L':=[(Zf tyInt c.1),(Zf tyInt c.2.1),(Zf (tyL tyInt) c.2.2),(Zf tyStr t1'),(Zf (tyL tyInt) y2'),(Zf tyStr t6),Zd,Zd,Zd,Zd,Zd,Zd]) (S4 (S4 (S4 .nil))) (zhz_ (LS:=(fun t7:(List Nat)=>[(Zf tyInt c.1),(Zf tyInt c.2.1),(Zf (tyL tyInt) c.2.2),(Zf tyStr t1'),(Zf (tyL tyInt) y2'),(Zf tyStr t7),Zd,Zd,Zd,Zd,Zd,Zd])) (s0:=t6) (zck_ (zf_ (zl_ 36))) (zI_ 6) fun t7 x9=>at_ [(Zf tyInt c.1),(Zf tyInt c.2.1),(Zf (tyL tyInt) c.2.2),(Zf tyStr t1'),(Zf (tyL tyInt) y2'),(Zf tyStr t7),(Zf tyInt x9),Zd,Zd,Zd,Zd,Zd] (zch_ (i:=7) rfl zc_ (zy_ zbV_ (zy_ zbl_ (zd_ 4 rfl) (zd_ 6 rfl)) (zl_ 7)) fun s10=>(at_ [(Zf tyInt c.1),(Zf tyInt c.2.1),(Zf (tyL tyInt) c.2.2),(Zf tyStr t1'),(Zf (tyL tyInt) y2'),(Zf tyStr t7),(Zf tyInt x9),(Zf tyInt s10),Zd,Zd,Zd,Zd] (zch_ (i:=8) rfl zc_ (zy_ zbV_ (zy_ zbl_ (zd_ 2 rfl) (zd_ 6 rfl)) (zl_ 5)) fun v15=>(at_ [(Zf tyInt c.1),(Zf tyInt c.2.1),(Zf (tyL tyInt) c.2.2),(Zf tyStr t1'),(Zf (tyL tyInt) y2'),(Zf tyStr t7),(Zf tyInt x9),(Zf tyInt s10),(Zf tyInt v15),Zd,Zd,Zd] (zch_ (i:=9) rfl zc_ (zy_ z5_ (zd_ 8 rfl) (zy_ zad_ (zd_ 7 rfl) (zl_ 2))) fun t20=>(at_ [(Zf tyInt c.1),(Zf tyInt c.2.1),(Zf (tyL tyInt) c.2.2),(Zf tyStr t1'),(Zf (tyL tyInt) y2'),(Zf tyStr t7),(Zf tyInt x9),(Zf tyInt s10),(Zf tyInt v15),(Zf tyInt t20),Zd,Zd] (zcb_ (i:=10) rfl (zA_ zc_) (zgS_ (zap_ (zap_ (zap_ (zap_ z4_)))) (zde_ (zde_ (zde_ (zde_ zcu_)))) (zu_ (zy_ z5_ (zl_ 1) (zy_ zad_ (zd_ 8 rfl) (zl_ 10))) (zu_ (zy_ z5_ (zl_ 1) (zy_ zad_ (zd_ 7 rfl) (zl_ 10))) (zu_ (zy_ zad_ (zd_ 9 rfl) (zl_ 37)) (zu_ (zy_ zad_ (zd_ 7 rfl) (zl_ 37)) (zf_ (zy_ z5_ (zl_ 1) (zy_ zad_ (zd_ 9 rfl) (zl_ 10))))))))) fun s25=>zjN_ (i:=10) rfl (at_ [(Zf tyInt c.1),(Zf tyInt c.2.1),(Zf (tyL tyInt) c.2.2),(Zf tyStr t1'),(Zf (tyL tyInt) y2'),(Zf tyStr t7),(Zf tyInt x9),(Zf tyInt s10),(Zf tyInt v15),(Zf tyInt t20),(Zf (tyL tyInt) s25),Zd] (zcX_ (zch_ (i:=5) rfl zs_ (zy_ zdh_ (zd_ 5 rfl) (zy_ zgw_ (zd_ 3 rfl) (zy_ zbl_ (zd_ 10 rfl) (zy_ zad_ (zy_ zbl_ (zd_ 2 rfl) (zd_ 6 rfl)) (zl_ 5))))) fun t51=>(at_ [(Zf tyInt c.1),(Zf tyInt c.2.1),(Zf (tyL tyInt) c.2.2),(Zf tyStr t1'),(Zf (tyL tyInt) y2'),(Zf tyStr t51),(Zf tyInt x9),(Zf tyInt s10),(Zf tyInt v15),(Zf tyInt t20),(Zf (tyL tyInt) s25),Zd] (zw_ (S4 (.same (.same (.dead (.dead (.dead (.dead (.dead (.same .nil))))))))))))))))))))))) fun t7=>(at_ [(Zf tyInt c.1),(Zf tyInt c.2.1),(Zf (tyL tyInt) c.2.2),(Zf tyStr t1'),(Zf (tyL tyInt) y2'),(Zf tyStr t7),Zd,Zd,Zd,Zd,Zd,Zd] (zch_ (i:=11) rfl zs_ (zy_ zdh_ (zy_ zdh_ (zy_ zgw_ (zd_ 3 rfl) (zy_ zad_ (zd_ 0 rfl) (zl_ 37))) (zy_ zgw_ (zd_ 3 rfl) (zy_ zad_ (zd_ 1 rfl) (zl_ 37)))) (zy_ zgw_ (zd_ 3 rfl) (zy_ zad_ (zy_ zbl_ (zd_ 4 rfl) (zl_ 0)) (zl_ 37)))) fun m63=>(at_ [(Zf tyInt c.1),(Zf tyInt c.2.1),(Zf (tyL tyInt) c.2.2),(Zf tyStr t1'),(Zf (tyL tyInt) y2'),(Zf tyStr t7),Zd,Zd,Zd,Zd,Zd,(Zf tyStr m63)] (zcm_ (zm_ zs_) (EvF.ow (zy_ zdh_ (zy_ zdh_ (zd_ 5 rfl) (zd_ 11 rfl)) (zy_ zgw_ (zd_ 3 rfl) (zy_ zad_ (zy_ zbV_ (zd_ 0 rfl) (zl_ 37)) (zl_ 37)))))))))))))))))
theorem zfo_ (e:En K mg):zcp_ P w K mg base :=
 zep_ e.m e.f27 (okEx fun u_=>okU (N:=["_law_row", "_law_values", "_law_full", "_law_over", "_law_k"]) (O:=(owPair u_ (owL tyInt) (owD kInt tyBl))) (O2:=(owPair u_ (owL tyInt) (owD kInt tyBl))) (C:=(csCons (tyL tyInt) (csCons tyInt (csLast (tyIs u_))))) (t:=fun E=>zgd_ K) (g:=fun x c=>zcA_ x.1 c.1 c.2.1 x.2) (LS:=fun w_=>(fun x':((List Int)×(List (Int×Bool)))=>[(Zo (owAt w_ (owPair u_ (owL tyInt) (owD kInt tyBl))) x'),Zd,Zd,Zd,Zd])) 3 1 (zC_ (zC_ zt_)) (fun _ _ _ _ _ _ E nd hr=>(zh_ (zbr_ PassesOwn.never rfl (zaT_ (e.m.gb e.b0) (zb_ (zcO_ zE_ (e.m.gb e.b2) (zb_ (za_ 0) zg_)) zg_)) (pgn 4) (ze_ (zkm_ (zR_ zK_ (zbd_ ix_M (za_ 0) (za_ 4) (fun _ _=>rfl)) (zbd_ ix_M (za_ 1) (za_ 4) (fun _ _=>rfl))) (zkY_ (za_ 0) (za_ 4) zoZ_)) (ze_ (zbG_ (zaY_ zow_ (zbd_ ix_M (za_ 0) (za_ 4) (fun _ _=>rfl)) (za_ 2)) (zh_ (zi7_ hr.u60 (za_ 3) (za_ 4) zh6_)) zaB_) (zh_ (zkm_ (zR_ zac_ (zbd_ ix_M (za_ 0) (za_ 4) (fun _ _=>rfl)) (za_ 2)) (zkY_ (za_ 0) (za_ 4) zoZ_)))))))) fun w_ x c E=>at_ [(Zo (owAt w_ (owPair u_ (owL tyInt) (owD kInt tyBl))) x),(Zf (tyL tyInt) c.1),(Zf tyInt c.2.1),(Zf (tyIs u_) c.2.2),Zd]
 (zfb_ (i:=0) (j:=3) rfl rfl (by decide) (at_ [(Zo (owAt w_ (owL tyInt)) x.1),(Zf (tyL tyInt) c.1),(Zf tyInt c.2.1),(Zo (owAt u_ (owD kInt tyBl)) x.2),Zd]
 (zcX_ (zcj_ (LS:=(fun s_1:((List Int)×(List (Int×Bool)))=>[(Zo (owAt w_ (owL tyInt)) s_1.1),(Zf (tyL tyInt) c.1),(Zf tyInt c.2.1),(Zo (owAt u_ (owD kInt tyBl)) s_1.2),Zd])) (zbi_ (L':=[(Zo (owAt w_ (owL tyInt)) x.1),(Zf (tyL tyInt) c.1),(Zf tyInt c.2.1),(Zo (owAt u_ (owD kInt tyBl)) x.2),Zd]) (S4 (.same .nil)) (zmR_ (LS:=(fun s_1:((List Int)×(List (Int×Bool)))=>[(Zo (owAt w_ (owL tyInt)) s_1.1),(Zf (tyL tyInt) c.1),(Zf tyInt c.2.1),(Zo (owAt u_ (owD kInt tyBl)) s_1.2),Zd])) (s0:=(x.1,x.2)) (eir_1 (zf_ (zd4_ zas_ (zf_ (zbf_ (O:=(owAt w_ (owL tyInt))) 0 rfl))))) (zI_ 4) fun s_1 x_4=>at_ [(Zo (owAt w_ (owL tyInt)) s_1.1),(Zf (tyL tyInt) c.1),(Zf tyInt c.2.1),(Zo (owAt u_ (owD kInt tyBl)) s_1.2),(Zf tyInt x_4)] (zlj_ (i:=0) (zdX_ (zbU_ rfl)) zc_ (zy_ z5_ (zy_ zbl_ (zbf_ (O:=(owAt w_ (owL tyInt))) 0 rfl) (zd_ 4 rfl)) (zy_ zbl_ (zd_ 1 rfl) (zd_ 4 rfl))) (zd_ 4 rfl) fun x15=>(at_ [(Zo (owAt w_ (owL tyInt)) x15),(Zf (tyL tyInt) c.1),(Zf tyInt c.2.1),(Zo (owAt u_ (owD kInt tyBl)) s_1.2),(Zf tyInt x_4)] (zcj_ (LS:=(fun s21:(List (Int×Bool))=>[(Zo (owAt w_ (owL tyInt)) x15),(Zf (tyL tyInt) c.1),(Zf tyInt c.2.1),(Zo (owAt u_ (owD kInt tyBl)) s21),(Zf tyInt x_4)])) (s_if (zaN_ (zy_ znC_ (zy_ zbl_ (zbf_ (O:=(owAt w_ (owL tyInt))) 0 rfl) (zd_ 4 rfl)) (zd_ 2 rfl))) (zcX_ (zld_ (i:=3) (zdX_ (zbU_ rfl)) zO_ zc_ (zh8_ true) (zd_ 4 rfl) fun x25=>(at_ [(Zo (owAt w_ (owL tyInt)) x15),(Zf (tyL tyInt) c.1),(Zf tyInt c.2.1),(Zo (owAt u_ (owD kInt tyBl)) x25),(Zf tyInt x_4)] (zw_ (S4 (.same .nil)))))) (zw_ (S4 (.same .nil)))) fun s21=>(at_ [(Zo (owAt w_ (owL tyInt)) x15),(Zf (tyL tyInt) c.1),(Zf tyInt c.2.1),(Zo (owAt u_ (owD kInt tyBl)) s21),(Zf tyInt x_4)] (zcX_ (zlj_ (i:=0) (zdX_ (zbU_ rfl)) zc_ (zy_ zad_ (zy_ zbl_ (zbf_ (O:=(owAt w_ (owL tyInt))) 0 rfl) (zd_ 4 rfl)) (zd_ 2 rfl)) (zd_ 4 rfl) fun x34=>(at_ [(Zo (owAt w_ (owL tyInt)) x34),(Zf (tyL tyInt) c.1),(Zf tyInt c.2.1),(Zo (owAt u_ (owD kInt tyBl)) s21),(Zf tyInt x_4)] (zw_ (S4 (.dead .nil)))))))))))) fun s_1=>(at_ [(Zo (owAt w_ (owL tyInt)) s_1.1),(Zf (tyL tyInt) c.1),(Zf tyInt c.2.1),(Zo (owAt u_ (owD kInt tyBl)) s_1.2),Zd] (zjD_ (i:=0) (j:=3) rfl rfl (by decide) (at_ [(Zo (owAt w_ (owPair u_ (owL tyInt) (owD kInt tyBl))) (s_1.1,s_1.2)),(Zf (tyL tyInt) c.1),(Zf tyInt c.2.1),(Zf (tyIs u_) ()),Zd] (zw_ (.same (.dead (.dead (.dead (.same .nil))))))))))))))
theorem zfR_ (e:En K mg) (g27:zcp_ P w K mg base):zd2_ P w K mg base :=
 zep_ e.m e.f28 (okEx fun u_=>okR (N:=["_law_wheels", "_law_level", "_law_full", "_law_over", "_law_shown_here", "_law_inner"]) (O:=(owPair u_ (owLO (owL tyInt)) (owD kInt tyBl))) (O2:=(owPair u_ (owLO (owL tyInt)) (owD kInt tyBl))) (Or:=(owLL tyInt)) (C:=(csCons tyInt (csCons tyInt (csLast (tyIs u_))))) (t:=fun E=>zf7_ K) (g:=fun x c=>zcE_ x.1 c.1 c.2.1 x.2) 3 2 (zC_ (zC_ zt_)) (fun _ _ _ _ _ _ E nd hr=>(ze_ (pst 4 (zcv_ zg_)) (ze_ (zbr_ PassesOwn.never rfl (zi4_ (e.m.gb e.b0) (zb_ (zR_ zbC_ (zcO_ zE_ (e.m.gb e.b2) (zb_ (za_ 0) zg_)) zj_) (zb_ (zR_ zbC_ (za_ 1) zj_) (zb_ (znc_ zj_) zg_)))) (pgn 5) (ze_ (zbg_ (zlD_ zdU_ zau_ zaw_ zb8_ (za_ 4) (zb_ (zoK_ "list" zcQ_ (e.m.gb e.b1) (zb_ (zbd_ ix_M (za_ 0) (za_ 5) (fun _ _=>rfl)) zg_)) zg_))) (ze_ (zbG_ (zaY_ zlU_ (za_ 5) zj_) (zh_ (zbg_ (zr_ g27 (hm hr) (zb_ (zbd_ ix_M (za_ 0) (zR_ zbC_ (za_ 5) zj_) (fun _ _=>rfl)) (zb_ (zbd_ ix_M (za_ 0) (za_ 5) (fun _ _=>rfl)) (zb_ (za_ 2) (zb_ (za_ 3) zg_))))))) zaB_) (zh_ (zkm_ (zR_ zcl_ (zcv_ (zb_ zj_ zg_)) (zcO_ zE_ (e.m.gb e.b2) (zb_ (zbd_ ix_M (za_ 0) (za_ 5) (fun _ _=>rfl)) zg_))) (zkY_ (za_ 0) (za_ 5) zoZ_)))))) (zh_ (zP_ (za_ 4)))))) fun w_ x c E=>at_ [(Zo (owAt w_ (owPair u_ (owLO (owL tyInt)) (owD kInt tyBl))) x),(Zf tyInt c.1),(Zf tyInt c.2.1),(Zf (tyIs u_) c.2.2),Zd,Zd]
 (zfb_ (i:=0) (j:=3) rfl rfl (by decide) (at_ [(Zo (owAt w_ (owLO (owL tyInt))) x.1),(Zf tyInt c.1),(Zf tyInt c.2.1),(Zo (owAt u_ (owD kInt tyBl)) x.2),Zd,Zd]
 (zcb_ (i:=4) rfl (ziM_ zc_) (zmW_ tyInt) fun s1'=>(at_ [(Zo (owAt w_ (owLO (owL tyInt))) x.1),(Zf tyInt c.1),(Zf tyInt c.2.1),(Zo (owAt u_ (owD kInt tyBl)) x.2),(Zo (owLL tyInt) s1'),Zd] (zcj_ (LS:=(fun s_2:Qq8=>[(Zo (owAt w_ (owLO (owL tyInt))) s_2.2.1),(Zf tyInt c.1),(Zf tyInt c.2.1),(Zo (owAt u_ (owD kInt tyBl)) s_2.2.2),(Zo (owLL tyInt) s_2.1),Zd])) (zbi_ (L':=[(Zo (owAt w_ (owLO (owL tyInt))) x.1),(Zf tyInt c.1),(Zf tyInt c.2.1),(Zo (owAt u_ (owD kInt tyBl)) x.2),(Zo (owLL tyInt) s1'),Zd]) (S4 (.same (.same .nil))) (zmR_ (LS:=(fun s_2:Qq8=>[(Zo (owAt w_ (owLO (owL tyInt))) s_2.2.1),(Zf tyInt c.1),(Zf tyInt c.2.1),(Zo (owAt u_ (owD kInt tyBl)) s_2.2.2),(Zo (owLL tyInt) s_2.1),Zd])) (s0:=(s1',x.1,x.2)) (eir_3 (zu_ (zy_ zbx_ (zd4_ zas_ (zf_ (zbf_ (O:=(owAt w_ (owLO (owL tyInt)))) 0 rfl))) (zl_ 1)) (zu_ (zy_ zbx_ (zd_ 1 rfl) (zl_ 1)) (zf_ (znO_ (zl_ 1)))))) (zI_ 5) fun s_2 v14=>at_ [(Zo (owAt w_ (owLO (owL tyInt))) s_2.2.1),(Zf tyInt c.1),(Zf tyInt c.2.1),(Zo (owAt u_ (owD kInt tyBl)) s_2.2.2),(Zo (owLL tyInt) s_2.1),(Zf tyInt v14)] (zok_ (i:=4) rfl zc_ (zhI_ zeX_ (zf_ (zy_ zbl_ (zbf_ (O:=(owAt w_ (owLO (owL tyInt)))) 0 rfl) (zd_ 5 rfl)))) fun a18=>(at_ [(Zo (owAt w_ (owLO (owL tyInt))) s_2.2.1),(Zf tyInt c.1),(Zf tyInt c.2.1),(Zo (owAt u_ (owD kInt tyBl)) s_2.2.2),(Zo (owLL tyInt) (s_2.1++[a18])),(Zf tyInt v14)] (zcj_ (LS:=(fun s22:((List (List Int))×(List (Int×Bool)))=>[(Zo (owAt w_ (owLO (owL tyInt))) s22.1),(Zf tyInt c.1),(Zf tyInt c.2.1),(Zo (owAt u_ (owD kInt tyBl)) s22.2),(Zo (owLL tyInt) (s_2.1++[a18])),(Zf tyInt v14)])) (s_if (zaN_ (zy_ zmn_ (zd_ 5 rfl) (zl_ 0))) (zjD_ (i:=0) (j:=3) rfl rfl (by decide) (zcX_ (at_ [(Zo (owAt w_ (owPair u_ (owLO (owL tyInt)) (owD kInt tyBl))) (s_2.2.1,s_2.2.2)),(Zf tyInt c.1),(Zf tyInt c.2.1),(Zf (tyIs u_) ()),(Zo (owLL tyInt) (s_2.1++[a18])),(Zf tyInt v14)] (zhi_ (zkL_ (O':=(owL tyInt)) (O2:=(owD kInt tyBl)) (v2:=u_) (Q:=(csCons tyInt (csLast (tyIs u_)))) (g:=fun x c=>zan_ x.1 c.1 c.2.1 x.2) (Or':=(owF tyNon)) (fun _ _ _ _ z=>⟨u_,z⟩) (zA_ zc_) (zcB_ zO_) (zm_ zhy_) rfl (zy_ zbx_ (zd_ 5 rfl) (zl_ 1)) (zd_ 5 rfl) (zbu_ (zaF_ zc_ (zd_ 2 rfl)) (zaX_ (zaF_ zkr_ (zd_ 3 rfl))))) fun q23=>(at_ [(Zo (owAt w_ (owPair u_ (owLO (owL tyInt)) (owD kInt tyBl))) q23.2),(Zf tyInt c.1),(Zf tyInt c.2.1),(Zf (tyIs u_) ()),(Zo (owLL tyInt) (s_2.1++[a18])),(Zf tyInt v14)] (zfb_ (i:=0) (j:=3) rfl rfl (by decide) (at_ [(Zo (owAt w_ (owLO (owL tyInt))) q23.2.1),(Zf tyInt c.1),(Zf tyInt c.2.1),(Zo (owAt u_ (owD kInt tyBl)) q23.2.2),(Zo (owLL tyInt) (s_2.1++[a18])),(Zf tyInt v14)] (at_ [(Zo (owAt w_ (owLO (owL tyInt))) q23.2.1),(Zf tyInt c.1),(Zf tyInt c.2.1),(Zo (owAt u_ (owD kInt tyBl)) q23.2.2),(Zo (owLL tyInt) (s_2.1++[a18])),(Zf tyInt v14)] (zw_ (S4 (.same (.same .nil)))))))))))) (zw_ (S4 (.same (.same .nil))))) fun s22=>(at_ [(Zo (owAt w_ (owLO (owL tyInt))) s22.1),(Zf tyInt c.1),(Zf tyInt c.2.1),(Zo (owAt u_ (owD kInt tyBl)) s22.2),(Zo (owLL tyInt) (s_2.1++[a18])),(Zf tyInt v14)] (zcX_ (znK_ (i:=0) (zdX_ (zbU_ rfl)) (zA_ zc_) (zmB_ zgz_ (EvO.fr (zgS_ z4_ zcu_ (zf_ (zl_ 0)))) (zd4_ zas_ (zf_ (zy_ zbl_ (zbf_ (O:=(owAt w_ (owLO (owL tyInt)))) 0 rfl) (zd_ 5 rfl))))) (zd_ 5 rfl) fun x45=>(at_ [(Zo (owAt w_ (owLO (owL tyInt))) x45),(Zf tyInt c.1),(Zf tyInt c.2.1),(Zo (owAt u_ (owD kInt tyBl)) s22.2),(Zo (owLL tyInt) (s_2.1++[a18])),(Zf tyInt v14)] (zw_ (S4 (.same (.dead .nil))))))))))))) fun s_2=>(at_ [(Zo (owAt w_ (owLO (owL tyInt))) s_2.2.1),(Zf tyInt c.1),(Zf tyInt c.2.1),(Zo (owAt u_ (owD kInt tyBl)) s_2.2.2),(Zo (owLL tyInt) s_2.1),Zd] (zjD_ (i:=0) (j:=3) rfl rfl (by decide) (at_ [(Zo (owAt w_ (owPair u_ (owLO (owL tyInt)) (owD kInt tyBl))) (s_2.2.1,s_2.2.2)),(Zf tyInt c.1),(Zf tyInt c.2.1),(Zf (tyIs u_) ()),(Zo (owLL tyInt) s_2.1),Zd] (zjt_ (i:=0) (j:=4) (by decide) rfl rfl))))))))))
theorem zgC_ (e:En K mg):zeD_ P w K mg base :=
 zep_ e.m e.f29 (okC (N:=["_law_number_here", "_law_figures", "_law_found", "_law_k"]) (C:=(csCons tyInt (csLast tyInt))) (O:=(owF tyStr)) (t:=fun E=>zhN_ K) (g:=fun c=>zcY_ c.1 c.2) 2 2 (zC_ zt_) (fun _ _ _ _ _ _ E nd hr=>(ze_ (pst 2 (zcD_ (l:=[]))) (ze_ (zbr_ PassesOwn.never rfl (zaT_ (e.m.gb e.b0) (zb_ (za_ 1) zg_)) (pgn 3) (ze_ (pst 2 (zR_ zK_ (zbd_ ix_M (zcD_ (l:=[48,49,50,51,52,53,54,55,56,57])) (zR_ zac_ (za_ 0) zj_) (fun _ _=>rfl)) (za_ 2))) (zh_ (pst 0 (zR_ zdj_ (za_ 0) zj_))))) (zh_ (zP_ (za_ 2)))))) fun c E=>at_ [(Zf tyInt c.1),(Zf tyInt c.2),Zd,Zd]
 (zch_ (i:=2) rfl zs_ (zbS_ []) fun w1'=>(at_ [(Zf tyInt c.1),(Zf tyInt c.2),(Zf tyStr w1'),Zd] (zcj_ (LS:=(fun s_2:((List Nat)×Int)=>[(Zf tyInt s_2.2),(Zf tyInt c.2),(Zf tyStr s_2.1),Zd])) (zbi_ (L':=[(Zf tyInt c.1),(Zf tyInt c.2),(Zf tyStr w1'),Zd]) (S4 .nil) (zhz_ (LS:=(fun s_2:((List Nat)×Int)=>[(Zf tyInt s_2.2),(Zf tyInt c.2),(Zf tyStr s_2.1),Zd])) (s0:=(w1',c.1)) (zck_ (zf_ (zd_ 1 rfl))) (zI_ 3) fun s_2 x_4=>at_ [(Zf tyInt s_2.2),(Zf tyInt c.2),(Zf tyStr s_2.1),(Zf tyInt x_4)] (zch_ (i:=2) rfl zs_ (zy_ zdh_ (zy_ zgw_ (zbS_ [48,49,50,51,52,53,54,55,56,57]) (zy_ zad_ (zd_ 0 rfl) (zl_ 10))) (zd_ 2 rfl)) fun z5=>(at_ [(Zf tyInt s_2.2),(Zf tyInt c.2),(Zf tyStr z5),(Zf tyInt x_4)] (zcX_ (zch_ (i:=0) rfl zc_ (zy_ zbV_ (zd_ 0 rfl) (zl_ 10)) fun n12=>(at_ [(Zf tyInt n12),(Zf tyInt c.2),(Zf tyStr z5),(Zf tyInt x_4)] (zw_ (.same (.same (.same (.dead .nil)))))))))))) fun s_2=>(at_ [(Zf tyInt s_2.2),(Zf tyInt c.2),(Zf tyStr s_2.1),Zd] (zcm_ (zm_ zs_) (EvF.ow (zd_ 2 rfl))))))))
theorem zgR_ (e:En K mg) (g29:zeD_ P w K mg base):zeT_ P w K mg base :=
 zep_ e.m e.f30 (okC (N:=["_law_lines", "_law_shown_here", "_law_figures", "_law_line", "_law_row", "_law_tail", "_law_number_here"]) (C:=(csCons (tyL tyStr) (csCons (tyL (tyL tyInt)) (csLast tyInt)))) (O:=(owF tyBl)) (t:=fun E=>zhB_ K) (g:=fun c=>zc4_ c.1 c.2.1 c.2.2) 3 4 (zC_ (zC_ zt_)) (fun _ _ _ _ _ _ E nd hr=>(ze_ (zbG_ (PW.pt (ziR_ (zfI_ (zcL_ (zcO_ zee_ (e.m.gb e.b6) (zb_ (za_ 0) (zb_ (znI_ "list" (e.m.gb e.b1)) zg_))))) (zkv_ (zaY_ zov_ (zcO_ zE_ (e.m.gb e.b2) (zb_ (za_ 0) zg_)) (zcO_ zE_ (e.m.gb e.b2) (zb_ (za_ 1) zg_)))))) (zh_ (zP_ zh6_)) zaB_) (ze_ (zbr_ PassesOwn.never rfl (zpD_ (e.m.gb e.b7) (zb_ (za_ 0) (zb_ (za_ 1) zg_))) (zhd_ (n:=2) rfl (za2_ (pgn 3) (za2_ (pgn 4) ze6_))) (ze_ (pst 5 (zcD_ (l:=[]))) (ze_ (zbr_ PassesOwn.never rfl (zca_ (za_ 4)) (pgn 6) (zh_ (pst 5 (zR_ zK_ (zR_ zK_ (za_ 5) (zcD_ (l:=[32]))) (zr_ g29 (hm hr) (zb_ (za_ 6) (zb_ (za_ 2) zg_))))))) (zh_ (zbG_ (PW.pt (ziR_ (zfI_ (zcL_ (zcO_ zee_ (e.m.gb e.b6) (zb_ (za_ 3) (zb_ (znI_ "str" (e.m.gb e.b3)) zg_))))) (ziR_ (zfI_ (zcL_ (zlm_ zdx_ zdt_ zkQ_ (za_ 3) (zb_ (zcD_ (l:=[42])) zg_)))) (zkv_ (zfI_ (zcL_ (zlm_ zew_ zet_ zn7_ (za_ 3) (zb_ (za_ 5) zg_)))))))) (zh_ (zP_ zh6_)) zaB_))))) (zh_ (zP_ zh6_))))) fun c E=>at_ [(Zf (tyL tyStr) c.1),(Zf (tyL (tyL tyInt)) c.2.1),(Zf tyInt c.2.2),Zd,Zd,Zd,Zd]
 (zcj_ (LS:=(fun _:Unit=>[(Zf (tyL tyStr) c.1),(Zf (tyL (tyL tyInt)) c.2.1),(Zf tyInt c.2.2),Zd,Zd,Zd,Zd])) (s_if (znb_ (zfQ_ (zaN_ (ziL_ tn_l (zd_ 0 rfl)))) (zaN_ (zy_ zn3_ (zd4_ zas_ (zf_ (zd_ 0 rfl))) (zd4_ zas_ (zf_ (zd_ 1 rfl)))))) (zcm_ (zm_ zO_) (EvF.ow (zh8_ false))) (zw_ (S4 (.same (.same (.same .nil)))))) fun _=>(at_ [(Zf (tyL tyStr) c.1),(Zf (tyL (tyL tyInt)) c.2.1),(Zf tyInt c.2.2),Zd,Zd,Zd,Zd] (zcj_ (LS:=(fun _:Unit=>[(Zf (tyL tyStr) c.1),(Zf (tyL (tyL tyInt)) c.2.1),(Zf tyInt c.2.2),Zd,Zd,Zd,Zd])) (zbi_ (L':=[(Zf (tyL tyStr) c.1),(Zf (tyL (tyL tyInt)) c.2.1),(Zf tyInt c.2.2),Zd,Zd,Zd,Zd]) (S4 (.same (.same (.same .nil)))) (zhz_ (LS:=(fun _:Unit=>[(Zf (tyL tyStr) c.1),(Zf (tyL (tyL tyInt)) c.2.1),(Zf tyInt c.2.2),Zd,Zd,Zd,Zd])) (s0:=()) (zo1_ (zu_ (zd_ 0 rfl) (zf_ (zd_ 1 rfl)))) (zkN_ (zap_ z4_) (zhg_ 3 (zhj_ (zI_ 4)))) fun _ x15=>at_ [(Zf (tyL tyStr) c.1),(Zf (tyL (tyL tyInt)) c.2.1),(Zf tyInt c.2.2),(Zf tyStr x15.1),(Zf (tyL tyInt) x15.2),Zd,Zd] (zch_ (i:=5) rfl zs_ (zbS_ []) fun t16=>(at_ [(Zf (tyL tyStr) c.1),(Zf (tyL (tyL tyInt)) c.2.1),(Zf tyInt c.2.2),(Zf tyStr x15.1),(Zf (tyL tyInt) x15.2),(Zf tyStr t16),Zd] (zcj_ (LS:=(fun s17:(List Nat)=>[(Zf (tyL tyStr) c.1),(Zf (tyL (tyL tyInt)) c.2.1),(Zf tyInt c.2.2),(Zf tyStr x15.1),(Zf (tyL tyInt) x15.2),(Zf tyStr s17),Zd])) (zbi_ (L':=[(Zf (tyL tyStr) c.1),(Zf (tyL (tyL tyInt)) c.2.1),(Zf tyInt c.2.2),(Zf tyStr x15.1),(Zf (tyL tyInt) x15.2),(Zf tyStr t16),Zd]) (S4 (.same (.same (.same .nil)))) (zhz_ (LS:=(fun s17:(List Nat)=>[(Zf (tyL tyStr) c.1),(Zf (tyL (tyL tyInt)) c.2.1),(Zf tyInt c.2.2),(Zf tyStr x15.1),(Zf (tyL tyInt) x15.2),(Zf tyStr s17),Zd])) (s0:=t16) (ei_l (zd_ 4 rfl)) (zI_ 6) fun s17 x18=>at_ [(Zf (tyL tyStr) c.1),(Zf (tyL (tyL tyInt)) c.2.1),(Zf tyInt c.2.2),(Zf tyStr x15.1),(Zf (tyL tyInt) x15.2),(Zf tyStr s17),(Zf tyInt x18)] (zcX_ (zch_ (i:=5) rfl zs_ (zy_ zdh_ (zy_ zdh_ (zd_ 5 rfl) (zbS_ [32])) (zv_ (zu_ (zd_ 6 rfl) (zf_ (zd_ 2 rfl))))) fun t19=>(at_ [(Zf (tyL tyStr) c.1),(Zf (tyL (tyL tyInt)) c.2.1),(Zf tyInt c.2.2),(Zf tyStr x15.1),(Zf (tyL tyInt) x15.2),(Zf tyStr t19),(Zf tyInt x18)] (zw_ (S4 (.same (.same (.dead .nil)))))))))) fun s17=>(at_ [(Zf (tyL tyStr) c.1),(Zf (tyL (tyL tyInt)) c.2.1),(Zf tyInt c.2.2),(Zf tyStr x15.1),(Zf (tyL tyInt) x15.2),(Zf tyStr s17),Zd] (s_if (znb_ (zfQ_ (zaN_ (ziL_ zpn_ (zd_ 3 rfl)))) (znb_ (zfQ_ (zaN_ (zls_ zkK_ (zd_ 3 rfl) (zf_ (zbS_ [42]))))) (zfQ_ (zaN_ (zls_ zm5_ (zd_ 3 rfl) (zf_ (zd_ 5 rfl))))))) (zcm_ (zm_ zO_) (EvF.ow (zh8_ false))) (zw_ (.same (.same (.same (.dead (.dead (.dead (.same .nil))))))))))))))) fun _=>(at_ [(Zf (tyL tyStr) c.1),(Zf (tyL (tyL tyInt)) c.2.1),(Zf tyInt c.2.2),Zd,Zd,Zd,Zd] (zcm_ (zm_ zO_) (EvF.ow (zh8_ true))))))))
theorem zgE_ (e:En K mg):zeN_ P w K mg base :=
 zep_ e.m e.f31 (okC (N:=["_law_found"]) (C:=(csLast tyInt)) (O:=(owF tyBl)) (t:=fun E=>zhV_ K) (g:=fun c=>zeU_ c) 1 0 zt_ (fun _ _ _ _ _ _ E nd hr=>(zh_ (zP_ (zjM_ (zcO_ zee_ (e.m.gb e.b6) (zb_ (za_ 0) (zb_ (znI_ "int" (e.m.gb e.b8)) zg_))) (znR_ (zor_ (zcO_ zee_ (e.m.gb e.b6) (zb_ (za_ 0) (zb_ (znI_ "bool" (e.m.gb e.b9)) zg_))))))))) fun c E=>at_ [(Zf tyInt c)]
 (zcm_ (zm_ zO_) (EvF.ow (zmX_ (ziL_ znV_ (zd_ 0 rfl)) (zpv_ (ziL_ znV_ (zd_ 0 rfl)))))))
theorem zf4_ (e:En K mg) (g31:zeN_ P w K mg base):zeG_ P w K mg base :=
 zep_ e.m e.f32 (okRk (N:=["_law_found", "_law_over", "_law_place"]) (O:=(owL tyInt)) (O2:=(owL tyInt)) (Or:=(owF tyBl)) (C:=(csLast (tyD kInt tyBl))) (t:=fun E=>zhL_ K) (g:=fun x c=>zc1_ x c) 0 1 1 zt_ (fun _ _ _ _ _ _ E nd hr=>(ze_ (zbG_ (PW.pt (ziR_ (zfI_ (zcL_ (zcO_ zee_ (e.m.gb e.b6) (zb_ (za_ 0) (zb_ (znI_ "list" (e.m.gb e.b1)) zg_))))) (zkv_ (zaY_ (zii_ hr.u60) (za_ 0) (zcO_ (zdg_ runB64 rfl) (e.m.gb e.b10) (zb_ (za_ 1) zg_)))))) (zh_ (zP_ zh6_)) zaB_) (ze_ (zbr_ PassesOwn.never rfl (zca_ (za_ 0)) (pgn 2) (zh_ (zbG_ (zfI_ (zcL_ (zr_ g31 (hm hr) (zb_ (za_ 2) zg_)))) (zh_ (zP_ zh6_)) zaB_))) (ze_ (zbg_ (zlD_ zdU_ zau_ zaw_ zb8_ (za_ 0) (zb_ zj_ zg_))) (zh_ (zP_ zh6_)))))) fun w_ x c E=>at_ [(Zo (owAt w_ (owL tyInt)) x),(Zf (tyD kInt tyBl) c),Zd]
 (zcj_ (LS:=(fun _:Unit=>[(Zo (owAt w_ (owL tyInt)) x),(Zf (tyD kInt tyBl) c),Zd])) (s_if (znb_ (zfQ_ (zaN_ (ziL_ tn_l (zbf_ (O:=(owAt w_ (owL tyInt))) 0 rfl)))) (zaN_ (zy_ (znD_ (eqt_l zns_)) (zbf_ (O:=(owAt w_ (owL tyInt))) 0 rfl) (EvO.fr (zhI_ (zey_ zm6_ zm3_ zny_) (zf_ (zd_ 1 rfl))))))) (zkJ_ (i:=0) rfl zO_ (zh8_ false)) (zw_ (.same (.same (.same .nil))))) fun _=>(at_ [(Zo (owAt w_ (owL tyInt)) x),(Zf (tyD kInt tyBl) c),Zd] (zcj_ (LS:=(fun _:Unit=>[(Zo (owAt w_ (owL tyInt)) x),(Zf (tyD kInt tyBl) c),Zd])) (zbi_ (L':=[(Zo (owAt w_ (owL tyInt)) x),(Zf (tyD kInt tyBl) c),Zd]) (.same (.same (.same .nil))) (znH_ (i0:=0) (LS:=(fun _:Unit=>[(Zo (owAt w_ (owL tyInt)) x),(Zf (tyD kInt tyBl) c),Zd])) (s0:=()) (fun _=>rfl) (zI_ 2) fun _ x12=>at_ [(Zo (owAt w_ (owL tyInt)) x),(Zf (tyD kInt tyBl) c),(Zf tyInt x12)] (s_if (zfQ_ (zaN_ (zv_ (zf_ (zd_ 2 rfl))))) (zkJ_ (i:=0) rfl zO_ (zh8_ false)) (zw_ (.same (.same (.dead .nil))))))) fun _=>(at_ [(Zo (owAt w_ (owL tyInt)) x),(Zf (tyD kInt tyBl) c),Zd] (zju_ (i:=0) (zdX_ (zbU_ rfl)) zc_ (zl_ 99) fun x19=>(at_ [(Zo (owAt w_ (owL tyInt)) x19),(Zf (tyD kInt tyBl) c),Zd] (zkJ_ (i:=0) rfl zO_ (zh8_ true)))))))))
theorem zdQ_ (e:En K mg):zco_ P w K mg base :=
 zhO_ e.w1 e.f33 (okC (N:=["self"]) (C:=(csLast (Qq4 K))) (O:=(owL tyInt)) (t:=fun E=>zeq_ K) (g:=fun c=>zbb_ c) 1 0 zt_ (fun _ _ _ _ _ _ E nd hr=>(zh_ (zP_ (zcO_ (zdg_ runB64 rfl) (e.m.gb e.b10) (zb_ (zX_ e.w1.cls e.a9.no (za_ 0)) zg_))))) fun c E=>at_ [(Zf (Qq4 K) c)]
 (zcm_ (zA_ zc_) (zhI_ (zey_ zm6_ zm3_ zny_) (zf_ (za0_ (ns:=Qn0) (by decide +kernel) (n:=5) rfl (at_s (at_s (at_s (at_s (at_s at_0))))) (zd_ 0 rfl))))))
theorem zh2_ (e:En K mg):zfq_ P w K mg base :=
 zep_ e.m e.f34 (okC (N:=["_law_card_here", "_law_field_here"]) (C:=(csCons tyStr (csLast Qq2))) (O:=(owF tyStr)) (t:=fun E=>ziN_ K) (g:=fun c=>zdZ_ c.1 c.2) 2 0 (zC_ zt_) (fun _ _ _ _ _ _ E nd hr=>(zh_ (zP_ (zcZ_ sl_M (za_ 0) (po_M (zR_ zbC_ (zbd_ ix_M (za_ 1) zj_ (fun _ _=>rfl)) zj_)) (po_M (zbd_ ix_M (za_ 1) zj_ (fun _ _=>rfl))))))) fun c E=>at_ [(Zf tyStr c.1),(Zf Qq2 c.2)]
 (zcm_ (zm_ zs_) (EvF.ow (zkz_ (zd_ 0 rfl) (zjW_ (zy_ zbx_ (zfG_ (i:=0) at_0 (zd_ 1 rfl)) (zl_ 1))) (zjW_ (zfG_ (i:=1) (at_s zhk_) (zd_ 1 rfl)))))))
theorem zfC_ (e:En K mg) (g34:zfq_ P w K mg base):zd1_ P w K mg base :=
 zep_ e.m e.f35 (okC (N:=["_law_card_here", "_law_other", "_law_breaks", "_law_k"]) (C:=(csCons tyStr (csCons tyStr (csLast (tyL Qq2))))) (O:=(owF tyInt)) (t:=fun E=>zgf_ K) (g:=fun c=>zcw_ c.1 c.2.1 c.2.2) 3 1 (zC_ (zC_ zt_)) (fun _ _ _ _ _ _ E nd hr=>(ze_ (zbr_ PassesOwn.never rfl (zaT_ (e.m.gb e.b0) (zb_ (zcO_ zE_ (e.m.gb e.b2) (zb_ (za_ 2) zg_)) zg_)) (pgn 3) (zh_ (zbG_ (zaY_ (zii_ hr.u60) (zr_ g34 (hm hr) (zb_ (za_ 0) (zb_ (zbd_ ix_M (za_ 2) (za_ 3) (fun _ _=>rfl)) zg_))) (zr_ g34 (hm hr) (zb_ (za_ 1) (zb_ (zbd_ ix_M (za_ 2) (za_ 3) (fun _ _=>rfl)) zg_)))) (zh_ (zP_ (zR_ zK_ (za_ 3) zj_))) zaB_))) (zh_ (zP_ (zR_ zK_ (zcO_ zE_ (e.m.gb e.b2) (zb_ (za_ 2) zg_)) zj_))))) fun c E=>at_ [(Zf tyStr c.1),(Zf tyStr c.2.1),(Zf (tyL Qq2) c.2.2),Zd]
 (zcj_ (LS:=(fun _:Unit=>[(Zf tyStr c.1),(Zf tyStr c.2.1),(Zf (tyL Qq2) c.2.2),Zd])) (zbi_ (L':=[(Zf tyStr c.1),(Zf tyStr c.2.1),(Zf (tyL Qq2) c.2.2),Zd]) (S4 .nil) (zhz_ (LS:=(fun _:Unit=>[(Zf tyStr c.1),(Zf tyStr c.2.1),(Zf (tyL Qq2) c.2.2),Zd])) (s0:=()) (zck_ (zf_ (zd4_ zas_ (zf_ (zd_ 2 rfl))))) (zI_ 3) fun _ x_4=>at_ [(Zf tyStr c.1),(Zf tyStr c.2.1),(Zf (tyL Qq2) c.2.2),(Zf tyInt x_4)] (s_if (zaN_ (zy_ zne_ (zv_ (zu_ (zd_ 0 rfl) (zf_ (zy_ zbl_ (zd_ 2 rfl) (zd_ 3 rfl))))) (zv_ (zu_ (zd_ 1 rfl) (zf_ (zy_ zbl_ (zd_ 2 rfl) (zd_ 3 rfl))))))) (zcm_ (zm_ zc_) (EvF.ow (zy_ z5_ (zd_ 3 rfl) (zl_ 1)))) (zw_ (.same (.same (.same (.dead .nil)))))))) fun _=>(at_ [(Zf tyStr c.1),(Zf tyStr c.2.1),(Zf (tyL Qq2) c.2.2),Zd] (zcm_ (zm_ zc_) (EvF.ow (zy_ z5_ (zd4_ zas_ (zf_ (zd_ 2 rfl))) (zl_ 1)))))))
theorem zfE_ (e:En K mg):zd5_ P w K mg base :=
 zep_ e.m e.f36 (okC (N:=["_law_card_here", "_law_field_here", "_law_total", "_law_sign"]) (C:=(csCons tyStr (csLast Qq2))) (O:=(owF tyInt)) (t:=fun E=>zf5_ K) (g:=fun c=>zcs_ c.1 c.2) 2 2 (zC_ zt_) (fun _ _ _ _ _ _ E nd hr=>(ze_ (pst 2 zj_) (ze_ (zbr_ PassesOwn.never rfl (zca_ (zcZ_ sl_M (za_ 0) (po_M (zR_ zbC_ (zbd_ ix_M (za_ 1) zj_ (fun _ _=>rfl)) zj_)) (po_M (zbd_ ix_M (za_ 1) zj_ (fun _ _=>rfl))))) (pgn 3) (zh_ (pst 2 (zR_ zK_ (zR_ zcl_ zj_ (za_ 2)) (zcO_ (zk6_ rfl) (e.m.gb e.b11) (zb_ zj_ (zb_ (zlm_ zh5_ zhM_ znv_ (zcD_ (l:=[48,49,50,51,52,53,54,55,56,57])) (zb_ (za_ 3) zg_)) zg_))))))) (zh_ (zP_ (za_ 2)))))) fun c E=>at_ [(Zf tyStr c.1),(Zf Qq2 c.2),Zd,Zd]
 (zch_ (i:=2) rfl zc_ (zl_ 0) fun u1''=>(at_ [(Zf tyStr c.1),(Zf Qq2 c.2),(Zf tyInt u1''),Zd] (zcj_ (LS:=(fun s_2:Int=>[(Zf tyStr c.1),(Zf Qq2 c.2),(Zf tyInt s_2),Zd])) (zbi_ (L':=[(Zf tyStr c.1),(Zf Qq2 c.2),(Zf tyInt u1''),Zd]) (S4 .nil) (zhz_ (LS:=(fun s_2:Int=>[(Zf tyStr c.1),(Zf Qq2 c.2),(Zf tyInt s_2),Zd])) (s0:=u1'') (zmv_ (zkz_ (zd_ 0 rfl) (zjW_ (zy_ zbx_ (zfG_ (i:=0) at_0 (zd_ 1 rfl)) (zl_ 1))) (zjW_ (zfG_ (i:=1) (at_s zhk_) (zd_ 1 rfl))))) (zI_ 3) fun s_2 v13=>at_ [(Zf tyStr c.1),(Zf Qq2 c.2),(Zf tyInt s_2),(Zf tyStr v13)] (zcX_ (zch_ (i:=2) rfl zc_ (zy_ z5_ (zy_ zdb_ (zl_ 10) (zd_ 2 rfl)) (zd4_ zpm_ (zu_ (zl_ 0) (zf_ (zls_ znt_ (zbS_ [48,49,50,51,52,53,54,55,56,57]) (zf_ (zd_ 3 rfl))))))) fun t14=>(at_ [(Zf tyStr c.1),(Zf Qq2 c.2),(Zf tyInt t14),(Zf tyStr v13)] (zw_ (.same (.same (.same (.dead .nil)))))))))) fun s_2=>(at_ [(Zf tyStr c.1),(Zf Qq2 c.2),(Zf tyInt s_2),Zd] (zcm_ (zm_ zc_) (EvF.ow (zd_ 2 rfl))))))))
end
end K35
namespace K35
open PySem PySem.Spec PyProof.Rows L2
open Mo renaming bind→Mb,ok→Mq
open Sl renaming fz→Zf,dead→Zd,ow→Zo
local macro_rules | `(tactic| walk_at "mo") => `(tactic| simp only [Mo.okB, Mo.exB, Mo.noB, Mo.noexO, Mo.optS, zfc_, zmd_, zlO_, zlW_, zpN_, zmj_, znq_, zoJ_, zmk_, grd_T, Bool.not_true, Bool.not_false, if_true, if_false, Bool.false_eq_true, Option.map_some, Option.map_none, ite_true, ite_false, Int.reduceLT, Int.reduceLE, Int.reduceNeg, Int.reduceSub, Int.reduceAdd, Int.reduceMul, Nat.reduceAdd, Nat.reduceLT, decide_true, decide_false, Option.isSome_none, Option.isSome_some, Option.isNone_none, Option.isNone_some, Bool.and_true, Bool.and_false])
theorem zg0_ (ns:List Int) (k:Int) (h:0≤k):∃ c,zT_ ns k=.ok c:=by
 unfold zT_ zb1_
 walk_at "mo"
 by_cases hk:k<(ns.length:Int)
 ·obtain ⟨x,e,_⟩:=zbY_ h hk
  rw [decide_eq_true hk,if_pos rfl,e]
  exact ⟨x,rfl⟩
 ·rw [decide_eq_false hk,if_neg (by decide)]
  exact ⟨0,rfl⟩
theorem fold10 {α:Type}:∀ (xs:List α) (a:Int),xs.foldl (fun s _=>10*s) a=10 ^ xs.length*a
 | [],a=>by simp
 | x::xs,a=>by rw [List.foldl_cons,fold10 xs,List.length_cons,Int.pow_succ,Int.mul_assoc]
theorem zki_ {n:Int}(h0:0≤n) (h1:n≤1000):zfk_ n=.ok (10 ^ n.toNat):=by
 unfold zfk_ zf3_
 simp only [Mo.okB]
 rw [Mo.grd_ok ⟨by lia,by lia⟩,Mo.okB,zbO_ (fun s _=>10*s) (fun s x _=>by rw [zip_ (by decide) (by decide)]; simp [Int.mul_comm]),fold10,zaE_]
 simp
theorem zay_ (n:Nat):(0:Int)<10 ^ n:=Int.pow_pos (by decide)
theorem zlZ_ {v:Int}{n:Nat}(h0:0≤v) (h1:v<10 ^ n) (hn:n≤100):v.natAbs.log2<1920:=by
 have h2:v.natAbs<10 ^ n:=by
  have e1:(10:Int) ^ n=((10 ^ n:Nat):Int):=by rw [Int.natCast_pow]; rfl
  rw [e1] at h1; lia
 have h3:10 ^ n≤10 ^ 100:=Nat.pow_le_pow_right (by decide) hn
 have h4:(10:Nat) ^ 100<2 ^ 1000:=by decide
 rcases log2_lt (Nat.lt_of_lt_of_le (Nat.lt_of_lt_of_le h2 h3) (Nat.le_of_lt h4)) with q | q
 ·lia
 ·rw [q]; decide
theorem zl4_ {w:Nat}{v:Int}(hw:1≤w) (h0:0≤v) (h1:v<10 ^ w):zfL (strI v) (w:Int)=digs w v.toNat:=by
 obtain ⟨m,rfl⟩:=Int.eq_ofNat_of_zero_le h0
 rw [zjE_]
 have h2:m<10 ^ w:=by
  have e1:(10:Int) ^ w=((10 ^ w:Nat):Int):=by rw [Int.natCast_pow]; rfl
  rw [e1] at h1; lia
 exact zjc_ hw h2
theorem zj1_ (v:Int) {j w:Nat}(h:j<w):((v % 10 ^ w).toNat / 10 ^ j % 10:Nat)=(v / 10 ^ j % 10).toNat:=by
 have hp:=zay_ j
 have hw:=zay_ w
 obtain ⟨d,rfl⟩:∃ d,w=j+(d+1):=⟨w-j-1,by lia⟩
 have e0:v=v % 10 ^ (j+(d+1))+10 ^ j*(10*(10 ^ d*(v / 10 ^ (j+(d+1))))):=by
  have:=Int.emod_add_mul_ediv v (10 ^ (j+(d+1)))
  rw [← Int.mul_assoc 10,← Int.mul_assoc (10 ^ j),show (10:Int) ^ j*(10*10 ^ d)=10 ^ (j+(d+1)) by rw [Int.pow_add,Int.pow_succ]; simp [Int.mul_comm,Int.mul_left_comm,Int.mul_assoc]]
  lia
 have h0:0≤v % 10 ^ (j+(d+1)):=Int.emod_nonneg v (Int.ne_of_gt hw)
 generalize v % 10 ^ (j+(d+1))=m at *
 generalize (10 ^ d*(v / 10 ^ (j+(d+1))))=q at *
 subst e0
 rw [Int.add_mul_ediv_left _ _ (Int.ne_of_gt hp),Int.add_mul_emod_self_left]
 obtain ⟨n,rfl⟩:=Int.eq_ofNat_of_zero_le h0
 rw [Int.toNat_natCast,show (10:Int) ^ j=((10 ^ j:Nat):Int) by rw [Int.natCast_pow]; rfl]
 lia
theorem zop_ {d:Int}(h0:0≤d) (h1:d<10):strI d=[48+d.toNat]:=by
 obtain ⟨m,rfl⟩:=Int.eq_ofNat_of_zero_le h0
 rw [zjE_,zpW_ (by lia)]
 rfl
def isF (f:Int×Int):Prop:=1≤f.1∧f.1≤f.2∧f.2≤36
def prt (c:List Nat) (f:Int×Int):List Nat:=cutG c (some (f.1-1)) (some f.2)
def num (c:List Nat) (f:Int×Int):Int:=numL ((prt c f).map fig)
def wd (f:Int×Int):Nat:=(f.2-f.1+1).toNat
def pun (c:List Nat) (f:Int×Int) (v:Int):List Nat:=cutG c none (some (f.1-1))++digs (wd f) (v % 10 ^ wd f).toNat++cutG c (some f.2) none
theorem zeA_ (c:List Nat) (f:Int×Int) (h:c.length≤100000):za5_ c f=.ok (prt c f):=by
 unfold za5_ zfm_
 walk_at "mo"
 rw [Mo.lim_ok h]
 rfl
theorem zgK_ (l:List Nat) (h:∀ c∈l,48≤c∧c≤57):zb7_ l=.ok (numL l):=by
 unfold zb7_ zc6_
 walk_at "mo"
 rw [zbO_ (fun (s:Int) (x:List Nat)=>s*10+((x.headD 0:Nat)-48))]
 ·rw [List.foldl_map]
  rfl
 ·intro s x hx
  obtain ⟨c,hc,rfl⟩:=List.mem_map.mp hx
  rw [zip_ (by decide) (by decide)]
  walk_at "mo"
  have:=h c hc
  rw [zfV_ this,Mo.grd_ok (by lia)]
  rfl
theorem zfD_ (l:List Nat):joinS [] (strsL (l.map fun c=>[c]))=l:=by
 have:=L2.zk1_ l
 unfold strsL
 rw [List.map_map]
 exact this
theorem zhA_ (c:List Nat) (f:Int×Int) (h:c.length≤1000):zaP_ c f=.ok (num c f):=by
 unfold zaP_ zda_
 walk_at "mo"
 have hp:(prt c f).length≤1000:=Nat.le_trans (zfg_ _ _ _) h
 rw [zeA_ c f (by lia)]
 walk_at "mo"
 rw [zV_ (g:=fun x=>[fig (x.headD 0)]) (fun x hx=>?_) (by rw [List.length_map]; simp; lia)]
 ·walk_at "mo"
  have e:List.map (fun x:List Nat=>[fig (x.headD 0)]) (List.map (fun c=>[c]) (prt c f))=((prt c f).map fig).map fun c=>[c]:=by
   rw [List.map_map,List.map_map]; rfl
  rw [List.nil_append,e,zfD_,Mo.grd_ok,Mo.okB,zgK_ _ (fun c hc=>?_)]
  ·rfl
  ·obtain ⟨b,_,rfl⟩:=List.mem_map.mp hc
   exact zg6_ b
  ·refine zdT_ ?_ ?_
   ·unfold strsL; simp [Str.length]; lia
   ·intro z hz
    unfold strsL at hz
    rw [List.map_map] at hz
    obtain ⟨b,_,rfl⟩:=List.mem_map.mp hz
    exact Nat.le_refl 1
 ·obtain ⟨d,hd,rfl⟩:=List.mem_map.mp hx
  rw [zkn_]
  unfold fig cond1
  by_cases q:48≤d∧d≤57
  ·simp [q]
  ·simp [q]
theorem zlw_:∀ (l:List Nat) (a:Int),(∀ c∈l,48≤c∧c≤57)→0≤a→0≤l.foldl (fun (v:Int) (c:Nat)=>v*10+((c:Int)-48)) a∧l.foldl (fun (v:Int) (c:Nat)=>v*10+((c:Int)-48)) a<(a+1)*10 ^ l.length
 | [],a,_,h=>by simp; lia
 | c::l,a,hc,h=>by
  have h1:=hc c (List.mem_cons_self ..)
  have:=zlw_ l (a*10+((c:Int)-48)) (fun d hd=>hc d (List.mem_cons_of_mem _ hd)) (by lia)
  rw [List.foldl_cons,List.length_cons]
  refine ⟨this.1,Int.lt_of_lt_of_le this.2 ?_⟩
  rw [Int.pow_succ,Int.mul_comm (10 ^ l.length) 10,← Int.mul_assoc]
  exact Int.mul_le_mul_of_nonneg_right (by lia) (Int.pow_nonneg (by decide))
theorem num_lt (c:List Nat) (f:Int×Int) (h:c.length≤40):0≤num c f∧num c f<10 ^ 40:=by
 have h1:=zlw_ ((prt c f).map fig) 0 (fun c hc=>by obtain ⟨b,_,rfl⟩:=List.mem_map.mp hc; exact zg6_ b) (by decide)
 refine ⟨h1.1,Int.lt_of_lt_of_le h1.2 ?_⟩
 have h2:((prt c f).map fig).length≤40:=by rw [List.length_map]; exact Nat.le_trans (zfg_ _ _ _) h
 rw [show (0:Int)+1=1 from rfl,Int.one_mul]
 have h3:10 ^ ((prt c f).map fig).length≤10 ^ 40:=Nat.pow_le_pow_right (by decide) h2
 have e1:∀ n:Nat,(10:Int) ^ n=((10 ^ n:Nat):Int):=fun n=>by rw [Int.natCast_pow]; rfl
 rw [e1,e1]
 exact Int.ofNat_le.mpr h3
theorem zij_ {lo:Int}{n:Nat}{d r:List Int}{x:Int}(h:rngI lo n=d++x::r):x=lo+d.length∧d.length<n:=by
 have hl:=congrArg List.length h
 rw [zaE_,List.length_append,List.length_cons] at hl
 have hd:d.length<n:=by lia
 have h1:(rngI lo n)[d.length]?=some x:=by rw [h]; simp
 unfold rngI at h1
 rw [List.getElem?_map,List.getElem?_range hd] at h1
 simp at h1
 exact ⟨h1.symm,hd⟩
abbrev Wr:=Int×Int
def okW (w:Wr):Prop:=1≤w.1∧w.1≤40∧1≤w.2∧w.2≤36
def sgn (c:List Nat) (B:List Wr) (col:Int):Nat:=B.foldl (fun s w=>if w.2=col then c.getD (w.1-1).toNat 0 else s) 32
def laid (c:List Nat) (B:List Wr):List Nat:=(List.range 36).map fun i:Nat=>sgn c B (i+1)
theorem zmm_ (c:List Nat) (B:List Wr) (w:Wr) (col:Int):sgn c (B++[w]) col=if w.2=col then c.getD (w.1-1).toNat 0 else sgn c B col:=by
 unfold sgn; rw [List.foldl_append]; rfl
theorem zoO_ {c:List Nat}(hc:c.length=40) {k:Int}(h1:1≤k) (h2:k≤40):atI c (k-1)=some (c.getD (k-1).toNat 0):=by
 rw [zfL_ (by lia),List.getD_eq_getElem?_getD,List.getElem?_eq_getElem (by lia)]
 rfl
theorem ziy_ {c:List Nat}(hc:c.length=40) {k:Int}(h1:1≤k) (h2:k≤40):zdD_ c k=.ok [c.getD (k-1).toNat 0]:=by
 unfold zdD_ ze8_
 walk_at "mo"
 rw [Mo.lim_ok (by lia),zoO_ hc h1 h2]
 rfl
theorem znZ_ {c:List Nat}(hc:c.length=40) {B:List Wr}(hB:∀ w∈B,okW w):zdL_ c B=.ok (laid c B):=by
 unfold zdL_ zfn_
 walk_at "mo"
 rw [Mo.grd_ok (by decide)]
 walk_at "mo"
 rw [zV_ (f:=fun x_3=>cond1 (Mq true) (Mq [32])) (g:=fun _=>[32]) (fun x hx=>rfl) (by decide)]
 walk_at "mo"
 refine zav_ (G:=fun m=>fnO (thenO m _)=_) (fun d (s:List (List Nat))=>s=(List.range 36).map fun i:Nat=>[sgn c d (i+1)]) rfl (fun d w s hx hs=>?_) (fun s hs=>?_)
 ·obtain ⟨r,hr⟩:=hx
  obtain ⟨a1,a2,a3,a4⟩:=hB w (by rw [hr]; simp)
  subst hs
  rw [ziy_ hc a1 a2]
  walk_at "mo"
  rw [zdY_ (by lia) (by rw [List.length_map,List.length_range]; lia)]
  refine ⟨_,rfl,?_⟩
  apply List.ext_getElem?
  intro i
  rw [List.getElem?_set,List.getElem?_map,List.getElem?_map]
  by_cases hi:i<36
  ·rw [List.getElem?_range hi]
   simp only [Option.map_some,zmm_,List.length_map,List.length_range]
   by_cases e:(w.2-1).toNat=i
   ·rw [if_pos e,if_pos (by lia),if_pos (by lia)]
   ·rw [if_neg e,if_neg (by lia)]
  ·rw [List.getElem?_eq_none (by rw [List.length_range]; lia),if_neg (by lia)]
   rfl
 ·subst hs
  walk_at "mo"
  have e:((List.range 36).map fun i:Nat=>[sgn c B (i+1)])=(laid c B).map fun x=>[x]:=by unfold laid; rw [List.map_map]; rfl
  rw [e,zfD_,Mo.grd_ok]
  ·rfl
  ·refine zdT_ ?_ ?_
   ·unfold strsL laid; simp [Str.length]
   ·intro z hz
    unfold strsL at hz
    rw [List.map_map] at hz
    obtain ⟨b,_,rfl⟩:=List.mem_map.mp hz
    exact Nat.le_refl 1
theorem zdG_ (cell:Int) {many:Int}(h0:0≤many) (h1:many≤5000):∃ ns,zam_ cell many=.ok ns∧ns.length=many.toNat:=by
 unfold zam_ zcx_
 walk_at "mo"
 rw [Mo.grd_ok ⟨by lia,by lia⟩]
 walk_at "mo"
 have hn:many.toNat≤5000:=by lia
 generalize many.toNat=n at hn
 refine zav_ (G:=fun m=>∃ c:List Int,fnO (thenO m _)=.ok c∧c.length=n) (fun d (s:Int×List Int)=>s.2.length=d.length∧0≤s.1∧s.1<4294967296) ⟨rfl,by show 0≤cell % 2147483647+48271; lia,by show cell % 2147483647+48271<4294967296; lia⟩ ?_ ?_
 ·rintro d x ⟨nn,cs⟩ ⟨r,hr⟩ ⟨q1,q3,q4⟩
  have hd:d.length≤5000:=by
   have:=congrArg List.length hr
   rw [zaE_,List.length_append] at this; lia
  simp only at q1 q3 q4
  have hmul:IntMulOk nn nn:=zd9_ (.inl ⟨by lia,by lia⟩)
  walk_at "mo"
  rw [Mo.grd_ok hmul]
  walk_at "mo"
  rw [Mo.lim_ok (by lia)]
  exact ⟨_,rfl,by simp; exact q1,Int.emod_nonneg _ (by decide),Int.lt_trans (Int.emod_lt_of_pos _ (by decide)) (by decide)⟩
 ·rintro s ⟨q1,_,_⟩
  rw [zaE_] at q1
  exact ⟨s.2,rfl,q1⟩
abbrev Whl:=Int×(Int×(Int×(Bool×Unit)))
def whl (f:Nat) (k:Int) (o:Bool):Whl:=((f:Int),10 ^ f,k,o,())
theorem znM_ {f:Nat}(h:f≤100):zB_ () f=.ok ((),whl f 0 false):=by
 unfold zB_ zaV_
 walk_at "mo"
 rw [zki_ (by lia) (by lia)]
 rfl
theorem zm9_ {f:Nat}{k v:Int}{o:Bool}:zbs_ (whl f k o) v=.ok ((),whl f ((k+v) % 10 ^ f) (o || decide ((10:Int) ^ f≤k+v))):=by
 unfold zbs_ zct_
 walk_at "mo"
 have e1:(whl f k o).snd.fst=(10:Int) ^ f:=rfl
 have e2:(whl f k o).snd.snd.fst=k:=rfl
 rw [e1,e2]
 by_cases c:(10:Int) ^ f≤k+v
 ·rw [decide_eq_true c]
  walk_at "mo"
  rw [Mo.grd_ok (zay_ f),Bool.or_true]
  rfl
 ·rw [decide_eq_false c]
  walk_at "mo"
  rw [e1,Mo.grd_ok (zay_ f),Bool.or_false]
  rfl
theorem zmy_ {f:Nat}{k:Int}{o:Bool}:zU_ (whl f k o)=.ok ((),whl f 0 false):=rfl
theorem zpl_ {f:Nat}(h:f≤12):PadOk (f:Int)=true:=by
 have:∀ n:Nat,n≤12→PadOk (n:Int)=true:=by decide
 exact this f h
theorem zjG_ {f:Nat}{k:Int}{o:Bool}(h1:1≤f) (h2:f≤12) (h0:0≤k) (hk:k<10 ^ f):zS_ (whl f k o)=.ok (digs f k.toNat):=by
 unfold zS_ zbT_
 walk_at "mo"
 have e1:(whl f k o).fst=(f:Int):=rfl
 have e2:(whl f k o).snd.snd.fst=k:=rfl
 rw [e1,e2,Mo.grd_ok (zlZ_ h0 hk (by lia)),Mo.okB,Mo.grd_ok (zpl_ h2),zl4_ h1 h0 hk]
 rfl
theorem zo7_:∀ d:Nat,d<10→atI [48,49,50,51,52,53,54,55,56,57] (d:Int)=some (48+d):=by decide
theorem zkj_ {f:Nat}{k:Int}(h2:f≤12) (h0:0≤k) (hk:k<10 ^ f):zb6_ k f=.ok (digs f k.toNat):=by
 have ek:(k % 10 ^ f)=k:=Int.emod_eq_of_lt h0 hk
 unfold zb6_ zcY_
 walk_at "mo"
 rw [Mo.grd_ok ⟨by lia,by lia⟩]
 walk_at "mo"
 refine zav_ (G:=fun m=>fnO (thenO m _)=_) (fun d s=>s=(digs d.length (k % 10 ^ f).toNat,k / 10 ^ d.length)) (by simp [digs]) (fun d x s hx hs=>?_) (fun s hs=>?_)
 ·obtain ⟨r,hr⟩:=hx
  have hd:d.length<f:=by
   have:=congrArg List.length hr
   rw [zaE_,List.length_append,List.length_cons] at this
   lia
  subst hs
  have a0:0≤k / 10 ^ d.length % 10:=Int.emod_nonneg _ (by decide)
  have a1:k / 10 ^ d.length % 10<10:=Int.emod_lt_of_pos _ (by decide)
  have ea:=zo7_ (k / 10 ^ d.length % 10).toNat (by lia)
  rw [Int.toNat_of_nonneg a0] at ea
  refine ⟨_,by
   simp only
   rw [ea,Mo.lim_ok (by decide)]
   walk_at "mo"
   rw [Mo.lim_ok (by simp [zbo_]; lia)]
   walk_at "mo"
   rfl,?_⟩
  rw [List.length_append,List.length_singleton,zfH_,zj1_ k hd,Int.pow_succ,← Int.ediv_ediv_of_nonneg (Int.le_of_lt (zay_ _))]
  rfl
 ·subst hs
  rw [zaE_]
  show fnO _=_
  walk_at "mo"
  rw [ek]
  rfl
abbrev Ctr:=(List (Int×Int))×((List (Int×Int))×((List (Int×Int))×((List (List Whl))×((Option (List Nat))×((List (Int×Bool))×Unit)))))
def u1 {α:Type}(g:Nat→α) (i:Nat) (v:α):Nat→α:=fun j=>if j=i then v else g j
theorem zdB_ {α:Type}{n i:Nat}(g:Nat→α) (x:α):((List.range n).map g).set i x=(List.range n).map (u1 g i x):=by
 apply List.ext_getElem?
 intro j
 rw [List.getElem?_set,List.getElem?_map,List.getElem?_map,List.length_map,List.length_range]
 unfold u1
 by_cases hj:j<n
 ·rw [List.getElem?_range hj]
  by_cases e:i=j
  ·subst e; simp [hj]
  ·rw [if_neg e]; simp [Ne.symm e]
 ·rw [List.getElem?_eq_none (l:=List.range n) (by simp; lia)]
  by_cases e:i=j
  ·subst e; simp [hj]
  ·rw [if_neg e]; rfl
def wrow (F n:Nat) (k:Nat→Int) (o:Nat→Bool):List Whl:=(List.range n).map fun p=>whl F (k p) (o p)
def lvls (F m n:Nat) (kf:Nat→Nat→Int) (of:Nat→Nat→Bool):List (List Whl):=(List.range (m+1)).map fun l=>wrow F n (kf l) (of l)
theorem zge_ (F n:Nat) (k:Nat→Int) (o:Nat→Bool):(wrow F n k o).length=n:=by unfold wrow; simp
theorem zjy_ (F m n:Nat) (kf:Nat→Nat→Int) (of:Nat→Nat→Bool):(lvls F m n kf of).length=m+1:=by unfold lvls; simp
theorem zmi_ {F n p:Nat}(k:Nat→Int) (o:Nat→Bool) (h:p<n):(wrow F n k o)[p]?=some (whl F (k p) (o p)):=by unfold wrow; rw [List.getElem?_map,List.getElem?_range h]; rfl
theorem zgL_ {F m n l:Nat}(kf:Nat→Nat→Int) (of:Nat→Nat→Bool) (h:l≤m):(lvls F m n kf of)[l]?=some (wrow F n (kf l) (of l)):=by unfold lvls; rw [List.getElem?_map,List.getElem?_range (by lia)]; rfl
theorem zmA_ (F n p:Nat) (k:Nat→Int) (o:Nat→Bool) (x:Int) (y:Bool):(wrow F n k o).set p (whl F x y)=wrow F n (u1 k p x) (u1 o p y):=by
 unfold wrow; rw [zdB_]; refine List.map_congr_left fun j _=>?_; unfold u1; split<;>rfl
theorem zjL_ (F m n l:Nat) (kf:Nat→Nat→Int) (of:Nat→Nat→Bool) (k:Nat→Int) (o:Nat→Bool):(lvls F m n kf of).set l (wrow F n k o)=lvls F m n (u1 kf l k) (u1 of l o):=by
 unfold lvls; rw [zdB_]; refine List.map_congr_left fun j _=>?_; unfold u1; split<;>rfl
theorem u1_u1 {α:Type}(g:Nat→α) (i:Nat) (v w:α):u1 (u1 g i v) i w=u1 g i w:=by funext j; unfold u1; split<;>rfl
theorem zh9_ {α:Type}(g:Nat→α) (i:Nat) (v:α):u1 g i v i=v:=if_pos rfl
theorem zg3_ {α:Type}(g:Nat→α) {i j:Nat}(v:α) (h:j≠i):u1 g i v j=g j:=if_neg h
theorem zlx_ {α:Type}(g:Nat→α) (i:Nat):u1 g i (g i)=g:=by funext j; unfold u1; split<;>rename_i h<;>first | rw [h] | rfl
def mkC (K S:List (Int×Int)) (F:Nat) (kf:Nat→Nat→Int) (of:Nat→Nat→Bool) (bf:Option (List Nat)) (ro:List (Int×Bool)):Ctr:=(K,S,[],lvls F K.length S.length kf of,bf,ro,())
def rsK (F:Nat) (k:Nat→Int) (vs:List Int) (d:Nat):Nat→Int:=fun p=>if p<d then (k p+vs.getD p 0) % 10 ^ F else k p
def rsO (F:Nat) (k:Nat→Int) (o:Nat→Bool) (vs:List Int) (d:Nat):Nat→Bool:=fun p=>if p<d then (o p || decide ((10:Int) ^ F≤k p+vs.getD p 0)) else o p
def rsR (F:Nat) (k:Nat→Int) (o:Nat→Bool) (vs:List Int) (ro:List (Int×Bool)):Nat→List (Int×Bool)
 | 0=>ro
 | d+1=>if (o d || decide ((10:Int) ^ F≤k d+vs.getD d 0))=true then putA (rsR F k o vs ro d) (d:Int) true else rsR F k o vs ro d
theorem zoB_ (F:Nat) (k:Nat→Int) (o:Nat→Bool) (vs:List Int) (ro:List (Int×Bool)) (d:Nat):(rsR F k o vs ro d).length≤ro.length+d:=by
 induction d with
 | zero=>exact Nat.le_refl _
 | succ d ih =>
  unfold rsR
  split
  ·exact Nat.le_trans (zgc_ _ _ _) (by lia)
  ·lia
theorem rsK_0 (F:Nat) (k:Nat→Int) (vs:List Int):rsK F k vs 0=k:=by funext p; unfold rsK; simp
theorem rsO_0 (F:Nat) (k:Nat→Int) (o:Nat→Bool) (vs:List Int):rsO F k o vs 0=o:=by funext p; unfold rsO; simp
theorem rsK_s (F:Nat) (k:Nat→Int) (vs:List Int) (d:Nat):u1 (rsK F k vs d) d ((k d+vs.getD d 0) % 10 ^ F)=rsK F k vs (d+1):=by
 funext p; unfold u1 rsK
 by_cases h:p=d
 ·subst h; rw [if_pos rfl,if_pos (by lia)]
 ·rw [if_neg h]
  by_cases q:p<d
  ·rw [if_pos q,if_pos (by lia)]
  ·rw [if_neg q,if_neg (by lia)]
theorem rsO_s (F:Nat) (k:Nat→Int) (o:Nat→Bool) (vs:List Int) (d:Nat):u1 (rsO F k o vs d) d (o d || decide ((10:Int) ^ F≤k d+vs.getD d 0))=rsO F k o vs (d+1):=by
 funext p; unfold u1 rsO
 by_cases h:p=d
 ·subst h; rw [if_pos rfl,if_pos (by lia)]
 ·rw [if_neg h]
  by_cases q:p<d
  ·rw [if_pos q,if_pos (by lia)]
  ·rw [if_neg q,if_neg (by lia)]
theorem ziZ_ {α:Type}{xs:List α}{d r:List (Int×α)}{q:Int×α}(h:enumL xs=d++q::r):q.1=d.length∧xs[d.length]?=some q.2∧d.length<xs.length:=by
 have h1:(enumL xs)[d.length]?=some q:=by rw [h]; simp
 rw [zdK_] at h1
 obtain ⟨x,h2,h3⟩:=Option.map_eq_some_iff.mp h1
 subst h3
 exact ⟨rfl,h2,(List.getElem?_eq_some_iff.mp h2).1⟩
theorem ze2_ {K S:List (Int×Int)}{F l:Nat}{kf:Nat→Nat→Int}{of:Nat→Nat→Bool}{bf:Option (List Nat)}{ro:List (Int×Bool)}{vs:List Int}(hl:l≤K.length) (hv:vs.length=S.length) (hn:S.length≤100) (hro:ro.length≤100) :
  zG_ (mkC K S F kf of bf ro) l vs=.ok ((),mkC K S F (u1 kf l (rsK F (kf l) vs S.length)) (u1 of l (rsO F (kf l) (of l) vs S.length)) bf (rsR F (kf l) (of l) vs ro S.length)):=by
 unfold zG_ zae_
 walk_at "mo"
 refine zav_ (G:=fun m=>fnMU (thenO m _)=_) (fun d (s:Ctr)=>s=mkC K S F (u1 kf l (rsK F (kf l) vs d.length)) (u1 of l (rsO F (kf l) (of l) vs d.length)) bf (rsR F (kf l) (of l) vs ro d.length)) (by rw [List.length_nil,rsK_0,rsO_0,zlx_,zlx_]; rfl) (fun d x s hx hs=>?_) (fun s hs=>?_)
 ·obtain ⟨r,hr⟩:=hx
  obtain ⟨x1,x2,hd⟩:=ziZ_ hr
  rw [hv] at hd
  subst hs
  have ev:vs.getD d.length 0=x.2:=by rw [List.getD_eq_getElem?_getD,x2]; rfl
  have hrl:=zoB_ F (kf l) (of l) vs ro d.length
  unfold mkC
  walk_at "mo"
  rw [zjy_,zdY_ (by lia) (by lia),x1]
  walk_at "mo"
  rw [show ((l:Int)).toNat=l from rfl,zgL_ _ _ hl,zh9_,zh9_]
  walk_at "mo"
  rw [zge_,zdY_ (by lia) (by lia)]
  walk_at "mo"
  rw [show ((d.length:Int)).toNat=d.length from rfl,zmi_ _ _ hd]
  walk_at "mo"
  have k0:rsK F (kf l) vs d.length d.length=kf l d.length:=if_neg (Nat.lt_irrefl _)
  have o0:rsO F (kf l) (of l) vs d.length d.length=of l d.length:=if_neg (Nat.lt_irrefl _)
  rw [zm9_,k0,o0]
  walk_at "mo"
  rw [← ev]
  have eov:zaS_ (whl F ((kf l d.length+vs.getD d.length 0) % 10 ^ F) (of l d.length || decide ((10:Int) ^ F≤kf l d.length+vs.getD d.length 0)))=.ok (of l d.length || decide ((10:Int) ^ F≤kf l d.length+vs.getD d.length 0)):=rfl
  rw [eov]
  walk_at "mo"
  rw [zmA_,zjL_,u1_u1,u1_u1,rsK_s,rsO_s]
  cases ho:(of l d.length || decide ((10:Int) ^ F≤kf l d.length+vs.getD d.length 0)) with
  | true =>
   walk_at "mo"
   rw [Mo.lim_ok (by lia)]
   walk_at "mo"
   refine ⟨_,rfl,?_⟩
   rw [List.length_append,List.length_singleton]
   rw [show rsR F (kf l) (of l) vs ro (d.length+1)=putA (rsR F (kf l) (of l) vs ro d.length) (d.length:Int) true from if_pos ho]
  | false =>
   walk_at "mo"
   refine ⟨_,rfl,?_⟩
   rw [List.length_append,List.length_singleton]
   rw [show rsR F (kf l) (of l) vs ro (d.length+1)=rsR F (kf l) (of l) vs ro d.length from if_neg (by rw [ho]; decide)]
 ·subst hs
  rw [zb4_,hv]
  rfl
def smL (g:Nat→Int):Nat→Int
 | 0=>g 0
 | k+1=>smL g k+g (k+1)
theorem zhm_ {g g':Nat→Int}:∀ {m:Nat},(∀ l,l≤m→g l=g' l)→smL g m=smL g' m
 | 0,h=>h 0 (Nat.le_refl _)
 | m+1,h=>by unfold smL; rw [zhm_ fun l hl=>h l (by lia),h (m+1) (Nat.le_refl _)]
theorem zi0_ {g:Nat→Int}{l:Nat}{v:Int}:∀ {m:Nat},l≤m→smL (u1 g l v) m=smL g m+(v-g l)
 | 0,h=>by
  have:l=0:=by lia
  subst this
  show u1 g 0 v 0=g 0+_
  rw [zh9_]; lia
 | m+1,h=>by
  unfold smL
  by_cases e:l=m+1
  ·subst e
   rw [zhm_ (g':=g) fun i hi=>zg3_ g v (by lia),zh9_]; lia
  ·rw [zi0_ (by lia),zg3_ g v (fun z=>e z.symm)]; lia
theorem znd_ {g:Nat→Int}(h:∀ l,0≤g l):∀ m,0≤smL g m
 | 0=>h 0
 | m+1=>by unfold smL; have:=znd_ h m; have:=h (m+1); lia
theorem znz_ {g:Nat→Int}(h:∀ l,0≤g l) {l m:Nat}(hl:l≤m):g l≤smL g m:=by
 have h1:=zi0_ (g:=g) (v:=0) hl
 have h2:=znd_ (g:=u1 g l 0) (fun i=>by unfold u1; split; exact Int.le_refl _; exact h i) m
 lia
theorem zn5_ {g:Nat→Int}(h:∀ l,0≤g l) {a b m:Nat}(hab:a≠b) (ha:a≤m) (hb:b≤m):g a+g b≤smL g m:=by
 have h1:=zi0_ (g:=g) (v:=0) hb
 have h2:=znz_ (g:=u1 g b 0) (fun i=>by unfold u1; split; exact Int.le_refl _; exact h i) ha
 rw [zg3_ g 0 hab] at h2
 lia
def inR (ro:List (Int×Bool)) (p:Nat):Bool:=(getA ro (p:Int)).isSome
structure JI (m n F:Nat) (T B:Nat→Int) (kf:Nat→Nat→Int) (of:Nat→Nat→Bool) (ro:List (Int×Bool)):Prop where
 rng:∀ l p,0≤kf l p∧kf l p<10 ^ F
 ex:∀ p,p<n→inR ro p=true∨((∀ l,l≤m→of l p=false)∧smL (fun l=>kf l p) m=T p)
 bd:∀ p,p<n→inR ro p=true→(10:Int) ^ F≤B p
 ks:∀ q∈ro,∃ p:Nat,p<n∧q.1=p
 nd:(ro.map (·.1)).Nodup
theorem zjb_ {m:List (Int×Bool)}{k:Int}{v:Bool}:(putA m k v).map (·.1)=if (m.any fun q=>decide (q.1=k))=true then m.map (·.1) else m.map (·.1)++[k]:=by
 unfold putA
 split
 ·rw [List.map_map]
  refine List.map_congr_left fun q _=>?_
  show (if q.1=k then (q.1,v) else q).1=q.1
  split<;>rfl
 ·rw [List.map_append]; rfl
theorem zo6_ {m:List (Int×Bool)}{k:Int}{v:Bool}(h:(m.map (·.1)).Nodup):((putA m k v).map (·.1)).Nodup:=by
 rw [zjb_]
 split
 ·exact h
 ·rename_i hn
  rw [List.nodup_append]
  refine ⟨h,by simp,fun a ha b hb z=>hn ?_⟩
  rw [List.mem_singleton.mp hb] at z
  obtain ⟨q,hq,e⟩:=List.mem_map.mp ha
  rw [List.any_eq_true]
  exact ⟨q,hq,by rw [e,z]; simp⟩
theorem zpj_ {m:List (Int×Bool)}{k:Int}{v:Bool}{q:Int×Bool}(h:q∈putA m k v):q.1=k∨∃ q'∈m,q'.1=q.1:=by
 have h1:q.1∈(putA m k v).map (·.1):=List.mem_map.mpr ⟨q,h,rfl⟩
 rw [zjb_] at h1
 split at h1
 ·obtain ⟨q',a,b⟩:=List.mem_map.mp h1; exact .inr ⟨q',a,b⟩
 ·rcases List.mem_append.mp h1 with h1 | h1
  ·obtain ⟨q',a,b⟩:=List.mem_map.mp h1; exact .inr ⟨q',a,b⟩
  ·exact .inl (List.mem_singleton.mp h1)
theorem zj8_ (F:Nat) (k:Nat→Int) (o:Nat→Bool) (vs:List Int) (ro:List (Int×Bool)) (d p:Nat):inR (rsR F k o vs ro d) p=(inR ro p || (decide (p<d) && (o p || decide ((10:Int) ^ F≤k p+vs.getD p 0)))):=by
 induction d with
 | zero=>simp [rsR]
 | succ d ih =>
  unfold rsR
  by_cases hp:p=d
  ·subst hp
   rw [decide_eq_true (show p<p+1 by lia)]
   split
   ·rename_i h
    unfold inR
    rw [zjv_,if_pos rfl,h]; simp
   ·rename_i h
    rw [ih,decide_eq_false (Nat.lt_irrefl p)]
    rw [Bool.not_eq_true] at h
    rw [h]; simp
  ·have e:decide (p<d+1)=decide (p<d):=by rw [decide_eq_decide]; lia
   rw [e]
   split
   ·unfold inR at ih ⊢
    rw [zjv_,if_neg (by lia)]; exact ih
   ·exact ih
theorem zj6_ {F n:Nat}{k:Nat→Int}{o:Nat→Bool}{vs:List Int}{ro:List (Int×Bool)}(h:∀ q∈ro,∃ p:Nat,p<n∧q.1=p):∀ d,d≤n→∀ q∈rsR F k o vs ro d,∃ p:Nat,p<n∧q.1=p
 | 0,_=>h
 | d+1,hd=>fun q hq=>by
  unfold rsR at hq
  split at hq
  ·rcases zpj_ hq with e | ⟨q',a,b⟩
   ·exact ⟨d,by lia,e⟩
   ·obtain ⟨p,c,e⟩:=zj6_ h d (by lia) q' a
    exact ⟨p,c,by rw [← b,e]⟩
  ·exact zj6_ h d (by lia) q hq
theorem zkH_ {F:Nat}{k:Nat→Int}{o:Nat→Bool}{vs:List Int}{ro:List (Int×Bool)}(h:(ro.map (·.1)).Nodup):∀ d,((rsR F k o vs ro d).map (·.1)).Nodup
 | 0=>h
 | d+1=>by
  unfold rsR
  split
  ·exact zo6_ (zkH_ h d)
  ·exact zkH_ h d
theorem zgq_:∀ (n:Nat) (l:List Int),l.Nodup→(∀ x∈l,∃ p:Nat,p<n∧x=p)→l.length≤n
 | 0,l,_,h=>by
  cases l with
  | nil=>exact Nat.le_refl _
  | cons x l=>obtain ⟨p,a,_⟩:=h x List.mem_cons_self; lia
 | n+1,l,hn,h=>by
  have h1:=zgq_ n (l.erase (n:Int)) (hn.erase _) fun x hx=>by
   obtain ⟨a,b⟩:=(List.Nodup.mem_erase_iff hn).mp hx
   obtain ⟨p,c,e⟩:=h x b
   exact ⟨p,by have:(p:Int)≠n:=fun z=>a (by rw [e,z]); lia,e⟩
  rw [List.length_erase] at h1
  split at h1<;>lia
section
variable {m n F l:Nat}{T B B':Nat→Int}{kf:Nat→Nat→Int}{of:Nat→Nat→Bool}{ro:List (Int×Bool)}{vs:List Int}
theorem JI.len (J:JI m n F T B kf of ro):ro.length≤n:=by
 have:=zgq_ n (ro.map (·.1)) J.nd fun x hx=>by
  obtain ⟨q,a,b⟩:=List.mem_map.mp hx
  obtain ⟨p,c,e⟩:=J.ks q a
  exact ⟨p,c,by rw [← b,e]⟩
 simpa using this
theorem JI.raise (J:JI m n F T B kf of ro) (hl:l≤m) (hv0:∀ p,p<n→0≤vs.getD p 0) (hB:∀ p,p<n→B p≤B' p) (hx:∀ p,p<n→inR ro p=false→kf l p+vs.getD p 0≤B' p) :
  JI m n F (fun p=>T p+vs.getD p 0) B' (u1 kf l (rsK F (kf l) vs n)) (u1 of l (rsO F (kf l) (of l) vs n)) (rsR F (kf l) (of l) vs ro n):=by
 have hF:(0:Int)<10 ^ F:=zay_ F
 refine ⟨fun l' p=>?_,fun p hp=>?_,fun p hp h=>?_,zj6_ J.ks n (Nat.le_refl _),zkH_ J.nd n⟩
 ·by_cases e:l'=l
  ·subst e
   rw [zh9_]
   unfold rsK
   split
   ·exact ⟨Int.emod_nonneg _ (by lia),Int.emod_lt_of_pos _ hF⟩
   ·exact J.rng l' p
  ·rw [zg3_ _ _ e]; exact J.rng l' p
 ·rw [zj8_,decide_eq_true hp]
  rcases J.ex p hp with h | ⟨h1,h2⟩
  ·left; rw [h]; rfl
  ·by_cases q:(10:Int) ^ F≤kf l p+vs.getD p 0
   ·left; rw [decide_eq_true q]; simp
   ·right
    refine ⟨fun l' hl'=>?_,?_⟩
    ·by_cases e:l'=l
     ·subst e
      rw [zh9_]
      unfold rsO
      rw [if_pos hp,h1 l' hl',decide_eq_false q]; rfl
     ·rw [zg3_ _ _ e]; exact h1 l' hl'
    ·have e:(fun i=>u1 kf l (rsK F (kf l) vs n) i p)=u1 (fun i=>kf i p) l (kf l p+vs.getD p 0):=by
      funext i
      by_cases e:i=l
      ·subst e
       rw [zh9_,zh9_]
       unfold rsK
       rw [if_pos hp,Int.emod_eq_of_lt (by have:=(J.rng i p).1; have:=hv0 p hp; lia) (by lia)]
      ·rw [zg3_ _ _ e,zg3_ _ _ e]
     rw [e,zi0_ hl,h2]; lia
 ·rw [zj8_,decide_eq_true hp] at h
  cases g:inR ro p with
  | true=>exact Int.le_trans (J.bd p hp g) (hB p hp)
  | false =>
   rw [g] at h
   rcases J.ex p hp with z | ⟨h1,h2⟩
   ·rw [g] at z; cases z
   ·rw [h1 l hl] at h
    simp at h
    exact Int.le_trans h (hx p hp g)
theorem JI.reset (J:JI m n F T B kf of ro) (hl:l≤m):JI m n F (fun p=>T p-kf l p) B (u1 kf l fun _=>0) (u1 of l fun _=>false) ro:=by
 have hF:(0:Int)<10 ^ F:=zay_ F
 refine ⟨fun l' p=>?_,fun p hp=>?_,J.bd,J.ks,J.nd⟩
 ·by_cases e:l'=l
  ·subst e; rw [zh9_]; exact ⟨Int.le_refl _,hF⟩
  ·rw [zg3_ _ _ e]; exact J.rng l' p
 ·rcases J.ex p hp with h | ⟨h1,h2⟩
  ·exact .inl h
  ·right
   refine ⟨fun l' hl'=>?_,?_⟩
   ·by_cases e:l'=l
    ·subst e; rw [zh9_]
    ·rw [zg3_ _ _ e]; exact h1 l' hl'
   ·have e:(fun i=>u1 kf l (fun _=>(0:Int)) i p)=u1 (fun i=>kf i p) l 0:=by
     funext i
     by_cases e:i=l
     ·subst e; rw [zh9_,zh9_]
     ·rw [zg3_ _ _ e,zg3_ _ _ e]
    rw [e,zi0_ hl,h2]; lia
theorem JI.congr {T':Nat→Int}(J:JI m n F T B kf of ro) (h:∀ p,p<n→T p=T' p):JI m n F T' B kf of ro :=
 ⟨J.rng,fun p hp=>by rw [← h p hp]; exact J.ex p hp,J.bd,J.ks,J.nd⟩
end
theorem zke_ {ws:List (List Nat)}(h1:ws.length≤100) (h2:∀ w∈ws,w.length≤100):JoinOk ⟨#[32]⟩ (strsL ws)=true:=by
 unfold JoinOk
 have key:∀ (l:List Str) (acc:Nat),(∀ z∈l,z.length≤100)→l.foldl (fun x1 x2=>x1+x2.length+1) acc≤acc+l.length*101:=by
  intro l
  induction l with
  | nil=>intro acc _; simp
  | cons z r ih =>
   intro acc hz
   have h2:=ih (acc+z.length+1) fun y hy=>hz y (List.mem_cons_of_mem _ hy)
   have h3:=hz z List.mem_cons_self
   rw [List.foldl_cons,List.length_cons]
   lia
 have hz:∀ z∈strsL ws,z.length≤100:=fun z hz=>by
  unfold strsL at hz
  obtain ⟨p,hp,rfl⟩:=List.mem_map.mp hz
  exact h2 p hp
 have q:=key _ 0 hz
 have ql:(strsL ws).length=ws.length:=by unfold strsL; simp
 rw [List.foldl_toArray]
 unfold Builtin.Str.tooLong
 simp only [Bool.not_eq_true',decide_eq_false_iff_not]
 have hs:(100000:Nat)≤sizeLine:=by rw [sizeLine_eq]; lia
 have:(strsL ws).foldl (fun x1 x2=>x1+x2.length+Str.length ⟨#[32]⟩) 0≤100000:=Nat.le_trans q (by lia)
 lia
def tlw (F n:Nat) (k:Nat→Int):List (List Nat):=(List.range n).map fun p=>digs F (k p).toNat
theorem zlk_ (F n:Nat) (k:Nat→Int):(tlw F n k).length=n:=by unfold tlw; simp
theorem zkw_ {F n:Nat}(h1:1≤F) (h2:F≤12) {k:Nat→Int}(o:Nat→Bool) (hk:∀ p,0≤k p∧k p<10 ^ F) (hn:n≤100):compM (fun x27=>cond1 (Mq true) (zS_ x27).noex) (wrow F n k o) []=.ok (tlw F n k):=by
 rw [zV_ (f:=fun x27=>cond1 (Mq true) (zS_ x27).noex) (g:=fun x=>match zS_ x with | .ok v=>v | _=>[]) (fun x hx=>by
  unfold wrow at hx
  obtain ⟨p,_,rfl⟩:=List.mem_map.mp hx
  rw [zjG_ h1 h2 (hk p).1 (hk p).2]; rfl) (by rw [zge_]; simp; lia)]
 unfold wrow tlw
 rw [List.map_map,List.nil_append]
 refine congrArg Mq (List.map_congr_left fun p _=>?_)
 show (match zS_ (whl F (k p) (o p)) with | .ok v=>v | _=>[])=_
 rw [zjG_ h1 h2 (hk p).1 (hk p).2]
theorem zfY_ {F n:Nat}(k:Nat→Int) (o:Nat→Bool) (hn:n≤100):compM (fun v13=>cond1 (Mq true) (zaL_ v13).noex) (wrow F n k o) []=.ok ((List.range n).map k):=by
 rw [zV_ (f:=fun v13=>cond1 (Mq true) (zaL_ v13).noex) (g:=fun x=>x.2.2.1) (fun x hx=>rfl) (by rw [zge_]; simp; lia)]
 unfold wrow
 rw [List.map_map]
 rfl
theorem zhb_ (F:Nat) (g:Nat→Int) (o:Nat→Bool):∀ (ps:List Nat),mapX (fun z28=>(zU_ z28).noex.bind fun q29=>Mq q29.snd) (ps.map fun p=>whl F (g p) (o p))=.ok (ps.map fun p=>whl F 0 false)
 | []=>rfl
 | p::ps=>by
  rw [List.map_cons]
  show ((zU_ (whl F (g p) (o p))).noex.bind fun q29=>Mq q29.snd).bind _=_
  rw [zmy_]
  show (mapX (fun z28=>(zU_ z28).noex.bind fun q29=>Mq q29.snd) (ps.map fun p=>whl F (g p) (o p))).bind _=_
  rw [zhb_ F g o ps]
  rfl
section
variable {K S:List (Int×Int)}{F l:Nat}{T:Nat→Int}{kf:Nat→Nat→Int}{of:Nat→Nat→Bool}{bf:Option (List Nat)}{ro:List (Int×Bool)}
theorem atL (h:l≤K.length):atI (lvls F K.length S.length kf of) (l:Int)=some (wrow F S.length (kf l) (of l)):=by rw [zfL_ (by lia)]; exact zgL_ kf of h
def lineOf (K S:List (Int×Int)) (F l:Nat) (ps:List (List Nat)) (k:Nat→Int):List Nat:=joinL [32] ([repL [42] (1+(K.length:Int)-l)]++ps++tlw F S.length k)
theorem zgN_ (h1:1≤F) (h2:F≤12) (hK:K.length≤10) (hS:S.length≤10) (hl:l≤K.length) (hb:l=0∨∃ b,bf=some b∧b.length=40) (hk:∀ l p,0≤kf l p∧kf l p<10 ^ F) :
  ∃ ps,(l=0→ps=[])∧zJ_ (mkC K S F kf of bf ro) l=.ok (lineOf K S F l ps (kf l)):=by
 have hp:∃ ps:List (List Nat),compM (fun x16=>cond1 (Mq true) (((Mo.opt bf).bind fun a19=>Mq (a19,x16)).bind fun c21=>(za5_ c21.fst c21.snd).noex)) (K.take l) []=.ok ps∧ps.length≤10∧(∀ w∈ps,w.length≤40)∧(l=0→ps=[]):=by
  rcases hb with rfl | ⟨b,rfl,hbl⟩
  ·exact ⟨[],rfl,by simp,by simp,fun _=>rfl⟩
  ·refine ⟨[]++(K.take l).map (prt b),zV_ (fun x _=>?_) (by simp; lia),by simp; lia,fun w hw=>?_,fun h=>by subst h; rfl⟩
   ·unfold cond1
    walk_at "mo"
    rw [zeA_ b x (by lia)]
    rfl
   ·rw [List.nil_append] at hw
    obtain ⟨f,_,rfl⟩:=List.mem_map.mp hw
    have:=zfg_ b (some (f.1-1)) (some f.2)
    unfold prt; lia
 obtain ⟨ps,ep,hp1,hp2,hp3⟩:=hp
 refine ⟨ps,hp3,?_⟩
 have hrl:(repL [42] (1+(K.length:Int)-l)).length≤11:=by unfold repL; simp; lia
 unfold zJ_ zao_ mkC
 walk_at "mo"
 rw [Mo.grd_ok (show CRep [42].length (1+(K.length:Int)-l) by unfold CRep; simp; lia)]
 walk_at "mo"
 rw [znF_ (by lia),show ((l:Int)).toNat=l from rfl,ep]
 walk_at "mo"
 rw [Mo.lim_ok (by simp; lia),atL hl]
 walk_at "mo"
 rw [zkw_ h1 h2 (of l) (hk l) (by lia)]
 walk_at "mo"
 rw [Mo.lim_ok (by simp [zlk_]; lia),Mo.grd_ok,zib_]
 ·rfl
 ·refine zke_ (by simp [zlk_]; lia) fun w hw=>?_
  rcases List.mem_append.mp hw with hw | hw
  ·rcases List.mem_append.mp hw with hw | hw
   ·rw [List.mem_singleton.mp hw]; lia
   ·have:=hp2 w hw; lia
  ·unfold tlw at hw
   obtain ⟨p,_,rfl⟩:=List.mem_map.mp hw
   rw [zbo_]; lia
theorem zf8_ (hl:l≤K.length) (line:List Nat):fnMR (thenO (S:=Ctr) (S':=Unit) (B:=Unit) (ρ:=List Nat×Ctr) (((Mo.opt (ixN (mkC K S F kf of bf ro).2.2.2.1.length (l:Int))).bind fun n25=>(Mo.opt ((mkC K S F kf of bf ro).2.2.2.1[n25]?)).bind fun z26=>Mq (z26,fun z'=>((mkC K S F kf of bf ro).1,(mkC K S F kf of bf ro).2.1,(mkC K S F kf of bf ro).2.2.1,(mkC K S F kf of bf ro).2.2.2.1.set n25 z',(mkC K S F kf of bf ro).2.2.2.2))).bind fun y27=>(mapX (fun z28=>(zU_ z28).noex.bind fun q29=>Mq q29.snd) y27.1).bind fun x30=>Mq (Out.nx (y27.2 x30))) (fun s=>Mq (Out.rt (line,s))))=.ok (line,mkC K S F (u1 kf l fun _=>0) (u1 of l fun _=>false) bf ro):=by
 show fnMR (thenO (((Mo.opt (ixN (lvls F K.length S.length kf of).length (l:Int))).bind fun n25=>(Mo.opt ((lvls F K.length S.length kf of)[n25]?)).bind fun z26=>Mq (z26,fun z'=>(K,S,[],(lvls F K.length S.length kf of).set n25 z',bf,ro,()))).bind fun y27=>(mapX (fun z28=>(zU_ z28).noex.bind fun q29=>Mq q29.snd) y27.1).bind fun x30=>Mq (Out.nx (y27.2 x30))) _)=_
 rw [zjy_,zdY_ (by lia) (by lia)]
 walk_at "mo"
 rw [show ((l:Int)).toNat=l from rfl,zgL_ _ _ hl]
 walk_at "mo"
 rw [show wrow F S.length (kf l) (of l)=(List.range S.length).map fun p=>whl F (kf l p) (of l p) from rfl,zhb_]
 walk_at "mo"
 rw [show (List.range S.length).map (fun p=>whl F 0 false)=wrow F S.length (fun _=>0) (fun _=>false) from rfl,zjL_]
 rfl
theorem zdJ_ (h1:1≤F) (h2:F≤12) (hK:K.length≤10) (hS:S.length≤10) (hk:∀ l p,0≤kf l p∧kf l p<10 ^ F):zp_ (mkC K S F kf of bf ro) 0=.ok (lineOf K S F 0 [] (kf 0),mkC K S F (u1 kf 0 fun _=>0) (u1 of 0 fun _=>false) bf ro):=by
 obtain ⟨ps,e1,e2⟩:=zgN_ (bf:=bf) (of:=of) (ro:=ro) h1 h2 hK hS (Nat.zero_le K.length) (.inl rfl) hk
 rw [e1 rfl] at e2
 have e3:zJ_ (mkC K S F kf of bf ro) 0=.ok (lineOf K S F 0 [] (kf 0)):=e2
 unfold zp_ zH_
 walk_at "mo"
 rw [e3]
 walk_at "mo"
 exact zf8_ (l:=0) (Nat.zero_le _) _
theorem zlY_ (h1:1≤F) (h2:F≤12) (hK:K.length≤10) (hS:S.length≤10) (hl1:1≤l) (hl:l≤K.length) (hb:∃ b,bf=some b∧b.length=40) (J:JI K.length S.length F T T kf of ro) :
  ∃ line kf' of' ro',zp_ (mkC K S F kf of bf ro) l=.ok (line,mkC K S F kf' of' bf ro')∧JI K.length S.length F T T kf' of' ro'∧(∀ p,kf' l p=0)∧∀ l',l'≠l→l'≠l-1→kf' l'=kf l':=by
 obtain ⟨ps,_,e2⟩:=zgN_ (bf:=bf) (of:=of) (ro:=ro) h1 h2 hK hS hl (.inr hb) J.rng
 have hro:=J.len
 have gd:∀ p,p<S.length→((List.range S.length).map (kf l)).getD p 0=kf l p:=fun p hp=>by
  rw [List.getD_eq_getElem?_getD,List.getElem?_map,List.getElem?_range hp]; rfl
 have hne:l≠l-1:=by lia
 have J1:=J.raise (l:=l-1) (vs:=(List.range S.length).map (kf l)) (B':=T) (by lia) (fun p hp=>by rw [gd p hp]; exact (J.rng l p).1) (fun p hp=>Int.le_refl _) (fun p hp h=>by
  rw [gd p hp]
  rcases J.ex p hp with z | ⟨_,z⟩
  ·rw [h] at z; cases z
  ·have:=zn5_ (g:=fun i=>kf i p) (fun i=>(J.rng i p).1) (a:=l-1) (b:=l) (m:=K.length) (by lia) (by lia) hl
   rw [z] at this; exact this)
 have J2:=J1.reset hl
 refine ⟨lineOf K S F l ps (kf l),_,_,_,?_,J2.congr (fun p hp=>by rw [gd p hp,zg3_ _ _ hne]; lia),fun p=>by rw [zh9_],fun l' a b=>by rw [zg3_ _ _ a,zg3_ _ _ b]⟩
 ·unfold zp_ zH_
  walk_at "mo"
  rw [e2,decide_eq_true (show (0:Int)<l by lia)]
  walk_at "mo"
  rw [show (mkC K S F kf of bf ro).snd.snd.snd.fst=lvls F K.length S.length kf of from rfl,atL hl]
  walk_at "mo"
  rw [zfY_ _ _ (by lia)]
  walk_at "mo"
  rw [show ((l:Int)-1)=((l-1:Nat):Int) by lia,ze2_ (by lia) (by simp) (by lia) (by lia)]
  walk_at "mo"
  exact zf8_ hl _
theorem zem_ {a:Int}{n:Nat}{d r:List Int}{x:Int}(h:rngD a n=d++x::r):x=a-d.length∧d.length<n:=by
 have h1:(rngD a n)[d.length]?=some x:=by rw [h]; simp
 unfold rngD at h1
 rw [List.getElem?_map] at h1
 obtain ⟨y,h2,h3⟩:=Option.map_eq_some_iff.mp h1
 obtain ⟨h4,h5⟩:=List.getElem?_eq_some_iff.mp h2
 rw [List.getElem_range] at h5
 rw [List.length_range] at h4
 subst h5
 exact ⟨by lia,h4⟩
theorem zgt_ (a:Int) (n:Nat):(rngD a n).length=n:=by unfold rngD; simp
abbrev ClE (K S:List (Int×Int)) (F:Nat) (T:Nat→Int) (lines:List (List Nat)) (kf':Nat→Nat→Int) (of':Nat→Nat→Bool) (ro':List (Int×Bool)):Prop:=∃ T' k0,JI K.length S.length F T' T kf' of' ro'∧atI lines (-1)=some (lineOf K S F 0 [] k0)∧∀ p,p<S.length→(0≤k0 p∧k0 p<10 ^ F)∧(inR ro' p=false→k0 p=T p)
abbrev ClQ (K S:List (Int×Int)) (F:Nat) (T:Nat→Int) (o:Nat) (lines:List (List Nat)) (kf':Nat→Nat→Int) (of':Nat→Nat→Bool) (ro':List (Int×Bool)):Prop:=lines.length≤11∧((1≤o∧JI K.length S.length F T T kf' of' ro')∨(o=0∧ClE K S F T lines kf' of' ro'))
abbrev ClP (K S:List (Int×Int)) (F:Nat) (T:Nat→Int) (bf:Option (List Nat)) (n:Nat) (s:List (List Nat)×Ctr):Prop:=∃ kf' of' ro',s.2=mkC K S F kf' of' bf ro'∧s.1.length=n∧((n≤K.length∧JI K.length S.length F T T kf' of' ro'∧∀ l p,K.length-n<l→l≤K.length→kf' l p=0)∨(n=K.length+1∧ClE K S F T s.1 kf' of' ro'))
theorem zhp_ {o:Nat}(h1:1≤F) (h2:F≤12) (hK:K.length≤10) (hS:S.length≤10) (ho:o≤K.length+1) (hb:∃ b,bf=some b∧b.length=40) (J:JI K.length S.length F T T kf of ro) :
  ∃ lines kf' of' ro',zi_ (mkC K S F kf of bf ro) o=.ok (lines,mkC K S F kf' of' bf ro')∧ClQ K S F T o lines kf' of' ro':=by
 unfold zi_ zM_
 walk_at "mo"
 rw [show (mkC K S F kf of bf ro).fst=K from rfl,Mo.grd_ok (by refine ⟨by first | rfl | trivial,?_,?_,?_,?_⟩<;>first | omega | (simp only; omega) | (dsimp only; omega))]
 walk_at "mo"
 rw [show ((K.length:Int)-((o:Int)-1)).toNat=K.length+1-o by omega]
 refine zav_ (G:=fun z=>∃ lines kf' of' ro',fnMR (thenO z _)=.ok (lines,mkC K S F kf' of' bf ro')∧ClQ K S F T o lines kf' of' ro')
  (fun d (s:List (List Nat)×Ctr)=>ClP K S F T bf d.length s)
  ?_ ?_ ?_
 ·exact ⟨kf,of,ro,rfl,rfl,.inl ⟨Nat.zero_le _,J,fun l p a b=>by simp at a; omega⟩⟩
 ·rintro d x ⟨lines,st⟩ ⟨r,hr⟩ ⟨kf',of',ro',hs,hll,w⟩
  simp only at hs hll w ⊢
  subst hs
  obtain ⟨x1,hd⟩:=zem_ hr
  rcases w with ⟨w1,w2,w3⟩ | ⟨w1,_⟩
  ·by_cases hx:1≤K.length-d.length
   ·obtain ⟨line,kf2,of2,ro2,e,J2,z1,z2⟩:=zlY_ (l:=K.length-d.length) h1 h2 hK hS hx (by omega) hb w2
    rw [x1,show ((K.length:Int)-d.length)=((K.length-d.length:Nat):Int) by omega,e]
    walk_at "mo"
    rw [Mo.lim_ok (by omega)]
    refine ⟨_,rfl,kf2,of2,ro2,rfl,by simp; exact hll,.inl ⟨by simp; omega,J2,fun l p a b=>?_⟩⟩
    rw [List.length_append,List.length_singleton] at a
    by_cases hl:l=K.length-d.length
    ·subst hl; exact z1 p
    ·rw [z2 l hl (by omega)]; exact w3 l p (by omega) b
   ·have e:=zdJ_ (of:=of') (bf:=bf) (ro:=ro') h1 h2 hK hS w2.rng
    rw [x1,show ((K.length:Int)-d.length)=0 by omega,e]
    walk_at "mo"
    rw [Mo.lim_ok (by omega)]
    refine ⟨_,rfl,_,_,_,rfl,by simp; exact hll,.inr ⟨by simp; omega,_,kf' 0,w2.reset (Nat.zero_le _),?_,fun p hp=>⟨w2.rng 0 p,fun h=>?_⟩⟩⟩
    ·unfold atI ixN
     rw [if_neg (by decide),if_pos (by simp; omega)]
     simp
     rw [show (-1+((lines.length:Int)+1)).toNat=lines.length by omega]
     simp
    ·rcases w2.ex p hp with z | ⟨_,z⟩
     ·rw [h] at z; cases z
     ·rw [← z]
      have:∀ m,m≤K.length→smL (fun l=>kf' l p) m=kf' 0 p:=by
       intro m
       induction m with
       | zero=>intro _; rfl
       | succ m ih=>intro hm; show smL _ m+kf' (m+1) p=_; rw [ih (by omega),w3 (m+1) p (by omega) hm]; omega
      exact (this _ (Nat.le_refl _)).symm
  ·omega
 ·rintro ⟨lines,st⟩ ⟨kf',of',ro',hs,hll,w⟩
  simp only at hs hll w ⊢
  subst hs
  rw [zgt_] at hll w
  refine ⟨lines,kf',of',ro',rfl,by omega,?_⟩
  rcases w with ⟨w1,w2,w3⟩ | ⟨w1,w2⟩
  ·exact .inl ⟨by omega,w2⟩
  ·exact .inr ⟨by omega,w2⟩
theorem zoS_ (h1:1≤F) (h2:F≤12) (hK:K.length≤10) (hS:S.length≤10) (hb:∀ b,bf=some b→b.length=40) (h0:bf=none→∀ p,p<S.length→kf 0 p=T p) (J:JI K.length S.length F T T kf of ro) :
  ∃ lines kf' of' ro',zQ_ (mkC K S F kf of bf ro)=.ok (lines,mkC K S F kf' of' bf ro')∧∃ T' k0,JI K.length S.length F T' T kf' of' ro'∧atI lines (-1)=some (lineOf K S F 0 [] k0)∧∀ p,p<S.length→(0≤k0 p∧k0 p<10 ^ F)∧(inR ro' p=false→k0 p=T p):=by
 unfold zQ_ zax_
 walk_at "mo"
 rw [show (mkC K S F kf of bf ro).snd.snd.snd.snd.fst=bf from rfl]
 cases bf with
 | none =>
  walk_at "mo"
  rw [zdJ_ h1 h2 hK hS J.rng]
  walk_at "mo"
  exact ⟨_,_,_,_,rfl,_,kf 0,J.reset (Nat.zero_le _),rfl,fun p hp=>⟨J.rng 0 p,fun _=>h0 rfl p hp⟩⟩
 | some b =>
  walk_at "mo"
  obtain ⟨lines,kf',of',ro',e,_,w⟩:=zhp_ (o:=0) h1 h2 hK hS (by lia) ⟨b,rfl,hb b rfl⟩ J
  rw [show zi_ (mkC K S F kf of (some b) ro) 0=_ from e]
  walk_at "mo"
  rcases w with ⟨z,_⟩ | ⟨_,w⟩
  ·lia
  ·exact ⟨lines,kf',of',ro',rfl,w⟩
theorem ziY_ {b c:List Nat}(hb:b.length=40) (hc:c.length=40):∃ o:Nat,1≤o∧o≤K.length+1∧zo_ (mkC K S F kf of (some b) ro) c=.ok (o:Int):=by
 unfold zo_ zL_ mkC
 walk_at "mo"
 rw [zdC_ (p:=fun x:Int×(Int×Int)=>!decide (prt c x.2=prt b x.2)) (a:=fun x=>x.1+1) (fun x hx=>?_)]
 ·cases g:(enumL K).find? (fun x:Int×(Int×Int)=>!decide (prt c x.2=prt b x.2)) with
  | none=>exact ⟨K.length+1,by lia,by lia,rfl⟩
  | some x =>
   obtain ⟨i,hi,e,_⟩:=zdI_ (List.mem_of_find?_eq_some g)
   refine ⟨i+1,by lia,by lia,?_⟩
   show Mq (x.1+1)=_
   rw [e]; rfl
 ·rw [zeA_ c x.2 (by lia),zeA_ b x.2 (by lia)]
  walk_at "mo"
theorem zlH_ {c:List Nat}(hc:c.length=40):zdE_ c=.ok (c.drop 36):=by
 unfold zdE_ zeY_
 walk_at "mo"
 rw [Mo.lim_ok (by lia),zk4_ (by decide)]
 rfl
theorem zit_ (c:List Nat) (B:List Wr):(laid c B).length=36:=by unfold laid; simp
theorem feed_eq {c:List Nat}(h1:1≤F) (h2:F≤12) (hK:K.length≤10) (hS:S.length≤10) (hc:c.length=40) (hv:∀ f∈S,0≤num c f) (hb:∀ b,bf=some b→b.length=40) (J:JI K.length S.length F T T kf of ro) :
  ∃ lines kf' of' ro',z9_ (mkC K S F kf of bf ro) c=.ok (lines,mkC K S F kf' of' (some c) ro')∧JI K.length S.length F (fun p=>T p+(S.map (num c)).getD p 0) (fun p=>T p+(S.map (num c)).getD p 0) kf' of' ro':=by
 have hd:(c.drop 36).length=4:=by simp [hc]
 have hll:=zit_ c []
 have key:∃ lines kf' of' ro',(if (mkC K S F kf of bf ro).snd.snd.snd.snd.fst.isSome=true then
     ((zo_ (mkC K S F kf of bf ro) c).noex.bind fun c10 =>
        (zi_ (mkC K S F kf of bf ro) c10).noex.bind fun q11=>Mq (q11.fst,q11.snd)).bind
      fun q12=>(Mq (Out.nx (q12.fst,q12.snd)):Mo (Out ((List (List Nat))×Ctr) Unit ((List (List Nat))×Ctr)))
    else Mq (Out.nx ([],mkC K S F kf of bf ro)))=Mq (Out.nx (lines,mkC K S F kf' of' bf ro'))∧lines.length≤11∧JI K.length S.length F T T kf' of' ro':=by
  cases bf with
  | none=>exact ⟨[],kf,of,ro,rfl,by simp,J⟩
  | some b =>
   obtain ⟨o,o1,o2,eo⟩:=ziY_ (K:=K) (S:=S) (F:=F) (kf:=kf) (of:=of) (ro:=ro) (hb b rfl) hc
   obtain ⟨lines,kf',of',ro',e,e2,w⟩:=zhp_ (o:=o) h1 h2 hK hS o2 ⟨b,rfl,hb b rfl⟩ J
   rw [eo]
   walk_at "mo"
   rw [e]
   rcases w with ⟨_,w⟩ | ⟨z,_⟩
   ·exact ⟨lines,kf',of',ro',rfl,e2,w⟩
   ·lia
 obtain ⟨lines,kf',of',ro',ek,hlen,J'⟩:=key
 have hro:=J'.len
 have gv:∀ p,p<S.length→0≤(S.map (num c)).getD p 0:=fun p hp=>by
  rw [List.getD_eq_getElem?_getD,List.getElem?_map,List.getElem?_eq_getElem hp]
  exact hv _ (List.getElem_mem hp)
 have J1:=J'.raise (l:=K.length) (vs:=S.map (num c)) (B':=fun p=>T p+(S.map (num c)).getD p 0) (Nat.le_refl _) gv (fun p hp=>by have:=gv p hp; lia) (fun p hp h=>by
  rcases J'.ex p hp with z | ⟨_,z⟩
  ·rw [h] at z; cases z
  ·have:=znz_ (g:=fun i=>kf' i p) (fun i=>(J'.rng i p).1) (Nat.le_refl K.length)
   rw [z] at this; show kf' K.length p+_≤T p+_; lia)
 refine ⟨lines++[c.drop 36++32::laid c []],_,_,_,?_,J1⟩
 ·unfold z9_ zaO_
  walk_at "mo"
  rw [ek,zfc_,zlH_ hc]
  walk_at "mo"
  rw [show (mkC K S F kf' of' bf ro').snd.snd.fst=[] from rfl,show (mkC K S F kf' of' bf ro').snd.fst=S from rfl,show (mkC K S F kf' of' bf ro').fst=K from rfl,znZ_ hc (by simp)]
  walk_at "mo"
  rw [Mo.lim_ok (by lia),Mo.lim_ok (by lia)]
  walk_at "mo"
  rw [Mo.grd_ok (by lia),Mo.grd_ok (by decide),Mo.grd_ok (by lia)]
  walk_at "mo"
  rw [Mo.lim_ok (by lia),zV_ (f:=fun x32=>cond1 (Mq true) (zaP_ c x32).noex) (g:=num c) (fun x hx=>by rw [zhA_ c x (by lia)]; rfl) (by simp; lia)]
  walk_at "mo"
  rw [List.nil_append,ze2_ (Nat.le_refl _) (by simp) (by lia) (by lia),List.append_nil]
  rfl
theorem zoy_ (h2:F≤12) (hK:K.length≤10) (hS:S.length≤10):z8_ () K S F []=.ok ((),mkC K S F (fun _ _=>0) (fun _ _=>false) none []):=by
 unfold z8_ zaC_
 walk_at "mo"
 rw [Mo.grd_ok (by lia),show ((K.length:Int)+1).toNat=K.length+1 by lia]
 walk_at "mo"
 have e:compM (fun x18:Int×Int=>cond1 (Mq true) ((zB_ () F).noex.bind fun v20=>Mq v20.snd)) S []=.ok (wrow F S.length (fun _=>0) (fun _=>false)):=by
  have e12:zB_ () F=.ok ((),whl F 0 false):=znM_ (by lia)
  rw [zV_ (f:=fun x18:Int×Int=>cond1 (Mq true) ((zB_ () F).noex.bind fun v20=>Mq v20.snd)) (g:=fun _=>whl F 0 false) (fun x hx=>by rw [e12]; rfl) (by simp; lia)]
  unfold wrow
  rw [List.nil_append,List.map_const',List.map_const',List.length_range]
 rw [zV_ (f:=fun x17:Int=>cond1 (Mq true) (compM (fun x18:Int×Int=>cond1 (Mq true) ((zB_ () F).noex.bind fun v20=>Mq v20.snd)) S [])) (g:=fun _=>wrow F S.length (fun _=>0) (fun _=>false)) (fun x hx=>by rw [e]; rfl) (by rw [zaE_]; simp; lia)]
 have e2:(rngI 0 (K.length+1)).map (fun _=>wrow F S.length (fun _=>0) (fun _=>false))=lvls F K.length S.length (fun _ _=>0) (fun _ _=>false):=by
  unfold lvls rngI; simp
 unfold mkC
 rw [← e2]
 rfl
end
theorem zlV_ (n:Int):∃ ks,zb3_ n=.ok ks∧ks.length=36:=by
 obtain ⟨xs,e,hl⟩:=zdG_ n (many:=36) (by decide) (by decide)
 unfold zb3_ zc7_
 walk_at "mo"
 rw [e]
 walk_at "mo"
 rw [zV_ (f:=fun x_4=>cond1 (Mq true) (Mq (x_4 / 11))) (g:=fun x=>x / 11) (fun x _=>rfl) (by simp [hl])]
 exact ⟨_,rfl,by simp [hl]⟩
theorem zoU_ (k:Int):∃ y,atI SG (k % 37)=some y:=by
 obtain ⟨y,e,_⟩:∃ y,atI SG (k % 37)=some y∧y∈SG:=zoQ_ (xs:=SG) k (by decide)
 exact ⟨y,e⟩
theorem sg_in {k:Int}(h0:0≤k) (h1:k<37):∃ y,atI SG k=some y:=by
 obtain ⟨y,e,_⟩:=zbY_ (xs:=SG) h0 h1
 exact ⟨y,e⟩
theorem zlG_ (n k:Int) {ks:List Int}(hk:ks.length=36):∃ c,zaG_ n k ks=.ok c∧c.length=40:=by
 obtain ⟨xs,e,hl⟩:=zdG_ n (many:=36) (by decide) (by decide)
 unfold zaG_ zd3_
 walk_at "mo"
 rw [e]
 walk_at "mo"
 rw [Mo.grd_ok (by decide)]
 walk_at "mo"
 have hxs:xs.length=36:=hl
 refine zav_ (G:=fun m=>∃ c:List Nat,fnO (thenO m _)=.ok c∧c.length=40) (fun d (s:List Nat)=>s.length=d.length) rfl (fun d x s hx hs=>?_) (fun s hs=>?_)
 ·obtain ⟨r,hr⟩:=hx
  obtain ⟨ex,hd⟩:=zij_ hr
  have hd':d.length<36:=hd
  obtain ⟨a,ea,_⟩:=zbY_ (xs:=xs) (k:=x) (by lia) (by lia)
  obtain ⟨b,eb,_⟩:=zbY_ (xs:=ks) (k:=x) (by lia) (by lia)
  rw [ea,eb]
  walk_at "mo"
  have q0:0≤b % 5:=Int.emod_nonneg _ (by decide)
  have q1:b % 5<5:=Int.emod_lt_of_pos _ (by decide)
  have key:∃ v,atI [1+b / 5 % 10,1+a / 7 % 10,(b / 5+a / 7 % 2) % 37,a / 7 % 37,1+(b / 5+a / 7 % 2) % 10] (b % 5)=some v∧0≤v∧v<37:=by
   obtain ⟨v,ev,hm⟩:=zbY_ (xs:=[1+b / 5 % 10,1+a / 7 % 10,(b / 5+a / 7 % 2) % 37,a / 7 % 37,1+(b / 5+a / 7 % 2) % 10]) (k:=b % 5) q0 (by simpa using q1)
   refine ⟨v,ev,?_⟩
   simp only [List.mem_cons,List.not_mem_nil,or_false] at hm
   rcases hm with rfl | rfl | rfl | rfl | rfl<;>lia
  obtain ⟨v,ev,v0,v1⟩:=key
  obtain ⟨y,ey⟩:=sg_in v0 v1
  rw [ev]
  walk_at "mo"
  rw [ey,Mo.lim_ok (by decide)]
  walk_at "mo"
  rw [Mo.lim_ok (by simp; lia)]
  exact ⟨_,rfl,by simp [hs]⟩
 ·obtain ⟨y1,e1⟩:=zoU_ n
  obtain ⟨y2,e2⟩:=zoU_ k
  obtain ⟨a,ea,_⟩:=zbY_ (xs:=xs) (k:=0) (by decide) (by lia)
  obtain ⟨y3,e3⟩:=zoU_ a
  obtain ⟨y4,e4⟩:=zoU_ (n / 37)
  have hs':s.length=36:=by rw [hs,zaE_]; rfl
  walk_at "mo"
  rw [e1,e2,ea,e4]
  walk_at "mo"
  rw [e3]
  simp only [show ∀ r:Mo (List Nat),Mo.lim SG.length r=r from fun r=>Mo.lim_ok (by decide)]
  walk_at "mo"
  rw [Mo.lim_ok (show [y1].length+[y2].length≤100000 by simp)]
  walk_at "mo"
  rw [Mo.lim_ok (show ([y1]++[y2]).length+[y3].length≤100000 by simp)]
  walk_at "mo"
  rw [Mo.lim_ok (show s.length+([y1]++[y2]++[y3]).length≤100000 by simp; lia)]
  walk_at "mo"
  rw [Mo.lim_ok (show (s++([y1]++[y2]++[y3])).length+[y4].length≤100000 by simp; lia)]
  exact ⟨_,rfl,by simp; lia⟩
theorem zl2_ (d:Nat):max 0 (findS [48,49,50,51,52,53,54,55,56,57] [d])=(fig d:Int)-48:=by
 by_cases h:48≤d∧d≤57
 ·rw [zfV_ h,show fig d=d from if_pos h]; omega
 ·rw [zfZ_ h,show fig d=48 from if_neg h]; rfl
theorem zjd_ (c:List Nat) (f:Int×Int) (h:c.length≤1000):zaU_ c f=.ok (num c f):=by
 unfold zaU_ zcs_
 walk_at "mo"
 rw [Mo.lim_ok (by lia)]
 walk_at "mo"
 rw [zbO_ (fun (s:Int) (x:List Nat)=>s*10+((fig (x.headD 0):Nat)-48))]
 ·rw [List.foldl_map]
  unfold num numL
  rw [List.foldl_map]
  rfl
 ·intro s x hx
  obtain ⟨d,hd,rfl⟩:=List.mem_map.mp hx
  rw [zl2_,Int.mul_comm s 10]
  rfl
def rst (full:Int) (vals:List Int) (s:List Int×List (Int×Bool)) (p:Nat):List Int×List (Int×Bool) :=
 (s.1.set p ((s.1.getD p 0+vals.getD p 0) % full),if full≤s.1.getD p 0+vals.getD p 0 then putA s.2 (p:Int) true else s.2)
def rz (full:Int) (vals:List Int) (n:Nat) (s:List Int×List (Int×Bool)):List Int×List (Int×Bool):=(List.range n).foldl (rst full vals) s
theorem rz_s (full:Int) (vals:List Int) (n:Nat) (s:List Int×List (Int×Bool)):rz full vals (n+1) s=rst full vals (rz full vals n s) n:=by
 unfold rz
 rw [List.range_succ,List.foldl_append]; rfl
theorem znj_ {n:Nat}{d r:List Int}{x:Int}(h:rngI 0 n=d++x::r):x=d.length∧d.length<n:=by
 have hl:=congrArg List.length h
 rw [zaE_] at hl
 simp at hl
 have e:(rngI 0 n)[d.length]?=some x:=by rw [h,List.getElem?_append_right (Nat.le_refl _)]; simp
 unfold rngI at e
 rw [List.getElem?_map,List.getElem?_range (by lia)] at e
 simp at e
 exact ⟨e.symm,by lia⟩
theorem ziw_ {xs:List Int}{p:Nat}(h:p<xs.length):atI xs (p:Int)=some (xs.getD p 0):=by
 rw [zfL_ (by lia),Int.toNat_natCast,List.getElem?_eq_getElem h,List.getD_eq_getElem?_getD,List.getElem?_eq_getElem h]; rfl
theorem zgZ_ {row vals:List Int}{full:Int}{over:List (Int×Bool)}(hn:row.length≤100) (hv:row.length≤vals.length) (hf:0<full) (ho:over.length≤1000):zan_ row vals full over=.ok ((),rz full vals row.length (row,over)):=by
 unfold zan_ zcA_
 walk_at "mo"
 rw [Mo.grd_ok ⟨by lia,by lia⟩]
 walk_at "mo"
 rw [Int.toNat_natCast]
 refine zav_ (G:=fun m=>fnMU (thenO m _)=.ok ((),rz full vals row.length (row,over))) (fun d (s:List Int×List (Int×Bool))=>s=rz full vals d.length (row,over)∧s.1.length=row.length∧s.2.length≤over.length+d.length) ⟨rfl,rfl,by simp⟩ (fun d x s hx hs=>?_) (fun s hs=>?_)
 ·obtain ⟨r,hr⟩:=hx
  obtain ⟨rfl,hd⟩:=znj_ hr
  obtain ⟨h1,h2,h3⟩:=hs
  rw [ziw_ (xs:=s.1) (by lia),ziw_ (xs:=vals) (by lia)]
  walk_at "mo"
  rw [zdY_ (by lia) (by lia),Int.toNat_natCast]
  walk_at "mo"
  rw [ziw_ (by rw [List.length_set]; lia),show (s.1.set d.length (s.1.getD d.length 0+vals.getD d.length 0)).getD d.length 0=s.1.getD d.length 0+vals.getD d.length 0 by rw [List.getD_eq_getElem?_getD,List.getElem?_set_self (by lia)]; rfl]
  walk_at "mo"
  have key:∀ (b:Bool),b=decide (full≤s.1.getD d.length 0+vals.getD d.length 0)→∃ o,(if b=true then Mo.lim (s.2.length+1) (Mq (Out.nx (putA s.2 (d.length:Int) true))) else Mq (Out.nx s.2):Mo (Out (Unit×(List Int×List (Int×Bool))) (List Int×List (Int×Bool)) (List (Int×Bool))))=.ok (.nx o)∧o=(if full≤s.1.getD d.length 0+vals.getD d.length 0 then putA s.2 (d.length:Int) true else s.2)∧o.length≤s.2.length+1:=fun b e=>by
   cases b with
   | true =>
    have:=of_decide_eq_true e.symm
    rw [if_pos rfl,Mo.lim_ok (by lia)]
    exact ⟨_,rfl,by rw [if_pos this],zgc_ ..⟩
   | false =>
    have:=of_decide_eq_false e.symm
    exact ⟨_,rfl,by rw [if_neg this],by lia⟩
  obtain ⟨o,e1,e2,e3⟩:=key _ rfl
  rw [e1]
  walk_at "mo"
  rw [Mo.grd_ok hf]
  walk_at "mo"
  rw [List.length_set,zdY_ (by lia) (by lia),Int.toNat_natCast]
  walk_at "mo"
  refine ⟨_,rfl,?_,by simp; exact h2,by simp; lia⟩
  rw [List.length_append,List.length_singleton,rz_s,← h1,List.set_set,e2]
  rfl
 ·rw [zaE_] at hs
  rw [hs.1]
  rfl
theorem zpp_ (full:Int) (vals:List Int) (n:Nat) (s:List Int×List (Int×Bool)):(rz full vals n s).1.length=s.1.length∧(rz full vals n s).2.length≤s.2.length+n:=by
 induction n with
 | zero=>exact ⟨rfl,Nat.le_refl _⟩
 | succ n ih =>
  rw [rz_s]
  unfold rst
  refine ⟨by rw [List.length_set]; exact ih.1,?_⟩
  show (if _ then putA (rz full vals n s).2 _ _ else (rz full vals n s).2).length≤_
  split
  ·have:=zgc_ (rz full vals n s).2 (n:Int) true
   lia
  ·lia
def cst (full:Int) (n:Nat) (s:List (List Int)×List (List Int)×List (Int×Bool)) (i:Nat):List (List Int)×List (List Int)×List (Int×Bool) :=
 if 0<i then (s.1++[s.2.1.getD i []],(s.2.1.set (i-1) (rz full (s.2.1.getD i []) n (s.2.1.getD (i-1) [],s.2.2)).1).set i (List.replicate n 0),(rz full (s.2.1.getD i []) n (s.2.1.getD (i-1) [],s.2.2)).2)
 else (s.1++[s.2.1.getD i []],s.2.1.set i (List.replicate n 0),s.2.2)
def clz (full:Int) (n m:Nat):Nat→List (List Int)×List (List Int)×List (Int×Bool)→List (List Int)×List (List Int)×List (Int×Bool)
 | 0,s=>s
 | k+1,s=>cst full n (clz full n m k s) (m-k)
theorem zif_ {xs:List (List Int)}{p:Nat}(h:p<xs.length):atI xs (p:Int)=some (xs.getD p []):=by
 rw [zfL_ (by lia),Int.toNat_natCast,List.getElem?_eq_getElem h,List.getD_eq_getElem?_getD,List.getElem?_eq_getElem h]; rfl
theorem zf9_ {xs:List (List Int)}{p:Nat}(h:p<xs.length):xs.getD p []∈xs:=by
 rw [List.getD_eq_getElem?_getD,List.getElem?_eq_getElem h]; exact List.getElem_mem h
theorem zha_ {W:List (List Int)}{full:Int}{over:List (Int×Bool)}{n m lv:Nat}(hm:W.length=m+1) (hm2:m≤10) (hW:∀ r∈W,r.length=n) (hn:n≤10) (hf:0<full) (ho:over.length≤100) (hl:lv≤m+1) :
  z6_ W (lv:Int) full over=.ok ((clz full n m (m+1-lv) ([],W,over)).1,(clz full n m (m+1-lv) ([],W,over)).2):=by
 unfold z6_ zcE_
 walk_at "mo"
 rw [Mo.grd_ok ⟨trivial,by lia,by lia,by lia,by lia⟩]
 walk_at "mo"
 rw [hm,show ((((m+1:Nat):Int)-1)-((lv:Int)-1)).toNat=m+1-lv by lia]
 refine zav_ (G:=fun mm=>fnMR (thenO mm _)=.ok ((clz full n m (m+1-lv) ([],W,over)).1,(clz full n m (m+1-lv) ([],W,over)).2)) (fun d (s:List (List Int)×List (List Int)×List (Int×Bool))=>s=clz full n m d.length ([],W,over)∧s.1.length=d.length∧s.2.1.length=m+1∧(∀ r∈s.2.1,r.length=n)∧s.2.2.length≤over.length+n*d.length) ⟨rfl,rfl,hm,hW,by simp⟩ (fun d x s hx hs=>?_) (fun s hs=>?_)
 ·obtain ⟨r,hr⟩:=hx
  obtain ⟨rfl,hd⟩:=zem_ hr
  obtain ⟨h1,h2,h3,h4,h5⟩:=hs
  obtain ⟨i,hi⟩:∃ i:Nat,m-d.length=i:=⟨_,rfl⟩
  rw [show (((m+1:Nat):Int)-1)-(d.length:Int)=(i:Int) by lia]
  have hil:i<s.2.1.length:=by lia
  have hnd:n*d.length≤10*11:=Nat.mul_le_mul hn (by lia)
  rw [zif_ hil]
  walk_at "mo"
  rw [Mo.lim_ok (by lia)]
  have hrep:repL [(0:Int)] (n:Int)=List.replicate n 0:=by unfold repL; rw [Int.toNat_natCast,List.flatten_replicate_singleton]
  have tail:∀ {ρ B:Type}(W':List (List Int)) (ov':List (Int×Bool)),W'.length=m+1→(∀ r∈W',r.length=n)→((((Mo.opt (atI W' (i:Int))).bind fun c=>Mq (c.length:Int)).bind fun b=>Mo.grd (CRep [(0:Int)].length b) (Mq (repL [(0:Int)] b))).bind fun a=>(Mo.opt (Option.map (fun n=>W'.set n a) (ixN W'.length (i:Int)))).bind fun x=>(Mq (Out.nx (s.1++[s.2.1.getD i []],x,ov')):Mo (Out ρ B (List (List Int)×List (List Int)×List (Int×Bool)))))=.ok (.nx (s.1++[s.2.1.getD i []],W'.set i (List.replicate n 0),ov')):=fun W' ov' a1 a2=>by
   rw [zif_ (by lia)]
   walk_at "mo"
   rw [a2 _ (zf9_ (by lia)),Mo.grd_ok (show CRep [(0:Int)].length (n:Int) from ⟨by lia,by lia,by show 1≤100000; lia,by rw [Int.toNat_natCast]; show 1*n≤100000; lia⟩)]
   walk_at "mo"
   rw [hrep,zdY_ (by lia) (by lia),Int.toNat_natCast]
   rfl
  have hset:∀ (W':List (List Int)),W'.length=m+1→(∀ r∈W',r.length=n)→(W'.set i (List.replicate n 0)).length=m+1∧∀ r∈W'.set i (List.replicate n 0),r.length=n:=fun W' a1 a2=>⟨by rw [List.length_set]; exact a1,fun r hr=>by
   rcases List.mem_or_eq_of_mem_set hr with z | z
   ·exact a2 r z
   ·rw [z,List.length_replicate]⟩
  have hd1:n*(d++[(i:Int)]).length=n*d.length+n:=by rw [List.length_append,List.length_singleton,Nat.mul_add,Nat.mul_one]
  have hcl:clz full n m (d++[(i:Int)]).length ([],W,over)=cst full n s i:=by
   rw [List.length_append,List.length_singleton]
   show cst full n (clz full n m d.length ([],W,over)) (m-d.length)=_
   rw [← h1,hi]
  rw [hcl,hd1]
  by_cases h0:0<i
  ·rw [decide_eq_true (show (0:Int)<(i:Int) by lia),if_pos rfl,show (i:Int)-1=((i-1:Nat):Int) by lia,zdY_ (by lia) (by lia),Int.toNat_natCast]
   have q1:s.2.1[i-1]?=some (s.2.1.getD (i-1) []):=by rw [List.getD_eq_getElem?_getD,List.getElem?_eq_getElem (by lia)]; rfl
   have q2:s.2.1[i]?=some (s.2.1.getD i []):=by rw [List.getD_eq_getElem?_getD,List.getElem?_eq_getElem (by lia)]; rfl
   have r1:(s.2.1.getD (i-1) []).length=n:=h4 _ (zf9_ (by lia))
   have r2:(s.2.1.getD i []).length=n:=h4 _ (zf9_ (by lia))
   walk_at "mo"
   rw [q1]
   walk_at "mo"
   rw [zdY_ (by lia) (by lia),Int.toNat_natCast]
   walk_at "mo"
   rw [q2]
   walk_at "mo"
   rw [Mo.grd_ok (by lia),zgZ_ (by lia) (by lia) hf (by lia),r1]
   walk_at "mo"
   obtain ⟨z1,z2⟩:=zpp_ full (s.2.1.getD i []) n (s.2.1.getD (i-1) [],s.2.2)
   have w1:(s.2.1.set (i-1) (rz full (s.2.1.getD i []) n (s.2.1.getD (i-1) [],s.2.2)).1).length=m+1:=by rw [List.length_set]; exact h3
   have w2:∀ r∈s.2.1.set (i-1) (rz full (s.2.1.getD i []) n (s.2.1.getD (i-1) [],s.2.2)).1,r.length=n:=fun r hr=>by
    rcases List.mem_or_eq_of_mem_set hr with z | z
    ·exact h4 r z
    ·rw [z,z1]; exact r1
   obtain ⟨y1,y2⟩:=hset _ w1 w2
   rw [tail _ _ w1 w2]
   refine ⟨_,rfl,?_,by simp; exact h2,y1,y2,?_⟩
   ·unfold cst
    rw [if_pos h0]
   ·have z2:(rz full (s.2.1.getD i []) n (s.2.1.getD (i-1) [],s.2.2)).2.length≤s.2.2.length+n:=z2
    show (rz full (s.2.1.getD i []) n (s.2.1.getD (i-1) [],s.2.2)).2.length≤_
    lia
  ·rw [decide_eq_false (show ¬ (0:Int)<(i:Int) by lia),if_neg (by decide)]
   walk_at "mo"
   obtain ⟨y1,y2⟩:=hset _ h3 h4
   rw [tail _ _ h3 h4]
   refine ⟨_,rfl,?_,by simp; exact h2,y1,y2,by show s.2.2.length≤_; lia⟩
   unfold cst
   rw [if_neg h0]
 ·rw [zgt_] at hs
  rw [hs.1]
  rfl
theorem zg8_ {over:List (Int×Bool)}(ho:over.length<64):zbm_ (srtL ltI (over.map (·.1))) over=.ok (true,srtL ltI (over.map (·.1))++[99]):=by
 have hl:(srtL ltI (over.map (·.1))).length=over.length:=by rw [(zg9_ ltI (over.map (·.1))).length_eq,List.length_map]
 unfold zbm_ zc1_
 walk_at "mo"
 rw [Mo.grd_ok ho]
 walk_at "mo"
 rw [show eqL (fun a b:Int=>decide (a=b)) (srtL ltI (over.map fun x=>x.1)) (srtL ltI (over.map fun x=>x.1))=true from zjg_ (fun a=>by simp) _]
 walk_at "mo"
 rw [zgI_ (fun x hx=>rfl)]
 walk_at "mo"
 rw [Mo.lim_ok (by rw [hl]; lia)]
 rfl
theorem zlT_ {m:List (Int×Bool)}{p:Nat}(h:inR m p=true) (ht:∀ q∈m,q.2=true):putA m (p:Int) true=m:=by
 unfold putA
 have hany:(m.any fun q=>decide (q.1=(p:Int)))=true:=by
  unfold inR getA at h
  cases g:m.find? (fun q=>decide (q.1=(p:Int))) with
  | none=>rw [g] at h; cases h
  | some q =>
   have h1:=List.find?_some g
   exact List.any_eq_true.mpr ⟨q,List.mem_of_find?_eq_some g,by simpa using h1⟩
 rw [if_pos hany]
 refine (List.map_congr_left fun q hq=>?_).trans (List.map_id _)
 split
 ·show (q.1,true)=q
  rw [← ht q hq]
 ·rfl
theorem zmg_ {m:List (Int×Bool)}{k:Int}(ht:∀ q∈m,q.2=true):∀ q∈putA m k true,q.2=true:=by
 unfold putA
 intro q hq
 split at hq
 ·obtain ⟨z,hz,rfl⟩:=List.mem_map.mp hq
  split
  ·rfl
  ·exact ht z hz
 ·rcases List.mem_append.mp hq with hq | hq
  ·exact ht q hq
  ·rw [List.mem_singleton.mp hq]
theorem zgv_ {F:Nat}{k:Nat→Int}{o:Nat→Bool}{vs:List Int}{ro:List (Int×Bool)}(ht:∀ q∈ro,q.2=true):∀ d,∀ q∈rsR F k o vs ro d,q.2=true
 | 0=>ht
 | d+1=>by
  have ih:=zgv_ (F:=F) (k:=k) (o:=o) (vs:=vs) ht d
  unfold rsR
  split
  ·exact zmg_ ih
  ·exact ih
theorem zpG_ {F n:Nat}{k:Nat→Int}{o:Nat→Bool}{vs:List Int}{ro:List (Int×Bool)}(ho:∀ p,o p=true→inR ro p=true) (ht:∀ q∈ro,q.2=true):∀ d,d≤n→rz (10 ^ F) vs d ((List.range n).map k,ro)=((List.range n).map (rsK F k vs d),rsR F k o vs ro d)
 | 0,_=>by rw [rsK_0]; rfl
 | d+1,hd=>by
  rw [rz_s,zpG_ ho ht d (by lia)]
  have e:((List.range n).map (rsK F k vs d)).getD d 0=k d:=by
   rw [List.getD_eq_getElem?_getD,List.getElem?_map,List.getElem?_range (by lia)]
   show rsK F k vs d d=k d
   unfold rsK
   rw [if_neg (by lia)]
  unfold rst
  simp only [e]
  rw [zdB_,rsK_s]
  congr 1
  conv=>rhs; unfold rsR
  have hin:inR (rsR F k o vs ro d) d=(inR ro d || (decide (d<d) && (o d || decide ((10:Int) ^ F≤k d+vs.getD d 0)))):=zj8_ F k o vs ro d d
  cases h1:decide ((10:Int) ^ F≤k d+vs.getD d 0) with
  | true =>
   rw [if_pos (of_decide_eq_true h1)]
   simp
  | false =>
   rw [if_neg (of_decide_eq_false h1)]
   cases h2:o d with
   | false=>simp
   | true =>
    have:inR (rsR F k o vs ro d) d=true:=by rw [hin,ho d h2]; rfl
    simp
    exact (zlT_ this (zgv_ ht d)).symm
structure MI (n F:Nat) (kf:Nat→Nat→Int) (of:Nat→Nat→Bool) (ro:List (Int×Bool)):Prop where
 rng:∀ l p,0≤kf l p∧kf l p<10 ^ F
 ho:∀ l p,of l p=true→inR ro p=true
 ht:∀ q∈ro,q.2=true
 ks:∀ q∈ro,∃ p:Nat,p<n∧q.1=p
 nd:(ro.map (·.1)).Nodup
theorem MI.len {n F:Nat}{kf:Nat→Nat→Int}{of:Nat→Nat→Bool}{ro:List (Int×Bool)}(M:MI n F kf of ro):ro.length≤n:=by
 have:=zgq_ n (ro.map (·.1)) M.nd fun x hx=>by
  obtain ⟨q,hq,rfl⟩:=List.mem_map.mp hx
  exact M.ks q hq
 rwa [List.length_map] at this
theorem MI.raise {n F l:Nat}{kf:Nat→Nat→Int}{of:Nat→Nat→Bool}{ro:List (Int×Bool)}(M:MI n F kf of ro) (vs:List Int):MI n F (u1 kf l (rsK F (kf l) vs n)) (u1 of l (rsO F (kf l) (of l) vs n)) (rsR F (kf l) (of l) vs ro n):=by
 refine ⟨fun l' p=>?_,fun l' p h=>?_,zgv_ M.ht n,zj6_ M.ks n (Nat.le_refl _),zkH_ M.nd n⟩
 ·unfold u1
  split
  ·unfold rsK
   split
   ·exact ⟨Int.emod_nonneg _ (by have:=zay_ F; lia),Int.emod_lt_of_pos _ (zay_ F)⟩
   ·exact M.rng l p
  ·exact M.rng l' p
 ·rw [zj8_]
  unfold u1 at h
  split at h
  ·unfold rsO at h
   split at h
   ·rename_i hp
    rw [h,decide_eq_true hp]; simp
   ·rw [M.ho l p h]; rfl
  ·rw [M.ho l' p h]; rfl
theorem MI.reset {n F l:Nat}{kf:Nat→Nat→Int}{of:Nat→Nat→Bool}{ro:List (Int×Bool)}(M:MI n F kf of ro):MI n F (u1 kf l fun _=>0) (u1 of l fun _=>false) ro:=by
 refine ⟨fun l' p=>?_,fun l' p h=>?_,M.ht,M.ks,M.nd⟩
 ·unfold u1
  split
  ·exact ⟨Int.le_refl _,zay_ F⟩
  ·exact M.rng l' p
 ·unfold u1 at h
  split at h
  ·cases h
  ·exact M.ho l' p h
def lw (m n:Nat) (kf:Nat→Nat→Int):List (List Int):=(List.range (m+1)).map fun l=>(List.range n).map (kf l)
theorem zlI_ {m n l:Nat}{kf:Nat→Nat→Int}(h:l≤m):(lw m n kf).getD l []=(List.range n).map (kf l):=by
 unfold lw
 rw [List.getD_eq_getElem?_getD,List.getElem?_map,List.getElem?_range (by lia)]; rfl
theorem zk3_ {m n l:Nat}{kf:Nat→Nat→Int}(k:Nat→Int):(lw m n kf).set l ((List.range n).map k)=lw m n (u1 kf l k):=by
 unfold lw
 rw [zdB_]
 congr 1
 funext j
 unfold u1
 split<;>rfl
theorem MI.cst {m n F l:Nat}{kf:Nat→Nat→Int}{of:Nat→Nat→Bool}{ro:List (Int×Bool)}(M:MI n F kf of ro) (sh:List (List Int)) (hl1:1≤l) (hl:l≤m) :
  K35.cst (10 ^ F) n (sh,lw m n kf,ro) l=(sh++[(List.range n).map (kf l)],lw m n (u1 (u1 kf (l-1) (rsK F (kf (l-1)) ((List.range n).map (kf l)) n)) l fun _=>0),rsR F (kf (l-1)) (of (l-1)) ((List.range n).map (kf l)) ro n):=by
 unfold K35.cst
 rw [if_pos (by lia)]
 simp only
 rw [zlI_ hl,zlI_ (by lia),zpG_ (o:=of (l-1)) (fun p h=>M.ho _ p h) M.ht n (Nat.le_refl _)]
 simp only
 rw [zk3_,show List.replicate n (0:Int)=(List.range n).map fun _=>(0:Int) by simp [List.map_const'],zk3_]
theorem MI.close {K S:List (Int×Int)}{F l:Nat}{kf:Nat→Nat→Int}{of:Nat→Nat→Bool}{bf:Option (List Nat)}{ro:List (Int×Bool)}(h1:1≤F) (h2:F≤12) (hK:K.length≤10) (hS:S.length≤10) (hl1:1≤l) (hl:l≤K.length) (hb:∃ b,bf=some b∧b.length=40) (M:MI S.length F kf of ro) :
  ∃ ps,zp_ (mkC K S F kf of bf ro) l=.ok (lineOf K S F l ps (kf l),mkC K S F (u1 (u1 kf (l-1) (rsK F (kf (l-1)) ((List.range S.length).map (kf l)) S.length)) l fun _=>0) (u1 (u1 of (l-1) (rsO F (kf (l-1)) (of (l-1)) ((List.range S.length).map (kf l)) S.length)) l fun _=>false) bf (rsR F (kf (l-1)) (of (l-1)) ((List.range S.length).map (kf l)) ro S.length)):=by
 obtain ⟨ps,_,e2⟩:=zgN_ (bf:=bf) (of:=of) (ro:=ro) h1 h2 hK hS hl (.inr hb) M.rng
 have hro:=M.len
 refine ⟨ps,?_⟩
 unfold zp_ zH_
 walk_at "mo"
 rw [e2,decide_eq_true (show (0:Int)<l by lia)]
 walk_at "mo"
 rw [show (mkC K S F kf of bf ro).snd.snd.snd.fst=lvls F K.length S.length kf of from rfl,atL hl]
 walk_at "mo"
 rw [zfY_ _ _ (by lia)]
 walk_at "mo"
 rw [show ((l:Int)-1)=((l-1:Nat):Int) by lia,ze2_ (by lia) (by simp) (by lia) (by lia)]
 walk_at "mo"
 exact zf8_ hl _
theorem MI.cst0 {m n F:Nat}{kf:Nat→Nat→Int}{ro:List (Int×Bool)}(sh:List (List Int)) :
  K35.cst (10 ^ F) n (sh,lw m n kf,ro) 0=(sh++[(List.range n).map (kf 0)],lw m n (u1 kf 0 fun _=>0),ro):=by
 unfold K35.cst
 rw [if_neg (by lia)]
 simp only
 rw [zlI_ (Nat.zero_le _),show List.replicate n (0:Int)=(List.range n).map fun _=>(0:Int) by simp [List.map_const'],zk3_]
abbrev Sh35 (K S:List (Int×Int)) (F:Nat) (prs:List (List Nat×(Nat→Int))):Prop:=∀ q∈prs,(∀ p,0≤q.2 p∧q.2 p<10 ^ F)∧∃ l ps,l≤K.length∧q.1=lineOf K S F l ps q.2
theorem MI.closes {K S:List (Int×Int)}{F o:Nat}{kf:Nat→Nat→Int}{of:Nat→Nat→Bool}{bf:Option (List Nat)}{ro:List (Int×Bool)}(h1:1≤F) (h2:F≤12) (hK:K.length≤10) (hS:S.length≤10) (ho:o≤K.length+1) (hb:∃ b,bf=some b∧b.length=40) (M:MI S.length F kf of ro) :
  ∃ prs kf' of' ro',zi_ (mkC K S F kf of bf ro) o=.ok (prs.map (·.1),mkC K S F kf' of' bf ro')∧MI S.length F kf' of' ro'∧prs.length=K.length+1-o∧clz (10 ^ F) S.length K.length (K.length+1-o) ([],lw K.length S.length kf,ro)=(prs.map (fun q=>(List.range S.length).map q.2),lw K.length S.length kf',ro')∧Sh35 K S F prs:=by
 unfold zi_ zM_
 walk_at "mo"
 rw [show (mkC K S F kf of bf ro).fst=K from rfl,Mo.grd_ok (by refine ⟨by first | rfl | trivial,?_,?_,?_,?_⟩<;>first | lia | (simp only; lia) | (dsimp only; lia))]
 walk_at "mo"
 rw [show ((K.length:Int)-((o:Int)-1)).toNat=K.length+1-o by lia]
 refine zav_ (G:=fun z=>∃ prs kf' of' ro',fnMR (thenO z _)=.ok (prs.map (·.1),mkC K S F kf' of' bf ro')∧MI S.length F kf' of' ro'∧prs.length=K.length+1-o∧clz (10 ^ F) S.length K.length (K.length+1-o) ([],lw K.length S.length kf,ro)=(prs.map (fun q=>(List.range S.length).map q.2),lw K.length S.length kf',ro')∧Sh35 K S F prs)
  (fun d (s:List (List Nat)×Ctr)=>∃ prs kf' of' ro',s=(prs.map (·.1),mkC K S F kf' of' bf ro')∧MI S.length F kf' of' ro'∧prs.length=d.length∧clz (10 ^ F) S.length K.length d.length ([],lw K.length S.length kf,ro)=(prs.map (fun q=>(List.range S.length).map q.2),lw K.length S.length kf',ro')∧Sh35 K S F prs)
  ?_ ?_ ?_
 ·exact ⟨[],kf,of,ro,rfl,M,rfl,rfl,fun q hq=>by cases hq⟩
 ·rintro d x s ⟨r,hr⟩ ⟨prs,kf',of',ro',rfl,M',hp,hc,hsh⟩
  obtain ⟨x1,hd⟩:=zem_ hr
  have hlen:(d++[x]).length=d.length+1:=by simp
  have step:∀ (line:List Nat) (k:Nat→Int),(∀ p,0≤k p∧k p<10 ^ F)→(∃ l ps,l≤K.length∧line=lineOf K S F l ps k)→Sh35 K S F (prs++[(line,k)]):=fun line k a b q hq=>by
   rcases List.mem_append.mp hq with z | z
   ·exact hsh q z
   ·rw [List.mem_singleton.mp z]; exact ⟨a,b⟩
  by_cases hx:1≤K.length-d.length
  ·obtain ⟨ps,e⟩:=MI.close (l:=K.length-d.length) (bf:=bf) h1 h2 hK hS hx (by lia) hb M'
   rw [x1,show ((K.length:Int)-d.length)=((K.length-d.length:Nat):Int) by lia]
   simp only
   rw [e]
   walk_at "mo"
   rw [Mo.lim_ok (by rw [List.length_map]; lia)]
   refine ⟨_,rfl,prs++[(lineOf K S F (K.length-d.length) ps (kf' (K.length-d.length)),kf' (K.length-d.length))],_,_,_,by rw [List.map_append]; rfl,(M'.raise _).reset,by simp; exact hp,?_,step _ _ (M'.rng _) ⟨_,ps,by lia,rfl⟩⟩
   rw [show (d++[((K.length-d.length:Nat):Int)]).length=d.length+1 by simp]
   show K35.cst _ _ (clz _ _ _ d.length _) (K.length-d.length)=_
   rw [hc,M'.cst _ hx (by lia),List.map_append]
   rfl
  ·have e:=zdJ_ (of:=of') (bf:=bf) (ro:=ro') h1 h2 hK hS M'.rng
   rw [x1,show ((K.length:Int)-d.length)=0 by lia]
   simp only
   rw [e]
   walk_at "mo"
   rw [Mo.lim_ok (by rw [List.length_map]; lia)]
   refine ⟨_,rfl,prs++[(lineOf K S F 0 [] (kf' 0),kf' 0)],_,_,_,by rw [List.map_append]; rfl,M'.reset,by simp; exact hp,?_,step _ _ (M'.rng _) ⟨0,[],by lia,rfl⟩⟩
   rw [show (d++[(0:Int)]).length=d.length+1 by simp]
   show K35.cst _ _ (clz _ _ _ d.length _) (K.length-d.length)=_
   rw [hc,show K.length-d.length=0 by lia,MI.cst0,List.map_append]
   rfl
 ·rintro s ⟨prs,kf',of',ro',rfl,M',hp,hc,hsh⟩
  rw [zgt_] at hp hc
  exact ⟨prs,kf',of',ro',rfl,M',hp,hc,hsh⟩
theorem ze9_ {ρ B S α β:Type}{step:S→β→Mo (Out ρ S S)}{g:α→β}:∀ {xs:List α}{s:S},forO (B:=B) step (xs.map g) s=forO (fun s a=>step s (g a)) xs s
 | [],_=>rfl
 | a::xs,s=>by
  rw [List.map_cons,zdM_,zdM_]
  congr 1
  funext o
  cases o with
  | nx s'=>exact ze9_
  | ct s'=>exact ze9_
  | bk s'=>rfl
  | rt z=>rfl
theorem zmL_ {α:Type}(xs:List α):rngI 0 xs.length=(enumL xs).map (·.1):=by
 refine List.ext_getElem? fun i=>?_
 rw [List.getElem?_map,zdK_]
 unfold rngI
 rw [List.getElem?_map]
 by_cases h:i<xs.length
 ·rw [List.getElem?_range h,List.getElem?_eq_getElem h]; simp
 ·rw [List.getElem?_eq_none (by rw [List.length_range]; lia),List.getElem?_eq_none (by lia)]; rfl
theorem zoD_ {α:Type}{xs:List α}{q:Int×α}(h:q∈enumL xs):atI xs q.1=some q.2:=by
 obtain ⟨i,_,e,e2⟩:=zdI_ h
 rw [e,zfL_ (by lia)]
 exact e2
def bkp (b c:List Nat) (x:Int×(Int×Int)):Bool:=!decide (prt c x.2=prt b x.2)
def brk (K:List (Int×Int)) (b c:List Nat):Nat:=match (enumL K).find? (bkp b c) with | none=>K.length+1 | some x=>(x.1+1).toNat
theorem zn2_ (K:List (Int×Int)) (b c:List Nat):1≤brk K b c∧brk K b c≤K.length+1:=by
 unfold brk
 cases g:(enumL K).find? (bkp b c) with
 | none=>simp
 | some x =>
  obtain ⟨i,hi,e,_⟩:=zdI_ (List.mem_of_find?_eq_some g)
  simp only
  lia
theorem zio_ {K:List (Int×Int)}{b c:List Nat}{x:Int×(Int×Int)}(g:(enumL K).find? (bkp b c)=some x):(brk K b c:Int)=x.1+1:=by
 obtain ⟨i,hi,e,_⟩:=zdI_ (List.mem_of_find?_eq_some g)
 unfold brk
 rw [g]
 simp only
 rw [Int.toNat_of_nonneg (by lia)]
theorem ziB_ {K:List (Int×Int)}{b c:List Nat}(g:(enumL K).find? (bkp b c)=none):(brk K b c:Int)=(K.length:Int)+1:=by
 unfold brk
 rw [g]
 rfl
theorem changed35 {K S:List (Int×Int)}{F:Nat}{kf:Nat→Nat→Int}{of:Nat→Nat→Bool}{ro:List (Int×Bool)}{b c:List Nat}(hb:b.length=40) (hc:c.length=40):zo_ (mkC K S F kf of (some b) ro) c=.ok (brk K b c:Int):=by
 unfold zo_ zL_ mkC
 walk_at "mo"
 rw [zdC_ (p:=bkp b c) (a:=fun x=>x.1+1) (fun x hx=>?_)]
 ·cases g:(enumL K).find? (bkp b c) with
  | none=>rw [ziB_ g]; rfl
  | some x=>rw [zio_ g]; rfl
 ·rw [zeA_ c x.2 (by lia),zeA_ b x.2 (by lia)]
  walk_at "mo"
  rfl
theorem zi3_ {c:List Nat}{f:Int×Int}(h:c.length≤1000):zbX_ c f=.ok (prt c f):=by
 unfold zbX_ zdZ_
 walk_at "mo"
 rw [Mo.lim_ok (by lia)]
 rfl
theorem zkb_ {K:List (Int×Int)}{b c:List Nat}(hb:b.length=40) (hc:c.length=40) (hK:K.length≤100):zbt_ b c K=.ok (brk K b c:Int):=by
 unfold zbt_ zcw_
 walk_at "mo"
 rw [Mo.grd_ok ⟨by lia,by lia⟩,Mo.okB,Int.toNat_natCast,zmL_,ze9_,zdC_ (p:=bkp b c) (a:=fun x=>x.1+1) (fun q hq=>?_)]
 ·cases g:(enumL K).find? (bkp b c) with
  | none=>rw [ziB_ g]; rfl
  | some x=>rw [zio_ g]; rfl
 ·rw [zoD_ hq]
  walk_at "mo"
  rw [zi3_ (by lia),zi3_ (by lia)]
  walk_at "mo"
  unfold bkp
  rw [show decide (prt b q.2=prt c q.2)=decide (prt c q.2=prt b q.2) by rw [decide_eq_decide]; exact eq_comm]
theorem zjr_ (p q:List Nat) (ys:List (List Nat)):ys.foldl (fun a x=>a++[32]++x) (p++q)=p++ys.foldl (fun a x=>a++[32]++x) q:=by
 induction ys generalizing q with
 | nil=>rfl
 | cons y ys ih=>rw [List.foldl_cons,List.foldl_cons,← ih,List.append_assoc,List.append_assoc,List.append_assoc]
theorem zma_ (p:List Nat) (xs:List (List Nat)):joinL [32] (p::xs)=xs.foldl (fun a x=>a++[32]++x) p:=by
 induction xs generalizing p with
 | nil=>rfl
 | cons x xs ih =>
  show p++[32]++joinL [32] (x::xs)=_
  rw [ih,List.foldl_cons,List.append_assoc,List.append_assoc,zjr_,zjr_]
theorem zku_ (p:List Nat) (xs:List (List Nat)):xs.foldl (fun a x=>a++[32]++x) p=p++(xs.map (32::·)).flatten:=by
 induction xs generalizing p with
 | nil=>simp
 | cons x xs ih=>rw [List.foldl_cons,ih]; simp
def tl35 (F:Nat) (row:List Int):List Nat:=(row.map fun x=>32::digs F x.toNat).flatten
theorem zj9_ {K S:List (Int×Int)}{F l:Nat}{ps:List (List Nat)}{k:Nat→Int}(hl:l≤K.length):∃ A,lineOf K S F l ps k=(42::A)++tl35 F ((List.range S.length).map k):=by
 obtain ⟨j,hj⟩:∃ j:Nat,(1+(K.length:Int)-l).toNat=j+1:=⟨K.length-l,by lia⟩
 refine ⟨List.replicate j 42++(ps.map (32::·)).flatten,?_⟩
 unfold lineOf tl35 tlw
 rw [List.append_assoc,List.singleton_append,zma_,zku_,List.map_append,List.flatten_append,List.map_map,List.map_map]
 unfold repL
 rw [hj,List.replicate_succ,List.flatten_cons,List.flatten_replicate_singleton]
 simp
 rfl
theorem zig_ {K S:List (Int×Int)}{F:Nat}{prs:List (List Nat×(Nat→Int))}(extra:List (List Nat)) (hF:F≤12) (hS:S.length≤10) (h:Sh35 K S F prs):zbe_ (prs.map (·.1)++extra) (prs.map fun q=>(List.range S.length).map q.2) F=.ok true:=by
 have ez:(prs.map (·.1)++extra).zip (prs.map fun q=>(List.range S.length).map q.2)=prs.map fun q=>(q.1,(List.range S.length).map q.2):=by
  rw [show (prs.map fun q=>(List.range S.length).map q.2)=(prs.map fun q=>(List.range S.length).map q.2)++[] by simp,List.zip_append (by simp),List.zip_nil_right,List.append_nil,List.zip_map']
 unfold zbe_ zc4_
 walk_at "mo"
 rw [decide_eq_false (by simp; lia)]
 walk_at "mo"
 rw [ez,ze9_,zgI_ (fun q hq=>?_)]
 ·rfl
 ·obtain ⟨hr,l,ps,hl,e⟩:=h q hq
  obtain ⟨A,eA⟩:=zj9_ (S:=S) (F:=F) (ps:=ps) (k:=q.2) hl
  refine zav_ (G:=fun m=>thenO m _=_) (fun d (s:List Nat)=>s=tl35 F d∧s.length=(F+1)*d.length) ⟨rfl,rfl⟩ (fun d x s hx hs=>?_) (fun s hs=>?_)
  ·obtain ⟨r,hr2⟩:=hx
   obtain ⟨h1,h2⟩:=hs
   have hd:d.length<10:=by
    have:=congrArg List.length hr2
    simp at this
    lia
   obtain ⟨p,hp,rfl⟩:∃ p∈List.range S.length,q.2 p=x:=List.mem_map.mp (by have hr2:List.map q.2 (List.range S.length)=d++x::r:=hr2; rw [hr2]; simp)
   have hm:(F+1)*d.length≤13*10:=Nat.mul_le_mul (by lia) (by lia)
   rw [Mo.lim_ok (by simp; lia)]
   walk_at "mo"
   rw [zkj_ hF (hr p).1 (hr p).2]
   walk_at "mo"
   rw [Mo.lim_ok (by simp [zbo_]; lia)]
   refine ⟨_,rfl,?_,?_⟩
   ·rw [h1]; unfold tl35; simp
   ·simp [zbo_,h2,Nat.mul_add]
  ·obtain ⟨h1,h2⟩:=hs
   walk_at "mo"
   rw [e,eA,h1]
   have s1:startsL ((42::A)++tl35 F ((List.range S.length).map q.2)) [42]=true:=by unfold startsL; simp
   have s2:endsL ((42::A)++tl35 F ((List.range S.length).map q.2)) (tl35 F ((List.range S.length).map q.2))=true:=by
    unfold endsL
    refine decide_eq_true ⟨by rw [List.length_append]; lia,?_⟩
    rw [List.length_append,Nat.add_sub_cancel,List.drop_left]
   rw [s1,s2]
   rfl
theorem ziU_ {K S:List (Int×Int)}{F:Nat}{kf:Nat→Nat→Int}{of:Nat→Nat→Bool}{bf:Option (List Nat)}{ro:List (Int×Bool)}(h:ro.length<64):zaj_ (mkC K S F kf of bf ro)=.ok (srtL ltI (ro.map (·.1))):=by
 unfold zaj_ zbb_
 walk_at "mo"
 rw [show (mkC K S F kf of bf ro).snd.snd.snd.snd.snd.fst=ro from rfl,Mo.grd_ok h]
 rfl
abbrev Cl35 (K S:List (Int×Int)) (F o:Nat) (kf:Nat→Nat→Int) (ro:List (Int×Bool)) (prs:List (List Nat×(Nat→Int))) (kf':Nat→Nat→Int) (ro':List (Int×Bool)):Prop:=clz (10 ^ F) S.length K.length (K.length+1-o) ([],lw K.length S.length kf,ro)=(prs.map (fun q=>(List.range S.length).map q.2),lw K.length S.length kf',ro')
theorem MI.feed {K S:List (Int×Int)}{F:Nat}{kf:Nat→Nat→Int}{of:Nat→Nat→Bool}{bf:Option (List Nat)}{ro:List (Int×Bool)}{c:List Nat}(h1:1≤F) (h2:F≤12) (hK:K.length≤10) (hS:S.length≤10) (hc:c.length=40) (hb:∀ b,bf=some b→b.length=40) (M:MI S.length F kf of ro) :
  ∃ prs kf' of' ro',z9_ (mkC K S F kf of bf ro) c=.ok (prs.map (·.1)++[c.drop 36++32::laid c []],mkC K S F (u1 kf' K.length (rsK F (kf' K.length) (S.map (num c)) S.length)) (u1 of' K.length (rsO F (kf' K.length) (of' K.length) (S.map (num c)) S.length)) (some c) (rsR F (kf' K.length) (of' K.length) (S.map (num c)) ro' S.length))∧MI S.length F kf' of' ro'∧Sh35 K S F prs∧prs.length≤11∧(bf=none→prs=[]∧kf'=kf∧ro'=ro)∧∀ b,bf=some b→Cl35 K S F (brk K b c) kf ro prs kf' ro':=by
 have hd:(c.drop 36).length=4:=by simp [hc]
 have hll:=zit_ c []
 have key:∃ prs kf' of' ro',(if (mkC K S F kf of bf ro).snd.snd.snd.snd.fst.isSome=true then
     ((zo_ (mkC K S F kf of bf ro) c).noex.bind fun c10 =>
        (zi_ (mkC K S F kf of bf ro) c10).noex.bind fun q11=>Mq (q11.fst,q11.snd)).bind
      fun q12=>(Mq (Out.nx (q12.fst,q12.snd)):Mo (Out ((List (List Nat))×Ctr) Unit ((List (List Nat))×Ctr)))
    else Mq (Out.nx ([],mkC K S F kf of bf ro)))=Mq (Out.nx (List.map (fun q:List Nat×(Nat→Int)=>q.1) prs,mkC K S F kf' of' bf ro'))∧MI S.length F kf' of' ro'∧Sh35 K S F prs∧prs.length≤11∧(bf=none→prs=[]∧kf'=kf∧ro'=ro)∧∀ b,bf=some b→Cl35 K S F (brk K b c) kf ro prs kf' ro':=by
  cases bf with
  | none=>exact ⟨[],kf,of,ro,rfl,M,fun q hq=>(by cases hq),by simp,fun _=>⟨rfl,rfl,rfl⟩,fun b h=>by cases h⟩
  | some b =>
   obtain ⟨o1,o2⟩:=zn2_ K b c
   obtain ⟨prs,kf',of',ro',e,M',hp,hcl,hsh⟩:=M.closes (o:=brk K b c) h1 h2 hK hS o2 ⟨b,rfl,hb b rfl⟩
   rw [changed35 (hb b rfl) hc]
   walk_at "mo"
   rw [e]
   exact ⟨prs,kf',of',ro',rfl,M',hsh,by lia,fun h=>(by cases h),fun b' h=>by cases h; exact hcl⟩
 obtain ⟨prs,kf',of',ro',ek,M',hsh,hlen,w1,w2⟩:=key
 have hro:=M'.len
 refine ⟨prs,kf',of',ro',?_,M',hsh,hlen,w1,w2⟩
 unfold z9_ zaO_
 walk_at "mo"
 rw [ek,zfc_,zlH_ hc]
 walk_at "mo"
 rw [show (mkC K S F kf' of' bf ro').snd.snd.fst=[] from rfl,show (mkC K S F kf' of' bf ro').snd.fst=S from rfl,show (mkC K S F kf' of' bf ro').fst=K from rfl,znZ_ hc (by simp)]
 walk_at "mo"
 rw [Mo.lim_ok (by lia),Mo.lim_ok (by lia)]
 walk_at "mo"
 rw [Mo.grd_ok (by lia),Mo.grd_ok (by decide),Mo.grd_ok (by lia)]
 walk_at "mo"
 rw [Mo.lim_ok (by rw [List.length_map]; lia),zV_ (f:=fun x32=>cond1 (Mq true) (zaP_ c x32).noex) (g:=num c) (fun x hx=>by rw [zhA_ c x (by lia)]; rfl) (by simp; lia)]
 walk_at "mo"
 rw [List.nil_append,ze2_ (Nat.le_refl _) (by simp) (by lia) (by lia),List.append_nil]
 rfl
theorem MI.finish {K S:List (Int×Int)}{F:Nat}{kf:Nat→Nat→Int}{of:Nat→Nat→Bool}{bf:Option (List Nat)}{ro:List (Int×Bool)}(h1:1≤F) (h2:F≤12) (hK:K.length≤10) (hS:S.length≤10) (hb:∀ b,bf=some b→b.length=40) (M:MI S.length F kf of ro) :
  ∃ prs kf' of' ro',zQ_ (mkC K S F kf of bf ro)=.ok (prs.map (·.1),mkC K S F kf' of' bf ro')∧MI S.length F kf' of' ro'∧Sh35 K S F prs∧(bf=none→prs.map (fun q=>(List.range S.length).map q.2)=[(List.range S.length).map (kf 0)]∧ro'=ro)∧∀ b,bf=some b→Cl35 K S F 0 kf ro prs kf' ro':=by
 unfold zQ_ zax_
 walk_at "mo"
 rw [show (mkC K S F kf of bf ro).snd.snd.snd.snd.fst=bf from rfl]
 cases bf with
 | none =>
  walk_at "mo"
  rw [zdJ_ h1 h2 hK hS M.rng]
  walk_at "mo"
  refine ⟨[(lineOf K S F 0 [] (kf 0),kf 0)],_,_,_,rfl,M.reset,fun q hq=>?_,fun _=>⟨rfl,rfl⟩,fun b h=>by cases h⟩
  rw [List.mem_singleton.mp hq]
  exact ⟨M.rng 0,0,[],Nat.zero_le _,rfl⟩
 | some b =>
  walk_at "mo"
  obtain ⟨prs,kf',of',ro',e,M',hp,hcl,hsh⟩:=M.closes (o:=0) h1 h2 hK hS (by lia) ⟨b,rfl,hb b rfl⟩
  rw [show zi_ (mkC K S F kf of (some b) ro) 0=_ from e]
  exact ⟨prs,kf',of',ro',rfl,M',hsh,fun h=>(by cases h),fun b' h=>hcl⟩
theorem zkC_ {F:Nat}(h:F≤12):zb5_ F=.ok (10 ^ F):=by
 unfold zb5_ zc0_
 walk_at "mo"
 rw [Mo.grd_ok (by lia),Int.toNat_natCast]
 walk_at "mo"
 rw [zbO_ (fun (s:Int) _=>10*s) (fun s x _=>by rfl),fold10,zaE_]
 walk_at "mo"
 rw [Int.mul_one]
theorem field35 (n:Int) {m:Int}(h1:1≤m):∃ f,zab_ n m=.ok f:=by
 unfold zab_ zc5_
 walk_at "mo"
 rw [Mo.grd_ok (by lia)]
 walk_at "mo"
 exact ⟨_,rfl⟩
theorem flds35 {most:Int}(h1:1≤most) (zs:List Int) (hz:zs.length≤100):∃ S:List (Int×Int),compM (fun x=>cond1 (Mq true) (zab_ x most).noex) zs []=.ok S∧S.length=zs.length:=by
 refine ⟨zs.map fun x=>match zab_ x most with | .ok v=>v | _=>(0,0),?_,by simp⟩
 rw [zV_ (f:=fun x=>cond1 (Mq true) (zab_ x most).noex) (g:=fun x=>match zab_ x most with | .ok v=>v | _=>(0,0)) (fun x hx=>by
  obtain ⟨f,e⟩:=field35 x h1
  rw [e]; rfl) (by simp; lia)]
 rfl
theorem cards35 {ks:List Int}(hk:ks.length=36) (zs:List (Int×Int)) (hz:zs.length≤100):∃ cs:List (List Nat),compM (fun x=>cond1 (Mq true) (zaG_ x.2 x.1 ks).noex) zs []=.ok cs∧cs.length=zs.length∧∀ c∈cs,c.length=40:=by
 refine ⟨zs.map fun x=>match zaG_ x.2 x.1 ks with | .ok v=>v | _=>[],?_,by simp,fun c hc=>?_⟩
 ·rw [zV_ (f:=fun x:Int×Int=>cond1 (Mq true) (zaG_ x.2 x.1 ks).noex) (g:=fun x=>match zaG_ x.2 x.1 ks with | .ok v=>v | _=>[]) (fun x hx=>by
   obtain ⟨f,e,_⟩:=zlG_ x.2 x.1 hk
   rw [e]; rfl) (by simp; lia)]
  rfl
 ·obtain ⟨x,_,rfl⟩:=List.mem_map.mp hc
  obtain ⟨f,e,h⟩:=zlG_ x.2 x.1 hk
  rw [e]; exact h
theorem zjJ_ {ρ B S S':Type}{m:Mo (Out ρ B S)}{s:S}{k:S→Mo (Out ρ B S')}(h:m=.ok (.nx s)):thenO m k=k s:=by rw [h,zfc_]
theorem zmC_ (ns:List Int) (hl:ns.length≤63):f_law ns=.ok true:=by
 obtain ⟨c0,e0⟩:=zg0_ ns 0 (by lia)
 obtain ⟨c1,e1⟩:=zg0_ ns 1 (by lia)
 obtain ⟨c2,e2⟩:=zg0_ ns 2 (by lia)
 obtain ⟨c3,e3⟩:=zg0_ ns 3 (by lia)
 obtain ⟨ks,ek,hks⟩:=zlV_ c0
 have m0:0≤c1 % 4:=Int.emod_nonneg _ (by decide)
 have m1:c1 % 4<4:=Int.emod_lt_of_pos _ (by decide)
 have n0:0≤c2 % 4:=Int.emod_nonneg _ (by decide)
 have n1:c2 % 4<4:=Int.emod_lt_of_pos _ (by decide)
 obtain ⟨xs,ex,hxs⟩:=zdG_ c1 (many:=c1 % 4) m0 (by lia)
 obtain ⟨ys,ey,hys⟩:=zdG_ c2 (many:=1+c2 % 4) (by lia) (by lia)
 obtain ⟨most,em,hm1⟩:∃ most,atI [(12:Int),12,36] (c2 / 4 % 3)=some most∧1≤most:=by
  have q0:0≤c2 / 4 % 3:=Int.emod_nonneg _ (by decide)
  have q1:c2 / 4 % 3<3:=Int.emod_lt_of_pos _ (by decide)
  obtain ⟨v,ev,hm⟩:=zbY_ (xs:=[(12:Int),12,36]) q0 (by simpa using q1)
  refine ⟨v,ev,?_⟩
  simp only [List.mem_cons,List.not_mem_nil,or_false] at hm
  rcases hm with rfl | rfl | rfl<;>decide
 obtain ⟨K,eK,hKl⟩:=flds35 (most:=2) (by decide) xs (by lia)
 obtain ⟨S,eS,hSl⟩:=flds35 hm1 ys (by lia)
 have hK3:K.length≤3:=by lia
 have hS4:S.length≤4:=by lia
 have eKm:c1 % 4=(K.length:Int):=by lia
 have f0:0≤c3 % 5:=Int.emod_nonneg _ (by decide)
 have f1:c3 % 5<5:=Int.emod_lt_of_pos _ (by decide)
 obtain ⟨F,eF⟩:∃ F:Nat,1+c3 % 5=F:=⟨(1+c3 % 5).toNat,by lia⟩
 have hF1:1≤F:=by lia
 have hF2:F≤12:=by lia
 have hns:(cutG ns (some 4) (some 64)).length≤63:=Nat.le_trans (zfg_ _ _ _) hl
 obtain ⟨cs,ecs,hcl,hc40⟩:=cards35 hks (enumL (cutG ns (some 4) (some 64))) (by rw [zb4_]; lia)
 rw [zb4_] at hcl
 have hP:=zay_ F
 unfold f_law zpZ_
 walk_at "mo"
 rw [e0,e1,e2,e3]
 walk_at "mo"
 rw [ek,em,ex,ey]
 walk_at "mo"
 rw [eK,eS,eF]
 walk_at "mo"
 rw [zkC_ hF2]
 walk_at "mo"
 rw [zoy_ hF2 (by lia) (by lia),ecs]
 walk_at "mo"
 rw [Mo.grd_ok (by lia),eKm]
 walk_at "mo"
 have ew:compM (fun x76:Int=>cond1 (Mq true) (Mo.grd (CRep [(0:Int)].length (S.length:Int)) (Mq (repL [(0:Int)] (S.length:Int))))) (rngI 0 ((K.length:Int)+1).toNat) []=.ok (lw K.length S.length fun _ _=>0):=by
  rw [zV_ (f:=fun x76:Int=>cond1 (Mq true) (Mo.grd (CRep [(0:Int)].length (S.length:Int)) (Mq (repL [(0:Int)] (S.length:Int))))) (g:=fun _=>(List.range S.length).map fun _=>(0:Int)) (fun x _=>by
   rw [Mo.grd_ok (show CRep [(0:Int)].length (S.length:Int) by unfold CRep; simp; lia),show repL [(0:Int)] (S.length:Int)=(List.range S.length).map fun _=>(0:Int) by unfold repL; simp [List.map_const']]
   rfl) (by rw [zaE_]; simp; lia)]
  rw [show ((K.length:Int)+1).toNat=K.length+1 by lia]
  unfold lw rngI
  simp
 rw [ew]
 walk_at "mo"
 rw [Mo.grd_ok (by lia),Int.toNat_natCast]
 walk_at "mo"
 have M0:MI S.length F (fun _ _=>0) (fun _ _=>false) []:=⟨fun l p=>⟨Int.le_refl _,hP⟩,fun l p h=>(by cases h),fun q hq=>(by cases hq),fun q hq=>(by cases hq),by simp⟩
 refine zav_ (G:=fun m=>fnO (thenO m _)=.ok true) (fun d (s:List (List Int)×List (Int×Bool)×Ctr)=>∃ kf of bf ro,s=(lw K.length S.length kf,ro,mkC K S F kf of bf ro)∧MI S.length F kf of ro∧(d.length=0→bf=none∧kf=fun _ _=>0)∧∀ j,d.length=j+1→bf=cs[j]?) ?_ ?_ ?_
 ·exact ⟨_,_,none,_,rfl,M0,fun _=>⟨rfl,rfl⟩,fun j h=>by cases h⟩
 ·rintro d x s ⟨r,hr⟩ ⟨kf,of,bf,ro,rfl,M,w0,w1⟩
  obtain ⟨rfl,hd⟩:=znj_ hr
  have hc:cs[d.length].length=40:=hc40 _ (List.getElem_mem _)
  have ec:atI cs (d.length:Int)=some cs[d.length]:=by rw [zfL_ (by lia),Int.toNat_natCast,List.getElem?_eq_getElem hd]
  have hb:∀ b,bf=some b→b.length=40:=fun b h=>by
   cases hdl:d.length with
   | zero=>rw [(w0 hdl).1] at h; cases h
   | succ j=>rw [w1 j hdl] at h; exact hc40 b (List.mem_of_getElem? h)
  obtain ⟨prs,kf',of',ro',efeed,M',hsh,hp,wn,ws⟩:=M.feed (K:=K) (c:=cs[d.length]) hF1 hF2 (by lia) (by lia) hc hb
  have hro:=M.len
  have hro':=M'.len
  have M2:=M'.raise (l:=K.length) (S.map (num cs[d.length]))
  have hro2:=M2.len
  have hlw:∀ kf:Nat→Nat→Int,(lw K.length S.length kf).length=K.length+1:=fun kf=>by unfold lw; simp
  have hlr:∀ (kf:Nat→Nat→Int),∀ r∈lw K.length S.length kf,r.length=S.length:=fun kf r hr=>by
   unfold lw at hr
   obtain ⟨l,_,rfl⟩:=List.mem_map.mp hr
   simp
  refine ⟨_,(zjJ_ (s:=(prs.map (fun q=>(List.range S.length).map q.2),lw K.length S.length kf',ro')) ?_).trans ?_,_,_,some cs[d.length],_,rfl,M2,fun h=>?_,fun j h=>?_⟩
  ·cases hdl:d.length with
   | zero =>
    obtain ⟨rfl,rfl,rfl⟩:=wn (w0 hdl).1
    rfl
   | succ j =>
    obtain ⟨b,eb⟩:∃ b,cs[j]?=some b:=⟨_,List.getElem?_eq_getElem (by lia)⟩
    have ecj:atI cs (((j+1:Nat):Int)-1)=some b:=by rw [show ((j+1:Nat):Int)-1=(j:Int) by lia,zfL_ (by lia),Int.toNat_natCast,eb]
    have ebf:bf=some b:=(w1 j hdl).trans eb
    have hcl:=ws b ebf
    obtain ⟨o1,o2⟩:=zn2_ K b cs[d.length]
    have eclo:=zha_ (W:=lw K.length S.length kf) (full:=10 ^ F) (over:=ro) (n:=S.length) (m:=K.length) (lv:=brk K b cs[d.length]) (hlw kf) (by lia) (hlr kf) (by lia) hP (by lia) o2
    unfold Cl35 at hcl
    rw [hcl] at eclo
    rw [decide_eq_true (by lia),ecj,← hdl,ec]
    walk_at "mo"
    rw [zkb_ (hb b ebf) hc (by lia)]
    walk_at "mo"
    rw [eclo]
    rfl
  ·walk_at "mo"
   rw [hlw,zdY_ (by lia) (by lia),Int.toNat_natCast]
   walk_at "mo"
   have e1:(lw K.length S.length kf')[K.length]?=some ((List.range S.length).map (kf' K.length)):=by
    unfold lw
    rw [List.getElem?_map,List.getElem?_range (by lia)]; rfl
   rw [e1,ec]
   walk_at "mo"
   rw [zV_ (f:=fun x132=>cond1 (Mq true) (zaU_ cs[d.length] x132).noex) (g:=num cs[d.length]) (fun x hx=>by rw [zjd_ _ x (by lia)]; rfl) (by simp; lia)]
   walk_at "mo"
   rw [List.nil_append,zgZ_ (by simp; lia) (by simp) hP (by lia)]
   walk_at "mo"
   have erz:rz (10 ^ F) (S.map (num cs[d.length])) ((List.range S.length).map (kf' K.length)).length ((List.range S.length).map (kf' K.length),ro')=((List.range S.length).map (rsK F (kf' K.length) (S.map (num cs[d.length])) S.length),rsR F (kf' K.length) (of' K.length) (S.map (num cs[d.length])) ro' S.length):=by
    rw [List.length_map,List.length_range]
    exact zpG_ (o:=of' K.length) (fun p h=>M'.ho _ p h) M'.ht _ (Nat.le_refl _)
   rw [erz]
   walk_at "mo"
   rw [efeed,zk3_]
   walk_at "mo"
   rw [zig_ _ hF2 (by lia) hsh]
   walk_at "mo"
   rw [show decide ((((prs.map (·.1)++[cs[d.length].drop 36++32::laid cs[d.length] []]).length:Nat):Int)=((prs.map (fun q=>(List.range S.length).map q.2)).length:Int)+1)=true from decide_eq_true (by simp)]
   walk_at "mo"
   rw [ziU_ (by lia)]
   walk_at "mo"
   rw [zg8_ (by lia)]
   rfl
  ·simp at h
  ·rw [List.length_append,List.length_singleton] at h
   rw [← show d.length=j by lia,List.getElem?_eq_getElem hd]
 ·rintro s ⟨kf,of,bf,ro,rfl,M,w0,w1⟩
  rw [zaE_] at w0 w1
  have hb:∀ b,bf=some b→b.length=40:=fun b h=>by
   cases hdl:cs.length with
   | zero=>rw [(w0 hdl).1] at h; cases h
   | succ j=>rw [w1 j hdl] at h; exact hc40 b (List.mem_of_getElem? h)
  obtain ⟨prs,kf',of',ro',efin,M',hsh,wn,ws⟩:=M.finish (K:=K) hF1 hF2 (by lia) (by lia) hb
  have hro:=M.len
  have hro':=M'.len
  have hlw:∀ kf:Nat→Nat→Int,(lw K.length S.length kf).length=K.length+1:=fun kf=>by unfold lw; simp
  have hlr:∀ (kf:Nat→Nat→Int),∀ r∈lw K.length S.length kf,r.length=S.length:=fun kf r hr=>by
   unfold lw at hr
   obtain ⟨l,_,rfl⟩:=List.mem_map.mp hr
   simp
  have erep:repL [(0:Int)] (S.length:Int)=(List.range S.length).map fun _=>(0:Int):=by unfold repL; simp [List.map_const']
  walk_at "mo"
  rw [Mo.grd_ok (show CRep [(0:Int)].length (S.length:Int) by unfold CRep; simp; lia)]
  walk_at "mo"
  obtain ⟨W',hW0,hW1⟩:∃ W',(cs.length=0→W'=lw K.length S.length kf)∧∀ j,cs.length=j+1→W'=lw K.length S.length kf':=by
   cases hdl:cs.length with
   | zero=>exact ⟨_,fun _=>rfl,fun j h=>by cases h⟩
   | succ j=>exact ⟨_,fun h=>(by cases h),fun _ _=>rfl⟩
  refine (congrArg fnO (zjJ_ (s:=(prs.map (fun q=>(List.range S.length).map q.2),W',ro')) ?_)).trans ?_
  ·cases hdl:cs.length with
   | zero =>
    obtain ⟨q1,q2⟩:=wn (w0 hdl).1
    rw [List.eq_nil_of_length_eq_zero hdl,hW0 hdl,q1,q2,(w0 hdl).2,erep]
    rfl
   | succ j =>
    obtain ⟨b,eb⟩:∃ b,cs[j]?=some b:=⟨_,List.getElem?_eq_getElem (by lia)⟩
    have ebf:bf=some b:=(w1 j hdl).trans eb
    have hcl:=ws b ebf
    have eclo:=zha_ (W:=lw K.length S.length kf) (full:=10 ^ F) (over:=ro) (n:=S.length) (m:=K.length) (lv:=0) (hlw kf) (by lia) (hlr kf) (by lia) hP (by lia) (by lia)
    unfold Cl35 at hcl
    rw [hcl] at eclo
    have ene:eqL (fun a b:List Nat=>decide (a=b)) cs []=false:=by
     cases cs with
     | nil=>cases hdl
     | cons _ _=>rfl
    rw [ene,hW1 j hdl]
    walk_at "mo"
    rw [show z6_ (lw K.length S.length kf) 0 (10 ^ F) ro=_ from eclo]
    rfl
  ·walk_at "mo"
   rw [efin]
   walk_at "mo"
   have et:=zig_ [] hF2 (by lia) hsh
   rw [List.append_nil] at et
   rw [et]
   walk_at "mo"
   rw [show decide (((prs.map (·.1)).length:Int)=((prs.map (fun q=>(List.range S.length).map q.2)).length:Int))=true from decide_eq_true (by simp)]
   walk_at "mo"
   rw [ziU_ (by lia)]
   walk_at "mo"
   rw [zg8_ (by lia)]
   rfl
end K35
namespace K35
open PySem PySem.Spec PyProof.Rows L2
open Mo renaming bind→Mb,ok→Mq
open Sl renaming fz→Zf,dead→Zd,ow→Zo
theorem zpV_ {l:PySem.W.OpenLaw}{w:World}{K:Fgg}{mg:Str→Option Value}{base:Heap}{f:Addr}{fd:FuncData}(e:En K mg) (g15:zeO_ l.prog w K mg base) (g16:zdk_ l.prog w K mg base) (g14:zbv_ l.prog w K mg base) (g25:zeI_ l.prog w K mg base) (g17:zeE_ l.prog w K mg base) (g2:zbk_ l.prog w K mg base) (g26:zfX_ l.prog w K mg base) (g28:zd2_ l.prog w K mg base) (g35:zd1_ l.prog w K mg base) (g27:zcp_ l.prog w K mg base) (g36:zd5_ l.prog w K mg base) (g24:zcG_ l.prog w K mg base) (g30:zeT_ l.prog w K mg base) (g32:zeG_ l.prog w K mg base) (g33:zco_ l.prog w K mg base) (g13:zbZ_ l.prog w K mg base) (F:Fun K "law" "law" zpe_ f fd):FnOk l.prog w K mg base CX0 6 f fd ["_law_script"] (spL K) :=
 okL (l:=l) (w:=w) (K:=K) (mg:=mg) (base:=base) (k:=5) (st:=zpe_) (x := "_law_script") (N:=["_law_script", "_law_kinds_here", "_law_many", "_law_breaks", "_law_cell", "_law_most", "_law_sums", "_law_figures", "_law_full", "_law_counter", "_law_wheels", "_law_over", "_law_cards", "_law_k", "_law_shown_here", "_law_lines"]) (t:=fun E=>t_law K) (g:=zpZ_) 15 (fun _ _ _ _ _ _ E nd hr=>(ze_ (pst 1 (zr_ g15 (hm hr) (zb_ (zr_ g16 (hm hr) (zb_ (za_ 0) (zb_ zj_ zg_))) zg_))) (ze_ (pst 2 (zR_ zac_ (zr_ g16 (hm hr) (zb_ (za_ 0) (zb_ zj_ zg_))) zj_)) (ze_ (zcP_ (cl:=[]) (lv:=["_law_number_here"]) (fr:=[]) rfl (csm rfl fr0) (zca_ (zr_ g14 (hm hr) (zb_ (zr_ g16 (hm hr) (zb_ (za_ 0) (zb_ zj_ zg_))) (zb_ (za_ 2) zg_)))) (fun _ _ _ _=>(pgc 0)) (fun _ _ _ _=>za3_) (fun _ _ _ _=>(zr_ g25 (hm hr) (zb_ (za_ 0) (zb_ zj_ zg_)))) (pgn 3)) (ze_ (pst 4 (zr_ g16 (hm hr) (zb_ (za_ 0) (zb_ zj_ zg_)))) (ze_ (pst 5 (zbd_ ix_M (zcv_ (zb_ zj_ (zb_ zj_ (zb_ zj_ zg_)))) (zR_ zac_ (zR_ zdj_ (za_ 4) zj_) zj_) (fun _ _=>rfl))) (ze_ (pst 6 (zci_ (cl:=_) (lv:=["_law_number_here"]) (fr:=[("_law_most",5)]) rfl (csm rfl (frc fr0)) (zca_ (zr_ g14 (hm hr) (zb_ (za_ 4) (zb_ (zR_ zK_ zj_ (zR_ zac_ (za_ 4) zj_)) zg_)))) (fun _ _ _ _=>(pgc 0)) (fun _ _ _ _=>za3_) (fun _ _ _ _=>(zr_ g25 (hm hr) (zb_ (za_ 0) (zb_ (za_ 1) zg_)))))) (ze_ (pst 7 (zR_ zK_ zj_ (zR_ zac_ (zr_ g16 (hm hr) (zb_ (za_ 0) (zb_ zj_ zg_))) zj_))) (ze_ (pst 8 (zr_ g17 (hm hr) (zb_ (za_ 7) zg_))) (ze_ (pst 9 (ziK_ g2 (hm hr) (zb_ (za_ 3) (zb_ (za_ 6) (zb_ (za_ 7) (zb_ (zcv_ zg_) zg_)))))) (ze_ (zcP_ (cl:=_) (lv:=["_law_k"]) (fr:=[("_law_sums",6)]) rfl (csm rfl (frc fr0)) (zaT_ (e.m.gb e.b0) (zb_ (zR_ zK_ (za_ 2) zj_) zg_)) (fun _ _ _ _=>(pgc 0)) (fun _ _ _ _=>za3_) (fun _ _ _ _=>(zR_ zcl_ (zcv_ (zb_ zj_ zg_)) (zcO_ zE_ (e.m.gb e.b2) (zb_ (za_ 1) zg_)))) (pgn 10)) (ze_ (pst 11 ziz_) (ze_ (pst 12 (zci_ (cl:=_) (lv:=["_law_k", "_law_one"]) (fr:=[("_law_kinds_here",1)]) rfl (csm rfl (frc fr0)) (zf6_ (by rfl) (e.m.gb e.b4) (zb_ (zcZ_ sl_M (za_ 0) (po_M zj_) (po_M zj_)) zg_)) (fun _ _ _ _=>(zhd_ (n:=2) rfl (za2_ (pgc 0) (za2_ (pgc 1) ze6_)))) (fun _ _ _ _=>za3_) (fun _ _ _ _=>(zr_ g26 (hm hr) (zb_ (za_ 1) (zb_ (za_ 0) (zb_ (za_ 2) zg_))))))) (ze_ (zbr_ PassesOwn.never rfl (zaT_ (e.m.gb e.b0) (zb_ (zcO_ zE_ (e.m.gb e.b2) (zb_ (za_ 12) zg_)) zg_)) (pgn 13) (ze_ (pst 14 (zcv_ zg_)) (ze_ (zbG_ (zaY_ zlU_ (za_ 13) zj_) (zh_ (pst 14 (zr_ g28 (hm hr) (zb_ (za_ 10) (zb_ (zr_ g35 (hm hr) (zb_ (zbd_ ix_M (za_ 12) (zR_ zbC_ (za_ 13) zj_) (fun _ _=>rfl)) (zb_ (zbd_ ix_M (za_ 12) (za_ 13) (fun _ _=>rfl)) (zb_ (za_ 3) zg_)))) (zb_ (za_ 8) (zb_ (za_ 11) zg_))))))) zaB_) (ze_ (zbg_ (zr_ g27 (hm hr) (zb_ (zbd_ ix_M (za_ 10) (za_ 2) (fun _ _=>rfl)) (zb_ (zci_ (cl:=_) (lv:=["_law_field_here"]) (fr:=[("_law_cards",12),("_law_k",13)]) rfl (csm rfl (frc (frc fr0))) (zca_ (za_ 6)) (fun _ _ _ _=>(pgc 0)) (fun _ _ _ _=>za3_) (fun _ _ _ _=>(zr_ g36 (hm hr) (zb_ (zbd_ ix_M (za_ 1) (za_ 2) (fun _ _=>rfl)) (zb_ (za_ 0) zg_))))) (zb_ (za_ 8) (zb_ (za_ 11) zg_)))))) (ze_ (pst 15 (za8_ g24 (hm hr) (za_ 9) (zb_ (zbd_ ix_M (za_ 12) (za_ 13) (fun _ _=>rfl)) zg_))) (ze_ (zbG_ (PW.pt (ziR_ (zfI_ (zcL_ (zr_ g30 (hm hr) (zb_ (za_ 15) (zb_ (za_ 14) (zb_ (za_ 7) zg_)))))) (zkv_ (zaY_ (zii_ hr.u60) (zcO_ zE_ (e.m.gb e.b2) (zb_ (za_ 15) zg_)) (zR_ zK_ (zcO_ zE_ (e.m.gb e.b2) (zb_ (za_ 14) zg_)) zj_))))) (zh_ (zP_ zh6_)) zaB_) (zh_ (zbG_ (zfI_ (zcL_ (zr_ g32 (hm hr) (zb_ (zbw_ g33 (hm hr) (za_ 9)) (zb_ (za_ 11) zg_))))) (zh_ (zP_ zh6_)) zaB_)))))))) (ze_ (pst 14 (zcv_ (zb_ (zR_ zcl_ (zcv_ (zb_ zj_ zg_)) (zcO_ zE_ (e.m.gb e.b2) (zb_ (za_ 6) zg_))) zg_))) (ze_ (zbG_ (zaY_ (zii_ hr.u60) (za_ 12) (zcv_ zg_)) (zh_ (pst 14 (zr_ g28 (hm hr) (zb_ (za_ 10) (zb_ zj_ (zb_ (za_ 8) (zb_ (za_ 11) zg_))))))) zaB_) (ze_ (pst 15 (zbw_ g13 (hm hr) (za_ 9))) (zh_ (zP_ (zjM_ (zr_ g30 (hm hr) (zb_ (za_ 15) (zb_ (za_ 14) (zb_ (za_ 7) zg_)))) (zjM_ (zoi_ (zpM_ hr.u60) (zcO_ zE_ (e.m.gb e.b2) (zb_ (za_ 15) zg_)) (zcO_ zE_ (e.m.gb e.b2) (zb_ (za_ 14) zg_))) (znR_ (zr_ g32 (hm hr) (zb_ (zbw_ g33 (hm hr) (za_ 9)) (zb_ (za_ 11) zg_))))))))))))))))))))))))) (fun ns hl hb=>zmC_ ns hl) (fun c E=>at_ [(Zf (tySc K) c),Zd,Zd,Zd,Zd,Zd,Zd,Zd,Zd,Zd,Zd,Zd,Zd,Zd,Zd,Zd]
 (zcb_ (i:=1) rfl (zA_ zc_) (zc2_ (zf_ (zv_ (zu_ (zd_ 0 rfl) (zf_ (zl_ 0)))))) fun y1'=>zjN_ (i:=1) rfl (at_ [(Zf (tySc K) c),(Zf (tyL tyInt) y1'),Zd,Zd,Zd,Zd,Zd,Zd,Zd,Zd,Zd,Zd,Zd,Zd,Zd,Zd] (zch_ (i:=2) rfl zc_ (zy_ zad_ (zv_ (zu_ (zd_ 0 rfl) (zf_ (zl_ 1)))) (zl_ 4)) fun m6=>(at_ [(Zf (tySc K) c),(Zf (tyL tyInt) y1'),(Zf tyInt m6),Zd,Zd,Zd,Zd,Zd,Zd,Zd,Zd,Zd,Zd,Zd,Zd,Zd] (zcb_ (i:=3) rfl (zA_ (zF_ (zq_ zc_ (zn_ zc_)))) (zaZ_ (ei_l (EvO.fr (zc2_ (zu_ (zv_ (zu_ (zd_ 0 rfl) (zf_ (zl_ 1)))) (zf_ (zd_ 2 rfl)))))) (zI_ 0) (fun _=>dead1) (fun x19=>za1_) (fun x19=>(zv_ (zu_ (zd_ 0 rfl) (zf_ (zl_ 2)))))) fun v12=>zjN_ (i:=3) rfl (at_ [(Zf (tySc K) c),(Zf (tyL tyInt) y1'),(Zf tyInt m6),(Zf (tyL Qq2) v12),Zd,Zd,Zd,Zd,Zd,Zd,Zd,Zd,Zd,Zd,Zd,Zd] (zch_ (i:=4) rfl zc_ (zv_ (zu_ (zd_ 0 rfl) (zf_ (zl_ 2)))) fun v24=>(at_ [(Zf (tySc K) c),(Zf (tyL tyInt) y1'),(Zf tyInt m6),(Zf (tyL Qq2) v12),(Zf tyInt v24),Zd,Zd,Zd,Zd,Zd,Zd,Zd,Zd,Zd,Zd,Zd] (zch_ (i:=5) rfl zc_ (zy_ zbl_ (EvO.fr (zgS_ (zap_ (zap_ z4_)) (zde_ (zde_ zcu_)) (zu_ (zl_ 12) (zu_ (zl_ 12) (zf_ (zl_ 36)))))) (zy_ zad_ (zy_ zbV_ (zd_ 4 rfl) (zl_ 4)) (zl_ 3))) fun m28=>(at_ [(Zf (tySc K) c),(Zf (tyL tyInt) y1'),(Zf tyInt m6),(Zf (tyL Qq2) v12),(Zf tyInt v24),(Zf tyInt m28),Zd,Zd,Zd,Zd,Zd,Zd,Zd,Zd,Zd,Zd] (zcb_ (i:=6) rfl (zA_ (zF_ (zq_ zc_ (zn_ zc_)))) (zaZ_ (ei_l (EvO.fr (zc2_ (zu_ (zd_ 4 rfl) (zf_ (zy_ z5_ (zl_ 1) (zy_ zad_ (zd_ 4 rfl) (zl_ 4)))))))) (zI_ 0) (fun _=>dead1) (fun x48=>za1_) (fun x48=>(zv_ (zu_ (zd_ 0 rfl) (zf_ (zd_ 1 rfl)))))) fun s40=>zjN_ (i:=6) rfl (at_ [(Zf (tySc K) c),(Zf (tyL tyInt) y1'),(Zf tyInt m6),(Zf (tyL Qq2) v12),(Zf tyInt v24),(Zf tyInt m28),(Zf (tyL Qq2) s40),Zd,Zd,Zd,Zd,Zd,Zd,Zd,Zd,Zd] (zch_ (i:=7) rfl zc_ (zy_ z5_ (zl_ 1) (zy_ zad_ (zv_ (zu_ (zd_ 0 rfl) (zf_ (zl_ 3)))) (zl_ 5))) fun f53=>(at_ [(Zf (tySc K) c),(Zf (tyL tyInt) y1'),(Zf tyInt m6),(Zf (tyL Qq2) v12),(Zf tyInt v24),(Zf tyInt m28),(Zf (tyL Qq2) s40),(Zf tyInt f53),Zd,Zd,Zd,Zd,Zd,Zd,Zd,Zd] (zch_ (i:=8) rfl zc_ (zv_ (zf_ (zd_ 7 rfl))) fun f61=>(at_ [(Zf (tySc K) c),(Zf (tyL tyInt) y1'),(Zf tyInt m6),(Zf (tyL Qq2) v12),(Zf tyInt v24),(Zf tyInt m28),(Zf (tyL Qq2) s40),(Zf tyInt f53),(Zf tyInt f61),Zd,Zd,Zd,Zd,Zd,Zd,Zd] (zcb_ (i:=9) rfl (zbc_ (zk_ (zA_ (zF_ (zq_ zc_ (zn_ zc_)))) (zk_ (zA_ (zF_ (zq_ zc_ (zn_ zc_)))) (zk_ (zA_ (zF_ (zq_ zc_ (zn_ zc_)))) (zk_ (z2_ (z2_ (zbc_ (zk_ (zm_ zc_) (zk_ (zm_ zc_) (zk_ (zm_ zc_) (zk_ (zm_ zO_) zN_))))))) (zk_ (zm_ (zbW_ zs_)) (zk_ (zcB_ zO_) zN_))))))) (zlc_ (zu_ (zd_ 3 rfl) (zu_ (zd_ 6 rfl) (zu_ (zd_ 7 rfl) (zf_ (EvO.fr (zeK_ Qq2))))))) fun c63=>(at_ [(Zf (tySc K) c),(Zf (tyL tyInt) y1'),(Zf tyInt m6),(Zf (tyL Qq2) v12),(Zf tyInt v24),(Zf tyInt m28),(Zf (tyL Qq2) s40),(Zf tyInt f53),(Zf tyInt f61),(Zo (Qq0 K) c63),Zd,Zd,Zd,Zd,Zd,Zd] (zcb_ (i:=10) rfl (z2_ (zA_ zc_)) (zfh_ (zck_ (zf_ (zy_ z5_ (zd_ 2 rfl) (zl_ 1)))) (zI_ 0) (fun _=>dead1) (fun x76=>za1_) (fun x76=>(zmB_ zgz_ (EvO.fr (zgS_ z4_ zcu_ (zf_ (zl_ 0)))) (zd4_ zas_ (zf_ (zd_ 1 rfl)))))) fun w72=>(at_ [(Zf (tySc K) c),(Zf (tyL tyInt) y1'),(Zf tyInt m6),(Zf (tyL Qq2) v12),(Zf tyInt v24),(Zf tyInt m28),(Zf (tyL Qq2) s40),(Zf tyInt f53),(Zf tyInt f61),(Zo (Qq0 K) c63),(Zo (owLO (owL tyInt)) w72),Zd,Zd,Zd,Zd,Zd] (zcb_ (i:=11) rfl (zcB_ zO_) (zlq_ kInt tyBl) fun o82=>(at_ [(Zf (tySc K) c),(Zf (tyL tyInt) y1'),(Zf tyInt m6),(Zf (tyL Qq2) v12),(Zf tyInt v24),(Zf tyInt m28),(Zf (tyL Qq2) s40),(Zf tyInt f53),(Zf tyInt f61),(Zo (Qq0 K) c63),(Zo (owLO (owL tyInt)) w72),(Zo (owD kInt tyBl) o82),Zd,Zd,Zd,Zd] (zcb_ (i:=12) rfl (zA_ zs_) (zaZ_ (zgx_ (zf_ (EvO.fr (znN_ (zd_ 0 rfl) (zjW_ (zl_ 4)) (zjW_ (zl_ 64)))))) (zkN_ (zap_ z4_) (zhg_ 0 (zhj_ (zI_ 1)))) (fun _=>dead2) (fun x90=>za1_) (fun x90=>(zv_ (zu_ (zd_ 1 rfl) (zu_ (zd_ 0 rfl) (zf_ (zd_ 2 rfl))))))) fun c83=>zjN_ (i:=12) rfl (at_ [(Zf (tySc K) c),(Zf (tyL tyInt) y1'),(Zf tyInt m6),(Zf (tyL Qq2) v12),(Zf tyInt v24),(Zf tyInt m28),(Zf (tyL Qq2) s40),(Zf tyInt f53),(Zf tyInt f61),(Zo (Qq0 K) c63),(Zo (owLO (owL tyInt)) w72),(Zo (owD kInt tyBl) o82),(Zf (tyL tyStr) c83),Zd,Zd,Zd] (zcj_ (LS:=(fun s97:((List (List Int))×((List (Int×Bool))×Qq1))=>[(Zf (tySc K) c),(Zf (tyL tyInt) y1'),(Zf tyInt m6),(Zf (tyL Qq2) v12),(Zf tyInt v24),(Zf tyInt m28),(Zf (tyL Qq2) s40),(Zf tyInt f53),(Zf tyInt f61),(Zo (Qq0 K) s97.2.2),(Zo (owLO (owL tyInt)) s97.1),(Zo (owD kInt tyBl) s97.2.1),(Zf (tyL tyStr) c83),Zd,Zd,Zd])) (zbi_ (L':=[(Zf (tySc K) c),(Zf (tyL tyInt) y1'),(Zf tyInt m6),(Zf (tyL Qq2) v12),(Zf tyInt v24),(Zf tyInt m28),(Zf (tyL Qq2) s40),(Zf tyInt f53),(Zf tyInt f61),(Zo (Qq0 K) c63),(Zo (owLO (owL tyInt)) w72),(Zo (owD kInt tyBl) o82),(Zf (tyL tyStr) c83),Zd,Zd,Zd]) (S4 (S4 (S4 (S4 .nil)))) (zhz_ (LS:=(fun s97:((List (List Int))×((List (Int×Bool))×Qq1))=>[(Zf (tySc K) c),(Zf (tyL tyInt) y1'),(Zf tyInt m6),(Zf (tyL Qq2) v12),(Zf tyInt v24),(Zf tyInt m28),(Zf (tyL Qq2) s40),(Zf tyInt f53),(Zf tyInt f61),(Zo (Qq0 K) s97.2.2),(Zo (owLO (owL tyInt)) s97.1),(Zo (owD kInt tyBl) s97.2.1),(Zf (tyL tyStr) c83),Zd,Zd,Zd])) (s0:=(w72,o82,c63)) (zck_ (zf_ (zd4_ zas_ (zf_ (zd_ 12 rfl))))) (zI_ 13) fun s97 x100=>at_ [(Zf (tySc K) c),(Zf (tyL tyInt) y1'),(Zf tyInt m6),(Zf (tyL Qq2) v12),(Zf tyInt v24),(Zf tyInt m28),(Zf (tyL Qq2) s40),(Zf tyInt f53),(Zf tyInt f61),(Zo (Qq0 K) s97.2.2),(Zo (owLO (owL tyInt)) s97.1),(Zo (owD kInt tyBl) s97.2.1),(Zf (tyL tyStr) c83),(Zf tyInt x100),Zd,Zd] (zla_ (i:=14) rfl (zeK_ (tyL tyInt)) fun s101=>zjN_ (i:=14) rfl (at_ [(Zf (tySc K) c),(Zf (tyL tyInt) y1'),(Zf tyInt m6),(Zf (tyL Qq2) v12),(Zf tyInt v24),(Zf tyInt m28),(Zf (tyL Qq2) s40),(Zf tyInt f53),(Zf tyInt f61),(Zo (Qq0 K) s97.2.2),(Zo (owLO (owL tyInt)) s97.1),(Zo (owD kInt tyBl) s97.2.1),(Zf (tyL tyStr) c83),(Zf tyInt x100),(Zf (tyL (tyL tyInt)) s101),Zd] (zcj_ (LS:=(fun s105:Qq8=>[(Zf (tySc K) c),(Zf (tyL tyInt) y1'),(Zf tyInt m6),(Zf (tyL Qq2) v12),(Zf tyInt v24),(Zf tyInt m28),(Zf (tyL Qq2) s40),(Zf tyInt f53),(Zf tyInt f61),(Zo (Qq0 K) s97.2.2),(Zo (owLO (owL tyInt)) s105.2.1),(Zo (owD kInt tyBl) s105.2.2),(Zf (tyL tyStr) c83),(Zf tyInt x100),(Zf (tyL (tyL tyInt)) s105.1),Zd])) (s_if (zaN_ (zy_ zmn_ (zd_ 13 rfl) (zl_ 0))) (zlP_ (i:=10) (j:=11) rfl rfl (by decide) fun v106=>(zcX_ (at_ [(Zf (tySc K) c),(Zf (tyL tyInt) y1'),(Zf tyInt m6),(Zf (tyL Qq2) v12),(Zf tyInt v24),(Zf tyInt m28),(Zf (tyL Qq2) s40),(Zf tyInt f53),(Zf tyInt f61),(Zo (Qq0 K) s97.2.2),(Zo (owPair v106 (owLO (owL tyInt)) (owD kInt tyBl)) (s97.1,s97.2.1)),(Zf (tyIs v106) ()),(Zf (tyL tyStr) c83),(Zf tyInt x100),(Zf (tyL (tyL tyInt)) s101),Zd] (zjq_ (w:=14) rfl (by decide) (zgP_ (O':=(owPair v106 (owLO (owL tyInt)) (owD kInt tyBl))) (Q:=(csCons tyInt (csCons tyInt (csLast (tyIs v106))))) (g:=fun x c=>z6_ x.1 c.1 c.2.1 x.2) (Or':=(owLL tyInt)) (fun _ _ _ _ z=>⟨v106,z⟩) (zdF_ (z2_ (zA_ zc_)) (zcB_ zO_)) (ziM_ zc_) (zbn_ rfl) (zbu_ (zaF_ zc_ (zv_ (zu_ (zy_ zbl_ (zd_ 12 rfl) (zy_ zbx_ (zd_ 13 rfl) (zl_ 1))) (zu_ (zy_ zbl_ (zd_ 12 rfl) (zd_ 13 rfl)) (zf_ (zd_ 3 rfl)))))) (zbu_ (zaF_ zc_ (zd_ 8 rfl)) (zaX_ (zaF_ zkr_ (zd_ 11 rfl)))))) fun q107=>zjN_ (i:=14) rfl (at_ [(Zf (tySc K) c),(Zf (tyL tyInt) y1'),(Zf tyInt m6),(Zf (tyL Qq2) v12),(Zf tyInt v24),(Zf tyInt m28),(Zf (tyL Qq2) s40),(Zf tyInt f53),(Zf tyInt f61),(Zo (Qq0 K) s97.2.2),(Zo (owPair v106 (owLO (owL tyInt)) (owD kInt tyBl)) q107.2),(Zf (tyIs v106) ()),(Zf (tyL tyStr) c83),(Zf tyInt x100),(Zf (tyL (tyL tyInt)) q107.1),Zd] (ze1_ (i:=10) (j:=11) rfl rfl (by decide) (at_ [(Zf (tySc K) c),(Zf (tyL tyInt) y1'),(Zf tyInt m6),(Zf (tyL Qq2) v12),(Zf tyInt v24),(Zf tyInt m28),(Zf (tyL Qq2) s40),(Zf tyInt f53),(Zf tyInt f61),(Zo (Qq0 K) s97.2.2),(Zo (owLO (owL tyInt)) q107.2.1),(Zo (owD kInt tyBl) q107.2.2),(Zf (tyL tyStr) c83),(Zf tyInt x100),(Zf (tyL (tyL tyInt)) q107.1),Zd] (at_ [(Zf (tySc K) c),(Zf (tyL tyInt) y1'),(Zf tyInt m6),(Zf (tyL Qq2) v12),(Zf tyInt v24),(Zf tyInt m28),(Zf (tyL Qq2) s40),(Zf tyInt f53),(Zf tyInt f61),(Zo (Qq0 K) s97.2.2),(Zo (owLO (owL tyInt)) q107.2.1),(Zo (owD kInt tyBl) q107.2.2),(Zf (tyL tyStr) c83),(Zf tyInt x100),(Zf (tyL (tyL tyInt)) q107.1),Zd] (zw_ (S4 (S4 (S4 (S4 .nil))))))))))))) (zw_ (S4 (S4 (S4 (S4 .nil)))))) fun s105=>(at_ [(Zf (tySc K) c),(Zf (tyL tyInt) y1'),(Zf tyInt m6),(Zf (tyL Qq2) v12),(Zf tyInt v24),(Zf tyInt m28),(Zf (tyL Qq2) s40),(Zf tyInt f53),(Zf tyInt f61),(Zo (Qq0 K) s97.2.2),(Zo (owLO (owL tyInt)) s105.2.1),(Zo (owD kInt tyBl) s105.2.2),(Zf (tyL tyStr) c83),(Zf tyInt x100),(Zf (tyL (tyL tyInt)) s105.1),Zd] (zlP_ (i:=10) (j:=11) rfl rfl (by decide) fun v125=>(at_ [(Zf (tySc K) c),(Zf (tyL tyInt) y1'),(Zf tyInt m6),(Zf (tyL Qq2) v12),(Zf tyInt v24),(Zf tyInt m28),(Zf (tyL Qq2) s40),(Zf tyInt f53),(Zf tyInt f61),(Zo (Qq0 K) s97.2.2),(Zo (owPair v125 (owLO (owL tyInt)) (owD kInt tyBl)) (s105.2.1,s105.2.2)),(Zf (tyIs v125) ()),(Zf (tyL tyStr) c83),(Zf tyInt x100),(Zf (tyL (tyL tyInt)) s105.1),Zd] (zhi_ (zgP_ (O':=(owPair v125 (owL tyInt) (owD kInt tyBl))) (Q:=(csCons (tyL tyInt) (csCons tyInt (csLast (tyIs v125))))) (g:=fun x c=>zan_ x.1 c.1 c.2.1 x.2) (Or':=(owF tyNon)) (fun _ _ _ _ z=>⟨v125,z⟩) (zdF_ (zA_ zc_) (zcB_ zO_)) (zm_ zhy_) (zoz_ (zbn_ rfl) (zd_ 2 rfl)) (zbu_ (zjp_ (zA_ zc_) (zaZ_ (ei_l (zd_ 6 rfl)) (zI_ 0) (fun _=>dead1) (fun x132=>za1_) (fun x132=>(zv_ (zu_ (zy_ zbl_ (zd_ 1 rfl) (zd_ 2 rfl)) (zf_ (zd_ 0 rfl))))))) (zbu_ (zaF_ zc_ (zd_ 8 rfl)) (zaX_ (zaF_ zkr_ (zd_ 11 rfl)))))) fun q126=>(at_ [(Zf (tySc K) c),(Zf (tyL tyInt) y1'),(Zf tyInt m6),(Zf (tyL Qq2) v12),(Zf tyInt v24),(Zf tyInt m28),(Zf (tyL Qq2) s40),(Zf tyInt f53),(Zf tyInt f61),(Zo (Qq0 K) s97.2.2),(Zo (owPair v125 (owLO (owL tyInt)) (owD kInt tyBl)) q126.2),(Zf (tyIs v125) ()),(Zf (tyL tyStr) c83),(Zf tyInt x100),(Zf (tyL (tyL tyInt)) s105.1),Zd] (ze1_ (i:=10) (j:=11) rfl rfl (by decide) (at_ [(Zf (tySc K) c),(Zf (tyL tyInt) y1'),(Zf tyInt m6),(Zf (tyL Qq2) v12),(Zf tyInt v24),(Zf tyInt m28),(Zf (tyL Qq2) s40),(Zf tyInt f53),(Zf tyInt f61),(Zo (Qq0 K) s97.2.2),(Zo (owLO (owL tyInt)) q126.2.1),(Zo (owD kInt tyBl) q126.2.2),(Zf (tyL tyStr) c83),(Zf tyInt x100),(Zf (tyL (tyL tyInt)) s105.1),Zd] (at_ [(Zf (tySc K) c),(Zf (tyL tyInt) y1'),(Zf tyInt m6),(Zf (tyL Qq2) v12),(Zf tyInt v24),(Zf tyInt m28),(Zf (tyL Qq2) s40),(Zf tyInt f53),(Zf tyInt f61),(Zo (Qq0 K) s97.2.2),(Zo (owLO (owL tyInt)) q126.2.1),(Zo (owD kInt tyBl) q126.2.2),(Zf (tyL tyStr) c83),(Zf tyInt x100),(Zf (tyL (tyL tyInt)) s105.1),Zd] (zjq_ (w:=15) rfl (by decide) (za6_ (m := "feed") (ns:=Qn0) (by decide +kernel) (zbc_ (zk_ (zA_ (zF_ (zq_ zc_ (zn_ zc_)))) (zk_ (zA_ (zF_ (zq_ zc_ (zn_ zc_)))) (zk_ (zA_ (zF_ (zq_ zc_ (zn_ zc_)))) (zk_ (z2_ (z2_ (zbc_ (zk_ (zm_ zc_) (zk_ (zm_ zc_) (zk_ (zm_ zc_) (zk_ (zm_ zO_) zN_))))))) (zk_ (zm_ (zbW_ zs_)) (zk_ (zcB_ zO_) zN_))))))) (zA_ zs_) (zbn_ rfl) (zaX_ (zaF_ zs_ (zy_ zbl_ (zd_ 12 rfl) (zd_ 13 rfl))))) fun q149=>(at_ [(Zf (tySc K) c),(Zf (tyL tyInt) y1'),(Zf tyInt m6),(Zf (tyL Qq2) v12),(Zf tyInt v24),(Zf tyInt m28),(Zf (tyL Qq2) s40),(Zf tyInt f53),(Zf tyInt f61),(Zo (Qq0 K) q149.2),(Zo (owLO (owL tyInt)) q126.2.1),(Zo (owD kInt tyBl) q126.2.2),(Zf (tyL tyStr) c83),(Zf tyInt x100),(Zf (tyL (tyL tyInt)) s105.1),(Zo (owL tyStr) q149.1)] (zcj_ (LS:=(fun _:Unit=>[(Zf (tySc K) c),(Zf (tyL tyInt) y1'),(Zf tyInt m6),(Zf (tyL Qq2) v12),(Zf tyInt v24),(Zf tyInt m28),(Zf (tyL Qq2) s40),(Zf tyInt f53),(Zf tyInt f61),(Zo (Qq0 K) q149.2),(Zo (owLO (owL tyInt)) q126.2.1),(Zo (owD kInt tyBl) q126.2.2),(Zf (tyL tyStr) c83),(Zf tyInt x100),(Zf (tyL (tyL tyInt)) s105.1),(Zo (owL tyStr) q149.1)])) (s_if (znb_ (zfQ_ (zaN_ (zv_ (zu_ (zeR_ 15 rfl) (zu_ (zd_ 14 rfl) (zf_ (zd_ 7 rfl))))))) (zaN_ (zy_ zpo_ (zd4_ zas_ (zf_ (zeR_ 15 rfl))) (zy_ z5_ (zd4_ zas_ (zf_ (zd_ 14 rfl))) (zl_ 1))))) (zcm_ (zm_ zO_) (EvF.ow (zh8_ false))) (zw_ (S4 (S4 (S4 (S4 .nil)))))) fun _=>(at_ [(Zf (tySc K) c),(Zf (tyL tyInt) y1'),(Zf tyInt m6),(Zf (tyL Qq2) v12),(Zf tyInt v24),(Zf tyInt m28),(Zf (tyL Qq2) s40),(Zf tyInt f53),(Zf tyInt f61),(Zo (Qq0 K) q149.2),(Zo (owLO (owL tyInt)) q126.2.1),(Zo (owD kInt tyBl) q126.2.2),(Zf (tyL tyStr) c83),(Zf tyInt x100),(Zf (tyL (tyL tyInt)) s105.1),(Zo (owL tyStr) q149.1)] (s_if (zfQ_ (zaN_ (zfu_ (zhs_ (m := "overs") (ns:=Qn0) (by decide +kernel) (zll_ (P:=(Qq5 K)) 9 rfl)) (zf_ (zly_ 11 rfl))))) (zcm_ (zm_ zO_) (EvF.ow (zh8_ false))) (zw_ (S4 (S4 (S4 (.same (.dead (.dead (.dead .nil)))))))))))))))))))))))))) fun s97=>(at_ [(Zf (tySc K) c),(Zf (tyL tyInt) y1'),(Zf tyInt m6),(Zf (tyL Qq2) v12),(Zf tyInt v24),(Zf tyInt m28),(Zf (tyL Qq2) s40),(Zf tyInt f53),(Zf tyInt f61),(Zo (Qq0 K) s97.2.2),(Zo (owLO (owL tyInt)) s97.1),(Zo (owD kInt tyBl) s97.2.1),(Zf (tyL tyStr) c83),Zd,Zd,Zd] (zla_ (i:=14) rfl (zgS_ z4_ zcu_ (zf_ (EvO.fr (zmB_ zgz_ (EvO.fr (zgS_ z4_ zcu_ (zf_ (zl_ 0)))) (zd4_ zas_ (zf_ (zd_ 6 rfl))))))) fun s174=>zjN_ (i:=14) rfl (at_ [(Zf (tySc K) c),(Zf (tyL tyInt) y1'),(Zf tyInt m6),(Zf (tyL Qq2) v12),(Zf tyInt v24),(Zf tyInt m28),(Zf (tyL Qq2) s40),(Zf tyInt f53),(Zf tyInt f61),(Zo (Qq0 K) s97.2.2),(Zo (owLO (owL tyInt)) s97.1),(Zo (owD kInt tyBl) s97.2.1),(Zf (tyL tyStr) c83),Zd,(Zf (tyL (tyL tyInt)) s174),Zd] (zcj_ (LS:=(fun s188:Qq8=>[(Zf (tySc K) c),(Zf (tyL tyInt) y1'),(Zf tyInt m6),(Zf (tyL Qq2) v12),(Zf tyInt v24),(Zf tyInt m28),(Zf (tyL Qq2) s40),(Zf tyInt f53),(Zf tyInt f61),(Zo (Qq0 K) s97.2.2),(Zo (owLO (owL tyInt)) s188.2.1),(Zo (owD kInt tyBl) s188.2.2),(Zf (tyL tyStr) c83),Zd,(Zf (tyL (tyL tyInt)) s188.1),Zd])) (s_if (zaN_ (zy_ (znD_ (eqt_l zn6_)) (zd_ 12 rfl) (EvO.fr (zeK_ tyStr)))) (zlP_ (i:=10) (j:=11) rfl rfl (by decide) fun v189=>(zcX_ (at_ [(Zf (tySc K) c),(Zf (tyL tyInt) y1'),(Zf tyInt m6),(Zf (tyL Qq2) v12),(Zf tyInt v24),(Zf tyInt m28),(Zf (tyL Qq2) s40),(Zf tyInt f53),(Zf tyInt f61),(Zo (Qq0 K) s97.2.2),(Zo (owPair v189 (owLO (owL tyInt)) (owD kInt tyBl)) (s97.1,s97.2.1)),(Zf (tyIs v189) ()),(Zf (tyL tyStr) c83),Zd,(Zf (tyL (tyL tyInt)) s174),Zd] (zjq_ (w:=14) rfl (by decide) (zgP_ (O':=(owPair v189 (owLO (owL tyInt)) (owD kInt tyBl))) (Q:=(csCons tyInt (csCons tyInt (csLast (tyIs v189))))) (g:=fun x c=>z6_ x.1 c.1 c.2.1 x.2) (Or':=(owLL tyInt)) (fun _ _ _ _ z=>⟨v189,z⟩) (zdF_ (z2_ (zA_ zc_)) (zcB_ zO_)) (ziM_ zc_) (zbn_ rfl) (zbu_ (zaF_ zc_ (zl_ 0)) (zbu_ (zaF_ zc_ (zd_ 8 rfl)) (zaX_ (zaF_ zkr_ (zd_ 11 rfl)))))) fun q190=>zjN_ (i:=14) rfl (at_ [(Zf (tySc K) c),(Zf (tyL tyInt) y1'),(Zf tyInt m6),(Zf (tyL Qq2) v12),(Zf tyInt v24),(Zf tyInt m28),(Zf (tyL Qq2) s40),(Zf tyInt f53),(Zf tyInt f61),(Zo (Qq0 K) s97.2.2),(Zo (owPair v189 (owLO (owL tyInt)) (owD kInt tyBl)) q190.2),(Zf (tyIs v189) ()),(Zf (tyL tyStr) c83),Zd,(Zf (tyL (tyL tyInt)) q190.1),Zd] (ze1_ (i:=10) (j:=11) rfl rfl (by decide) (at_ [(Zf (tySc K) c),(Zf (tyL tyInt) y1'),(Zf tyInt m6),(Zf (tyL Qq2) v12),(Zf tyInt v24),(Zf tyInt m28),(Zf (tyL Qq2) s40),(Zf tyInt f53),(Zf tyInt f61),(Zo (Qq0 K) s97.2.2),(Zo (owLO (owL tyInt)) q190.2.1),(Zo (owD kInt tyBl) q190.2.2),(Zf (tyL tyStr) c83),Zd,(Zf (tyL (tyL tyInt)) q190.1),Zd] (at_ [(Zf (tySc K) c),(Zf (tyL tyInt) y1'),(Zf tyInt m6),(Zf (tyL Qq2) v12),(Zf tyInt v24),(Zf tyInt m28),(Zf (tyL Qq2) s40),(Zf tyInt f53),(Zf tyInt f61),(Zo (Qq0 K) s97.2.2),(Zo (owLO (owL tyInt)) q190.2.1),(Zo (owD kInt tyBl) q190.2.2),(Zf (tyL tyStr) c83),Zd,(Zf (tyL (tyL tyInt)) q190.1),Zd] (zw_ (S4 (S4 (S4 (S4 .nil))))))))))))) (zw_ (S4 (S4 (S4 (S4 .nil)))))) fun s188=>(at_ [(Zf (tySc K) c),(Zf (tyL tyInt) y1'),(Zf tyInt m6),(Zf (tyL Qq2) v12),(Zf tyInt v24),(Zf tyInt m28),(Zf (tyL Qq2) s40),(Zf tyInt f53),(Zf tyInt f61),(Zo (Qq0 K) s97.2.2),(Zo (owLO (owL tyInt)) s188.2.1),(Zo (owD kInt tyBl) s188.2.2),(Zf (tyL tyStr) c83),Zd,(Zf (tyL (tyL tyInt)) s188.1),Zd] (zjq_ (w:=15) rfl (by decide) (za6_ (m := "finish") (ns:=Qn0) (by decide +kernel) (zbc_ (zk_ (zA_ (zF_ (zq_ zc_ (zn_ zc_)))) (zk_ (zA_ (zF_ (zq_ zc_ (zn_ zc_)))) (zk_ (zA_ (zF_ (zq_ zc_ (zn_ zc_)))) (zk_ (z2_ (z2_ (zbc_ (zk_ (zm_ zc_) (zk_ (zm_ zc_) (zk_ (zm_ zc_) (zk_ (zm_ zO_) zN_))))))) (zk_ (zm_ (zbW_ zs_)) (zk_ (zcB_ zO_) zN_))))))) (zA_ zs_) (zbn_ rfl) zn0_) fun q200=>(at_ [(Zf (tySc K) c),(Zf (tyL tyInt) y1'),(Zf tyInt m6),(Zf (tyL Qq2) v12),(Zf tyInt v24),(Zf tyInt m28),(Zf (tyL Qq2) s40),(Zf tyInt f53),(Zf tyInt f61),(Zo (Qq0 K) q200.2),(Zo (owLO (owL tyInt)) s188.2.1),(Zo (owD kInt tyBl) s188.2.2),(Zf (tyL tyStr) c83),Zd,(Zf (tyL (tyL tyInt)) s188.1),(Zo (owL tyStr) q200.1)] (zcm_ (zm_ zO_) (EvF.ow (zmX_ (zv_ (zu_ (zeR_ 15 rfl) (zu_ (zd_ 14 rfl) (zf_ (zd_ 7 rfl))))) (zmX_ (zy_ zpA_ (zd4_ zas_ (zf_ (zeR_ 15 rfl))) (zd4_ zas_ (zf_ (zd_ 14 rfl)))) (zfu_ (zhs_ (m := "overs") (ns:=Qn0) (by decide +kernel) (zll_ (P:=(Qq5 K)) 9 rfl)) (zf_ (zly_ 11 rfl)))))))))))))))))))))))))))))))))))))))) f fd F
theorem all_mk {l:PySem.W.OpenLaw}{w:World}{K:Fgg}{h:Heap}{mg:Str→Option Value}{fa:Addr}(X:K.In h) (G:h.Ns mainGlobals mg) (hfa:mg "law" = some (.ref fa)) (k:Ek K) :
  ∃ fd:FuncData,(∀ (s:Shared) (v:Value),BindsTo s fd ⟨[v],[]⟩ [("_law_script",v)])∧∀ base:Heap,K.In base→base.Ns mainGlobals mg→FnOk l.prog w K mg base CX0 6 fa fd ["_law_script"] (spL K):=by
 have e:En K mg:=⟨k,_,X,G⟩
 refine okLaw e.m e.f37 hfa (fun _ _ _ _ _ _ _ _=>rfl) fun base f fd F=>?_
 have g0:=zkZ_ (P:=l.prog) (w:=w) (base:=base) e
 have g1:=zdv_ (P:=l.prog) (w:=w) (base:=base) e g0
 have g2:=zcM_ (P:=l.prog) (w:=w) (base:=base) e g1
 have g3:=zfj_ (P:=l.prog) (w:=w) (base:=base) e
 have g4:=zje_ (P:=l.prog) (w:=w) (base:=base) e
 have g5:=zb9_ (P:=l.prog) (w:=w) (base:=base) e g4 g3
 have g6:=zfU_ (P:=l.prog) (w:=w) (base:=base) e
 have g7:=zdw_ (P:=l.prog) (w:=w) (base:=base) e
 have g8:=zbP_ (P:=l.prog) (w:=w) (base:=base) e g6 g7
 have g9:=ze3_ (P:=l.prog) (w:=w) (base:=base) e
 have g10:=zes_ (P:=l.prog) (w:=w) (base:=base) e
 have g11:=zbM_ (P:=l.prog) (w:=w) (base:=base) e g5 g8 g10 g9
 have g12:=zbD_ (P:=l.prog) (w:=w) (base:=base) e g11
 have g13:=zdu_ (P:=l.prog) (w:=w) (base:=base) e g11 g12
 have g14:=zfW_ (P:=l.prog) (w:=w) (base:=base) e
 have g15:=zf1_ (P:=l.prog) (w:=w) (base:=base) e g14
 have g16:=ze5_ (P:=l.prog) (w:=w) (base:=base) e
 have g17:=zgg_ (P:=l.prog) (w:=w) (base:=base) e
 have g18:=ziH_ (P:=l.prog) (w:=w) (base:=base) e
 have g19:=zis_ (P:=l.prog) (w:=w) (base:=base) e
 have g20:=zjw_ (P:=l.prog) (w:=w) (base:=base) e g19
 have g21:=zbp_ (P:=l.prog) (w:=w) (base:=base) e g4
 have g22:=zgG_ (P:=l.prog) (w:=w) (base:=base) e
 have g23:=zf0_ (P:=l.prog) (w:=w) (base:=base) e g4 g22
 have g24:=zex_ (P:=l.prog) (w:=w) (base:=base) e g12 g21 g18 g20 g8 g23
 have g25:=zgQ_ (P:=l.prog) (w:=w) (base:=base) e
 have g26:=zhU_ (P:=l.prog) (w:=w) (base:=base) e g14
 have g27:=zfo_ (P:=l.prog) (w:=w) (base:=base) e
 have g28:=zfR_ (P:=l.prog) (w:=w) (base:=base) e g27
 have g29:=zgC_ (P:=l.prog) (w:=w) (base:=base) e
 have g30:=zgR_ (P:=l.prog) (w:=w) (base:=base) e g29
 have g31:=zgE_ (P:=l.prog) (w:=w) (base:=base) e
 have g32:=zf4_ (P:=l.prog) (w:=w) (base:=base) e g31
 have g33:=zdQ_ (P:=l.prog) (w:=w) (base:=base) e
 have g34:=zh2_ (P:=l.prog) (w:=w) (base:=base) e
 have g35:=zfC_ (P:=l.prog) (w:=w) (base:=base) e g34
 have g36:=zfE_ (P:=l.prog) (w:=w) (base:=base) e
 exact zpV_ (l:=l) (w:=w) (base:=base) e g15 g16 g14 g25 g17 g2 g26 g28 g35 g27 g36 g24 g30 g32 g33 g13 F
theorem walk {l:PySem.W.OpenLaw}{q:Program}{loose:List Str}{XP:(Str→Option Value)→Heap→Prop}{YP:World→Heap→Prop}{d:DefRec}{K:Params→Fgg}(hn:l.most=some 63) (hdf:d.params.defaults=[])
  (hY:∀ (w:World) (h:Heap),YP w h→(K w.params).In h)
  (F:∀ (w:World) (mg:Str→Option Value) (fa:Addr) (h:Heap),(K w.params).In h→h.Ns mainGlobals mg→mg d.name=some (.ref fa) →
   ∃ fd:FuncData,(∀ (s:Shared) (u:Value),BindsTo s fd ⟨[u],[]⟩ [("_law_script",u)])∧∀ base:Heap,(K w.params).In base→base.Ns mainGlobals mg→FnOk l.prog w (K w.params) mg base CX0 6 fa fd ["_law_script"] (spL (K w.params))) :
  PySem.W.WalkO q loose XP YP l.row.toRowW d [] (fun f vs=>PySem.call f vs) :=
 L2.zmV_ (n:=63) (k:=6) (x := "_law_script") (CX:=fun _=>CX0) (sp:=fun w=>spL (K w.params)) hn (by decide) hdf ⟨rfl,by decide,by decide⟩ hY F (fun _ _ a ns hl hb _ hS=>⟨a,ns,rfl,hS,hl,hb,fun _=>rfl⟩) fun _ _ _ _ _ z=>z
end K35
open PySem PySem.W PyProof.Rows
set_option maxRecDepth 100000 in
set_option maxHeartbeats 0 in
theorem PySem.Challenge.cw_cardshop_k35_wheels_run_over_holds : PySem.Challenge.rw_cardshop_k35_wheels_run_over.Holds := by
 w_on; o_law; k_head; (case hw=>w_witness2)
 k_fill
 refine K35.walk (l:=PySem.Challenge.rw_cardshop_k35_wheels_run_over) rfl rfl (fun w h Y=>PySem.W.kIn_of Y) ?F
 case F =>
  intro w mg fa h KX G hmg
  refine K35.all_mk KX G hmg ?_
  constructor
  all_goals first | (refine' L2.FmD.mk_ ?x0 ?x1 ?x2 ?x3 ?x4 ?x5 ?x6 ?x7; (case x0=>k_is); (case x1=>k_is); (case x2=>k_is); (case x3=>k_is); (case x4=>k_is); (case x5=>k_is); (case x6=>k_is); (case x7=>(show _=_; kernel_rfl!))) | (refine' L2.FtT.mk_ ?x0 ?x1 ?x2 ?x3; (case x0=>k_is); (case x1=>k_is); (case x2=>(show _=_; kernel_rfl!)); (case x3=>decide)) | (refine' L2.Fg.mk_ ?x0 ?x1 ?x2 ?x3; (case x0=>k_is); (case x1=>k_is); (case x2=>k_is); (case x3=>k_is)) | (refine' L2.Fm.mk_ ?x0 ?x1 ?x2 ?x3 ?x4 ?x5; (case x0=>k_is); (case x1=>k_is); (case x2=>k_is); (case x3=>k_is); (case x4=>k_is); (case x5=>k_is)) | (refine' L2.Fs.mk_ ?x0 ?x1 ?x2 ?x3 ?x4 ?x5 ?x6; (case x0=>k_is); (case x1=>k_is); (case x2=>k_is); (case x3=>k_is); (case x4=>k_is); (case x5=>k_is); (case x6=>k_is)) | (refine' L2.Fc.mk_ ?x0 ?x1 ?x2 ?x3 ?x4 ?x5 ?x6; (case x0=>k_is); (case x1=>k_is); (case x2=>k_is); (case x3=>k_is); (case x4=>k_is); (case x5=>k_is); (case x6=>k_is)) | (refine' L2.Fa.mk_ ?x0 ?x1; (case x0=>k_is); (case x1=>k_is)) | (delta L2.Fb; k_is) | (refine' L2.Fv.mk_ ?x0 ?x1; (case x0=>k_is); (case x1=>exact ⟨_,rfl⟩)) | (refine' L2.Fk.mk_ ?x0; (case x0=>k_is)) | (refine' L2.Fe1.mk_ ?x0 ?x1; (case x0=>k_is); (case x1=>(show _=_; kernel_rfl!))) | (refine' L2.Fe2.mk_ ?x0 ?x1 ?x2; (case x0=>k_is); (case x1=>k_is); (case x2=>(show _=_; kernel_rfl!)))
#print axioms PySem.Challenge.cw_cardshop_k35_wheels_run_over_holds
