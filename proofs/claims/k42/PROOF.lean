import PyProof.Rows.All
import Wide.All
import OpenK.AllK
import Wide.FinOn
import Lean
import PyProof.EqAt
import PyProof.EqKinds
import PyProof.TupleCall
import PyProof.StrLawsRepr
import PyProof.NeKinds
import PyProof.Rows.TupIter
import PyProof.InstStoreFacts
import PyProof.ExcInit
import KE.KEqDict
import KE.KDictOf
import KE.KPairComp
import PySem.Challenge.RW_cardshop_k42_works_apart
set_option Elab.async false
set_option compiler.extract_closed false
set_option linter.all false
set_option maxRecDepth 100000
set_option maxHeartbeats 4000000
namespace PySem.W.Fast
def tw13216542735554905569:Unit:=()
def tw8184164312055238482:Unit:=()
def tw7869644537509903619:Unit:=()
def tw8171521130114448310:Unit:=()
def tw14808212476492545662:Unit:=()
def tw9046515584902173491:Unit:=()
def tw7569322934399411367:Unit:=()
def tw6140774441314060388:Unit:=()
def tw7630454383067603469:Unit:=()
def tw1803011458045405487:Unit:=()
def tw9125172134467105563:Unit:=()
def tw14428640025902721390:Unit:=()
def tw15193388602647918305:Unit:=()
def tw11941650653803459719:Unit:=()
def tw14235791214322003819:Unit:=()
def tw5417883979441426422:Unit:=()
def tw6559161671375284943:Unit:=()
def tw9162046981189161971:Unit:=()
def tw5135735165651796108:Unit:=()
def tw9484446499581142474:Unit:=()
def tw12971059145901839922:Unit:=()
def tw15845832852152936275:Unit:=()
def tw11114687572252815651:Unit:=()
def tw10586919869186724706:Unit:=()
def tw5411366271313358534:Unit:=()
def tw12401483720448236355:Unit:=()
def tw3853363348981156992:Unit:=()
end PySem.W.Fast
noncomputable section
namespace L2
open PySem PySem.Spec PyProof.Rows
abbrev Fgg:=PySem.W.Frag
abbrev Pnn:=List (Addr×Obj)
abbrev Key:=Sum Int Str
def keyIs:Key→Value→Bool
 | .inl k,v=>Value.isInt k v
 | .inr x,v=>Value.isStrOf x v
def keyH (w:World):Key→Int
 | .inl k=>hashInt k
 | .inr x=>hashStr w x
theorem zL_:∀ {k:Key}{v:Value},keyIs k v=true→(∃ i t,k=Sum.inl i∧v=Value.int i t)∨(∃ x t,k=Sum.inr x∧v=Value.str x t)
 | .inl i,v,h=>by
  obtain ⟨t,e⟩:=Value.isInt_shape (k:=i) (v:=v) h
  exact .inl ⟨i,t,rfl,e⟩
 | .inr x,v,h=>by
  obtain ⟨t,e⟩:=Value.isStrOf_shape (x:=x) (v:=v) h
  exact .inr ⟨x,t,rfl,e⟩
theorem ziF_ (i:Int) (t:Tok):keyIs (.inl i) (.int i t)=true:=by simp [keyIs,Value.isInt]
theorem ziI_ (x:Str) (t:Tok):keyIs (.inr x) (.str x t)=true:=by simp [keyIs,Value.isStrOf]
theorem znq_ (a b:Int):decide ((Sum.inl a:Key)=Sum.inl b)=(a == b):=by
 by_cases e:a=b
 ·subst e; simp
 ·have h:¬ (Sum.inl a:Key)=Sum.inl b:=fun q=>e (Sum.inl.inj q)
  rw [decide_eq_false h]
  exact (beq_eq_false_iff_ne.mpr e).symm
theorem zno_ (a b:Str):decide ((Sum.inr a:Key)=Sum.inr b)=decide (a=b):=by
 by_cases e:a=b
 ·subst e; simp
 ·have h:¬ (Sum.inr a:Key)=Sum.inr b:=fun q=>e (Sum.inr.inj q)
  rw [decide_eq_false h,decide_eq_false e]
theorem znf_ (a:Int) (b:Str):decide ((Sum.inl a:Key)=Sum.inr b)=false:=decide_eq_false (fun q=>nomatch q)
theorem znj_ (a:Str) (b:Int):decide ((Sum.inr a:Key)=Sum.inl b)=false:=decide_eq_false (fun q=>nomatch q)
def mixKind (prog:Program) (w:World):PySem.KeyKind prog w Key where
 is:=keyIs
 hash:=keyH w
 inj:=fun v a b ha hb=>by
  rcases zL_ ha with ⟨i,t,rfl,rfl⟩ | ⟨x,t,rfl,rfl⟩
  ·rcases zL_ hb with ⟨j,u,rfl,e⟩ | ⟨y,u,rfl,e⟩
   ·injection e with e1 _; rw [e1]
   ·exact nomatch e
  ·rcases zL_ hb with ⟨j,u,rfl,e⟩ | ⟨y,u,rfl,e⟩
   ·exact nomatch e
   ·injection e with e1 _; rw [e1]
 byValue:=fun k v h=>by
  rcases zL_ h with ⟨i,t,rfl,rfl⟩ | ⟨x,t,rfl,rfl⟩<;>rfl
 pyHash:=fun hv h=>by
  rcases zL_ hv with ⟨i,t,rfl,rfl⟩ | ⟨x,t,rfl,rfl⟩
  ·exact wpAny_pyHash_int h
  ·exact wpAny_pyHash_str h
 eqBool:=fun hu hv h=>by
  rcases zL_ hu with ⟨i,t,rfl,rfl⟩ | ⟨x,t,rfl,rfl⟩
  ·rcases zL_ hv with ⟨j,u,rfl,rfl⟩ | ⟨y,u,rfl,rfl⟩
   ·rw [znq_] at h; exact wpAny_eqBool_int h
   ·rw [znf_] at h; exact SeqAt.EqAt.int_str i t y u _ _ _ _ h
  ·rcases zL_ hv with ⟨j,u,rfl,rfl⟩ | ⟨y,u,rfl,rfl⟩
   ·rw [znj_] at h; exact SeqAt.EqAt.str_int x t j u _ _ _ _ h
   ·rw [zno_] at h; exact wpAny_eqBool_str h
 «strs»:=fun k x t v h=>by
  rcases zL_ h with ⟨i,u,rfl,e⟩ | ⟨y,u,rfl,e⟩
  ·exact nomatch e
  ·injection e with e1 _
   subst e1
   cases v<;>rfl
theorem zho_ (prog:Program) (w:World) (k:Key) (v:Value):(mixKind prog w).is k v=keyIs k v:=rfl
theorem zgE_ (prog:Program) (w:World) (i:Int) (t:Tok):(mixKind prog w).is (.inl i) (.int i t)=true:=ziF_ i t
theorem zgP_ (prog:Program) (w:World) (x:Str) (t:Tok):(mixKind prog w).is (.inr x) (.str x t)=true:=ziI_ x t
end L2
namespace L2
open PySem PySem.Spec PyProof.Rows
inductive V where
 | non | bl (b:Bool) | int (i:Int) | str (x:Str) | byt (b:Array UInt8) | flt (b:UInt64) | ref (a:Addr) | ty (n:String)
 deriving DecidableEq
def RelV:V→Value→Prop
 | .non,u=>u=Value.none
 | .bl b,u=>u=Value.bool b
 | .int i,u=>∃ t,u=Value.int i t
 | .str x,u=>∃ t,u=Value.str x t
 | .byt b,u=>∃ t,u=Value.bytes b t
 | .flt b,u=>∃ t,u=Value.float b t
 | .ref a,u=>u=Value.ref a
 | .ty n,u=>u=Value.type n
abbrev Vals:List V→List Value→Prop:=Paired RelV
theorem Vals.length {xs:List V}{us:List Value}(r:Vals xs us):xs.length=us.length:=Paired.length r
theorem Vals.get:∀ {xs:List V}{us:List Value}{i:Nat}{x:V},Vals xs us→xs[i]?=some x→∃ u,us[i]?=some u∧RelV x u
 | _,_,_,_,.nil,e=>by simp at e
 | _,_,0,_,.cons r _,e=>by simp at e; subst e; exact ⟨_,rfl,r⟩
 | _,_,i+1,x,.cons _ t,e=>by
  obtain ⟨u,h1,h2⟩:=Vals.get (i:=i) (x:=x) t (by simpa using e)
  exact ⟨u,by simpa using h1,h2⟩
theorem Vals.append:∀ {xs ys:List V}{us ws:List Value},Vals xs us→Vals ys ws→Vals (xs++ys) (us++ws)
 | _,_,_,_,.nil,s=>s
 | _,_,_,_,.cons r t,s=>.cons r (Vals.append t s)
theorem Vals.take:∀ {xs:List V}{us:List Value}(n:Nat),Vals xs us→Vals (xs.take n) (us.take n)
 | _,_,0,_=>.nil
 | _,_,_+1,.nil=>.nil
 | _,_,n+1,.cons r t=>.cons r (Vals.take n t)
theorem Vals.drop:∀ {xs:List V}{us:List Value}(n:Nat),Vals xs us→Vals (xs.drop n) (us.drop n)
 | _,_,0,r=>r
 | _,_,_+1,.nil=>.nil
 | _,_,n+1,.cons _ t=>Vals.drop n t
def RelO:Option V→Option Value→Prop
 | some v,some u=>RelV v u
 | none,none=>True
 | _,_=>False
def KV {κ:Type}:List (κ×V)→List (κ×Value)→Prop:=Paired fun (p:κ×V) (q:κ×Value)=>p.1=q.1∧RelV p.2 q.2
def kV:Key→V
 | .inl i=>.int i
 | .inr x=>.str x
inductive HO where
 | lst (xs:List V)
 | tup (xs:List V)
 | dK (kvs:List (Key×V)) | dT (kvs:List (List Key×V))
 | set (S:Int→Bool) (n:Nat)
 | ins (C dx:Addr) (fs:List (Str×V))
 | own (x:Addr)
 | xd (fs:List (Str×V))
 | met (f x:Addr)
 | rng (lo hi:Int)
 | frz (o:Obj) (u:HO)
 | tbl (ps:Array Value)
 | ext (φ:Heap→Prop)
abbrev Hp:=Addr→Option HO
def upd (H:Hp) (a:Addr) (o:HO):Hp:=fun b=>if b=a then some o else H b
theorem zD_ {H:Hp}{a:Addr}{o:HO}:upd H a o a=some o:=by unfold upd; rw [if_pos rfl]
theorem z4_ {H:Hp}{a b:Addr}{o:HO}(h:b≠a):upd H a o b=H b:=by unfold upd; rw [if_neg h]
theorem ne_of {H:Hp}{a b:Addr}{o u:HO}(h:H a=some o) (h':H b=some u) (d:o≠u):a≠b:=by
 intro e; subst e; rw [h] at h'; exact d (Option.some.inj h')
theorem zaO_ {H:Hp}{a b:Addr}{o:HO}(h:H a=some o) (h':H b=none):a≠b:=by
 intro e; subst e; rw [h] at h'; cases h'
section
variable (P:Program) (w:World)
def ObjOk (H:Hp) (h:Heap) (a:Addr):HO→Prop
 | .lst xs=>xs.length≤sizeLine∧∃ (its:List Value) (n:Nat),Vals xs its∧h.get? a=some { cls:=.type "list",data:=.seq its.toArray n }
 | .tup xs=>xs.length≤sizeLine∧∃ its:List Value,Vals xs its∧IsTup h a its.toArray
 | .dK kvs=>kvs.length≤sizeLine∧(a == sysModules)=false∧∃ vs,KV kvs vs∧h.DictOf (mixKind P w) a vs
 | .dT kvs=>kvs.length≤sizeLine∧(a == sysModules)=false∧∃ xs:List (List Key×Addr×Value),
   Paired (fun (p:List Key×V) (q:List Key×Addr×Value)=>p.1=q.1∧H q.2.1=some (.tup (p.1.map kV))∧RelV p.2 q.2.2) kvs xs ∧
   ∃ o es ep,h.get? a=some o∧o.ExactDict∧o.data=.dict es ep∧es.toList=xs.map (entryOfKey (tupleKind (mixKind P w)))∧(xs.map (·.1)).Nodup
 | .set S n=>h.SetOf (intKind P w) a S n
 | .ins C dx fs=>H dx=some (.own a)∧fs.length≤1000∧dx≠a∧h.get? a=some (PySem.W.instObj C dx) ∧
   ∃ mA,h.Ns1 dx mA∧(∀ f,RelO (fs.lookup f) (mA f))∧PySem.Within mA (fs.map (·.1))
 | .own _=>∃ o,h.get? a=some o
 | .xd fs=>∃ mA,h.Ns1 a mA∧∀ f,RelO (fs.lookup f) (mA f)
 | .rng lo hi=>∃ t u v,h.get? a=some { cls:=.type "range",data:=.fields #[.int lo t,.int hi u,.int 1 v] }
 | .frz o u=>h.get? a=some o∧ObjOk H h a u
 | .tbl ps=>h.get? a=some { cls:=.none,data:=.fields ps }
 | .met f x=>h.get? a=some (PySem.W.methodObj (.ref f) (.ref x))
 | .ext φ=>φ h∧(∃ o,h.get? a=some o)∧∀ h1 h2:Heap,φ h1→(∀ o,h1.get? a=some o→h2.get? a=some o)→φ h2
def HOk (H:Hp) (h:Heap):Prop:=∀ a o,H a=some o→ObjOk P w H h a o
end
section
variable {P:Program}{w:World}{H H':Hp}{h h':Heap}{a:Addr}{o:HO}
theorem ObjOk.lt (x:ObjOk P w H h a o):a<h.objs.size:=by
 cases o with
 | lst xs=>obtain ⟨_,_,_,_,e⟩:=x; exact Heap.lt_size e
 | tup xs=>obtain ⟨_,_,_,p⟩:=x; exact p.lt
 | dK kvs=>obtain ⟨_,_,_,_,o,_,_,e,_⟩:=x; exact Heap.lt_size e
 | dT kvs=>obtain ⟨_,_,_,_,o,_,_,e,_⟩:=x; exact Heap.lt_size e
 | set S n=>obtain ⟨o,_,_,_,e,_⟩:=x; exact Heap.lt_size e
 | ins C dx fs=>obtain ⟨_,_,_,e,_⟩:=x; exact Heap.lt_size e
 | own y=>obtain ⟨_,e⟩:=x; exact Heap.lt_size e
 | xd fs=>obtain ⟨_,⟨_,_,_,e,_⟩,_⟩:=x; exact Heap.lt_size e
 | rng lo hi=>obtain ⟨_,_,_,e⟩:=x; exact Heap.lt_size e
 | frz ob u=>obtain ⟨e,_⟩:=x; exact Heap.lt_size e
 | tbl ps=>exact Heap.lt_size (show h.get? a=some _ from x)
 | met f y=>exact Heap.lt_size (show h.get? a=some _ from x)
 | ext φ=>obtain ⟨_,⟨_,e⟩,_⟩:=x; exact Heap.lt_size e
theorem Paired.mapP {α β:Type}{F G:α→β→Prop}:∀ {l₁:List α}{l₂:List β},Paired F l₁ l₂→(∀ a b,F a b→G a b)→Paired G l₁ l₂
 | _,_,.nil,_=>.nil
 | _,_,.cons r t,f=>.cons (f _ _ r) (Paired.mapP t f)
theorem ObjOk.stay (x:ObjOk P w H h a o) (k:∀ b u,(b=a∨H b=some (.own a))→h.get? b=some u→h'.get? b=some u)
  (ho:∀ b,H b=some (.own a)→H' b=some (.own a)) (ht:∀ b xs,H b=some (.tup xs)→H' b=some (.tup xs)):ObjOk P w H' h' a o:=by
 induction o with
 | lst xs=>obtain ⟨z,its,n,r,e⟩:=x; exact ⟨z,its,n,r,k _ _ (.inl rfl) e⟩
 | tup xs=>obtain ⟨z,its,r,ob,e,c⟩:=x; exact ⟨z,its,r,ob,k _ _ (.inl rfl) e,c⟩
 | dK kvs=>obtain ⟨z,y,vs,r,ob,es,ep,e,c⟩:=x; exact ⟨z,y,vs,r,ob,es,ep,k _ _ (.inl rfl) e,c⟩
 | dT kvs =>
  obtain ⟨z,y,xs,r,ob,es,ep,e,c⟩:=x
  exact ⟨z,y,xs,Paired.mapP r fun p q z=>⟨z.1,ht _ _ z.2.1,z.2.2⟩,ob,es,ep,k _ _ (.inl rfl) e,c⟩
 | set S n=>obtain ⟨ob,es,ep,t,e,c⟩:=x; exact ⟨ob,es,ep,t,k _ _ (.inl rfl) e,c⟩
 | ins C dx fs =>
  obtain ⟨d,z,ne,e,mA,⟨od,es,ep,e2,c⟩,r⟩:=x
  exact ⟨ho _ d,z,ne,k _ _ (.inl rfl) e,mA,⟨od,es,ep,k _ _ (.inr d) e2,c⟩,r⟩
 | own y=>obtain ⟨ob,e⟩:=x; exact ⟨ob,k _ _ (.inl rfl) e⟩
 | xd fs=>obtain ⟨mA,⟨od,es,ep,e,c⟩,r⟩:=x; exact ⟨mA,⟨od,es,ep,k _ _ (.inl rfl) e,c⟩,r⟩
 | rng lo hi=>obtain ⟨t,u,v,e⟩:=x; exact ⟨t,u,v,k _ _ (.inl rfl) e⟩
 | frz ob u ih=>obtain ⟨e,q⟩:=x; exact ⟨k _ _ (.inl rfl) e,ih q⟩
 | tbl ps =>
  have e:h.get? a=some { cls:=.none,data:=.fields ps }:=x
  show h'.get? a=some { cls:=.none,data:=.fields ps }
  exact k a _ (.inl rfl) e
 | met f y =>
  have e:h.get? a=some (PySem.W.methodObj (.ref f) (.ref y)):=x
  show h'.get? a=some (PySem.W.methodObj (.ref f) (.ref y))
  exact k a _ (.inl rfl) e
 | ext φ=>obtain ⟨p,⟨o,e⟩,st⟩:=x; exact ⟨st _ _ p fun o q=>k _ _ (.inl rfl) q,⟨o,k _ _ (.inl rfl) e⟩,st⟩
theorem HOk.lt (x:HOk P w H h) (e:H a=some o):a<h.objs.size:=(x a o e).lt
theorem HOk.fresh (x:HOk P w H h) (e:h.objs.size≤a):H a=none:=by
 cases q:H a with
 | none=>rfl
 | some u=>exact absurd (Nat.lt_of_lt_of_le (x.lt q) e) (Nat.lt_irrefl _)
theorem HOk.kept (x:HOk P w H h) (k:∀ b u,h.get? b=some u→h'.get? b=some u):HOk P w H h':=fun a o e =>
 (x a o e).stay (fun b u _ q=>k b u q) (fun _ q=>q) fun _ _ q=>q
theorem HOk.laid (x:HOk P w H h) (k:∀ b u,h.get? b=some u→h'.get? b=some u) (hp:h.objs.size≤a) (new:ObjOk P w (upd H a o) h' a o):HOk P w (upd H a o) h':=fun b u e=>by
 have hn:=x.fresh hp
 by_cases hb:b=a
 ·subst hb; rw [zD_] at e; cases e; exact new
 ·rw [z4_ hb] at e
  exact (x b u e).stay (fun c v _ q=>k c v q) (fun c q=>by rw [z4_ (zaO_ q hn)]; exact q) fun c xs q=>by rw [z4_ (zaO_ q hn)]; exact q
end
def Rd (H:Hp) (a:Addr) (u:HO):Prop:=H a=some u∨∃ o,H a=some (.frz o u)
theorem Rd.ok {P:Program}{w:World}{H:Hp}{h:Heap}{a:Addr}{u:HO}(r:Rd H a u) (x:HOk P w H h):ObjOk P w H h a u:=by
 rcases r with r | ⟨o,r⟩
 ·exact x a u r
 ·obtain ⟨_,q⟩:=x a _ r
  exact q
def Mut:Option HO→Prop
 | some (.lst _)=>True
 | some (.dK _)=>True
 | some (.dT _)=>True
 | some (.set _ _)=>True
 | some (.ins _ _ _)=>True
 | some (.ext _)=>True
 | _=>False
section
variable {P:Program}{w:World}{H:Hp}{h h':Heap}{x e:Addr}{o':HO}
theorem HOk.write (ok:HOk P w H h) (mu:Mut (H x)) (he:e=x∨H e=some (.own x)) (k:∀ b u,b≠e→h.get? b=some u→h'.get? b=some u) (heo:∃ u,h'.get? e=some u)
  (new:ObjOk P w (upd H x o') h' x o'):HOk P w (upd H x o') h':=fun b u q=>by
 have nown:∀ c y,H c=some (.own y)→c≠x:=fun c y r z=>by subst z; rw [r] at mu; exact mu
 have ntup:∀ c xs,H c=some (.tup xs)→c≠x:=fun c xs r z=>by subst z; rw [r] at mu; exact mu
 by_cases hb:b=x
 ·subst hb; rw [zD_] at q; cases q; exact new
 ·rw [z4_ hb] at q
  by_cases hbe:b=e
  ·have q':H b=some (.own x):=by
    rcases he with z | z
    ·exact absurd (hbe.trans z) hb
    ·rw [hbe]; exact z
   rw [q] at q'; cases q'
   obtain ⟨v,hv⟩:=heo
   exact ⟨v,by rw [hbe]; exact hv⟩
  ·refine (ok b u q).stay (fun c v hc r=>k c v ?_ r) (fun c r=>by rw [z4_ (nown c b r)]; exact r) fun c xs r=>by rw [z4_ (ntup c xs r)]; exact r
   rcases hc with rfl | hc
   ·exact hbe
   ·rintro rfl
    rcases he with z | z
    ·exact nown c b hc z
    ·rw [hc] at z; cases z; exact hb rfl
end
structure Un (fs ex:List Addr) (H H':Hp) (h h':Heap):Prop where
 keep:∀ b o,h.get? b=some o→H b=none→b∉fs→b∉ex→h'.get? b=some o
 slot:∀ b o,h.get? b=some o→H b=none→b∈fs→b∉ex→∃ sl,h'.get? b=some { o with slots:=sl }
 free:∀ b o,h.get? b=some o→H b=none→b∉ex→H' b=none
 there:∀ b o,h.get? b=some o→b∉ex→∃ o',h'.get? b=some o'
 tups:∀ b xs,H b=some (.tup xs)→H' b=some (.tup xs)
 frzs:∀ b o u,H b=some (.frz o u)→H' b=some (.frz o u)
 tbls:∀ b ps,H b=some (.tbl ps)→∃ more,H' b=some (.tbl (ps++more))
section
variable {fs fs' ex ex':List Addr}{H H1 H2:Hp}{h h1 h2 h':Heap}{a x e:Addr}{o:HO}
theorem Un.any (u:Un fs ex H H1 h h1) {b:Addr}{ob:Obj}(q:h.get? b=some ob) (n:H b=none) (hx:b∉ex):∃ sl,h1.get? b=some { ob with slots:=sl }:=by
 by_cases hb:b∈fs
 ·exact u.slot b ob q n hb hx
 ·exact ⟨ob.slots,u.keep b ob q n hb hx⟩
theorem Un.kept (k:∀ b u,h.get? b=some u→h'.get? b=some u):Un fs ex H H h h' :=
 ⟨fun b ob q _ _ _=>k b ob q,fun b ob q _ _ _=>⟨ob.slots,k b ob q⟩,fun _ _ _ n _=>n,fun b ob q _=>⟨ob,k b ob q⟩,fun _ _ q=>q,fun _ _ _ q=>q,fun _ ps q=>⟨#[],by rw [q]; simp⟩⟩
theorem Un.refl:Un fs ex H H h h:=Un.kept fun _ _ q=>q
theorem Un.laid (k:∀ b u,h.get? b=some u→h'.get? b=some u) (hp:h.objs.size≤a) (hn:H a=none):Un fs ex H (upd H a o) h h' where
 keep:=fun b u q _ _ _=>k b u q
 slot:=fun b u q _ _ _=>⟨u.slots,k b u q⟩
 free:=fun b u q n _=>by rw [z4_ (Nat.ne_of_lt (Nat.lt_of_lt_of_le (Heap.lt_size q) hp))]; exact n
 there:=fun b u q _=>⟨u,k b u q⟩
 tups:=fun b xs q=>by rw [z4_ (zaO_ q hn)]; exact q
 frzs:=fun b u xs q=>by rw [z4_ (zaO_ q hn)]; exact q
 tbls:=fun b ps q=>⟨#[],by rw [z4_ (zaO_ q hn),q]; simp⟩
theorem Un.write (mu:Mut (H x)) (he:e=x∨H e=some (.own x)) (k:∀ b u,b≠e→h.get? b=some u→h'.get? b=some u) (heo:∃ u,h'.get? e=some u):Un fs ex H (upd H x o) h h':=by
 have hx:∀ b,H b=none→b≠x:=fun b n z=>by subst z; rw [n] at mu; exact mu
 have hb:∀ b,H b=none→b≠e:=fun b n z=>by
  subst z
  rcases he with r | r
  ·exact hx b n r
  ·rw [n] at r; cases r
 have hm:∀ b u,H b=some u→¬ Mut (some u)→b≠x:=fun b u q nm z=>by subst z; rw [q] at mu; exact nm mu
 refine ⟨fun b u q n _ _=>k b u (hb b n) q,fun b u q n _ _=>⟨u.slots,k b u (hb b n) q⟩,fun b u q n _=>by rw [z4_ (hx b n)]; exact n,fun b u q _=>?_,
  fun b xs q=>by rw [z4_ (hm b _ q fun z=>z)]; exact q,fun b u xs q=>by rw [z4_ (hm b _ q fun z=>z)]; exact q,fun b ps q=>⟨#[],by rw [z4_ (hm b _ q fun z=>z),q]; simp⟩⟩
 by_cases hbe:b=e
 ·subst hbe; exact heo
 ·exact ⟨u,k b u hbe q⟩
end
def trk (h:Heap) (H:Hp):List Addr:=(List.range h.objs.size).filter fun a=>(H a).isSome
def hidT (h:Heap) (H:Hp):Heap:=PySem.W.hideAll h (trk h H)
theorem zjh_ (h:Heap) (H:Hp):(hidT h H).objs.size=h.objs.size:=PySem.W.hideAll_size _ _
theorem zkB_ {h:Heap}{H:Hp}{b:Addr}{o:Obj}(e:h.get? b=some o) (n:H b=none):(hidT h H).get? b=some o :=
 PySem.W.hideAll_get _ e fun hm=>by
  have q:(H b).isSome=true:=(List.mem_filter.mp hm).2
  rw [n] at q; simp at q
theorem zmh_ {h:Heap}{H:Hp}{b:Addr}{o:Obj}(e:(hidT h H).get? b=some o):h.get? b=some o∧H b=none:=by
 have e':h.get? b=some o:=PySem.W.of_hideAll (trk h H) e
 refine ⟨e',?_⟩
 cases q:H b with
 | none=>rfl
 | some x =>
  have hm:b∈trk h H:=List.mem_filter.mpr ⟨List.mem_range.mpr (Heap.lt_size e'),by simp [q]⟩
  have z:(hidT h H).get? b=none:=PySem.W.hideAll_none (trk h H) hm
  rw [z] at e; cases e
def allNews (g h:Heap) (L:Addr):Pnn:=(List.range h.objs.size).filterMap fun a=>if a=L∨(g.get? a).isSome=true then none else (h.get? a).map fun o=>(a,o)
def rest (g h:Heap) (L d:Addr):Pnn:=(allNews g h L).filter fun p=>decide (p.1≠d)
end L2
namespace L2
open PySem PySem.Spec PyProof.Rows
structure Mod (K:Fgg) (mg:Str→Option Value) (base:Heap):Prop where
 kin:K.In base
 glob:base.Ns mainGlobals mg
 blt:∃ mb,base.Ns builtinsNs mb∧∀ x:Str,x ≠ "__name__" → mb x=bootBuiltins x
 nolimit:base.NoLimit
structure Cx where
 prog:Program
 w:World
 K:Fgg
 mg:Str→Option Value
 base:Heap
 A:Around
 N:List Str
 s₀:Shared
 H₀:Hp
 env:Env
 outer:List Env
 stack:List Env
 ex:List Addr
 fn:Str→Bool
 calm:Bool
 pn:Pnn
 xe:Value→Shared→Prop
def frs (l:List Env):List Addr:=l.filterMap (·.frame)
abbrev Cx.fs (X:Cx):List Addr:=frs X.outer
def Vis (sc:Scope) (x:Str):Prop:=sc.names.lookup x=some .local∨sc.names.lookup x=some .cell∨sc.names.lookup x=some .free
def Loc (sc:Scope) (x:Str):Prop:=sc.names.lookup x=some .local∨sc.names.lookup x=some .cell
def Look (env:Env) (h:Heap) (m:Str→Option Value) (x:Str) (u:Value):Prop :=
 (env.kindOf x=some .local∧m x=some u)∨((env.kindOf x=some .cell∨env.kindOf x=some .free)∧∃ c,env.cells.lookup x=some c∧h.IsCell c (some u))
structure Cx.Ok (X:Cx):Prop where
 mod:Mod X.K X.mg X.base
 kind:X.env.scope.kind=.function
 glob:X.env.globals=mainGlobals
 blt:X.env.builtins=builtinsNs
 above:X.s₀.heap.objs.size≤X.env.locals
 inj:∀ x y c,X.env.cells.lookup x=some c→X.env.cells.lookup y=some c→x=y
 has:∀ x,(X.env.kindOf x=some .cell∨X.env.kindOf x=some .free)→∃ c,X.env.cells.lookup x=some c
 cab:∀ x c,X.fn x=true→X.env.cells.lookup x=some c→X.s₀.heap.objs.size≤c
 hd:X.calm=true→X.A.handled=none
 frames:X.A.frames=some X.stack
 stk:X.stack=X.outer∨(X.stack=X.env::X.outer∧X.env.frame=some X.env.locals)
 exf:∀ b∈X.ex,b≠X.env.locals∧∀ x c,X.env.cells.lookup x=some c→c≠b
 bs:∀ b o,X.base.get? b=some o→X.s₀.heap.get? b=some o∧X.H₀ b=none
 bsz:X.base.objs.size≤X.s₀.heap.objs.size
 noex:∀ b o,X.base.get? b=some o→b∉X.ex
 exfs:∀ b∈X.ex,b∉X.fs
 funs:X.s₀.heap.FunFrames X.base X.outer
 frf:∀ b∈X.fs,X.H₀ b=none
structure Inv (X:Cx) (pins:Pnn) (σ:List (Option V)) (H:Hp) (s:Shared):Prop where
 ok:X.Ok
 os:s.os=X.s₀.os
 bare:AllBare s.gens
 base:Un X.fs X.ex X.H₀ H X.s₀.heap s.heap
 loc:∃ m,s.heap.Ns X.env.locals m∧∀ (i:Nat) (x:Str) (v:V),X.N[i]?=some x→σ[i]?=some (some v)→Vis X.env.scope x→∃ u,RelV v u∧Look X.env s.heap m x u
 cell:∀ x c,X.env.cells.lookup x=some c→∃ v,s.heap.IsCell c v
 free:H X.env.locals=none
 freeC:∀ x c,X.env.cells.lookup x=some c→H c=none
 pin:∀ p∈X.pn++pins,s.heap.get? p.1=some p.2∧H p.1=none∧p.1≠X.env.locals∧p.1∉X.fs∧∀ v,p.2.data≠.cell v
 hok:HOk X.prog X.w H s.heap
 len:σ.length=X.N.length
section
variable {X:Cx}{pins:Pnn}{σ:List (Option V)}{H H':Hp}{s:Shared}{h':Heap}
theorem Cx.Ok.nofr (ok:X.Ok) {b:Addr}{o:Obj}(e:X.base.get? b=some o):b∉X.fs:=fun hb=>by
 have:=(ok.funs.mem hb).1
 rw [e] at this; cases this
theorem Inv.bs (I:Inv X pins σ H s):∀ b o,X.base.get? b=some o→s.heap.get? b=some o∧H b=none:=fun b o e =>
 ⟨I.base.keep b o (I.ok.bs b o e).1 (I.ok.bs b o e).2 (I.ok.nofr e) (I.ok.noex b o e),I.base.free b o (I.ok.bs b o e).1 (I.ok.bs b o e).2 (I.ok.noex b o e)⟩
theorem Inv.bk (I:Inv X pins σ H s):∀ b o,X.base.get? b=some o→s.heap.get? b=some o:=fun b o e=>(I.bs b o e).1
theorem Inv.mod (I:Inv X pins σ H s):Mod X.K X.mg X.base:=I.ok.mod
theorem Inv.kIn (I:Inv X pins σ H s):X.K.In s.heap:=I.ok.mod.kin.keeps I.bk
theorem Inv.lt (I:Inv X pins σ H s):X.env.locals<s.heap.objs.size:=let ⟨_,hn,_⟩:=I.loc; hn.lt
theorem Inv.sz (I:Inv X pins σ H s):X.s₀.heap.objs.size≤s.heap.objs.size:=Nat.le_trans I.ok.above (Nat.le_of_lt I.lt)
theorem Inv.nofs (I:Inv X pins σ H s) {a:Addr}(h:s.heap.objs.size≤a):a∉X.fs:=fun hb=>by
 obtain ⟨_,o,ho,_⟩:=I.ok.funs.mem hb
 exact absurd (Nat.lt_of_lt_of_le (Heap.lt_size ho) (Nat.le_trans I.sz h)) (Nat.lt_irrefl _)
theorem Inv.cne (I:Inv X pins σ H s):∀ x c,X.env.cells.lookup x=some c→c≠X.env.locals:=fun x c e z=>by
 obtain ⟨v,o,ho,hd⟩:=I.cell x c e
 obtain ⟨m,⟨o',es,ep,ho',hd',_⟩,_⟩:=I.loc
 rw [z,ho'] at ho; cases ho; rw [hd'] at hd; cases hd
theorem Inv.funs (I:Inv X pins σ H s):s.heap.FunFrames X.base X.outer:=by
 have all:∀ (l:List Env),(∀ b∈frs l,b∈X.fs)→X.s₀.heap.FunFrames X.base l→s.heap.FunFrames X.base l:=by
  intro l
  induction l with
  | nil=>intro _ _; trivial
  | cons env r ih =>
   intro hs hl
   obtain ⟨hk,⟨L,o,hf,hn,ho,hd⟩,hr⟩:=hl
   have hL:L∈X.fs:=hs L (by unfold frs; rw [List.filterMap_cons,hf]; exact List.mem_cons_self)
   obtain ⟨sl,e⟩:=I.base.slot L o ho (I.ok.frf L hL) hL fun z=>I.ok.exfs L z hL
   exact ⟨hk,⟨L,_,hf,hn,e,hd⟩,ih (fun b hb=>hs b (by unfold frs; rw [List.filterMap_cons,hf]; exact List.mem_cons_of_mem _ hb)) hr⟩
 exact all X.outer (fun _ hb=>hb) I.ok.funs
theorem Inv.stack (I:Inv X pins σ H s):s.heap.FunFrames X.base X.stack:=by
 rcases I.ok.stk with e | ⟨e,hf⟩
 ·rw [e]; exact I.funs
 ·rw [e]
  obtain ⟨m,hn,_⟩:=I.loc
  refine .cons (by rw [I.ok.kind]; decide) hf hn ?_ I.funs
  exact Heap.get?_none_of_le (Nat.le_trans I.ok.bsz I.ok.above)
theorem Inv.stkSub (I:Inv X pins σ H s):∀ b∈frs X.stack,b∈X.env.locals::X.fs:=fun b hb=>by
 rcases I.ok.stk with e | ⟨e,hf⟩
 ·rw [e] at hb; exact List.mem_cons_of_mem _ hb
 ·rw [e] at hb
  unfold frs at hb
  rw [List.filterMap_cons,hf] at hb
  exact hb
theorem Inv.stkFree (I:Inv X pins σ H s):∀ b∈frs X.stack,H b=none:=fun b hb=>by
 rcases List.mem_cons.mp (I.stkSub b hb) with e | hb
 ·rw [e]; exact I.free
 ·obtain ⟨_,o,ho,_⟩:=I.ok.funs.mem hb
  exact I.base.free b o ho (I.ok.frf b hb) fun z=>I.ok.exfs b z hb
theorem Inv.step {g':Array GenState}{t':Nat}{d':Drawn}{ch:List Addr}(I:Inv X pins σ H s)
  (hch:∀ b∈ch,(b∈X.ex∨X.s₀.heap.objs.size≤b)∧b≠X.env.locals∧(∀ x c,X.env.cells.lookup x=some c→c≠b)∧∀ p∈X.pn++pins,p.1≠b)
  (keep:∀ b o,b≠X.env.locals→b∉X.fs→b∉ch→s.heap.get? b=some o→H b=none→h'.get? b=some o)
  (slot:∀ b o,b≠X.env.locals→b∈X.fs→b∉ch→s.heap.get? b=some o→H b=none→∃ sl,h'.get? b=some { o with slots:=sl }) (free:∀ b o,b∉ch→s.heap.get? b=some o→H b=none→H' b=none)
  (there:∀ b o,b∉ch→s.heap.get? b=some o→∃ o',h'.get? b=some o')
  (tups:∀ b xs,H b=some (.tup xs)→H' b=some (.tup xs)) (frzs:∀ b o u,H b=some (.frz o u)→H' b=some (.frz o u)) (tbls:∀ b ps,H b=some (.tbl ps)→∃ more,H' b=some (.tbl (ps++more)))
  (ns:∀ m,s.heap.Ns X.env.locals m→h'.Ns X.env.locals m) (hok:HOk X.prog X.w H' h') (hg:AllBare g') :
  Inv X pins σ H' { s with heap:=h',gens:=g',drawn:=d',toks:=t' }:=by
 have neL:∀ b o,X.s₀.heap.get? b=some o→b≠X.env.locals:=fun b o e=>Nat.ne_of_lt (Nat.lt_of_lt_of_le (Heap.lt_size e) I.ok.above)
 have neC:∀ b o,X.s₀.heap.get? b=some o→b∉X.ex→b∉ch:=fun b o e hx hb=>by
  rcases (hch b hb).1 with z | z
  ·exact hx z
  ·exact absurd (Nat.lt_of_lt_of_le (Heap.lt_size e) z) (Nat.lt_irrefl _)
 have cellK:∀ x c,X.env.cells.lookup x=some c→∀ v,s.heap.IsCell c v→h'.IsCell c v:=fun x c e v ⟨o,ho,hd⟩=>by
  have nch:c∉ch:=fun z=>(hch c z).2.2.1 x c e rfl
  by_cases hc:c∈X.fs
  ·obtain ⟨sl,q⟩:=slot c o (I.cne x c e) hc nch ho (I.freeC x c e)
   exact ⟨_,q,hd⟩
  ·exact ⟨o,keep c o (I.cne x c e) hc nch ho (I.freeC x c e),hd⟩
 refine ⟨I.ok,I.os,hg,⟨fun b o e n hb hx=>?_,fun b o e n hb hx=>?_,fun b o e n hx=>?_,fun b o e hx=>?_,fun b xs e=>tups b xs (I.base.tups b xs e),fun b o xs e=>frzs b o xs (I.base.frzs b o xs e),fun b ps e=>?_⟩,?_,fun x c e=>?_,?_,fun x c e=>?_,fun p hp=>?_,hok,I.len⟩
 ·exact keep b o (neL b o e) hb (neC b o e hx) (I.base.keep b o e n hb hx) (I.base.free b o e n hx)
 ·obtain ⟨sl,e1⟩:=I.base.slot b o e n hb hx
  obtain ⟨sl',e2⟩:=slot b _ (neL b o e) hb (neC b o e hx) e1 (I.base.free b o e n hx)
  exact ⟨sl',e2⟩
 ·obtain ⟨o',e1⟩:=I.base.there b o e hx
  exact free b o' (neC b o e hx) e1 (I.base.free b o e n hx)
 ·obtain ⟨o',e1⟩:=I.base.there b o e hx
  exact there b o' (neC b o e hx) e1
 ·obtain ⟨m1,e1⟩:=I.base.tbls b ps e
  obtain ⟨m2,e2⟩:=tbls b _ e1
  exact ⟨m1++m2,by rw [e2,Array.append_assoc]⟩
 ·obtain ⟨m,hn,hl⟩:=I.loc
  refine ⟨m,ns m hn,fun i x v e1 e2 e3=>?_⟩
  obtain ⟨u,r,l⟩:=hl i x v e1 e2 e3
  refine ⟨u,r,?_⟩
  rcases l with l | ⟨k,c,e,z⟩
  ·exact .inl l
  ·exact .inr ⟨k,c,e,cellK x c e _ z⟩
 ·obtain ⟨v,z⟩:=I.cell x c e
  exact ⟨v,cellK x c e v z⟩
 ·obtain ⟨m,⟨o,_,_,ho,_⟩,_⟩:=I.loc
  exact free _ o (fun z=>(hch _ z).2.1 rfl) ho I.free
 ·obtain ⟨v,o,ho,hd⟩:=I.cell x c e
  exact free c o (fun z=>(hch c z).2.2.1 x c e rfl) ho (I.freeC x c e)
 ·obtain ⟨e,n,ne,nf,d⟩:=I.pin p hp
  have nch:p.1∉ch:=fun z=>(hch p.1 z).2.2.2 p hp rfl
  exact ⟨keep p.1 p.2 ne nf nch e n,free p.1 p.2 nch e n,ne,nf,d⟩
theorem Inv.un {t':Nat}(I:Inv X pins σ H s) (u:Un X.fs [] H H' s.heap h') (hok:HOk X.prog X.w H' h'):Inv X pins σ H' { s with heap:=h',toks:=t' }:=by
 obtain ⟨m,⟨o,es,ep,ho,r⟩,_⟩:=id I.loc
 obtain ⟨sl,hL⟩:=u.any ho I.free (by simp)
 exact I.step (g':=s.gens) (d':=s.drawn) (ch:=[]) (fun _ z=>nomatch z) (fun b o _ hb _ e n=>u.keep b o e n hb (by simp)) (fun b o _ hb _ e n=>u.slot b o e n hb (by simp)) (fun b o _ e n=>u.free b o e n (by simp)) (fun b o _ e=>u.there b o e (by simp)) u.tups u.frzs u.tbls (fun m' hm=>by
  obtain ⟨o',es',ep',ho',r'⟩:=hm
  rw [ho] at ho'; cases ho'
  exact ⟨_,es',ep',hL,r'⟩) hok I.bare
theorem Inv.call {g':Array GenState}{t':Nat}{d':Drawn}{ch:List Addr}(I:Inv X pins σ H s) (u:Un (frs X.stack) ch H H' s.heap h') (hok:HOk X.prog X.w H' h') (hg:AllBare g')
  (hch:∀ b∈ch,(b∈X.ex∨X.s₀.heap.objs.size≤b)∧b≠X.env.locals∧(∀ x c,X.env.cells.lookup x=some c→c≠b)∧∀ p∈X.pn++pins,p.1≠b) :
  Inv X pins σ H' { s with heap:=h',gens:=g',drawn:=d',toks:=t' }:=by
 obtain ⟨m,⟨o,es,ep,ho,r⟩,_⟩:=id I.loc
 obtain ⟨sl,hL⟩:=u.any ho I.free fun z=>(hch _ z).2.1 rfl
 exact I.step (ch:=ch) hch (fun b o hL hb hc e n=>u.keep b o e n (fun z=>(List.mem_cons.mp (I.stkSub b z)).elim hL hb) hc) (fun b o _ _ hc e n=>u.any e n hc) (fun b o hc e n=>u.free b o e n hc) (fun b o hc e=>u.there b o e hc) u.tups u.frzs u.tbls (fun m' hm=>by
  obtain ⟨o',es',ep',ho',r'⟩:=hm
  rw [ho] at ho'; cases ho'
  exact ⟨_,es',ep',hL,r'⟩) hok hg
theorem Inv.turned {t':Nat}{it:Addr}(I:Inv X pins σ H s) (k:∀ b o,b≠it→s.heap.get? b=some o→h'.get? b=some o) (hn:H it=none) (hL:it≠X.env.locals)
  (h1:it∈X.ex∨X.s₀.heap.objs.size≤it) (h2:∀ x c,X.env.cells.lookup x=some c→c≠it) (h3:∀ p∈X.pn++pins,p.1≠it):Inv X pins σ H { s with heap:=h',toks:=t' }:=by
 have nit:∀ b u,H b=some u→b≠it:=fun b u e z=>by rw [z,hn] at e; cases e
 refine I.step (g':=s.gens) (d':=s.drawn) (ch:=[it]) (fun b hb=>?_) (fun b o _ _ hc e _=>k b o (fun z=>hc (by simp [z])) e) (fun b o _ _ hc e _=>⟨o.slots,k b o (fun z=>hc (by simp [z])) e⟩) (fun _ _ _ _ n=>n)
  (fun b o hc e=>⟨o,k b o (fun z=>hc (by simp [z])) e⟩) (fun _ _ e=>e) (fun _ _ _ e=>e) (fun b ps e=>⟨#[],by rw [e]; simp⟩) (fun m hm=>?_) (fun b u e=>?_) I.bare
 ·have e:b=it:=by simpa using hb
  subst e
  exact ⟨h1,hL,h2,h3⟩
 ·obtain ⟨o,es,ep,ho,r⟩:=hm
  exact ⟨o,es,ep,k _ o (Ne.symm hL) ho,r⟩
 ·refine (I.hok b u e).stay (fun c v hc q=>k c v ?_ q) (fun _ q=>q) fun _ _ q=>q
  rcases hc with z | z
  ·rw [z]; exact nit b u e
  ·exact nit c _ z
theorem Inv.tok (I:Inv X pins σ H s) (t:Nat):Inv X pins σ H { s with toks:=t }:=I.un (h':=s.heap) (t':=t) Un.refl I.hok
theorem Inv.kept {t':Nat}(I:Inv X pins σ H s) (k:∀ b u,s.heap.get? b=some u→h'.get? b=some u):Inv X pins σ H { s with heap:=h',toks:=t' }:=I.un (Un.kept k) (I.hok.kept k)
theorem Inv.laid {a:Addr}{o:HO}{t':Nat}(I:Inv X pins σ H s) (k:∀ b u,s.heap.get? b=some u→h'.get? b=some u) (hp:s.heap.objs.size≤a) (new:ObjOk X.prog X.w (upd H a o) h' a o) :
  Inv X pins σ (upd H a o) { s with heap:=h',toks:=t' }:=I.un (Un.laid k hp (I.hok.fresh hp)) (I.hok.laid k hp new)
theorem Inv.write {x e:Addr}{o:HO}{t':Nat}(I:Inv X pins σ H s) (mu:Mut (H x)) (he:e=x∨H e=some (.own x)) (k:∀ b u,b≠e→s.heap.get? b=some u→h'.get? b=some u) (heo:∃ u,h'.get? e=some u)
  (new:ObjOk X.prog X.w (upd H x o) h' x o):Inv X pins σ (upd H x o) { s with heap:=h',toks:=t' }:=I.un (Un.write mu he k heo) (I.hok.write mu he k heo new)
theorem Inv.pins_of {pins':Pnn}(I:Inv X pins σ H s) (h:∀ p∈pins',s.heap.get? p.1=some p.2∧H p.1=none∧p.1≠X.env.locals∧p.1∉X.fs∧∀ v,p.2.data≠.cell v):Inv X pins' σ H s :=
 ⟨I.ok,I.os,I.bare,I.base,I.loc,I.cell,I.free,I.freeC,fun p hp=>(List.mem_append.mp hp).elim (fun z=>I.pin p (List.mem_append_left _ z)) (h p),I.hok,I.len⟩
theorem zf0_ {N:List Str}(hN:N.Nodup) {i j:Nat}{x:Str}(a:N[i]?=some x) (b:N[j]?=some x):i=j:=by
 obtain ⟨h1,e1⟩:=List.getElem?_eq_some_iff.mp a
 obtain ⟨h2,e2⟩:=List.getElem?_eq_some_iff.mp b
 exact (List.getElem_inj hN).mp (e1.trans e2.symm)
theorem ziH_ {M:Model}{A:Around}{E:Value→Shared→Prop}{i:Nat}{x:Str}{v:V}{u:Value}{Q:Unit→Shared→Prop}(I:Inv X pins σ H s) (hN:X.N.Nodup) (hi:X.N[i]?=some x) (hx:Loc X.env.scope x) (r:RelV v u)
  (h:∀ s',Inv X pins (σ.set i (some v)) H s'→(∃ a,Heap.SameBut a s.heap s'.heap∧(a=X.env.locals∨X.env.cells.lookup x=some a))→Q () s') (hf:X.fn x=true∨X.env.scope.names.lookup x=some .local:=by first | exact .inl rfl | exact .inr rfl | assumption):wpAny M A (storeName X.env x u) Q E s:=by
 obtain ⟨m,hn,hl⟩:=id I.loc
 have hcls:(X.env.scope.kind == .class || (X.env.scope.kind == .module && X.env.locals != X.env.globals))=false:=by rw [I.ok.kind]; rfl
 have hiσ:i<σ.length:=by rw [I.len]; exact (List.getElem?_eq_some_iff.mp hi).1
 have cne:=I.cne
 have tracked:∀ {a:Addr}{h':Heap},(∃ o,s.heap.get? a=some o∧H a=none)→Heap.SameBut a s.heap h'→HOk X.prog X.w H h':=fun {a h'} ha hs b ob e=>by
  obtain ⟨_,_,hfree⟩:=ha
  refine (I.hok b ob e).stay (fun c w' hc q=>(hs.2 c ?_).trans q) (fun _ q=>q) fun _ _ q=>q
  rintro rfl
  rcases hc with rfl | hc
  ·rw [hfree] at e; cases e
  ·rw [hfree] at hc; cases hc
 rcases hx with hk | hk
 ·refine wpAny_storeName_local hk hn (fun h' hn' hs=>?_) hcls
  obtain ⟨oL,_,_,hoL,_⟩:=id hn
  refine h _ ⟨I.ok,I.os,I.bare,⟨fun b o e n hb hx=>?_,fun b o e n hb hx=>?_,I.base.free,fun b o e hx=>?_,I.base.tups,I.base.frzs,I.base.tbls⟩,⟨_,hn',fun j y v' e1 e2 e3=>?_⟩,fun y c e=>?_,I.free,I.freeC,fun p hp=>?_,tracked ⟨oL,hoL,I.free⟩ hs,by simpa using I.len⟩ ⟨_,hs,.inl rfl⟩
  ·exact (hs.2 b (Nat.ne_of_lt (Nat.lt_of_lt_of_le (Heap.lt_size e) I.ok.above))).trans (I.base.keep b o e n hb hx)
  ·obtain ⟨sl,e1⟩:=I.base.slot b o e n hb hx
   exact ⟨sl,(hs.2 b (Nat.ne_of_lt (Nat.lt_of_lt_of_le (Heap.lt_size e) I.ok.above))).trans e1⟩
  ·obtain ⟨o',e1⟩:=I.base.there b o e hx
   exact ⟨o',(hs.2 b (Nat.ne_of_lt (Nat.lt_of_lt_of_le (Heap.lt_size e) I.ok.above))).trans e1⟩
  ·by_cases hj:j=i
   ·subst hj
    rw [hi] at e1; cases e1
    rw [List.getElem?_set_self hiσ] at e2
    cases e2
    exact ⟨u,r,.inl ⟨hk,by simp⟩⟩
   ·rw [List.getElem?_set_ne (Ne.symm hj)] at e2
    obtain ⟨u',r',q⟩:=hl j y v' e1 e2 e3
    refine ⟨u',r',?_⟩
    rcases q with ⟨k,e⟩ | ⟨k,c,e,z⟩
    ·refine .inl ⟨k,?_⟩
     have:y≠x:=fun e=>hj (zf0_ hN e1 (e ▸ hi))
     simp [this,e]
    ·exact .inr ⟨k,c,e,z.sameBut hs (cne y c e)⟩
  ·obtain ⟨w',z⟩:=I.cell y c e
   exact ⟨w',z.sameBut hs (cne y c e)⟩
  ·obtain ⟨e,n,ne,nf,d⟩:=I.pin p hp
   exact ⟨(hs.2 p.1 ne).trans e,n,ne,nf,d⟩
 ·have hfn:X.fn x=true:=by
   rcases hf with z | z
   ·exact z
   ·rw [z] at hk; cases hk
  obtain ⟨c,hc⟩:=I.ok.has x (.inl hk)
  obtain ⟨w',z⟩:=I.cell x c hc
  refine wpAny_storeName_cell I.ok.kind hk hc z (fun h' hc' hs=>?_)
  obtain ⟨oc,hoc,hocd⟩:=id z
  refine h { s with heap:=h' } ⟨I.ok,I.os,I.bare,⟨fun b o e n hb hx=>?_,fun b o e n hb hx=>?_,I.base.free,fun b o e hx=>?_,I.base.tups,I.base.frzs,I.base.tbls⟩,⟨m,hn.sameBut hs (Ne.symm (cne x c hc)),fun j y v' e1 e2 e3=>?_⟩,fun y c' e=>?_,I.free,I.freeC,fun p hp=>?_,tracked ⟨oc,hoc,I.freeC x c hc⟩ hs,by simpa using I.len⟩ ⟨c,hs,.inr hc⟩
  ·exact (hs.2 b (Nat.ne_of_lt (Nat.lt_of_lt_of_le (Heap.lt_size e) (I.ok.cab x c hfn hc)))).trans (I.base.keep b o e n hb hx)
  ·obtain ⟨sl,e1⟩:=I.base.slot b o e n hb hx
   exact ⟨sl,(hs.2 b (Nat.ne_of_lt (Nat.lt_of_lt_of_le (Heap.lt_size e) (I.ok.cab x c hfn hc)))).trans e1⟩
  ·obtain ⟨o',e1⟩:=I.base.there b o e hx
   exact ⟨o',(hs.2 b (Nat.ne_of_lt (Nat.lt_of_lt_of_le (Heap.lt_size e) (I.ok.cab x c hfn hc)))).trans e1⟩
  ·by_cases hj:j=i
   ·subst hj
    rw [hi] at e1; cases e1
    rw [List.getElem?_set_self hiσ] at e2
    cases e2
    exact ⟨u,r,.inr ⟨.inl hk,c,hc,hc'⟩⟩
   ·rw [List.getElem?_set_ne (Ne.symm hj)] at e2
    obtain ⟨u',r',q⟩:=hl j y v' e1 e2 e3
    refine ⟨u',r',?_⟩
    rcases q with q | ⟨k,c',e,z'⟩
    ·exact .inl q
    ·refine .inr ⟨k,c',e,z'.sameBut hs ?_⟩
     rintro rfl
     exact hj (zf0_ hN e1 (I.ok.inj _ _ _ e hc ▸ hi))
  ·by_cases hcc:c'=c
   ·subst hcc; exact ⟨_,hc'⟩
   ·obtain ⟨w2,z2⟩:=I.cell y c' e
    exact ⟨w2,z2.sameBut hs hcc⟩
  ·obtain ⟨e,n,ne,nf,d⟩:=I.pin p hp
   refine ⟨(hs.2 p.1 ?_).trans e,n,ne,nf,d⟩
   intro q
   rw [q,hoc] at e
   have q':oc=p.2:=Option.some.inj e
   exact d w' (by rw [← q']; exact hocd)
theorem zeo_ {M:Model}{A:Around}{E:Value→Shared→Prop}{i:Nat}{x:Str}{v:V}{u:Value}{Q:Unit→Shared→Prop}(I:Inv X pins σ H s) (hN:X.N.Nodup) (hi:X.N[i]?=some x) (hx:Loc X.env.scope x) (r:RelV v u)
  (h:∀ s',Inv X pins (σ.set i (some v)) H s'→Q () s') (hf:X.fn x=true∨X.env.scope.names.lookup x=some .local:=by first | exact .inl rfl | exact .inr rfl | assumption):wpAny M A (storeName X.env x u) Q E s :=
 ziH_ I hN hi hx r (fun s' I' _=>h s' I') hf
theorem Inv.call' {s':Shared}{ch:List Addr}(I:Inv X pins σ H s) (ho:s'.os=s.os) (u:Un (frs X.stack) ch H H' s.heap s'.heap) (hok:HOk X.prog X.w H' s'.heap) (hg:AllBare s'.gens)
  (hch:∀ b∈ch,(b∈X.ex∨X.s₀.heap.objs.size≤b)∧b≠X.env.locals∧(∀ x c,X.env.cells.lookup x=some c→c≠b)∧∀ p∈X.pn++pins,p.1≠b):Inv X pins σ H' s':=by
 obtain ⟨h',g',d',t',o'⟩:=s'
 have e:o'=s.os:=ho
 subst e
 exact I.call (g':=g') (t':=t') (d':=d') u hok hg hch
end
abbrev XK:=Value→Option Addr→Hp→Prop
abbrev St:=List (Option V)
abbrev VK:=V→Hp→Prop
abbrev TE:=St→Hp→VK→Prop
abbrev TT:=St→Hp→(Bool→Hp→Prop)→Prop
abbrev TA:=St→Hp→(List V→Hp→Prop)→Prop
structure Ends where
 nx:St→Hp→Prop
 rt:VK
 bk:St→Hp→Prop:=fun _ _=>False
 ct:St→Hp→Prop:=fun _ _=>False
abbrev TS:=Ends→St→Hp→Prop
def EP (X:Cx) (pins:Pnn) (σ:St) (Q:VK) (u:Value) (s':Shared):Prop:=∃ v H',Inv X pins σ H' s'∧RelV v u∧Q v H'
def TP (X:Cx) (pins:Pnn) (σ:St) (Q:Bool→Hp→Prop) (b:Bool) (s':Shared):Prop:=∃ H',Inv X pins σ H' s'∧Q b H'
def AP (X:Cx) (pins:Pnn) (σ:St) (Q:List V→Hp→Prop) (us:List Value) (s':Shared):Prop:=∃ vs H',Inv X pins σ H' s'∧Vals vs us∧Q vs H'
def SP (X:Cx) (pins:Pnn) (D:Ends) (f:Flow) (s':Shared):Prop :=
 match f with
 | .next=>∃ σ' H',Inv X pins σ' H' s'∧D.nx σ' H'
 | .brk=>∃ σ' H',Inv X pins σ' H' s'∧D.bk σ' H'
 | .cont=>∃ σ' H',Inv X pins σ' H' s'∧D.ct σ' H'
 | .ret u=>∃ v σ' H',Inv X pins σ' H' s'∧RelV v u∧D.rt v H'
def PE (X:Cx) (e:Expr) (t:TE):Prop :=
 ∀ (pins:Pnn) (s:Shared) (σ:St) (H:Hp) (Q:VK),Inv X pins σ H s→t σ H Q→wpAny (model X.prog X.w) X.A (eval e X.env) (EP X pins σ Q) X.xe s
def PT (X:Cx) (e:Expr) (t:TT):Prop :=
 ∀ (pins:Pnn) (s:Shared) (σ:St) (H:Hp) (Q:Bool→Hp→Prop),Inv X pins σ H s→t σ H Q→wpAny (model X.prog X.w) X.A (isTrue e X.env (eval e X.env)) (TP X pins σ Q) X.xe s
def PW (X:Cx) (e:Expr) (t:TT):Prop :=
 ∀ (whole:Sem Value) (pins:Pnn) (s:Shared) (σ:St) (H:Hp) (Q:Bool→Hp→Prop),Inv X pins σ H s→t σ H Q→wpAny (model X.prog X.w) X.A (isTrue e X.env whole) (TP X pins σ Q) X.xe s
theorem PW.pt {X:Cx}{e:Expr}{t:TT}(h:PW X e t):PT X e t:=h _
def PA (X:Cx) (es:List Expr) (t:TA):Prop :=
 ∀ (pos:Pos) (pins:Pnn) (s:Shared) (σ:St) (H:Hp) (Q:List V→Hp→Prop),Inv X pins σ H s→t σ H Q→wpAny (model X.prog X.w) X.A (spliced (backTo pos (starEach es X.env))) (AP X pins σ Q) X.xe s
def PS (X:Cx) (st:Stmt) (t:TS):Prop :=
 ∀ (pins:Pnn) (s:Shared) (σ:St) (H:Hp) (D:Ends),Inv X pins σ H s→t D σ H→wpAny (model X.prog X.w) X.A (exec st X.env) (SP X pins D) X.xe s
def PSs (X:Cx) (st:List Stmt) (t:TS):Prop :=
 ∀ (pins:Pnn) (s:Shared) (σ:St) (H:Hp) (D:Ends),Inv X pins σ H s→t D σ H→wpAny (model X.prog X.w) X.A (execs st X.env) (SP X pins D) X.xe s
theorem thn {α:Type}{t:Sem α}{Q Q':α→Shared→Prop}{M:Model}{A:Around}{E:Value→Shared→Prop}{s:Shared}(h:wpAny M A t Q E s) (hQ:∀ a s,Q a s→Q' a s):wpAny M A t Q' E s:=wpAny_mono h hQ fun _ _ x=>x
end L2
namespace L2
open PySem PySem.Spec PyProof.Rows
section
variable {X:Cx}
theorem bin {a b:Expr}{ta tb:TE}(ha:PE X a ta) (hb:PE X b tb) {pins:Pnn}{s:Shared}{σ:St}{H:Hp}{R:V→V→Hp→Prop}(I:Inv X pins σ H s) (h:ta σ H fun x H1=>tb σ H1 fun y H2=>R x y H2)
  {α:Type}{Q:α→Shared→Prop}{f:Value→Value→Sem α}
  (hf:∀ v u s2 x y H2,Inv X pins σ H2 s2→RelV x v→RelV y u→R x y H2→wpAny (model X.prog X.w) X.A (f v u) Q X.xe s2) :
  wpAny (model X.prog X.w) X.A (eval a X.env) (fun v s₁=>wpAny (model X.prog X.w) X.A (eval b X.env) (fun u s₂=>wpAny (model X.prog X.w) X.A (f v u) Q X.xe s₂) X.xe s₁) X.xe s:=by
 refine thn (ha pins s σ H _ I h) fun v s1 hq_=>?_
 obtain ⟨x,H1,I1,r1,q1⟩:=hq_
 refine thn (hb pins s1 σ H1 _ I1 q1) fun u s2 hq_=>?_
 obtain ⟨y,H2,I2,r2,q2⟩:=hq_
 exact hf v u s2 x y H2 I2 r1 r2 q2
def tVar (i:Nat):TE:=fun σ H Q=>∃ v,σ[i]?=some (some v)∧Q v H
def tC (v:V):TE:=fun _ H Q=>Q v H
theorem zni_ {i:Nat}{x:Str}{pos:Pos}(hN:X.N[i]?=some x) (hv:Vis X.env.scope x) (hd:(x == ("__debug__" : Str))=false:=by decide) (hcd:(x == ("__classdict__" : Str))=false:=by decide):PE X (.Name x pos) (tVar i):=by
 intro pins s σ H Q I h
 obtain ⟨v,e,h⟩:=h
 obtain ⟨m,hn,hl⟩:=I.loc
 obtain ⟨u,r,l⟩:=hl i x v hN e hv
 have fin:EP X pins σ Q u s:=⟨v,H,I,r,h⟩
 rcases l with ⟨hk,hm⟩ | ⟨hk,c,hc,hcell⟩
 ·exact wpAny_Name (wpAny_loadName_local I.ok.kind hk hn hm fin) hd
 ·rcases hk with hk | hk
  ·exact wpAny_Name (wpAny_loadName_cell I.ok.kind hk hc hcell fin) hd
  ·exact wpAny_Name (wpAny_loadName_free I.ok.kind hk hc hcell fin hcd) hd
theorem zj_ {i j pos}:PE X (.Constant (.int i) j pos) (tC (.int i)):=fun _ _ _ H _ I h=>wpAny_Constant_int ⟨.int i,H,I.tok _,⟨_,rfl⟩,h⟩
theorem zhb_ {b j pos}:PE X (.Constant (.bool b) j pos) (tC (.bl b)):=fun _ _ _ H _ I h=>Constant_bool ⟨.bl b,H,I,rfl,h⟩
theorem zdQ_ {j pos}:PE X (.Constant .none j pos) (tC .non):=fun _ _ _ H _ I h=>Constant_none ⟨.non,H,I,rfl,h⟩
theorem zn9_ {x j pos}:PE X (.Constant (.str x) j pos) (tC (.str x)):=fun _ _ _ H _ I h=>Calls.Constant_str ⟨.str x,H,I.tok _,⟨_,rfl⟩,h⟩
def Gl (X:Cx) (x:Str):Prop:=X.env.kindOf x=some .globalImplicit
theorem zee_ {E:Value→Shared→Prop}{pins:Pnn}{s:Shared}{σ:St}{H:Hp}{x:Str}{u:Value}{pos:Pos}{Q:Value→Shared→Prop}(I:Inv X pins σ H s) (hg:Gl X x) (hm:X.mg x=some u) (h:Q u s)
  (hd:(x == ("__debug__" : Str))=false:=by decide):wpAny (model X.prog X.w) X.A (eval (.Name x pos) X.env) Q E s :=
 Calls.Name_function_global I.ok.kind hg (Calls.loadGlobal_global (by rw [I.ok.glob]; exact I.mod.glob.keeps I.bk) hm h) hd
theorem zgy_ {E:Value→Shared→Prop}{pins:Pnn}{s:Shared}{σ:St}{H:Hp}{x:Str}{u:Value}{pos:Pos}{Q:Value→Shared→Prop}(I:Inv X pins σ H s) (hg:Gl X x) (hm:X.mg x=none) (hv:bootBuiltins x=some u) (h:Q u s)
  (hn:x ≠ "__name__" := by decide) (hd:(x == ("__debug__" : Str))=false:=by decide):wpAny (model X.prog X.w) X.A (eval (.Name x pos) X.env) Q E s:=by
 obtain ⟨mb,h1,h2⟩:=I.mod.blt
 exact Calls.Name_function_global I.ok.kind hg (Calls.loadGlobal_builtin (by rw [I.ok.glob]; exact I.mod.glob.keeps I.bk) hm (by rw [I.ok.blt]; exact h1.keeps I.bk) ((h2 x hn).trans hv) h) hd
theorem zmz_ {x:Str}{v:V}{u:Value}{pos:Pos}(hg:Gl X x) (hm:X.mg x=some u) (r:RelV v u) (hd:(x == ("__debug__" : Str))=false:=by decide):PE X (.Name x pos) (tC v) :=
 fun _ _ _ H _ I h=>zee_ I hg hm ⟨v,H,I,r,h⟩ hd
theorem zmU_ {x:Str}{v:V}{u:Value}{pos:Pos}(hg:Gl X x) (hm:X.mg x=none) (hv:bootBuiltins x=some u) (r:RelV v u) (hn:x ≠ "__name__" := by decide) (hd:(x == ("__debug__" : Str))=false:=by decide):PE X (.Name x pos) (tC v) :=
 fun _ _ _ H _ I h=>zgy_ I hg hm hv ⟨v,H,I,r,h⟩ hn hd
variable {a b:Expr}{ta tb:TE}{pos:Pos}
def PC (X:Cx) (op:CmpOp) (a b:Expr) (t:TE):Prop :=
 ∀ (pins:Pnn) (s:Shared) (σ:St) (H:Hp) (Q:VK),Inv X pins σ H s→t σ H Q →
  wpAny (model X.prog X.w) X.A (eval a X.env) (fun v s₁=>wpAny (model X.prog X.w) X.A (eval b X.env) (fun u s₂=>wpAny (model X.prog X.w) X.A (compareOp op v u) (EP X pins σ Q) X.xe s₂) X.xe s₁) X.xe s
theorem nobehind (b:Expr) {op:CmpOp}(h:op≠.In) (h2:op≠.NotIn):behindInMarks op b=false:=by
 have e1:(op == CmpOp.In)=false:=by cases op<;>first | rfl | exact absurd rfl h
 have e2:(op == CmpOp.NotIn)=false:=by cases op<;>first | rfl | exact absurd rfl h2
 cases b<;>simp [behindInMarks,e1,e2]
variable {tA tB':TT}{rest:List Expr}
def tNot (t:TT):TT:=fun σ H Q=>t σ H fun c H1=>Q (!c) H1
theorem zdd_ (ha:PT X a tA):PW X (.BoolOp .And [a] pos) tA:=by
 intro wh pins s σ H Q I h
 refine isTrue_and (thn (ha pins s σ H Q I h) fun c s1 e=>?_)
 cases c with
 | true=>exact isTrue_and_nil e
 | false=>exact e
theorem zl6_ (ha:PT X a tA):PW X (.BoolOp .Or [a] pos) tA:=by
 intro wh pins s σ H Q I h
 refine isTrue_or (thn (ha pins s σ H Q I h) fun c s1 e=>?_)
 cases c with
 | false=>exact isTrue_or_nil e
 | true=>exact e
theorem zjo_ (ha:PT X a tA):PT X (.UnaryOp .Not a pos) (tNot tA):=by
 intro pins s σ H Q I h
 exact isTrue_not (ha pins s σ H (fun c H1=>Q (!c) H1) I h)
theorem zcH_ {op} {t:TE}(h:PE X a t):PE X (.BoolOp op [a] pos) t:=fun pins s σ H Q I hw=>BoolOp_one (h pins s σ H Q I hw)
end
end L2
namespace L2
open PySem PySem.Spec PyProof.Rows
def SqL (K:Fgg) (H:Hp) (a:Addr) (xs:List V):Prop :=
 Rd H a (.lst xs) ∨
  ∃ (o:Obj) (its:Array Value) (n:Nat),K.lookup a=some o∧o.cls=.type "list" ∧ o.dict=none∧o.data=.seq its n∧its.size≤sizeLine∧Vals xs its.toList
def SqT (K:Fgg) (H:Hp) (a:Addr) (xs:List V):Prop :=
 Rd H a (.tup xs) ∨
  ∃ (o:Obj) (its:Array Value) (n:Nat),K.lookup a=some o∧o.cls=.type "tuple" ∧ o.data=.seq its n∧its.size≤sizeLine∧Vals xs its.toList
def absV:Value→Option V
 | .none=>some .non
 | .bool b=>some (.bl b)
 | .int i _=>some (.int i)
 | .str x _=>some (.str x)
 | .bytes b _=>some (.byt b)
 | .float b _=>some (.flt b)
 | .ref a=>some (.ref a)
 | .type n=>some (.ty n)
 | _=>none
theorem RelV.abs {x:V}{u:Value}(r:RelV x u):absV u=some x:=by
 cases x with
 | non=>cases r; rfl
 | bl _=>cases r; rfl
 | int _=>obtain ⟨t,rfl⟩:=r; rfl
 | str _=>obtain ⟨t,rfl⟩:=r; rfl
 | byt _=>obtain ⟨t,rfl⟩:=r; rfl
 | flt _=>obtain ⟨t,rfl⟩:=r; rfl
 | ref _=>cases r; rfl
 | ty _=>cases r; rfl
theorem RelV.inj {x y:V}{u:Value}(r:RelV x u) (q:RelV y u):x=y:=Option.some.inj (r.abs.symm.trans q.abs)
theorem Vals.inj:∀ {xs ys:List V}{us:List Value},Vals xs us→Vals ys us→xs=ys
 | _,_,_,.nil,.nil=>rfl
 | _,_,_,.cons r t,.cons r' t'=>by rw [r.inj r',Vals.inj t t']
section
variable {X:Cx}{pins:Pnn}{σ:St}{H:Hp}{s:Shared}{a:Addr}{xs ys:List V}
theorem SqL.of {K:Fgg}(h:H a=some (.lst xs)):SqL K H a xs:=.inl (.inl h)
theorem SqT.of {K:Fgg}(h:H a=some (.tup xs)):SqT K H a xs:=.inl (.inl h)
theorem Inv.list (I:Inv X pins σ H s) (h:SqL X.K H a xs):∃ its:List Value,Vals xs its∧PlainL s.heap a its.toArray∧xs.length≤sizeLine:=by
 rcases h with h | ⟨o,its,n,hk,hc,hd,hs,hz,r⟩
 ·obtain ⟨z,its,n,r,e⟩:=h.ok I.hok
  exact ⟨its,r,⟨_,n,e,rfl,rfl,rfl⟩,z⟩
 ·refine ⟨its.toList,r,⟨o,n,I.kIn a o hk,hc,hd,by simpa using hs⟩,?_⟩
  have e:=r.length
  simp only [Array.length_toList] at e
  lia
theorem Inv.tuple (I:Inv X pins σ H s) (h:SqT X.K H a xs):∃ its:List Value,Vals xs its∧IsTup s.heap a its.toArray∧xs.length≤sizeLine:=by
 rcases h with h | ⟨o,its,n,hk,hc,hs,hz,r⟩
 ·obtain ⟨z,its,r,p⟩:=h.ok I.hok
  exact ⟨its,r,p,z⟩
 ·refine ⟨its.toList,r,⟨o,I.kIn a o hk,hc,n,by simpa using hs⟩,?_⟩
  have e:=r.length
  simp only [Array.length_toList] at e
  lia
theorem Inv.list_inj (I:Inv X pins σ H s) (h:SqL X.K H a xs) (h':SqL X.K H a ys):xs=ys:=by
 obtain ⟨its,r,⟨o,n,e,_,_,d⟩,_⟩:=I.list h
 obtain ⟨its',r',⟨o',n',e',_,_,d'⟩,_⟩:=I.list h'
 rw [e] at e'; cases e'
 rw [d] at d'
 injection d' with d1 _
 have:its=its':=by simpa using congrArg Array.toList d1
 subst this
 exact r.inj r'
theorem Inv.tuple_inj (I:Inv X pins σ H s) (h:SqT X.K H a xs) (h':SqT X.K H a ys):xs=ys:=by
 obtain ⟨its,r,⟨o,e,_,n,d⟩,_⟩:=I.tuple h
 obtain ⟨its',r',⟨o',e',_,n',d'⟩,_⟩:=I.tuple h'
 rw [e] at e'; cases e'
 rw [d] at d'
 injection d' with d1 _
 have:its=its':=by simpa using congrArg Array.toList d1
 subst this
 exact r.inj r'
end
abbrev Cx.wish (X:Cx) (E:Value→Shared→Prop):Cx:={ X with xe:=E }
abbrev Cx.nox (X:Cx):Cx:=X.wish fun _ _=>False
theorem Cx.Ok.wish {X:Cx}(ok:X.Ok) (E:Value→Shared→Prop):(X.wish E).Ok :=
 ⟨ok.mod,ok.kind,ok.glob,ok.blt,ok.above,ok.inj,ok.has,ok.cab,ok.hd,ok.frames,ok.stk,ok.exf,ok.bs,ok.bsz,ok.noex,ok.exfs,ok.funs,ok.frf⟩
theorem Cx.Ok.unwish {X:Cx}{E:Value→Shared→Prop}(ok:(X.wish E).Ok):X.Ok :=
 ⟨ok.mod,ok.kind,ok.glob,ok.blt,ok.above,ok.inj,ok.has,ok.cab,ok.hd,ok.frames,ok.stk,ok.exf,ok.bs,ok.bsz,ok.noex,ok.exfs,ok.funs,ok.frf⟩
section
variable {X:Cx}{pins:Pnn}{σ:St}{H:Hp}{s:Shared}{E:Value→Shared→Prop}
theorem Inv.wish (I:Inv X pins σ H s) (E:Value→Shared→Prop):Inv (X.wish E) pins σ H s:=⟨I.ok.wish E,I.os,I.bare,I.base,I.loc,I.cell,I.free,I.freeC,I.pin,I.hok,I.len⟩
theorem Inv.unwish (I:Inv (X.wish E) pins σ H s):Inv X pins σ H s:=⟨I.ok.unwish,I.os,I.bare,I.base,I.loc,I.cell,I.free,I.freeC,I.pin,I.hok,I.len⟩
theorem SP.unwish {D:Ends}{f:Flow}{s':Shared}(h:SP (X.wish E) pins D f s'):SP X pins D f s':=by
 cases f with
 | next=>obtain ⟨σ',H',I,q⟩:=h; exact ⟨σ',H',I.unwish,q⟩
 | brk=>obtain ⟨σ',H',I,q⟩:=h; exact ⟨σ',H',I.unwish,q⟩
 | cont=>obtain ⟨σ',H',I,q⟩:=h; exact ⟨σ',H',I.unwish,q⟩
 | ret u=>obtain ⟨v,σ',H',I,r,q⟩:=h; exact ⟨v,σ',H',I.unwish,r,q⟩
theorem PSs.nox {st:List Stmt}{t:TS}(h:PSs X.nox st t):PSs X st t:=fun pins s σ H D I hw =>
 wpAny_mono (h pins s σ H D (I.wish _) hw) (fun _ _ q=>q.unwish) fun _ _ z=>False.elim z
end
section
variable {X:Cx}{st:Stmt}{rest:List Stmt}{t u:TS}{e:Expr}{te:TE}{pos:Pos}
def tNext:TS:=fun D σ H=>D.nx σ H
def tSeq (t u:TS):TS:=fun D σ H=>t { D with nx:=u D } σ H
theorem zQ_:PSs X [] tNext:=fun _ _ σ H _ I h=>wpAny_execs_nil ⟨σ,H,I,h⟩
theorem zh_ (h1:PS X st t) (h2:PSs X rest u):PSs X (st::rest) (tSeq t u):=by
 intro pins s σ H D I h
 refine wpAny_execs_cons (thn (h1 pins s σ H { D with nx:=u D } I h) fun f s1 q=>?_)
 cases f with
 | next =>
  obtain ⟨σ',H',I',q⟩:=q
  exact h2 pins s1 σ' H' D I' q
 | ret v=>exact q
 | brk=>exact q
 | cont=>exact q
theorem zk_ (h1:PS X st t):PSs X [st] t:=by
 intro pins s σ H D I h
 refine wpAny_execs_cons (thn (h1 pins s σ H D I h) fun f s1 q=>?_)
 cases f with
 | next=>exact wpAny_execs_nil q
 | ret v=>exact q
 | brk=>exact q
 | cont=>exact q
theorem Inv.quiet {pins:Pnn}{σ:St}{H:Hp}{s:Shared}(I:Inv X pins σ H s):interactive X.env=false:=by simp [interactive,I.ok.kind]
def tDrop (te:TE):TS:=fun D σ H=>te σ H fun _ H1=>D.nx σ H1
theorem zx_ (he:PE X e te) (hs:swapsWith e none pos.line X.env=pure false:=by rfl):PS X (.Expr e pos) (tDrop te):=by
 intro pins s σ H D I h
 exact wpAny_Expr_any (thn (he pins s σ H _ I h) fun v s1 ⟨x,H1,I1,r1,q1⟩=>⟨σ,H1,I1,q1⟩) I.quiet hs
def tRet (te:TE):TS:=fun D σ H=>te σ H D.rt
theorem zP_ (he:PE X e te):PS X (.Return (some e) pos) (tRet te):=by
 intro pins s σ H D I h
 exact wpAny_Return_some (thn (he pins s σ H _ I h) fun v s1 ⟨x,H1,I1,r1,q1⟩=>⟨x,σ,H1,I1,r1,q1⟩)
def tRetN:TS:=fun D _ H=>D.rt .non H
theorem zlG_:PS X (.Return none pos) tRetN:=fun _ _ σ H _ I h=>wpAny_Return_none ⟨.non,σ,H,I,rfl,h⟩
def tNever:TS:=fun _ _ _=>False
theorem zfL_:PS X st tNever:=fun _ _ _ _ _ _ h=>h.elim
end
abbrev TG:=V→St→Hp→(St→Hp→Prop)→Prop
abbrev TGs:=List V→St→Hp→(St→Hp→Prop)→Prop
def PG (X:Cx) (target:Expr) (t:TG):Prop :=
 ∀ (pins:Pnn) (s:Shared) (σ:St) (H:Hp) (v:V) (u:Value) (Q:St→Hp→Prop),Inv X pins σ H s→RelV v u→t v σ H Q →
  wpAny (model X.prog X.w) X.A (assign target X.env u) (fun _ s'=>∃ σ' H',Inv X pins σ' H' s'∧Q σ' H') X.xe s
def PGs (X:Cx) (ts:List Expr) (t:TGs):Prop :=
 ∀ (pins:Pnn) (s:Shared) (σ:St) (H:Hp) (vs:List V) (us:List Value) (Q:St→Hp→Prop),Inv X pins σ H s→Vals vs us→t vs σ H Q →
  wpAny (model X.prog X.w) X.A (assignInOrder ((assignEach ts X.env).map (·.2)) us) (fun _ s'=>∃ σ' H',Inv X pins σ' H' s'∧Q σ' H') X.xe s
section
variable {X:Cx}{pos:Pos}
def gName (i:Nat):TG:=fun v σ H Q=>Q (σ.set i (some v)) H
theorem zjF_ {i:Nat}{x:Str}(hN:X.N.Nodup) (hi:X.N[i]?=some x) (hx:Loc X.env.scope x) (hf:X.fn x=true∨X.env.scope.names.lookup x=some .local:=by first | exact .inl rfl | exact .inr rfl | assumption):PG X (.Name x pos) (gName i):=by
 intro pins s σ H v u Q I r h
 exact wpAny_assign_Name (zeo_ I hN hi hx r (fun s' I'=>⟨_,H,I',h⟩) hf)
def gNil:TGs:=fun vs σ H Q=>vs=[]∧Q σ H
def gCons (t:TG) (u:TGs):TGs:=fun vs σ H Q=>∃ v r,vs=v::r∧t v σ H fun σ' H'=>u r σ' H' Q
theorem zms_:PGs X [] gNil:=by
 intro pins s σ H vs us Q I r h
 obtain ⟨e,h⟩:=h
 subst e
 cases r
 exact assignInOrder_nil ⟨σ,H,I,h⟩
theorem zkz_ {e:Expr}{es:List Expr}{t:TG}{u:TGs}(h1:PG X e t) (h2:PGs X es u)
  (hs:(assignEach (e::es) X.env).map (·.2)=assign e X.env::(assignEach es X.env).map (·.2):=by rfl):PGs X (e::es) (gCons t u):=by
 intro pins s σ H vs us Q I r h
 obtain ⟨v,vr,e1,h⟩:=h
 subst e1
 cases r with
 | cons r rr =>
  rw [hs]
  refine assignInOrder_cons (thn (h1 pins s σ H _ _ _ I r h) fun _ s1 hq_=>?_)
  obtain ⟨σ1,H1,I1,q1⟩:=hq_
  exact h2 pins s1 σ1 H1 _ _ Q I1 rr q1
def gTup (K:Fgg) (n:Nat) (t:TGs):TG:=fun v σ H Q=>∃ a xs,v=.ref a∧SqT K H a xs∧xs.length=n∧t xs σ H Q
theorem znK_ {es:List Expr}{k:Nat}{t:TGs}{n:Nat}(hc:X.calm=true) (h:PGs X es t)
  (hn:(assignEach es X.env).length=n:=by rfl) (hst:(assignEach es X.env).findIdx? (·.1)=none:=by rfl):PG X (.Tuple es k pos) (gTup X.K n t):=by
 intro pins s σ H v u Q I r hw
 obtain ⟨a,xs,e1,hq,hl,hw⟩:=hw
 subst e1
 cases r
 obtain ⟨its,rv,ht,hz⟩:=I.tuple hq
 refine assign_Tuple_tuple (I.ok.hd hc) ht (by simp [hn,← hl,rv.length]) hst fun h' hx=>?_
 have I1:Inv X pins σ H { s with heap:=h' }:=I.kept (t':=s.toks) fun b o e=>hx b o (Nat.ne_of_lt (Heap.lt_size e)) e
 exact h pins _ σ H xs _ Q I1 (by simpa using rv) hw
def tAsg (te:TE) (g:TG):TS:=fun D σ H=>te σ H fun x H1=>g x σ H1 D.nx
theorem znZ_ {i:Nat}{x:Str}{e:Expr}{te:TE}{pos':Pos}(hN:X.N.Nodup) (hi:X.N[i]?=some x) (hx:Loc X.env.scope x) (he:PE X e te) (hs:swapsWith e (some (.Name x pos')) pos.line X.env=pure false:=by rfl) (hf:X.fn x=true∨X.env.scope.names.lookup x=some .local:=by first | exact .inl rfl | exact .inr rfl | assumption) :
  PS X (.Assign [.Name x pos'] e pos) (tAsg te (gName i)):=by
 intro pins s σ H D I h
 refine wpAny_Assign_Name (thn (he pins s σ H _ I h) fun v s1 hq_=>?_) hs
 obtain ⟨y,H1,I1,r1,q1⟩:=hq_
 exact zeo_ I1 hN hi hx r1 (fun s2 I2=>⟨_,H1,I2,q1⟩) hf
end
section
variable {X:Cx}{pos:Pos}
end
structure It where
 go:Nat→Hp→Prop
 yld:Nat→Hp→V→Hp→Prop
 stop:Nat→Hp→Prop
def FpOk (X:Cx) (pins:Pnn) (H:Hp) (b:Addr):Prop :=
 H b=none∧b≠X.env.locals∧b∉X.fs∧(b∈X.ex∨X.s₀.heap.objs.size≤b)∧(∀ x c,X.env.cells.lookup x=some c→c≠b)∧∀ p∈X.pn++pins,p.1≠b
theorem Inv.fpOk {X:Cx}{pins:Pnn}{σ:St}{H H':Hp}{s:Shared}{b:Addr}(I:Inv X pins σ H s) (hb:s.heap.objs.size≤b) (hn:H' b=none):FpOk X pins H' b:=by
 refine ⟨hn,Nat.ne_of_gt (Nat.lt_of_lt_of_le I.lt hb),I.nofs hb,.inr (Nat.le_trans I.sz hb),fun x c e z=>?_,fun p hp z=>?_⟩
 ·obtain ⟨v,q⟩:=I.cell x c e
  exact absurd (Nat.lt_of_lt_of_le q.lt (by rw [z]; exact hb)) (Nat.lt_irrefl _)
 ·exact absurd (Nat.lt_of_lt_of_le (Heap.lt_size (I.pin p hp).1) (by rw [z]; exact hb)) (Nat.lt_irrefl _)
structure Turn (P:Program) (w:World) (K:Fgg) (tg:Expr) (J:It) (fp:List Addr) (it:Addr) (tn:Nat→Heap→Prop):Prop where
 mem:it∈fp
 obj:∀ i h,tn i h→∀ b∈fp,∃ o,h.get? b=some o∧∀ v,o.data≠.cell v
 keep:∀ i h h',tn i h→(∀ b∈fp,∀ o,h.get? b=some o→h'.get? b=some o)→tn i h'
 item:∀ (X:Cx),X.prog=P→X.w=w→X.K=K→X.calm=true→∀ (i:Nat) (pins:Pnn) (s:Shared) (σ:St) (H:Hp) (E:Value→Shared→Prop),Inv X pins σ H s→(∀ b∈fp,FpOk X pins H b)→tn i s.heap→J.go i H →
  wpAny (model P w) X.A (pyNext (.ref it)) (fun r s1=>∃ u,r=some u ∧
   wpAny (model P w) X.A (letOwnedTupleGo tg (.ref it) u) (fun _ s2=>∃ x H',Inv X pins σ H' s2∧RelV x u∧J.yld i H x H'∧tn (i+1) s2.heap∧∀ b∈fp,H' b=none) E s1) E s
 done:∀ (X:Cx),X.prog=P→X.w=w→X.K=K→X.calm=true→∀ (i:Nat) (pins:Pnn) (s:Shared) (σ:St) (H:Hp) (E:Value→Shared→Prop),Inv X pins σ H s→(∀ b∈fp,FpOk X pins H b)→tn i s.heap→J.stop i H →
  wpAny (model P w) X.A (pyNext (.ref it)) (fun r s1=>r=none∧Inv X pins σ H s1) E s
 self:∀ (A:Around) (i:Nat) (s:Shared) (Q:Value→Shared→Prop) (E:Value→Shared→Prop),tn i s.heap→Q (.ref it) s→wpAny (model P w) A (pyIter (.ref it)) Q E s
abbrev TI:=St→Hp→(It→Hp→Prop)→Prop
def PIE (X:Cx) (pins:Pnn) (σ:St) (tg:Expr) (R:It→Hp→Prop) (itv:Value) (s2:Shared):Prop :=
 ∃ (it:Addr) (fp:List Addr) (tn:Nat→Heap→Prop) (J:It) (H':Hp),itv=.ref it∧Inv X pins σ H' s2∧Turn X.prog X.w X.K tg J fp it tn∧tn 0 s2.heap∧(∀ b∈fp,FpOk X pins H' b)∧R J H'
def PI (X:Cx) (tg iter:Expr) (wi:TI):Prop :=
 ∀ (pins:Pnn) (s:Shared) (σ:St) (H:Hp) (R:It→Hp→Prop),Inv X pins σ H s→wi σ H R →
  wpAny (model X.prog X.w) X.A (eval iter X.env) (fun v s1=>wpAny (model X.prog X.w) X.A (pyIter v) (PIE X pins σ tg R) X.xe s1) X.xe s
theorem zm8_ {M:Model}{A:Around}{E:Value→Shared→Prop}{s:Shared}{tg:Expr}{it:Addr}{u:Value}{o:Obj}{n:String}{vs:Array Value}{Q:Unit→Shared→Prop}(ho:s.heap.get? it=some o) (hc:o.cls=.type n) (hd:o.data=.fields vs)
  (hn:["enumerate", "zip", "dict_itemiterator", "dict_reverseitemiterator", "odict_iterator", "itertools.zip_longest", "itertools.pairwise"].contains n=false) (hQ:Q () s):wpAny M A (letOwnedTupleGo tg (.ref it) u) Q E s:=by
 unfold letOwnedTupleGo
 cases tg<;>first
  | exact wpAny_pure hQ
  | (cases u<;>first
    | exact wpAny_pure hQ
    | (refine wpAny_bind (wpAny_load ho ?_)
       rw [hc,hd]
       show wpAny M A (if (["enumerate", "zip", "dict_itemiterator", "dict_reverseitemiterator", "odict_iterator", "itertools.zip_longest", "itertools.pairwise"].contains n && vs[0]? == some (rawInt _))=true then _ else _) Q E s
       rw [if_neg (by intro h; rw [hn,Bool.false_and] at h; cases h)]
       exact wpAny_pure hQ))
def Itl (K:Fgg) (a:Addr):It :=
 ⟨fun i H=>∃ xs x,SqL K H a xs∧xs[i]?=some x,fun i H x H'=>H'=H∧∀ xs,SqL K H a xs→xs[i]?=some x,fun i H=>∃ xs,SqL K H a xs∧xs.length≤i⟩
def Itt (K:Fgg) (a:Addr):It :=
 ⟨fun i H=>∃ xs x,SqT K H a xs∧xs[i]?=some x,fun i H x H'=>H'=H∧∀ xs,SqT K H a xs→xs[i]?=some x,fun i H=>∃ xs,SqT K H a xs∧xs.length≤i⟩
def Itr (lo:Int) (n:Nat):It:=⟨fun i _=>i<n,fun i H x H'=>H'=H∧x=.int (lo+i),fun i _=>n≤i⟩
theorem ziy_ {P:Program}{w:World}{K:Fgg}{tg:Expr}(a it:Addr):Turn P w K tg (Itl K a) [it] it (fun i h=>h.IsListIter it a i) where
 mem:=by simp
 obj:=fun i h st b hb=>by
  have e:b=it:=by simpa using hb
  subst e
  obtain ⟨o,e,c,d⟩:=st
  exact ⟨o,e,fun v z=>by rw [d] at z; cases z⟩
 keep:=fun i h h' st k=>st.at fun o e=>k it (by simp) o e
 item:=by
  intro X hP hw hK hc i pins s σ H E I hf st hg
  subst hP hw hK
  obtain ⟨xs,x,hq,hx⟩:=hg
  obtain ⟨its,rv,p,hz⟩:=I.list hq
  obtain ⟨u,hu,ru⟩:=rv.get hx
  obtain ⟨f0,f1,f2,f3,f4,f5⟩:=hf it (by simp)
  refine wpAny_pyNext_list_item st p.isList (x:=u) (by simpa using hu) fun h' st' sb=>?_
  have I1:Inv X pins σ H { s with heap:=h' }:=I.turned (t':=s.toks) (fun b o hb e=>(sb.2 b hb).trans e) f0 f1 f3 f4 f5
  obtain ⟨o,e,c,d⟩:=id st'
  exact ⟨u,rfl,zm8_ (s:={ s with heap:=h' }) e c d (by decide) ⟨x,H,I1,ru,⟨rfl,fun ys hy=>by rw [I.list_inj hy hq]; exact hx⟩,st',fun b hb=>(hf b hb).1⟩⟩
 done:=by
  intro X hP hw hK hc i pins s σ H E I hf st hg
  subst hP hw hK
  obtain ⟨xs,hq,hx⟩:=hg
  obtain ⟨its,rv,p,hz⟩:=I.list hq
  obtain ⟨f0,f1,f2,f3,f4,f5⟩:=hf it (by simp)
  have hl:=rv.length
  exact wpAny_pyNext_list_end (I.ok.hd hc) st p.isList (by simp; lia) fun h' eb=>⟨rfl,I.turned (t':=s.toks) (fun b o hb e=>eb b o hb e) f0 f1 f3 f4 f5⟩
 self:=fun _ _ _ _ _ st h=>wpAny_pyIter_listiter st h
theorem zij_ {P:Program}{w:World}{K:Fgg}{tg:Expr}(a it:Addr):Turn P w K tg (Itt K a) [it] it (fun i h=>h.IsTupleIter it a i) where
 mem:=by simp
 obj:=fun i h st b hb=>by
  have e:b=it:=by simpa using hb
  subst e
  obtain ⟨o,e,c,d⟩:=st
  exact ⟨o,e,fun v z=>by rw [d] at z; cases z⟩
 keep:=fun i h h' st k=>st.at fun o e=>k it (by simp) o e
 item:=by
  intro X hP hw hK hc i pins s σ H E I hf st hg
  subst hP hw hK
  obtain ⟨xs,x,hq,hx⟩:=hg
  obtain ⟨its,rv,p,hz⟩:=I.tuple hq
  obtain ⟨u,hu,ru⟩:=rv.get hx
  obtain ⟨f0,f1,f2,f3,f4,f5⟩:=hf it (by simp)
  refine wpAny_pyNext_tuple_item st (show s.heap.IsTuple a its.toArray from p) (x:=u) (by simpa using hu) fun h' st' sb=>?_
  have I1:Inv X pins σ H { s with heap:=h' }:=I.turned (t':=s.toks) (fun b o hb e=>(sb.2 b hb).trans e) f0 f1 f3 f4 f5
  obtain ⟨o,e,c,d⟩:=id st'
  exact ⟨u,rfl,zm8_ (s:={ s with heap:=h' }) e c d (by decide) ⟨x,H,I1,ru,⟨rfl,fun ys hy=>by rw [I.tuple_inj hy hq]; exact hx⟩,st',fun b hb=>(hf b hb).1⟩⟩
 done:=by
  intro X hP hw hK hc i pins s σ H E I hf st hg
  subst hP hw hK
  obtain ⟨xs,hq,hx⟩:=hg
  obtain ⟨its,rv,p,hz⟩:=I.tuple hq
  obtain ⟨f0,f1,f2,f3,f4,f5⟩:=hf it (by simp)
  have hl:=rv.length
  exact wpAny_pyNext_tuple_end (I.ok.hd hc) st (show s.heap.IsTuple a its.toArray from p) (by simp; lia) fun h' eb=>⟨rfl,I.turned (t':=s.toks) (fun b o hb e=>eb b o hb e) f0 f1 f3 f4 f5⟩
 self:=fun _ _ _ _ _ st h=>wpAny_pyIter_tupleiter st h
theorem zhf_ {P:Program}{w:World}{K:Fgg}{tg:Expr}(it:Addr) (lo:Int) (n:Nat):Turn P w K tg (Itr lo n) [it] it (fun i h=>IsRangeIter h it (lo+(i:Nat)*1) ((n:Int)-(i:Nat)) 1) where
 mem:=by simp
 obj:=fun i h st b hb=>by
  have e:b=it:=by simpa using hb
  subst e
  exact ⟨_,st,fun v z=>by
   have z':Data.fields _=Data.cell v:=z
   cases z'⟩
 keep:=fun i h h' st k=>k it (by simp) _ st
 item:=by
  intro X hP hw hK hc i pins s σ H E I hf st hg
  subst hP hw hK
  obtain ⟨f0,f1,f2,f3,f4,f5⟩:=hf it (by simp)
  have W:=Walks.range (prog:=X.prog) (w:=X.w) (I.ok.hd hc) it lo 1 n
  refine W.item i s _ _ hg st fun v h' tk hv st' kk=>?_
  obtain ⟨t,rfl⟩:=hv
  have I1:Inv X pins σ H { s with heap:=h',toks:=tk }:=I.turned (fun b o hb e=>kk b o (by simpa using hb) e) f0 f1 f3 f4 f5
  refine ⟨_,rfl,zm8_ (s:={ s with heap:=h',toks:=tk }) (n := "range_iterator") st' rfl rfl (by decide) ⟨.int (lo+i),H,I1,⟨t,?_⟩,⟨rfl,rfl⟩,st',fun b hb=>(hf b hb).1⟩⟩
  rw [Int.mul_one]
 done:=by
  intro X hP hw hK hc i pins s σ H E I hf st hg
  subst hP hw hK
  obtain ⟨f0,f1,f2,f3,f4,f5⟩:=hf it (by simp)
  exact wpAny_pyNext_range_end (I.ok.hd hc) st (by have:n≤i:=hg; lia) fun h' eb=>⟨rfl,I.turned (t':=s.toks) (fun b o hb e=>eb b o hb e) f0 f1 f3 f4 f5⟩
 self:=fun _ _ _ _ _ st h=>wpAny_pyIter_rangeiter st h
end L2
namespace L2
open PySem PySem.Spec PyProof.Rows
section
variable {X:Cx}{tg:Expr}
theorem zk2_ {pins:Pnn}{σ:St}{H:Hp}{s:Shared}{R:It→Hp→Prop}{E:Value→Shared→Prop}{lo hi:Int}{t u v:Tok}{tk:Nat}(I:Inv X pins σ H s) (h1 : -(2 ^ 62)≤lo) (h2:lo<2 ^ 62) (h3 : -(2 ^ 62)≤hi) (h4:hi<2 ^ 62)
  (q:R (Itr lo (hi-lo).toNat) H):wpAny (model X.prog X.w) X.A (pyIter (.ref s.heap.objs.size)) (PIE X pins σ tg R) E { s with heap:=s.heap.push { cls:=.type "range",data:=.fields #[.int lo t,.int hi u,.int 1 v] },toks:=tk }:=by
 refine wpAny_pyIter_range (IsRange.new ..) (small_one h1 h2 h3 h4) ?_
 have I1:Inv X pins σ H { s with heap:=s.heap.push { cls:=.type "range",data:=.fields #[.int lo t,.int hi u,.int 1 v] },toks:=tk }:=I.kept fun b o e=>Heap.get?_push_of_some _ e
 refine ⟨(s.heap.push { cls:=.type "range",data:=.fields #[.int lo t,.int hi u,.int 1 v] }).objs.size,[(s.heap.push { cls:=.type "range",data:=.fields #[.int lo t,.int hi u,.int 1 v] }).objs.size],_,_,H,rfl,
  I1.kept (t':=tk) fun b o e=>Heap.get?_push_of_some _ e,zhf_ _ lo (hi-lo).toNat,?_,fun b hb=>?_,q⟩
 ·have e1:lo+((0:Nat):Int)*1=lo:=by simp
  have e2:(((hi-lo).toNat:Nat):Int)-((0:Nat):Int)=Builtin.Range.rangeSize lo hi 1:=by rw [rangeSize_one]; split<;>omega
  show IsRangeIter _ _ (lo+((0:Nat):Int)*1) ((((hi-lo).toNat:Nat):Int)-((0:Nat):Int)) 1
  rw [e1,e2]
  exact Heap.get?_push_size _ rfl
 ·have e:b=(s.heap.push { cls:=.type "range",data:=.fields #[.int lo t,.int hi u,.int 1 v] }).objs.size:=by simpa using hb
  subst e
  exact I1.fpOk (Nat.le_refl _) (I1.hok.fresh (Nat.le_refl _))
def tFor (wi:TI) (g:TG) (tb:TS):TS:=fun D σ H=>wi σ H fun J H1=>∃ W:Nat→Nat→St→Hp→Prop,(∃ m,W 0 m σ H1)∧∀ i m σ H,W i m σ H →
 (J.stop i H∧D.nx σ H)∨(J.go i H∧∃ N:St→Hp→Prop,(∀ σ' H',N σ' H'→∃ m',m'<m∧W (i+1) m' σ' H')∧∀ x H',J.yld i H x H'→g x σ H' fun σ2 H2=>tb { D with nx:=N,ct:=N,bk:=D.nx } σ2 H2)
def pinsAt (fp:List Addr) (h:Heap):Pnn:=fp.filterMap fun b=>(h.get? b).map fun o=>(b,o)
theorem zb6_ {fp:List Addr}{h:Heap}{b:Addr}{o:Obj}(hb:b∈fp) (e:h.get? b=some o):(b,o)∈pinsAt fp h:=List.mem_filterMap.mpr ⟨b,hb,by rw [e]; rfl⟩
theorem ziM_ {fp:List Addr}{h:Heap}{p:Addr×Obj}(hp:p∈pinsAt fp h):p.1∈fp∧h.get? p.1=some p.2:=by
 obtain ⟨b,hb,e⟩:=List.mem_filterMap.mp hp
 cases q:h.get? b with
 | none=>rw [q] at e; cases e
 | some o =>
  rw [q] at e
  have e':(b,o)=p:=Option.some.inj e
  subst e'
  exact ⟨hb,q⟩
theorem Inv.pinned {pins:Pnn}{σ:St}{H:Hp}{s:Shared}{fp:List Addr}(I:Inv X pins σ H s) (hf:∀ b∈fp,FpOk X pins H b) (ho:∀ b∈fp,∃ o,s.heap.get? b=some o∧∀ v,o.data≠.cell v):Inv X (pins++pinsAt fp s.heap) σ H s :=
 I.pins_of fun p hp=>(List.mem_append.mp hp).elim (fun z=>I.pin p (List.mem_append_right _ z)) fun z=>by
  obtain ⟨hb,e⟩:=ziM_ z
  obtain ⟨f0,f1,f2,_⟩:=hf p.1 hb
  obtain ⟨o,e',d⟩:=ho p.1 hb
  rw [e] at e'; cases e'
  exact ⟨e,f0,f1,f2,d⟩
theorem Inv.unpinned {pins pl:Pnn}{σ:St}{H:Hp}{s:Shared}(I:Inv X (pins++pl) σ H s):Inv X pins σ H s:=I.pins_of fun p hp=>I.pin p (List.mem_append_right _ (List.mem_append_left _ hp))
theorem zbr_ {iter:Expr}{body:List Stmt}{wi:TI}{g:TG}{tb:TS}{pos:Pos}(hp:PassesOwn (model X.prog X.w) X.A X.env X.xe) (hc:X.calm=true) (hi:PI X tg iter wi) (hg:PG X tg g) (hb:PSs X body tb)
  (hs:∀ x,foldedSetIterable iter X.env x=pure x:=by intro _; rfl):PS X (.For tg iter body [] pos) (tFor wi g tb):=by
 intro pins s σ H D I h
 refine wpAny_For (thn (hi pins s σ H _ I h) fun v s1 h1=>thn h1 fun itv s2 h2=>?_) hs
 obtain ⟨it,fp,tn,J,H2,e,I2,T,st2,f2,W,⟨m0,w0⟩,turn⟩:=h2
 subst e
 have stat:∀ {H':Hp},(∀ b∈fp,H' b=none)→∀ b∈fp,FpOk X pins H' b:=fun hn b hb=>⟨hn b hb,(f2 b hb).2⟩
 refine codeAny_forLoop_any (fun n s'=>∃ i σ' H',Inv X pins σ' H' s'∧tn i s'.heap∧(∀ b∈fp,H' b=none)∧W i n σ' H') ?_ m0 ⟨0,σ,H2,I2,st2,fun b hb=>(f2 b hb).1,w0⟩
 rintro n s3 ⟨i,σ3,H3,I3,st3,fr3,w3⟩
 rcases turn i n σ3 H3 w3 with ⟨stop,qn⟩ | ⟨go,N,hN,step⟩
 ·refine wpAny_passesOwn hp (thn (T.done X rfl rfl rfl hc i pins s3 σ3 H3 X.xe I3 (stat fr3) st3 stop) fun r s4 hq_=>?_)
  obtain ⟨hr,I4⟩:=hq_
  subst hr
  exact wpAny_execs_nil ⟨σ3,H3,I4,qn⟩
 ·refine wpAny_passesOwn hp (thn (T.item X rfl rfl rfl hc i pins s3 σ3 H3 X.xe I3 (stat fr3) st3 go) fun r s4 hq_=>?_)
  obtain ⟨u,hr,h4⟩:=hq_
  subst hr
  refine wpAny_passesOwn hp (thn h4 fun _ s5 hq_=>?_)
  obtain ⟨x,H5,I5,r5,y5,st5,fr5⟩:=hq_
  have I5':=I5.pinned (stat fr5) (T.obj _ _ st5)
  refine wpAny_passesOwn hp (thn (hg _ s5 σ3 H5 x u _ I5' r5 (step x H5 y5)) fun _ s6 hq_=>?_)
  obtain ⟨σ6,H6,I6,q6⟩:=hq_
  refine wpAny_passesOwn hp (thn (hb _ s6 σ6 H6 _ I6 q6) fun f s7 q7=>?_)
  have again:∀ {σ7:St}{H7:Hp},Inv X (pins++pinsAt fp s5.heap) σ7 H7 s7→N σ7 H7→∃ m,m<n∧∃ i σ' H',Inv X pins σ' H' s7∧tn i s7.heap∧(∀ b∈fp,H' b=none)∧W i m σ' H':=fun {σ7 H7} I7 n7=>by
   obtain ⟨m',hm,w7⟩:=hN σ7 H7 n7
   refine ⟨m',hm,i+1,σ7,H7,I7.unpinned,T.keep _ _ _ st5 fun b hb o e=>(I7.pin (b,o) (List.mem_append_right _ (List.mem_append_right _ (zb6_ hb e)))).1,fun b hb=>?_,w7⟩
   obtain ⟨o,e,d⟩:=T.obj _ _ st5 b hb
   exact (I7.pin (b,o) (List.mem_append_right _ (List.mem_append_right _ (zb6_ hb e)))).2.1
  cases f with
  | next=>obtain ⟨σ7,H7,I7,n7⟩:=q7; exact again I7 n7
  | cont=>obtain ⟨σ7,H7,I7,n7⟩:=q7; exact again I7 n7
  | brk=>obtain ⟨σ7,H7,I7,q7⟩:=q7; exact ⟨σ7,H7,I7.unpinned,q7⟩
  | ret v=>obtain ⟨x7,σ7,H7,I7,r7,q7⟩:=q7; exact ⟨x7,σ7,H7,I7.unpinned,r7,q7⟩
end
end L2
namespace L2
open PySem PySem.Spec PyProof.Rows
abbrev R2:=V→V→Hp→VK→Prop
def OpR (X:Cx) (f:Value→Value→Sem Value) (r:R2):Prop :=
 ∀ (pins:Pnn) (s:Shared) (σ:St) (H:Hp) (x y:V) (v u:Value) (Q:VK),Inv X pins σ H s→RelV x v→RelV y u→r x y H Q →
  wpAny (model X.prog X.w) X.A (f v u) (EP X pins σ Q) X.xe s
def UnR (X:Cx) (f:Value→Sem Value) (r:V→Hp→VK→Prop):Prop :=
 ∀ (pins:Pnn) (s:Shared) (σ:St) (H:Hp) (x:V) (v:Value) (Q:VK),Inv X pins σ H s→RelV x v→r x H Q →
  wpAny (model X.prog X.w) X.A (f v) (EP X pins σ Q) X.xe s
def CallR (X:Cx) (f:Value) (r:List V→Hp→VK→Prop):Prop :=
 ∀ (pins:Pnn) (s:Shared) (σ:St) (H:Hp) (xs:List V) (us:List Value) (Q:VK),Inv X pins σ H s→Vals xs us→r xs H Q →
  wpAny (model X.prog X.w) X.A (call f us) (EP X pins σ Q) X.xe s
def tOp (r:R2) (ta tb:TE):TE:=fun σ H Q=>ta σ H fun x H1=>tb σ H1 fun y H2=>r x y H2 Q
def rI (C:Int→Int→Prop) (g:Int→Int→V):R2:=fun x y H Q=>∃ i j,x=.int i∧y=.int j∧C i j∧Q (g i j) H
def rI0 (g:Int→Int→V):R2:=fun x y H Q=>∃ i j,x=.int i∧y=.int j∧Q (g i j) H
def rU (g:Int→V):V→Hp→VK→Prop:=fun x H Q=>∃ i,x=.int i∧Q (g i) H
section
variable {X:Cx}{a b c:Expr}{ta tb tc:TE}{pos:Pos}
theorem binT (ha:PE X a ta) (hb:PE X b tb) {pins:Pnn}{s:Shared}{σ:St}{H:Hp}{R:V→V→Hp→Prop}(I:Inv X pins σ H s)
  (h:ta σ H fun x H1=>tb σ H1 fun y H2=>R x y H2) {Q:Value→Shared→Prop}{f:Value→Value→Sem Value}
  (hf:∀ v u s2 x y H2,Inv X pins σ H2 s2→RelV x v→RelV y u→R x y H2→wpAny (model X.prog X.w) X.A (f v u) Q X.xe s2) :
  wpAny (model X.prog X.w) X.A (eval a X.env) (fun v s₁=>wpAny (model X.prog X.w) X.A (eval b X.env) (fun u s₂=>wpAny (model X.prog X.w) X.A (f v u) Q X.xe s₂) X.xe s₁) X.xe s:=by
 refine thn (ha pins s σ H _ I h) fun v s1 hq_=>?_
 obtain ⟨x,H1,I1,r1,q1⟩:=hq_
 refine thn (hb pins s1 σ H1 _ I1 q1) fun u s2 hq_=>?_
 obtain ⟨y,H2,I2,r2,q2⟩:=hq_
 exact hf v u s2 x y H2 I2 r1 r2 q2
theorem zas_ {op:Operator}{r:R2}(ho:OpR X (binaryOp op) r) (ha:PE X a ta) (hb:PE X b tb):PE X (.BinOp a op b pos) (tOp r ta tb):=by
 intro pins s σ H Q I h
 exact wpAny_BinOp (binT ha hb I h fun v u s2 x y H2 I2 rx ry q=>ho pins s2 σ H2 x y v u Q I2 rx ry q)
theorem opI {f:Value→Value→Sem Value}{C:Int→Int→Prop}{g:Int→Int→Int}
  (rule:∀ (i j:Int) (t u:Tok) (s:Shared) (Q:Value→Shared→Prop) (E:Value→Shared→Prop),C i j→Q (.int (g i j) s.toks) { s with toks:=s.toks+1 }→wpAny (model X.prog X.w) X.A (f (.int i t) (.int j u)) Q E s) :
  OpR X f (rI C fun i j=>.int (g i j)):=by
 intro pins s σ H x y v u Q I rx ry h
 obtain ⟨i,j,rfl,rfl,hc,q⟩:=h
 obtain ⟨t,rfl⟩:=rx
 obtain ⟨t',rfl⟩:=ry
 exact rule i j t t' s _ _ hc ⟨.int (g i j),H,I.tok _,⟨_,rfl⟩,q⟩
theorem opI0 {f:Value→Value→Sem Value}{g:Int→Int→Int}
  (rule:∀ (i j:Int) (t u:Tok) (s:Shared) (Q:Value→Shared→Prop) (E:Value→Shared→Prop),Q (.int (g i j) s.toks) { s with toks:=s.toks+1 }→wpAny (model X.prog X.w) X.A (f (.int i t) (.int j u)) Q E s) :
  OpR X f (rI0 fun i j=>.int (g i j)):=by
 intro pins s σ H x y v u Q I rx ry h
 obtain ⟨i,j,rfl,rfl,q⟩:=h
 obtain ⟨t,rfl⟩:=rx
 obtain ⟨t',rfl⟩:=ry
 exact rule i j t t' s _ _ ⟨.int (g i j),H,I.tok _,⟨_,rfl⟩,q⟩
theorem opB0 {f:Value→Value→Sem Value}{g:Int→Int→Bool}
  (rule:∀ (i j:Int) (t u:Tok) (s:Shared) (Q:Value→Shared→Prop) (E:Value→Shared→Prop),Q (.bool (g i j)) s→wpAny (model X.prog X.w) X.A (f (.int i t) (.int j u)) Q E s) :
  OpR X f (rI0 fun i j=>.bl (g i j)):=by
 intro pins s σ H x y v u Q I rx ry h
 obtain ⟨i,j,rfl,rfl,q⟩:=h
 obtain ⟨t,rfl⟩:=rx
 obtain ⟨t',rfl⟩:=ry
 exact rule i j t t' s _ _ ⟨.bl (g i j),H,I,rfl,q⟩
def CDiv (i j:Int):Prop:=0<j∧j<1073741824
def CPow (i j:Int):Prop:=0≤j∧j≤1000000∧i.natAbs<2 ^ 64
def CMul (i j:Int):Prop:=(-(2 ^ 64)<i∧i<2 ^ 64)∨(-(2 ^ 64)<j∧j<2 ^ 64)
theorem CMul.ok {i j:Int}(h:CMul i j):IntMulOk i j:=by
 rcases h with ⟨h1,h2⟩ | ⟨h1,h2⟩
 ·exact .of_left (intBits_le_64 h1 h2)
 ·exact .of_right (intBits_le_64 h1 h2)
theorem znH_:OpR X (binaryOp .Add) (rI0 fun i j=>.int (i+j)):=opI0 fun _ _ _ _ _ _ _ q=>add_int q
theorem znL_:OpR X (binaryOp .Sub) (rI0 fun i j=>.int (i-j)):=opI0 fun _ _ _ _ _ _ _ q=>sub_int q
theorem zod_:OpR X (binaryOp .Mod) (rI (fun _ j=>0<j) fun i j=>.int (i % j)):=opI fun i j _ _ _ _ _ hc q=>by
 have h1:(0:Int)<j:=hc
 exact mod_int' (by lia) (by rw [Int.fmod_eq_emod_of_nonneg i (by lia)]; exact q)
theorem unI {f:Value→Sem Value}{g:Int→Int}
  (rule:∀ (i:Int) (t:Tok) (s:Shared) (Q:Value→Shared→Prop) (E:Value→Shared→Prop),Q (.int (g i) s.toks) { s with toks:=s.toks+1 }→wpAny (model X.prog X.w) X.A (f (.int i t)) Q E s) :
  UnR X f (rU fun i=>.int (g i)):=by
 intro pins s σ H x v Q I rx h
 obtain ⟨i,rfl,q⟩:=h
 obtain ⟨t,rfl⟩:=rx
 exact rule i t s _ _ ⟨.int (g i),H,I.tok _,⟨_,rfl⟩,q⟩
theorem zn1_:UnR X (unaryOp .USub) (rU fun i=>.int (-i)):=unI fun _ _ _ _ _ q=>neg_int q
end
def scal:V→V→Bool
 | .non,.non=>true | .non,.int _=>true | .int _,.non=>true | .non,.bl _=>true | .bl _,.non=>true | .non,.str _=>true | .str _,.non=>true
 | .int _,.int _=>true | .bl _,.bl _=>true | .str _,.str _=>true | .byt _,.byt _=>true
 | .int _,.str _=>true | .str _,.int _=>true | .bl _,.str _=>true | .str _,.bl _=>true
 | _,_=>false
def rEq:R2:=fun x y H Q=>scal x y=true∧Q (.bl (decide (x=y))) H
def rNe:R2:=fun x y H Q=>scal x y=true∧Q (.bl (!decide (x=y))) H
theorem zjP_ {i j:Int}:decide (V.int i=V.int j)=(i == j):=by
 rw [Bool.eq_iff_iff]
 simp
theorem zlu_ {i j:Bool}:decide (V.bl i=V.bl j)=(i == j):=by
 rw [Bool.eq_iff_iff]
 simp
theorem zjq_ {i j:Str}:decide (V.str i=V.str j)=(i == j):=by
 rw [Bool.eq_iff_iff]
 simp
theorem zjA_ {i j:Array UInt8}:decide (V.byt i=V.byt j)=(i.toList == j.toList):=by
 rw [Bool.eq_iff_iff]
 cases i
 cases j
 simp
section
variable {X:Cx}{a b c:Expr}{ta tb tc:TE}{pos:Pos}
theorem zT_ {pins:Pnn}{σ:St}{H:Hp}{s:Shared}{Q:VK}{k k':Bool}(I:Inv X pins σ H s) (q:Q (.bl k) H) (e:k=k'):EP X pins σ Q (.bool k') s:=by
 subst e
 exact ⟨.bl k,H,I,rfl,q⟩
theorem op_eq:OpR X (compareOp .Eq) rEq:=by
 intro pins s σ H x y v u Q I rx ry h
 obtain ⟨hs,q⟩:=h
 cases x with
 | non =>
  cases rx
  cases y with
  | non=>cases ry; exact PySem.EqNone.eq_none_none (zT_ I q (by simp))
  | bl j=>cases ry; exact PySem.EqNone.eq_none_bool (zT_ I q (by simp))
  | int j=>obtain ⟨t',rfl⟩:=ry; exact PySem.EqNone.eq_none_int (zT_ I q (by simp))
  | str j=>obtain ⟨t',rfl⟩:=ry; exact PySem.EqNone.eq_none_str (zT_ I q (by simp))
  | _=>exact absurd (show false=true from hs) Bool.false_ne_true
 | bl i =>
  cases rx
  cases y with
  | non=>cases ry; exact PySem.EqNone.eq_bool_none (zT_ I q (by simp))
  | bl j=>cases ry; exact eq_bool (zT_ I q zlu_)
  | str j=>obtain ⟨t',rfl⟩:=ry; exact PySem.EqMixed.eq_bool_str (zT_ I q (by simp))
  | _=>exact absurd (show false=true from hs) Bool.false_ne_true
 | int i =>
  obtain ⟨t,rfl⟩:=rx
  cases y with
  | non=>cases ry; exact PySem.EqNone.eq_int_none (zT_ I q (by simp))
  | int j=>obtain ⟨t',rfl⟩:=ry; exact eq_int (zT_ I q zjP_)
  | str j=>obtain ⟨t',rfl⟩:=ry; exact PySem.EqMixed.eq_int_str (zT_ I q (by simp))
  | _=>exact absurd (show false=true from hs) Bool.false_ne_true
 | str i =>
  obtain ⟨t,rfl⟩:=rx
  cases y with
  | non=>cases ry; exact PySem.EqNone.eq_str_none (zT_ I q (by simp))
  | bl j=>cases ry; exact PySem.EqMixed.eq_str_bool (zT_ I q (by simp))
  | int j=>obtain ⟨t',rfl⟩:=ry; exact PySem.EqMixed.eq_str_int (zT_ I q (by simp))
  | str j=>obtain ⟨t',rfl⟩:=ry; exact eq_str (zT_ I q zjq_)
  | _=>exact absurd (show false=true from hs) Bool.false_ne_true
 | byt i =>
  obtain ⟨t,rfl⟩:=rx
  cases y with
  | byt j=>obtain ⟨t',rfl⟩:=ry; exact PySem.W.eq_bytes (zT_ I q zjA_)
  | _=>exact absurd (show false=true from hs) Bool.false_ne_true
 | _=>cases y<;>exact absurd (show false=true from hs) Bool.false_ne_true
theorem op_ne:OpR X (compareOp .NotEq) rNe:=by
 intro pins s σ H x y v u Q I rx ry h
 obtain ⟨hs,q⟩:=h
 cases x with
 | non =>
  cases rx
  cases y with
  | non=>cases ry; exact PySem.EqNone.ne_none_none (zT_ I q (by simp))
  | bl j=>cases ry; exact PySem.EqNone.ne_none_bool (zT_ I q (by simp))
  | int j=>obtain ⟨t',rfl⟩:=ry; exact PySem.EqNone.ne_none_int (zT_ I q (by simp))
  | str j=>obtain ⟨t',rfl⟩:=ry; exact PySem.EqNone.ne_none_str (zT_ I q (by simp))
  | _=>exact absurd (show false=true from hs) Bool.false_ne_true
 | bl i =>
  cases rx
  cases y with
  | non=>cases ry; exact PySem.EqNone.ne_bool_none (zT_ I q (by simp))
  | bl j=>cases ry; exact ne_bool (zT_ I q (congrArg not zlu_))
  | str j=>obtain ⟨t',rfl⟩:=ry; exact PySem.EqMixed.ne_bool_str (zT_ I q (by simp))
  | _=>exact absurd (show false=true from hs) Bool.false_ne_true
 | int i =>
  obtain ⟨t,rfl⟩:=rx
  cases y with
  | non=>cases ry; exact PySem.EqNone.ne_int_none (zT_ I q (by simp))
  | int j=>obtain ⟨t',rfl⟩:=ry; exact ne_int (zT_ I q (congrArg not zjP_))
  | str j=>obtain ⟨t',rfl⟩:=ry; exact PySem.EqMixed.ne_int_str (zT_ I q (by simp))
  | _=>exact absurd (show false=true from hs) Bool.false_ne_true
 | str i =>
  obtain ⟨t,rfl⟩:=rx
  cases y with
  | non=>cases ry; exact PySem.EqNone.ne_str_none (zT_ I q (by simp))
  | bl j=>cases ry; exact PySem.EqMixed.ne_str_bool (zT_ I q (by simp))
  | int j=>obtain ⟨t',rfl⟩:=ry; exact PySem.EqMixed.ne_str_int (zT_ I q (by simp))
  | str j=>obtain ⟨t',rfl⟩:=ry; exact ne_str (zT_ I q (congrArg not zjq_))
  | _=>exact absurd (show false=true from hs) Bool.false_ne_true
 | byt i =>
  obtain ⟨t,rfl⟩:=rx
  cases y with
  | byt j=>obtain ⟨t',rfl⟩:=ry; exact PySem.W.ne_bytes (zT_ I q (congrArg not zjA_))
  | _=>exact absurd (show false=true from hs) Bool.false_ne_true
 | _=>cases y<;>exact absurd (show false=true from hs) Bool.false_ne_true
theorem op_lt:OpR X (compareOp .Lt) (rI0 fun i j=>.bl (decide (i<j))):=opB0 fun _ _ _ _ _ _ _ q=>lt_int q
theorem op_le:OpR X (compareOp .LtE) (rI0 fun i j=>.bl (decide (i≤j))):=opB0 fun _ _ _ _ _ _ _ q=>le_int q
theorem op_gt:OpR X (compareOp .Gt) (rI0 fun i j=>.bl (decide (j<i))):=opB0 fun _ _ _ _ _ _ _ q=>gt_int q
theorem ziT_:OpR X (compareOp .In) (fun x y H Q=>∃ i j,x=.str i∧y=.str j∧Q (.bl (!(Builtin.Str.occurrences j i 0 j.length 1).isEmpty)) H):=by
 intro pins s σ H x y v u Q I rx ry h
 obtain ⟨i,j,rfl,rfl,q⟩:=h
 obtain ⟨t,rfl⟩:=rx
 obtain ⟨t',rfl⟩:=ry
 exact in_str (zT_ I q rfl)
theorem znv_:OpR X (compareOp .Is) (fun x y H Q=>y=.non∧Q (.bl (decide (x=.non))) H):=by
 intro pins s σ H x y v u Q I rx ry h
 obtain ⟨rfl,q⟩:=h
 cases ry
 refine is_none_gen (zT_ I q ?_)
 cases x<;>first
  | (cases rx; rfl)
  | (obtain ⟨t,rfl⟩:=rx; rfl)
theorem zmi_:OpR X (compareOp .IsNot) (fun x y H Q=>y=.non∧Q (.bl (!decide (x=.non))) H):=by
 intro pins s σ H x y v u Q I rx ry h
 obtain ⟨rfl,q⟩:=h
 cases ry
 refine isnot_none_gen (zT_ I q ?_)
 cases x<;>first
  | (cases rx; rfl)
  | (obtain ⟨t,rfl⟩:=rx; rfl)
theorem zfP_:OpR X (compareOp .NotIn) (fun x y H Q=>∃ i j,x=.str i∧y=.str j∧Q (.bl (!(!(Builtin.Str.occurrences j i 0 j.length 1).isEmpty))) H):=by
 intro pins s σ H x y v u Q I rx ry h
 obtain ⟨i,j,rfl,rfl,q⟩:=h
 obtain ⟨t,rfl⟩:=rx
 obtain ⟨t',rfl⟩:=ry
 exact notIn_str (zT_ I q rfl)
theorem zmp_ {op:CmpOp}{r:R2}(ho:OpR X (compareOp op) r) (ha:PE X a ta) (hb:PE X b tb) (hm:behindInMarks op b=false):PE X (.Compare a [op] [b] pos) (tOp r ta tb):=by
 intro pins s σ H Q I h
 exact wpAny_Compare1 (binT ha hb I h fun v u s2 x y H2 I2 rx ry q=>ho pins s2 σ H2 x y v u Q I2 rx ry q) hm
theorem line63:(sizeLine:Nat)<2 ^ 63:=by rw [sizeLine_eq]; decide
theorem zhI_:OpR X (binaryOp .Add) (fun x y H Q=>∃ i j,x=.str i∧y=.str j∧i.length+j.length≤sizeLine∧Q (.str (i++j)) H):=by
 intro pins s σ H x y v u Q I rx ry h
 obtain ⟨i,j,rfl,rfl,hz,q⟩:=h
 obtain ⟨t,rfl⟩:=rx
 obtain ⟨t',rfl⟩:=ry
 exact add_str (fun t' tk=>⟨.str (i++j),H,I.tok _,⟨_,rfl⟩,q⟩) hz
theorem vals1 {x:V}{us:List Value}(r:Vals [x] us):∃ u,us=[u]∧RelV x u:=by
 cases r with
 | cons r1 r2=>cases r2; exact ⟨_,rfl,r1⟩
theorem vals2 {x y:V}{us:List Value}(r:Vals [x,y] us):∃ u w',us=[u,w']∧RelV x u∧RelV y w':=by
 cases r with
 | cons r1 r2 =>
  cases r2 with
  | cons r3 r4=>cases r4; exact ⟨_,_,rfl,r1,r3⟩
theorem ziN_ (hc:X.calm=true):CallR X (.builtin "min") (fun xs H Q=>∃ i j,xs=[.int i,.int j]∧Q (.int (if j<i then j else i)) H):=by
 intro pins s σ H xs us Q I r h
 obtain ⟨i,j,rfl,q⟩:=h
 obtain ⟨u,w',rfl,⟨t,rfl⟩,⟨t',rfl⟩⟩:=vals2 r
 refine min_two_ints (I.ok.hd hc) fun h' tk k=>⟨_,H,I.kept k,?_,q⟩
 by_cases hj:j<i
 ·rw [if_pos hj,if_pos hj]; exact ⟨_,rfl⟩
 ·rw [if_neg hj,if_neg hj]; exact ⟨_,rfl⟩
end
end L2
namespace L2
open PySem PySem.Spec PyProof.Rows
structure ObjM (h:Heap) (x dx C:Addr) (mA:Str→Option Value):Prop where
 obj:h.get? x=some (PySem.W.instObj C dx)
 ns:h.Ns1 dx mA
 ne:dx≠x
theorem zji_ {h:Heap}{dx:Addr}{mA:Str→Option Value}(n:h.Ns1 dx mA):∃ od,h.get? dx=some od∧∀ name,PySem.W.lookIn name od=some (mA name):=by
 obtain ⟨o,es,ep,ho,hd,hk,_,hm⟩:=n
 refine ⟨o,ho,fun name=>?_⟩
 have e:=hm name
 unfold nsFind findBy at e
 rw [← Array.find?_toList] at e
 unfold PySem.W.lookIn
 rw [hd]
 dsimp only
 split
 ·rename_i y q
  rw [q] at e
  exact congrArg some e
 ·rename_i q
  rw [q] at e
  have a:es.toList.any (·.refKey)=false:=by
   rw [List.any_eq_false]
   intro y hy
   obtain ⟨z,t,hkey⟩:=hk y (Array.mem_toList_iff.mp hy)
   simp [DictEntry.refKey,hkey]
  have a':¬ es.toList.any (·.refKey)=true:=by rw [a]; exact Bool.false_ne_true
  rw [if_neg a']
  exact congrArg some e
theorem ObjM.look {h:Heap}{x dx C:Addr}{mA:Str→Option Value}(I:ObjM h x dx C mA):∃ od,PySem.W.InstAt h x (PySem.W.instObj C dx) C (some od)∧∀ name,PySem.W.lookIn name od=some (mA name) :=
 let ⟨od,ho,hl⟩:=zji_ I.ns
 ⟨od,⟨I.obj,rfl,rfl,ho⟩,hl⟩
section
variable {prog:Program}{w:World}{A:Around}{E:Value→Shared→Prop}{s:Shared}{K:Fgg}{x dx C f:Addr}{mA:Str→Option Value}{name:Str}{v:Value}
theorem zl0_ {expr:Bool}{Q:Value→Shared→Prop}(X:K.In s.heap) (I:ObjM s.heap x dx C mA) (hg:PySem.W.plainGet K C name=true) (hh:PySem.W.hasDictIn K C=true)
  (ha:PySem.W.findIn K (.ref C) name=some none) (hv:mA name=some v) (hv':PySem.W.handedIn v=true) (h:Q v { s with toks:=s.toks+1 }) :
  wpAny (model prog w) A (getAttr (.ref x) name expr) Q E s:=by
 obtain ⟨od,J,hl⟩:=I.look
 exact PySem.W.get_value X J (PySem.W.plainGet_of hg).1 (PySem.W.findObj_own hh ha rfl (by rw [hl,hv])) hv' h
theorem zl9_ {ns:List Str}{Q:Unit→Shared→Prop}(X:K.In s.heap) (I:ObjM s.heap x dx C mA)
  (hs:PySem.W.findIn K (.ref C) "__setattr__" = some (some (.builtin "object.__setattr__"))) (hp:PySem.W.plainOver K C=true) (ht:PySem.W.takerIn K C name=some none) (hh:PySem.W.hasDictIn K C=true)
  (hw:PySem.Within mA ns) (hsz:ns.length≤sizeLine)
  (h:∀ h',ObjM h' x dx C (fun y=>if y=name then some v else mA y)→Heap.SameBut dx s.heap h'→Q () { s with heap:=h',toks:=s.toks+2 }) :
  wpAny (model prog w) A (setAttr (.ref x) name v) Q E s:=by
 obtain ⟨od,J,hl⟩:=I.look
 refine PySem.W.set_plain X J hs (PySem.W.osa_open (s:={ s with toks:=s.toks+1 }) (r:=none) X J hp ht fun b=>?_)
 obtain ⟨cd,hc,hd'⟩:=PySem.W.any_some hh
 have hx:s.heap.get? x=some ⟨.ref C,some dx,.plain,#[]⟩:=I.obj
 refine wpAny_bind (wpAny_pure (wpAny_bind (wpAny_bind (wpAny_loadPart hx (wpAny_bind (PySem.W.Looks.here (s:={ s with toks:=s.toks+1 }) (PySem.W.looks_clsIn X hc) ?_))))))
 rw [hd']
 refine wpAny_pure (a:=some dx) (wpAny_bind (wpAny_pure (wpAny_bind ?_)))
 refine wpAny_nsSet1 (s:={ s with toks:=s.toks+1 }) I.ns fun h' hn2 hs2=>?_
 obtain ⟨oD,esD,epD,hoD,hdD,hcD⟩:=hn2.count (PySem.Within.cons name v hw)
 refine wpAny_bind (wpAny_lookBehind hoD (by rw [hdD]; exact pastItsLine_dict (Nat.le_trans hcD (by rw [List.length_cons]; lia))) ?_)
 exact wpAny_pure (h _ ⟨(hs2.2 _ (Ne.symm I.ne)).trans I.obj,hn2,I.ne⟩ hs2)
theorem zkW_ {R:Result→Shared→Prop}{vs:List Value}{kw:List (Str×Value)}(X:K.In s.heap) (hm:PySem.W.makesIn K C=true)
  (hi:PySem.W.findIn K (.ref C) "__init__" = some (some (.ref f))) (hf:PySem.W.typeIn K (.ref f)=some (.type "function"))
  (h:codeAny (model prog w) (A.under (.builtin "type.__call__" ⟨.ref C::vs,kw⟩)) (.call (.ref f) ⟨.ref (s.heap.objs.size+1)::vs,kw⟩) (PySem.W.InitBack (s.heap.objs.size+1) R)
   { s with heap:=(s.heap.push PySem.W.emptyDict).push (PySem.W.instObj C s.heap.objs.size) }) :
  codeAny (model prog w) A (.call (.ref C) ⟨vs,kw⟩) R s:=by
 obtain ⟨hh,g,d,t,os⟩:=s
 exact PySem.W.make_core (PySem.W.makes_of X hm) (PySem.W.looks_findIn X hi) (fun self=>PySem.W.bind_fn X self hf) (.inl rfl) h
end
def putF (f:Str) (v:V):List (Str×V)→List (Str×V)
 | []=>[(f,v)]
 | (g,x)::r=>if g=f then (g,v)::r else (g,x)::putF f v r
theorem zek_ (f g:Str) (v:V):∀ fs:List (Str×V),(putF f v fs).lookup g=if g=f then some v else fs.lookup g
 | []=>by
  show List.lookup g [(f,v)]=_
  by_cases h:g=f
  ·have hb:(g == f)=true:=beq_iff_eq.mpr h
   simp only [List.lookup,hb,if_pos h]
  ·have hb:(g == f)=false:=beq_eq_false_iff_ne.mpr h
   simp only [List.lookup,hb,if_neg h]
 | (k,x)::r=>by
  have ih:=zek_ f g v r
  rw [show putF f v ((k,x)::r)=(if k=f then (k,v)::r else (k,x)::putF f v r) from rfl]
  by_cases hk:k=f
  ·rw [if_pos hk]
   by_cases h:g=k
   ·have hb:(g == k)=true:=beq_iff_eq.mpr h
    simp only [List.lookup,hb,if_pos (h.trans hk)]
   ·have hb:(g == k)=false:=beq_eq_false_iff_ne.mpr h
    simp only [List.lookup,hb,if_neg (fun e:g=f=>h (e.trans hk.symm))]
  ·rw [if_neg hk]
   by_cases h:g=k
   ·have hb:(g == k)=true:=beq_iff_eq.mpr h
    simp only [List.lookup,hb,if_neg (fun e:g=f=>hk (h.symm.trans e))]
   ·have hb:(g == k)=false:=beq_eq_false_iff_ne.mpr h
    simp only [List.lookup,hb]
    exact ih
theorem zeN_ (f:Str) (v:V):∀ fs:List (Str×V),f∈(putF f v fs).map (·.1)∧∀ g,g∈fs.map (·.1)→g∈(putF f v fs).map (·.1)
 | []=>⟨by simp [putF],fun g h=>by simp at h⟩
 | (k,x)::r=>by
  obtain ⟨i1,i2⟩:=zeN_ f v r
  rw [show putF f v ((k,x)::r)=(if k=f then (k,v)::r else (k,x)::putF f v r) from rfl]
  by_cases hk:k=f
  ·rw [if_pos hk]
   subst hk
   exact ⟨by simp,fun g h=>by simpa using h⟩
  ·rw [if_neg hk]
   refine ⟨?_,fun g h=>?_⟩
   ·rw [List.map_cons]
    exact List.mem_cons_of_mem _ i1
   ·rw [List.map_cons] at h ⊢
    rcases List.mem_cons.mp h with e | e
    ·exact List.mem_cons.mpr (.inl e)
    ·exact List.mem_cons_of_mem _ (i2 g e)
theorem zd6_ (f:Str) (v:V):∀ fs:List (Str×V),(putF f v fs).length≤fs.length+1
 | []=>by simp [putF]
 | (k,x)::r=>by
  have ih:=zd6_ f v r
  rw [show putF f v ((k,x)::r)=(if k=f then (k,v)::r else (k,x)::putF f v r) from rfl]
  by_cases hk:k=f
  ·rw [if_pos hk,List.length_cons,List.length_cons]; lia
  ·rw [if_neg hk,List.length_cons,List.length_cons]; lia
theorem RelO.some_of {v:V}{o:Option Value}(r:RelO (some v) o):∃ u,o=some u∧RelV v u:=by
 cases o with
 | none=>exact (show False from r).elim
 | some u=>exact ⟨u,rfl,r⟩
theorem ziL_ {v:V}{u:Value}(r:RelV v u):PySem.W.handedIn u=true:=by
 cases v with
 | non=>cases (show u=Value.none from r); rfl
 | bl b=>cases (show u=Value.bool b from r); rfl
 | int i=>obtain ⟨t,e⟩:=(show ∃ t,u=Value.int i t from r); cases e; rfl
 | str x=>obtain ⟨t,e⟩:=(show ∃ t,u=Value.str x t from r); cases e; rfl
 | byt b=>obtain ⟨t,e⟩:=(show ∃ t,u=Value.bytes b t from r); cases e; rfl
 | flt b=>obtain ⟨t,e⟩:=(show ∃ t,u=Value.float b t from r); cases e; rfl
 | ref a=>cases (show u=Value.ref a from r); rfl
 | ty n=>cases (show u=Value.type n from r); rfl
section
variable {P:Program}{w:World}{H H':Hp}{h h':Heap}{a C dx:Addr}{fs fs':List (Str×V)}
theorem zhV_ (hok:HOk P w H h) (e:H a=some (.ins C dx fs)):∃ mA,ObjM h a dx C mA∧(∀ f,RelO (fs.lookup f) (mA f))∧PySem.Within mA (fs.map (·.1))∧fs.length≤1000∧H dx=some (.own a):=by
 obtain ⟨d,z,ne,ob,mA,n,r,q⟩:=(show ObjOk P w H h a (.ins C dx fs) from hok a _ e)
 exact ⟨mA,⟨ob,n,ne⟩,r,q,z,d⟩
end
structure Cls (K:Fgg) (C:Addr):Prop where
 pg:PySem.W.plainGet K C Str.empty=true
 hd:PySem.W.hasDictIn K C=true
 po:PySem.W.plainOver K C=true
 sa:PySem.W.findIn K (.ref C) "__setattr__" = some (some (.builtin "object.__setattr__"))
theorem Cls.get {K:Fgg}{C:Addr}(c:Cls K C) (f:Str):PySem.W.plainGet K C f=true:=c.pg
def NoAttr (K:Fgg) (C:Addr) (f:Str):Prop:=PySem.W.findIn K (.ref C) f=some none
theorem NoAttr.taker {K:Fgg}{C:Addr}{f:Str}(n:NoAttr K C f):PySem.W.takerIn K C f=some none:=by
 unfold PySem.W.takerIn
 rw [show PySem.W.findIn K (.ref C) f=some none from n]
 rfl
section
variable {X:Cx}{pins:Pnn}{σ:St}{H:Hp}{s:Shared}{a C dx:Addr}{fs:List (Str×V)}{f:Str}{v:V}{A:Around}{E:Value→Shared→Prop}
theorem zhG_ {b:Bool}{Q:Value→Shared→Prop}(I:Inv X pins σ H s) (e:H a=some (.ins C dx fs)) (c:Cls X.K C) (n:NoAttr X.K C f) (l:fs.lookup f=some v)
  (h:∀ u s',Inv X pins σ H s'→RelV v u→Q u s'):wpAny (model X.prog X.w) A (getAttr (.ref a) f b) Q E s:=by
 obtain ⟨mA,O,r,_,_,_⟩:=zhV_ I.hok e
 obtain ⟨u,hu,ru⟩:=RelO.some_of (v:=v) (o:=mA f) (by rw [← l]; exact r f)
 exact zl0_ I.kIn O (c.get f) c.hd n hu (ziL_ ru) (h u _ (I.tok _) ru)
theorem zhk_ {y:V}{u:Value}{Q:Unit→Shared→Prop}(I:Inv X pins σ H s) (e:H a=some (.ins C dx fs)) (c:Cls X.K C) (n:NoAttr X.K C f) (hl:fs.length<1000) (ry:RelV y u)
  (h:∀ s',Inv X pins σ (upd H a (.ins C dx (putF f y fs))) s'→Q () s'):wpAny (model X.prog X.w) A (setAttr (.ref a) f u) Q E s:=by
 obtain ⟨mA,O,r,wi,_,ho⟩:=zhV_ I.hok e
 have hz:(fs.map (·.1)).length≤sizeLine:=by rw [List.length_map,sizeLine_eq]; lia
 refine zl9_ I.kIn O c.sa c.po n.taker c.hd wi hz fun h' O' sb=>h _ ?_
 have hd:∃ o,h'.get? dx=some o:=let ⟨o,_,_,e',_⟩:=O'.ns; ⟨o,e'⟩
 refine I.write (x:=a) (e:=dx) (by rw [e]; exact True.intro) (.inr ho) (fun b q hb z=>(sb.2 b hb).trans z) hd ?_
 refine ⟨by rw [z4_ O.ne]; exact ho,?_,O.ne,O'.obj,_,O'.ns,fun g=>?_,fun g hg=>?_⟩
 ·have:=zd6_ f y fs; lia
 ·show RelO ((putF f y fs).lookup g) (if g=f then some u else mA g)
  rw [zek_]
  by_cases q:g=f
  ·rw [if_pos q,if_pos q]; exact ry
  ·rw [if_neg q,if_neg q]; exact r g
 ·by_cases q:g=f
  ·rw [q]; exact (zeN_ f y fs).1
  ·refine (zeN_ f y fs).2 g (wi g fun z=>hg ?_)
   show (if g=f then some u else mA g)=none
   rw [if_neg q]; exact z
theorem Inv.made (I:Inv X pins σ H s):Inv X pins σ (upd (upd H s.heap.objs.size (.own (s.heap.objs.size+1))) (s.heap.objs.size+1) (.ins C s.heap.objs.size []))
  { s with heap:=(s.heap.push PySem.W.emptyDict).push (PySem.W.instObj C s.heap.objs.size) }:=by
 have e1:(s.heap.push PySem.W.emptyDict).get? s.heap.objs.size=some PySem.W.emptyDict:=Heap.get?_push_size s.heap rfl
 have e2:((s.heap.push PySem.W.emptyDict).push (PySem.W.instObj C s.heap.objs.size)).get? (s.heap.objs.size+1)=some (PySem.W.instObj C s.heap.objs.size):=by
  have:=Heap.get?_push_size (s.heap.push PySem.W.emptyDict) (o:=PySem.W.instObj C s.heap.objs.size) rfl
  rwa [Heap.size_push] at this
 have e3:(s.heap.push PySem.W.emptyDict).Ns s.heap.objs.size (fun _=>none):=⟨PySem.W.emptyDict,#[],_,e1,rfl,(fun e he=>absurd he (by simp)),fun _=>rfl⟩
 have I1:=I.laid (a:=s.heap.objs.size) (o:=.own (s.heap.objs.size+1)) (h':=s.heap.push PySem.W.emptyDict) (t':=s.toks) (fun b u q=>Heap.get?_push_of_some _ q) (Nat.le_refl _) ⟨_,e1⟩
 refine I1.laid (a:=s.heap.objs.size+1) (o:=.ins C s.heap.objs.size []) (t':=s.toks) (fun b u q=>Heap.get?_push_of_some _ q) (Nat.le_of_eq (Heap.size_push _ _)) ?_
 have ne:s.heap.objs.size≠s.heap.objs.size+1:=Nat.ne_of_lt (Nat.lt_succ_self _)
 refine ⟨by rw [z4_ ne,zD_],Nat.zero_le _,ne,e2,fun _=>none,(Heap.Ns1.of_empty e3).at fun o q=>Heap.get?_push_of_some _ q,fun _=>True.intro,fun y hy=>absurd rfl hy⟩
theorem zmv_ {prog:Program}{w:World}{env:Env}{e:Expr}{f:Str}{pos:Pos}{s:Shared}{Q:Value→Shared→Prop}(hb:attributeBase e f env (eval e env)=eval e env)
  (h:wpAny (model prog w) A (eval e env) (fun o s₁=>wpAny (model prog w) A (getAttr o f true) Q E s₁) E s):wpAny (model prog w) A (eval (.Attribute e f pos) env) Q E s :=
 Attribute_any_ h (by rw [arm_eval_Attribute,hb])
end
section
variable {X:Cx}{o e value:Expr}{f:Str}{pos pos' tpos:Pos}{ta tv:TE}
end
section
variable {X:Cx}{pins:Pnn}{σ:St}{H:Hp}{s:Shared}{A:Around}{E:Value→Shared→Prop}{Q:Value→Shared→Prop}{c:Value}{b:Bool}
inductive TyOf (K:Fgg) (H:Hp):V→Value→Prop where
 | non:TyOf K H .non (.type "NoneType")
 | bl (x:Bool):TyOf K H (.bl x) (.type "bool")
 | int (i:Int):TyOf K H (.int i) (.type "int")
 | str (x:Str):TyOf K H (.str x) (.type "str")
 | flt (x:UInt64):TyOf K H (.flt x) (.type "float")
 | lst {a:Addr}{xs:List V}(e:H a=some (.lst xs)):TyOf K H (.ref a) (.type "list")
 | frz {a:Addr}{o:Obj}{xs:List V}(e:H a=some (.frz o (.lst xs))):TyOf K H (.ref a) (.type "list")
 | tup {a:Addr}{xs:List V}(e:H a=some (.tup xs)):TyOf K H (.ref a) (.type "tuple")
 | dK {a:Addr}{kvs:List (Key×V)}(e:H a=some (.dK kvs)):TyOf K H (.ref a) (.type "dict")
 | dT {a:Addr}{kvs:List (List Key×V)}(e:H a=some (.dT kvs)):TyOf K H (.ref a) (.type "dict")
 | ins {a C dx:Addr}{fs:List (Str×V)}(e:H a=some (.ins C dx fs)) (cl:Cls K C) (ha:PySem.W.findIn K (.ref C) "__class__" = some (some (.builtin "object.__class__")))
   (hn:PySem.W.specialIn K (.builtin "object.__class__") "__get__" = some (some (.builtin "getset_descriptor.__get__"))) (htk:PySem.W.takesIn K (.builtin "object.__class__")=some true)
   (hm:PySem.W.mroIn K C (.type "object")=some true):TyOf K H (.ref a) (.ref C)
theorem ziU_ {x:V}{u t:Value}(I:Inv X pins σ H s) (rx:RelV x u) (ty:TyOf X.K H x t) (e:PySem.W.kitOne X.K t c=some b) (h:∀ tk,Q (.bool b) { s with toks:=tk }) :
  wpAny (model X.prog X.w) A (call (.builtin "isinstance") [u,c]) Q E s:=by
 cases ty with
 | non=>cases (show u=Value.none from rx); exact PySem.W.kia_one PySem.W.kitx_none I.kIn True.intro e (fun z=>nomatch z) h
 | bl y=>cases (show u=Value.bool y from rx); exact PySem.W.kia_one PySem.W.kitx_bool I.kIn True.intro e (fun z=>nomatch z) h
 | int i=>obtain ⟨t,q⟩:=(show ∃ t,u=Value.int i t from rx); cases q; exact PySem.W.kia_one PySem.W.kitx_int I.kIn True.intro e (fun z=>nomatch z) h
 | str y=>obtain ⟨t,q⟩:=(show ∃ t,u=Value.str y t from rx); cases q; exact PySem.W.kia_one PySem.W.kitx_str I.kIn True.intro e (fun z=>nomatch z) h
 | flt y=>obtain ⟨t,q⟩:=(show ∃ t,u=Value.float y t from rx); cases q; exact PySem.W.kia_one PySem.W.kitx_float I.kIn True.intro e (fun z=>nomatch z) h
 | @lst a xs ea =>
  cases (show u=Value.ref a from rx)
  obtain ⟨_,_,n,_,h1⟩:=(show ObjOk X.prog X.w H s.heap a (.lst xs) from I.hok a _ ea)
  exact PySem.W.kia_one PySem.W.kitx_list I.kIn ⟨_,h1,rfl⟩ e (fun z=>nomatch z) h
 | @frz a ob xs ea =>
  cases (show u=Value.ref a from rx)
  obtain ⟨_,_,_,n,_,h1⟩:=(show ObjOk X.prog X.w H s.heap a (.frz ob (.lst xs)) from I.hok a _ ea)
  exact PySem.W.kia_one PySem.W.kitx_list I.kIn ⟨_,h1,rfl⟩ e (fun z=>nomatch z) h
 | @tup a xs ea =>
  cases (show u=Value.ref a from rx)
  obtain ⟨_,_,_,p⟩:=(show ObjOk X.prog X.w H s.heap a (.tup xs) from I.hok a _ ea)
  obtain ⟨o,h1,h2,_⟩:=p
  exact PySem.W.kia_one PySem.W.kitx_tuple I.kIn ⟨o,h1,h2⟩ e (fun z=>nomatch z) h
 | @dK a kvs ea =>
  cases (show u=Value.ref a from rx)
  obtain ⟨_,_,vs,_,p⟩:=(show ObjOk X.prog X.w H s.heap a (.dK kvs) from I.hok a _ ea)
  obtain ⟨o,es,ep,h1,h2,_⟩:=p
  exact PySem.W.kia_one PySem.W.kitx_dict I.kIn ⟨o,h1,h2.1⟩ e (fun z=>nomatch z) h
 | @dT a kvs ea =>
  cases (show u=Value.ref a from rx)
  obtain ⟨_,_,xs,_,o,es,ep,h1,h2,_⟩:=(show ObjOk X.prog X.w H s.heap a (.dT kvs) from I.hok a _ ea)
  exact PySem.W.kia_one PySem.W.kitx_dict I.kIn ⟨o,h1,h2.1⟩ e (fun z=>nomatch z) h
 | @ins a C dx fs ea cl ha hn htk hm =>
  cases (show u=Value.ref a from rx)
  obtain ⟨mA,O,_⟩:=zhV_ I.hok ea
  obtain ⟨od,J,_⟩:=O.look
  exact PySem.W.kia_one (PySem.W.kitx_own (cl.get _) cl.hd ha hn htk hm) I.kIn J e (fun z=>nomatch z) h
end
end L2
namespace L2
open PySem PySem.Spec PyProof.Rows
structure Room (k:Nat) (A:Around):Prop where
 hd:A.handled=none
 dp:A.depth+3*k+5<recursionLimit
 un:A.units+16*k+200<cLine
theorem Room.mono {j k:Nat}{A:Around}(r:Room k A) (h:j≤k):Room j A:=⟨r.hd,by have:=r.dp; lia,by have:=r.un; lia⟩
theorem Room.deeper {k:Nat}{A:Around}(r:Room (k+1) A) (env:Env):Room k (A.deeper env) :=
 ⟨r.hd,by have:=r.dp; show A.depth+1+3*k+5<_; lia,by have:=r.un; show A.units+3+16*k+200<_; lia⟩
theorem zhP_ {A:Around}{C:Addr}{us:List Value}{kw:List (Str×Value)}:(A.under (.builtin "type.__call__" ⟨.ref C::us,kw⟩)).depth=A.depth+1:=by
 first | rfl | simp [Around.under,Code.weight,Code.isCreation,Code.isGuard,Code.isCaller,Code.frames,Code.isFrame,guardIds]
theorem zhK_ {A:Around}{C:Addr}{us:List Value}{kw:List (Str×Value)}:(A.under (.builtin "type.__call__" ⟨.ref C::us,kw⟩)).units=A.units+1:=by
 first | rfl | simp [Around.under,Code.cUnits,Code.frames,Code.isFrame]
theorem Room.make {k:Nat}{A:Around}(r:Room (k+1) A) (C:Addr) (us:List Value) (kw:List (Str×Value)):Room k (A.under (.builtin "type.__call__" ⟨.ref C::us,kw⟩)) :=
 ⟨r.hd,by have:=r.dp; rw [zhP_]; lia,by have:=r.un; rw [zhK_]; lia⟩
theorem Room.depth {k:Nat}{A:Around}(r:Room k A):A.depth<recursionLimit:=by have:=r.dp; lia
theorem Room.units {k:Nat}{A:Around}(r:Room k A):A.units+64<cLine:=by have:=r.un; lia
def tNil:TA:=fun _ H Q=>Q [] H
def tCons (ta:TE) (tr:TA):TA:=fun σ H Q=>ta σ H fun x H1=>tr σ H1 fun xs H2=>Q (x::xs) H2
section
variable {X:Cx}{e:Expr}{es:List Expr}{te:TE}{t:TA}{pos:Pos}
theorem zi_:PA X [] tNil:=fun _ _ _ _ H Q I h=>Calls.spliced_nil ⟨[],H,I,.nil,h⟩
theorem zb_ (ha:PE X e te) (hr:PA X es t) (hs:starEach (e::es) X.env=(false,eval e X.env)::starEach es X.env:=by rfl):PA X (e::es) (tCons te t):=by
 intro pos pins s σ H Q I h
 rw [hs]
 show wpAny _ _ (spliced ((false,eval e X.env)::backTo pos (starEach es X.env))) _ _ s
 refine Calls.spliced_cons (thn (ha pins s σ H _ I h) fun u s1 hq_=>?_)
 obtain ⟨x,H1,I1,r1,q1⟩:=hq_
 exact thn (hr pos pins s1 σ H1 _ I1 q1) fun us s2 ⟨xs,H2,I2,r2,q2⟩=>⟨x::xs,H2,I2,.cons r1 r2,q2⟩
def tTup (t:TA):TE:=fun σ H Q=>t σ H fun xs H1=>xs.length≤sizeLine∧∀ p,H1 p=none→Q (.ref p) (upd H1 p (.tup xs))
def tLst (t:TA):TE:=fun σ H Q=>t σ H fun xs H1=>xs.length≤sizeLine∧∀ p,H1 p=none→Q (.ref p) (upd H1 p (.lst xs))
theorem zdY_ {x1} (h:PA X es t):PE X (.Tuple es x1 pos) (tTup t):=by
 intro pins s σ H Q I hq
 refine wpAny_Tuple_spliced (thn (h pos pins s σ H _ I hq) fun us s1 ⟨xs,H1,I1,r,z,q⟩=>⟨by rw [← r.length]; exact z,?_⟩)
 have hf:H1 s1.heap.objs.size=none:=I1.hok.fresh (Nat.le_refl _)
 refine ⟨.ref s1.heap.objs.size,upd H1 s1.heap.objs.size (.tup xs),I1.laid (t':=s1.toks) (fun b u e=>Heap.get?_push_of_some _ e) (Nat.le_refl _) ?_,rfl,q _ hf⟩
 exact ⟨z,us,r,⟨_,Heap.get?_push_size _ rfl,rfl,_,rfl⟩⟩
theorem zaR_ (h:PA X es t):PE X (.List es pos) (tLst t):=by
 intro pins s σ H Q I hq
 refine wpAny_List_spliced (thn (h pos pins s σ H _ I hq) fun us s1 ⟨xs,H1,I1,r,z,q⟩=>⟨by rw [← r.length]; exact z,?_⟩)
 have hf:H1 s1.heap.objs.size=none:=I1.hok.fresh (Nat.le_refl _)
 refine ⟨.ref s1.heap.objs.size,upd H1 s1.heap.objs.size (.lst xs),I1.laid (t':=s1.toks) (fun b u e=>Heap.get?_push_of_some _ e) (Nat.le_refl _) ?_,rfl,q _ hf⟩
 exact ⟨z,us,0,r,Heap.get?_push_size _ rfl⟩
end
abbrev Sp:=List V→Hp→VK→XK→Prop
abbrev CXT:=List Env→Hp→Shared→XK→Value→Shared→Prop
structure Env0 (P:Program) (w:World) (K:Fgg) (mg:Str→Option Value) (base:Heap) (A:Around) (outer:List Env) (s:Shared) (H:Hp):Prop where
 frames:A.frames=some outer
 mod:Mod K mg base
 bs:∀ b o,base.get? b=some o→s.heap.get? b=some o∧H b=none
 bsz:base.objs.size≤s.heap.objs.size
 funs:s.heap.FunFrames base outer
 frf:∀ b∈frs outer,H b=none
 hok:HOk P w H s.heap
 bare:AllBare s.gens
def CE (outer:List Env) (P:Program) (w:World) (H:Hp) (s:Shared) (Q:VK) (u:Value) (s':Shared):Prop :=
 ∃ v H',s'.os=s.os∧AllBare s'.gens∧Un (frs outer) [] H H' s.heap s'.heap∧HOk P w H' s'.heap∧RelV v u∧Q v H'
def CR (CX:CXT) (outer:List Env) (P:Program) (w:World) (H:Hp) (s:Shared) (Q:VK) (E:XK) (r:Result) (s':Shared):Prop :=
 match r with
 | .ok (.ret u)=>CE outer P w H s Q u s'
 | .ok _=>False
 | .error e=>CX outer H s E e s'
structure FnOk (P:Program) (w:World) (K:Fgg) (mg:Str→Option Value) (base:Heap) (CX:CXT) (k:Nat) (f:Addr) (fd:FuncData) (ps:List Str) (sp:Sp):Prop where
 len:∀ vs H Q E,sp vs H Q E→vs.length=ps.length
 run:∀ (A:Around) (outer:List Env) (s:Shared) (H:Hp) (args:Args) (us:List Value) (vs:List V) (Q:VK) (E:XK),Room k A→Env0 P w K mg base A outer s H→BindsTo s fd args (ps.zip us)→Vals vs us→sp vs H Q E →
  codeAny (model P w) A (.call (.ref f) args) (CR CX outer P w H s Q E) s
theorem Env0.make {P:Program}{w:World}{K:Fgg}{mg:Str→Option Value}{base:Heap}{A:Around}{outer:List Env}{s:Shared}{H:Hp}(e:Env0 P w K mg base A outer s H) (C:Addr) (us:List Value) (kw:List (Str×Value)) :
  Env0 P w K mg base (A.under (.builtin "type.__call__" ⟨.ref C::us,kw⟩)) outer s H:=⟨by first | exact e.frames | (simpa [Around.under,Code.envs,Code.isFrame,pushEnvs] using e.frames),e.mod,e.bs,e.bsz,e.funs,e.frf,e.hok,e.bare⟩
section
variable {X:Cx}{pins:Pnn}{σ:St}{H:Hp}{s s':Shared}
theorem Inv.env0 (I:Inv X pins σ H s):Env0 X.prog X.w X.K X.mg X.base X.A X.stack s H :=
 ⟨I.ok.frames,I.ok.mod,I.bs,Nat.le_trans I.ok.bsz I.sz,I.stack,I.stkFree,I.hok,I.bare⟩
theorem Inv.after {Q:VK}{u:Value}(I:Inv X pins σ H s) (h:CE X.stack X.prog X.w H s Q u s'):EP X pins σ Q u s':=by
 obtain ⟨v,H',os,bare,un,hok,r,q⟩:=h
 obtain ⟨hh,g,d,t,os'⟩:=s'
 obtain rfl:os'=s.os:=os
 exact ⟨v,H',I.call (h':=hh) (g':=g) (d':=d) (t':=t) (ch:=[]) un hok bare (fun b z=>absurd z (by simp)),r,q⟩
end
def tCall (sp:Sp) (dvs:List V) (E:XK) (t:TA):TE:=fun σ H Q=>t σ H fun vs H1=>sp (vs++dvs) H1 Q E
def Binds (K:Fgg) (fd:FuncData) (ps:List Str) (ds:List Value):Prop :=
 ∀ (s:Shared) (us:List Value),K.In s.heap→(us++ds).length=ps.length→BindsTo s fd ⟨us,[]⟩ (ps.zip (us++ds))
theorem Binds.all {K:Fgg}{fd:FuncData}{ps:List Str}(h:∀ us:List Value,us.length=ps.length→bindArgs fd ⟨us,[]⟩=pure (ps.zip us)):Binds K fd ps []:=fun s us _ hl=>by
 rw [List.append_nil] at hl ⊢
 exact .of_eq (h us hl)
def Passes (CX:CXT) (X:Cx) (E:XK):Prop:=∀ (pins:Pnn) (σ:St) (H:Hp) (s:Shared) (e:Value) (s':Shared),Inv X pins σ H s→CX X.stack H s E e s'→X.xe e s'
section
variable {X:Cx}{CX:CXT}{k:Nat}{f C:Addr}{fd:FuncData}{ps:List Str}{sp:Sp}{dvs:List V}{ds:List Value}{E:XK}{x m:Str}{p pos apos:Pos}{e o:Expr}{es:List Expr}{ta:TE}{t:TA}
theorem zof_ {pins:Pnn}{σ:St}{H:Hp}{s:Shared}{Q:VK}{us:List Value}{vs:List V}(F:FnOk X.prog X.w X.K X.mg X.base CX k f fd ps sp) (hr:Room k X.A) (hb:Binds X.K fd ps ds) (hd:Vals dvs ds) (hx:Passes CX X E)
  (I:Inv X pins σ H s) (r:Vals vs us) (h:sp (vs++dvs) H Q E):wpAny (model X.prog X.w) X.A (call (.ref f) us) (EP X pins σ Q) X.xe s:=by
 have r2:Vals (vs++dvs) (us++ds):=r.append hd
 have hl:(us++ds).length=ps.length:=by rw [← r2.length]; exact F.len _ _ _ _ h
 refine wpAny_call (codeAny_mono (F.run X.A X.stack s H ⟨us,[]⟩ (us++ds) (vs++dvs) Q E hr I.env0 (hb s us I.kIn hl) r2 h) fun r s' hq=>?_)
 cases r with
 | error e=>exact hx pins σ H s e s' I hq
 | ok fl =>
  cases fl with
  | ret u=>exact I.after hq
  | next=>exact False.elim hq
  | brk=>exact False.elim hq
  | cont=>exact False.elim hq
theorem zjt_ (F:FnOk X.prog X.w X.K X.mg X.base CX k f fd ps sp) (hr:Room k X.A) (hg:Gl X x) (hm:X.mg x=some (.ref f)) (hk:PySem.W.keepIn X.K (.ref f)=true) (hb:Binds X.K fd ps ds) (hd:Vals dvs ds) (hx:Passes CX X E)
  (ha:PA X (e::es) t) (hdb:(x == ("__debug__" : Str))=false:=by decide) (he:starEach (e::es) X.env=(false,eval e X.env)::starEach es X.env:=by rfl) (hpl:(backTo pos (starEach es X.env)).any (·.1)=false:=by rfl) :
  PE X (.Call (.Name x p) (e::es) [] pos) (tCall sp dvs E t):=by
 intro pins s σ H Q I h
 refine wpAny_Call_Name_kw (zee_ I hg hm ?_ hdb)
 refine PySem.W.callWith_K (h₀:=X.base) I.ok.mod.kin hk (thn (ha pos pins s σ H _ I h) fun us s1 ⟨vs,H1,I1,r,q⟩=>⟨I1.kIn,?_⟩) he hpl
 exact zof_ F hr hb hd hx I1 r q
structure Mk (K:Fgg) (C f:Addr):Prop where
 makes:PySem.W.makesIn K C=true
 init:PySem.W.findIn K (.ref C) "__init__" = some (some (.ref f))
 fn:PySem.W.isFn K (.ref f)=true
 kp:PySem.W.keepIn K (.ref C)=true
end
section
variable {X:Cx}{CX:CXT}{k:Nat}{f C:Addr}{fd:FuncData}{ps ks:List Str}{sp:Sp}{E:XK}{x m:Str}{p pos apos kpos:Pos}{e o:Expr}{es:List Expr}{kws:List Keyword}{te ta:TE}{t tk:TA}{nm:Option Str}
variable {g:List Value→List Value→List Value}{gV:List V→List V→List V}
end
structure FnScope (N P:List Str) (sc:Scope):Prop where
 kind:sc.kind=.function
 co:sc.isCoroutine=false
 gen:sc.isGenerator=false
 nd:N.Nodup
 pre:N.take P.length=P
 par:∀ x∈P,sc.names.lookup x=some .local∨sc.names.lookup x=some .cell
 nofree:∀ y∈sc.names,y.2≠.free
theorem zgm_ {kindOf:Str→Option NameKind}{x:Str}:∀ {binds:List (Str×Value)}{m:Str→Option Value},(∀ v,(x,v)∉binds)→bindL kindOf binds m x=m x
 | [],_,_=>rfl
 | (n,v)::r,m,h=>by
  unfold bindL
  rw [zgm_ fun w hw=>h w (List.mem_cons_of_mem _ hw)]
  split
  ·have:x≠n:=by rintro rfl; exact h v List.mem_cons_self
   simp [this]
  ·rfl
theorem zf8_ {kindOf:Str→Option NameKind}{x:Str}:∀ {binds:List (Str×Value)}{m:Str→Option Value},(∀ v,(x,v)∉binds)→bindC kindOf binds m x=m x
 | [],_,_=>rfl
 | (n,v)::r,m,h=>by
  unfold bindC
  rw [zf8_ fun w hw=>h w (List.mem_cons_of_mem _ hw)]
  split
  ·rfl
  ·have:x≠n:=by rintro rfl; exact h v List.mem_cons_self
   simp [this]
theorem zgi_ {kindOf:Str→Option NameKind}{x:Str}{v:Value}:∀ {P:List Str}{vs:List Value}{i:Nat}{m:Str→Option Value},P.Nodup→P[i]?=some x→vs[i]?=some v→kindOf x=some .local →
  bindL kindOf (P.zip vs) m x=some v
 | [],_,_,_,_,h,_,_=>by simp at h
 | _::_,[],_,_,_,_,h,_=>by simp at h
 | p::P,w::vs,0,m,nd,h1,h2,hk=>by
  simp at h1 h2; subst h1; subst h2
  show bindL kindOf ((p,w)::P.zip vs) m p=_
  unfold bindL
  rw [zgm_ fun v hv=>(List.nodup_cons.mp nd).1 (List.of_mem_zip hv).1,if_pos hk]
  simp
 | p::P,w::vs,i+1,m,nd,h1,h2,hk=>by
  show bindL kindOf ((p,w)::P.zip vs) m x=_
  unfold bindL
  exact zgi_ (i:=i) (List.nodup_cons.mp nd).2 (by simpa using h1) (by simpa using h2) hk
theorem zgq_ {kindOf:Str→Option NameKind}{x:Str}{v:Value}:∀ {P:List Str}{vs:List Value}{i:Nat}{m:Str→Option Value},P.Nodup→P[i]?=some x→vs[i]?=some v→kindOf x≠some .local →
  bindC kindOf (P.zip vs) m x=some v
 | [],_,_,_,_,h,_,_=>by simp at h
 | _::_,[],_,_,_,_,h,_=>by simp at h
 | p::P,w::vs,0,m,nd,h1,h2,hk=>by
  simp at h1 h2; subst h1; subst h2
  show bindC kindOf ((p,w)::P.zip vs) m p=_
  unfold bindC
  rw [zf8_ fun v hv=>(List.nodup_cons.mp nd).1 (List.of_mem_zip hv).1,if_neg hk]
  simp
 | p::P,w::vs,i+1,m,nd,h1,h2,hk=>by
  show bindC kindOf ((p,w)::P.zip vs) m x=_
  unfold bindC
  exact zgq_ (i:=i) (List.nodup_cons.mp nd).2 (by simpa using h1) (by simpa using h2) hk
def start (N:List Str) (vs:List V):St:=vs.map some++List.replicate (N.length-vs.length) none
def cxOf (CX:CXT) (P:Program) (w:World) (K:Fgg) (mg:Str→Option Value) (base:Heap) (N:List Str) (qual:Str) (scope:Scope) (f:Addr) (cd:Value) (A:Around) (outer:List Env) (s:Shared) (H:Hp) (E:XK):Cx where
 prog:=P
 w:=w
 K:=K
 mg:=mg
 base:=base
 A:=A.deeper (envOfC qual scope s.heap.objs.size f cd)
 N:=N
 s₀:=s
 H₀:=H
 env:=envOfC qual scope s.heap.objs.size f cd
 outer:=outer
 stack:=envOfC qual scope s.heap.objs.size f cd::outer
 ex:=[]
 calm:=true
 fn:=fun _=>true
 pn:=[]
 xe:=fun e s'=>wpAny (model P w) (A.deeper (envOfC qual scope s.heap.objs.size f cd)) (leaving (envOfC qual scope s.heap.objs.size f cd) e) (fun _ s''=>CX outer H s E e s'') (fun e' s''=>CX outer H s E e' s'') s'
theorem zhQ_ {sc:Scope}{n:Nat}{x:Str}(h:sc.names.lookup x=some .cell):∃ c,(cellsFrom n sc.names []).lookup x=some c:=by
 have q:=PySem.W.cellsFrom_some sc.names n [] (.inl h)
 exact Option.isSome_iff_exists.mp q
theorem zgl_ {CX:CXT}{P:Program}{w:World}{K:Fgg}{mg:Str→Option Value}{base:Heap}{N ps:List Str}{qual:Str}{scope:Scope}{f:Addr}{cd:Value}{A:Around}{outer:List Env}{s s1:Shared}{H:Hp}{E:XK}{us:List Value}{vs:List V}
  (S:FnScope N ps scope) (hd:A.handled=none) (e0:Env0 P w K mg base A outer s H) (hl:vs.length=ps.length) (r:Vals vs us)
  (x:InCallC s s.heap.objs.size (bindL (envOfC qual scope s.heap.objs.size f cd).kindOf (ps.zip us) fun _=>none) (cellsFrom (s.heap.objs.size+1) scope.names []) (bindC (envOfC qual scope s.heap.objs.size f cd).kindOf (ps.zip us) fun _=>none) s1) :
  Inv (cxOf CX P w K mg base N qual scope f cd A outer s H E) [] (start N vs) H s1:=by
 have hpl:ps.length≤N.length:=by have:=congrArg List.length S.pre; rw [List.length_take] at this; lia
 obtain ⟨h1,tk,rfl,hk⟩:=x.done
 have noA:∀ b:Addr,b∉(cxOf CX P w K mg base N qual scope f cd A outer s H E).ex:=fun b z=>absurd (show b∈([]:List Addr) from z) (by simp)
 refine ⟨⟨e0.mod,S.kind,rfl,rfl,Nat.le_refl _,fun y z c h1 h2=>?_,fun y hy=>?_,fun y c _ h=>?_,fun _=>hd,Around.frames_deeper e0.frames,.inr ⟨rfl,rfl⟩,fun b z=>absurd z (noA b),e0.bs,e0.bsz,fun b _ _=>noA b,fun b z=>absurd z (noA b),e0.funs,e0.frf⟩,
  rfl,e0.bare,Un.kept hk,⟨_,x.toInCall.ns,fun i y v h1 h2 h3=>?_⟩,fun y c h=>⟨_,x.cell y c h⟩,e0.hok.fresh (Nat.le_refl _),fun y c h=>?_,fun p hp=>absurd (show p∈([]:Pnn) from hp) (by simp),e0.hok.kept hk,?_⟩
 ·exact name_of_addr x.apart (PySem.mem_of_lookup h1) (PySem.mem_of_lookup h2)
 ·have hy:scope.names.lookup y=some .cell∨scope.names.lookup y=some .free:=hy
  rcases hy with hy | hy
  ·exact zhQ_ hy
  ·exact absurd rfl (S.nofree _ (PySem.mem_of_lookup hy))
 ·exact Nat.le_of_lt (x.above y c (PySem.mem_of_lookup h))
 ·have hi:i<vs.length:=by
   unfold start at h2
   by_cases hi:i<vs.length
   ·exact hi
   ·rw [List.getElem?_append_right (by simpa using hi)] at h2
    rw [List.getElem?_replicate] at h2
    split at h2<;>cases h2
  have ha:vs[i]?=some v:=by
   unfold start at h2
   rw [List.getElem?_append_left (by simpa using hi),List.getElem?_map] at h2
   cases e:vs[i]? with
   | none=>rw [e] at h2; cases h2
   | some a=>rw [e] at h2; cases h2; rfl
  obtain ⟨u,hu,rv⟩:=r.get ha
  have hp:ps[i]?=some y:=by
   rw [← S.pre,List.getElem?_take_of_lt (by lia)]; exact h1
  have ndP:ps.Nodup:=by rw [← S.pre]; exact S.nd.sublist (List.take_sublist _ _)
  refine ⟨u,rv,?_⟩
  rcases S.par y (List.mem_of_getElem? hp) with k | k
  ·exact .inl ⟨k,zgi_ ndP hp hu k⟩
  ·obtain ⟨c,e⟩:=zhQ_ (n:=s.heap.objs.size+1) k
   refine .inr ⟨.inl k,c,e,?_⟩
   have q:=x.cell y c e
   rw [zgq_ ndP hp hu (by show scope.names.lookup y≠_; rw [k]; decide)] at q
   exact q
 ·exact e0.hok.fresh (Nat.le_of_lt (x.above y c (PySem.mem_of_lookup h)))
 ·unfold start
  show _=N.length
  rw [List.length_append,List.length_map,List.length_replicate]
  lia
theorem znS_ {CX:CXT}{P:Program}{w:World}{K:Fgg}{mg:Str→Option Value}{base:Heap}{k:Nat}{f:Addr}{name qual:Str}{params:Arguments}{body:List Stmt}{scope:Scope}{dV kV doc pm cdv ct oc:Value}{an od:Option Addr}
  {osl:Array (Option Value)}{N ps:List Str}{sp:Sp}(lk:K.lookup f=some ⟨oc,od,.func (PySem.W.fnOf name qual params body scope dV kV doc pm an cdv ct),osl⟩) (hcd:PySem.W.codeIn K cdv qual=true) (S:FnScope N ps scope)
  (len:∀ vs H Q E,sp vs H Q E→vs.length=ps.length)
  (hbody:∀ (A:Around) (outer:List Env) (s:Shared) (H:Hp) (vs:List V) (Q:VK) (E:XK),Room k (A.deeper (envOfC qual scope s.heap.objs.size f cdv))→sp vs H Q E →
   ∃ t,PSs (cxOf CX P w K mg base N qual scope f cdv A outer s H E) body t∧t { nx:=fun _ H'=>Q .non H',rt:=Q } (start N vs) H) :
  FnOk P w K mg base CX (k+1) f (PySem.W.fnOf name qual params body scope dV kV doc pm an cdv ct) ps sp:=by
 refine ⟨len,fun A outer s H args us vs Q E hr e0 hb r hsp=>?_⟩
 have hl:=len _ _ _ _ hsp
 have KX:K.In s.heap:=e0.mod.kin.keeps fun b o e=>(e0.bs b o e).1
 have lim:s.heap.NoLimit:=e0.mod.nolimit.keeps fun b o e=>(e0.bs b o e).1
 have hkind:∀ y∈ps.zip us,scope.names.lookup y.1=some .local∨(scope.names.lookup y.1=some .cell∧((cellsFrom (s.heap.objs.size+1) scope.names []).lookup y.1).isSome=true):=fun ⟨n,v⟩ hy=>by
  rcases S.par n (List.of_mem_zip hy).1 with q | q
  ·exact .inl q
  ·exact .inr ⟨q,PySem.W.cellsFrom_some _ _ _ (.inl q)⟩
 refine codeAny_call_function hr.depth (KX _ _ lk) rfl S.co S.gen rfl (PySem.W.codeRec_of KX hcd) (hb _ _ _ _ ?_)
 refine wpAny_newFunctionEnv_cells S.kind hkind fun env he s1 x=>?_
 subst he
 refine ⟨lim.keeps x.toInCall.keep,codeAny_func ?_⟩
 obtain ⟨t,ht,hq⟩:=hbody A outer s H vs Q E (hr.deeper _) hsp
 have I:Inv (cxOf CX P w K mg base N qual scope f cdv A outer s H E) [] (start N vs) H s1:=zgl_ S hr.hd e0 hl r x
 refine wpAny_mono (ht [] s1 (start N vs) H _ I hq) (fun fl s' hs=>?_) fun e s' hs=>hs
 have fin:∀ {σ':St}{H':Hp}{v:V}{u:Value},Inv (cxOf CX P w K mg base N qual scope f cdv A outer s H E) [] σ' H' s'→RelV v u→Q v H'→CE outer P w H s Q u s' :=
  fun {σ' H' v u} J rv q=>⟨v,H',J.os,J.bare,J.base,J.hok,rv,q⟩
 cases fl with
 | ret u =>
  obtain ⟨v,σ',H',J,rv,q⟩:=hs
  exact fin J rv q
 | next =>
  obtain ⟨σ',H',J,q⟩:=hs
  exact fin (v:=V.non) (u:=Value.none) J rfl q
 | brk =>
  obtain ⟨_,_,_,q⟩:=hs
  exact False.elim q
 | cont =>
  obtain ⟨_,_,_,q⟩:=hs
  exact False.elim q
end L2
namespace L2
open PySem PySem.Spec PyProof.Rows
section
variable {X:Cx}{x:Str}{p pos:Pos}{e:Expr}{es:List Expr}{t:TA}{id T:String}{r:List V→Hp→VK→Prop}
def tCB (r:List V→Hp→VK→Prop) (t:TA):TE:=fun σ H Q=>t σ H fun vs H1=>r vs H1 Q
theorem zkq_ (hc:CallR X (.builtin id) r) (hg:Gl X x) (hm:X.mg x=none) (hv:bootBuiltins x=some (.builtin id)) (ha:PA X (e::es) t) (hn:x ≠ "__name__" := by decide) (hdb:(x == ("__debug__" : Str))=false:=by decide)
  (he:starEach (e::es) X.env=(false,eval e X.env)::starEach es X.env:=by rfl) (hpl:(backTo pos (starEach es X.env)).any (·.1)=false:=by rfl):PE X (.Call (.Name x p) (e::es) [] pos) (tCB r t):=by
 intro pins s σ H Q I h
 refine wpAny_Call_Name_kw (zgy_ I hg hm hv ?_ hn hdb)
 exact PyProof.Rows.callWith_builtin1 (thn (ha pos pins s σ H _ I h) fun us s1 ⟨vs,H1,I1,r1,q1⟩=>hc pins s1 σ H1 vs us Q I1 r1 q1) he hpl
theorem ziJ_ (hc:CallR X (.type T) r) (hg:Gl X x) (hm:X.mg x=none) (hv:bootBuiltins x=some (.type T)) (ha:PA X (e::es) t) (hn:x ≠ "__name__" := by decide) (hdb:(x == ("__debug__" : Str))=false:=by decide)
  (he:starEach (e::es) X.env=(false,eval e X.env)::starEach es X.env:=by rfl) (hpl:(backTo pos (starEach es X.env)).any (·.1)=false:=by rfl):PE X (.Call (.Name x p) (e::es) [] pos) (tCB r t):=by
 intro pins s σ H Q I h
 refine wpAny_Call_Name_kw (zgy_ I hg hm hv ?_ hn hdb)
 exact PyProof.Rows.callWith_type1 (thn (ha pos pins s σ H _ I h) fun us s1 ⟨vs,H1,I1,r1,q1⟩=>hc pins s1 σ H1 vs us Q I1 r1 q1) he hpl
end
end L2
namespace HT
open PySem PyProof.Rows
section
open PySem.SeqAt
open PySem.AutoSeq1 (wpAny_loadPart')
open PySem.MeetsSeq PySem.MeetsSeq2 PySem.MeetsSeq3
end
section
variable {prog:Program}{w:World}{A:Around}{E:Value→Shared→Prop}{s:Shared}
def sIx (n d:Nat):Option Int→Nat
 | none=>d
 | some v=>if v<0 then (v+(n:Int)).toNat else min v.toNat n
theorem sIx_le (n d:Nat) (hd:d≤n) (o:Option Int):sIx n d o≤n:=by
 cases o with
 | none=>exact hd
 | some v =>
  show (if v<0 then (v+(n:Int)).toNat else min v.toNat n)≤n
  by_cases hv:v<0
  ·rw [if_pos hv]; lia
  ·rw [if_neg hv]; exact Nat.min_le_right _ _
theorem zjw_ (v:Int) (n d:Nat):(if v<0 then max (v+(n:Int)) 0 else min v (n:Int))=((sIx n d (some v):Nat):Int):=by
 show (if v<0 then max (v+(n:Int)) 0 else min v (n:Int))=(((if v<0 then (v+(n:Int)).toNat else min v.toNat n):Nat):Int)
 by_cases hv:v<0
 ·simp only [if_pos hv]; lia
 ·simp only [if_neg hv]; lia
theorem zim_ (lo hi:Option Int) (n:Nat):Builtin.Slice.sliceAdjust lo hi 1 (n:Int)=(((sIx n 0 lo:Nat):Int),((sIx n n hi:Nat):Int)):=by
 have h1:¬ ((1:Int)<0):=by lia
 unfold Builtin.Slice.sliceAdjust
 simp only [h1,if_false]
 refine Prod.ext ?_ ?_
 ·cases lo with
  | none=>rfl
  | some v=>exact zjw_ v n 0
 ·cases hi with
  | none=>rfl
  | some v=>exact zjw_ v n n
theorem zhL_ (i j:Nat):Builtin.Slice.slicePlaces (i:Int) (j:Int) 1=j-i:=by
 unfold Builtin.Slice.slicePlaces
 have h1:(1:Int) > 0:=by lia
 simp only [h1,if_true,Int.ediv_one]
 split<;>lia
theorem zfq_ {v:Value}{o:Option Int}{Q:Option Int→Shared→Prop}(p:IsPart v o) (h:Q o s):wpAny (model prog w) A (Builtin.Slice.slicePartIndex v) Q E s:=by
 cases p with
 | none=>exact slicePart_none h
 | int i t=>exact slicePart_int h
theorem zdq_ {sl:Addr}{vl vu:Value}{lo hi:Option Int}{n:Nat}{Q:Int×Int×Nat→Shared→Prop}(hs:s.heap.IsSliceOf sl vl vu .none) (pl:IsPart vl lo) (pu:IsPart vu hi)
  (h:Q (((sIx n 0 lo:Nat):Int),1,sIx n n hi-sIx n 0 lo) s):wpAny (model prog w) A (Builtin.Slice.sliceApplied (.ref sl) (pure (n:Int))) Q E s:=by
 obtain ⟨os,hos,hcs,hds⟩:=id hs
 unfold Builtin.Slice.sliceApplied Builtin.Slice.sliceFields
 refine wpAny_bind (wpAny_bind (wpAny_field hos hds (x:=vl) rfl (wpAny_bind (wpAny_field hos hds (x:=vu) rfl (wpAny_bind (wpAny_field hos hds (x:=.none) rfl (wpAny_pure ?_)))))))
 refine wpAny_bind (slicePart_none ?_)
 show wpAny _ _ (if ((1:Int) == 0)=true then _ else _) _ _ s
 rw [if_neg (by decide)]
 refine wpAny_bind (zfq_ pl (wpAny_bind (zfq_ pu (wpAny_bind (wpAny_pure ?_)))))
 show wpAny _ _ (match Builtin.Slice.sliceAdjust lo hi 1 (n:Int) with | (lo,hi)=>pure (lo,(1:Int),Builtin.Slice.slicePlaces lo hi 1)) _ _ s
 rw [zim_ lo hi n]
 show wpAny _ _ (pure (((sIx n 0 lo:Nat):Int),(1:Int),Builtin.Slice.slicePlaces ((sIx n 0 lo:Nat):Int) ((sIx n n hi:Nat):Int) 1)) _ _ s
 rw [zhL_]
 exact wpAny_pure h
theorem zli_ (xs:Array Value) (i k:Nat):((List.range k).filterMap fun (m:Nat)=>xs[((i:Int)+(m:Int)*1).toNat]?).toArray=((xs.toList.drop i).take k).toArray:=by
 have e:(fun (m:Nat)=>xs[((i:Int)+(m:Int)*1).toNat]?)=fun m=>xs[i+m]?:=by
  funext m
  have:((i:Int)+(m:Int)*1).toNat=i+m:=by lia
  rw [this]
 rw [e]
 have:=pick_run xs i k
 rw [List.filterMap_map] at this
 have e2:((fun x=>xs[x]?)∘fun x=>i+x)=fun m=>xs[i+m]?:=rfl
 rw [e2] at this
 rw [this]
theorem getItem_tuple_cut {t sl:Addr}{items:Array Value}{vl vu:Value}{lo hi:Option Int}{Q:Value→Shared→Prop}(ht:IsTup s.heap t items) (hs:s.heap.IsSliceOf sl vl vu .none) (pl:IsPart vl lo) (pu:IsPart vu hi)
  (hw:¬ (sIx items.size 0 lo=0∧sIx items.size items.size hi=items.size))
  (h:Q (.ref s.heap.objs.size) { s with heap:=s.heap.push { cls:=.type "tuple",data:=.seq ((items.toList.drop (sIx items.size 0 lo)).take (sIx items.size items.size hi-sIx items.size 0 lo)).toArray } })
  (hsz:items.size≤sizeLine):wpAny (model prog w) A (getItem (.ref t) (.ref sl)) Q E s:=by
 have htake:sizeOk (.seq ((items.toList.drop (sIx items.size 0 lo)).take (sIx items.size items.size hi-sIx items.size 0 lo)).toArray):=by
  show ((items.toList.drop (sIx items.size 0 lo)).take (sIx items.size items.size hi-sIx items.size 0 lo)).toArray.size≤sizeLine
  rw [List.size_toArray,List.length_take,List.length_drop,Array.length_toList]
  lia
 have hj:sIx items.size items.size hi≤items.size:=sIx_le _ _ (Nat.le_refl _) hi
 obtain ⟨os,hos,hcs,hds⟩:=id hs
 have hTs:s.TypeIs (.ref sl) "slice" := ⟨os,hos,hcs⟩
 unfold getItem
 try with_reducible refine wpAny_holding ?_
 first | refine wpAny_bind (wpAny_pure ?_) | skip
 refine wpAny_bind (wpAny_sequenceKey ht.typeIs (by decide) ?_)
 refine wpAny_bind (wpAny_callSpecial?_slot (name:=Str.ofString "__getitem__") ht.typeIs PyProof.Rows.slot_tuple_getitem
  (wpAny_call_entry PyProof.Rows.slot_tuple_getitem ht.typeIs entry_tuple_getitem ?_ (args_tuple_getitem _ _)))
 show wpAny _ _ (Builtin.Tuple.tupleItemsOf (.ref t)>>=_) _ _ s
 refine wpAny_bind (tupleItemsOf_ ht ?_)
 refine wpAny_bind (wpAny_typeOf hTs ?_)
 rw [if_pos (by decide)]
 refine wpAny_bind (zdq_ hs pl pu ?_)
 have hno:¬ ((((sIx items.size 0 lo:Nat):Int) == 0 && (1:Int) == 1 && (sIx items.size items.size hi-sIx items.size 0 lo) == items.size)=true):=by
  intro q
  rw [Bool.and_eq_true,Bool.and_eq_true] at q
  have q1:((sIx items.size 0 lo:Nat):Int)=0:=eq_of_beq q.1.1
  have q2:sIx items.size items.size hi-sIx items.size 0 lo=items.size:=eq_of_beq q.2
  exact hw ⟨by lia,by lia⟩
 show wpAny _ _ (if (((sIx items.size 0 lo:Nat):Int) == 0 && (1:Int) == 1 && (sIx items.size items.size hi-sIx items.size 0 lo) == items.size)=true then _ else _) _ _ s
 rw [if_neg hno,zli_]
 first
  | exact wpAny_bind (m:=Builtin.Tuple.tupleExact _) (wpAny_newObj_type (wpAny_pure ⟨_,rfl,wpAny_pure h⟩) htake)
  | exact wpAny_bind (m:=Builtin.Tuple.tupleExact _) (wpAny_newObj_type (wpAny_bind (wpAny_pure (wpAny_pure ⟨_,rfl,wpAny_pure h⟩))) htake)
  | exact wpAny_bind (wpAny_bind (m:=Builtin.Tuple.tupleExact _) (wpAny_newObj_type (wpAny_pure (wpAny_pure ⟨_,rfl,wpAny_pure h⟩)) htake))
  | exact wpAny_bind (wpAny_bind (m:=Builtin.Tuple.tupleExact _) (wpAny_newObj_type (wpAny_pure ⟨_,rfl,wpAny_pure h⟩) htake))
end
end HT
namespace L2
open PySem PySem.Spec PyProof.Rows
abbrev TO:=St→Hp→(Option Int→Hp→Prop)→Prop
def PO (X:Cx) (e:Option Expr) (t:TO):Prop :=
 ∀ (pins:Pnn) (s:Shared) (σ:St) (H:Hp) (Q:Option Int→Hp→Prop),Inv X pins σ H s→t σ H Q →
  wpAny (model X.prog X.w) X.A (evalPart e X.env) (fun u s'=>∃ o H',Inv X pins σ H' s'∧IsPart u o∧Q o H') X.xe s
def tNoPart:TO:=fun _ H Q=>Q none H
section
variable {X:Cx}{e:Expr}{te:TE}{lo hi:Option Expr}{tl th:TO}{pos p2:Pos}
theorem zej_:PO X none tNoPart:=by
 intro pins s σ H Q I h
 rw [evalPart_none]
 exact wpAny_pure ⟨none,H,I,.none,h⟩
def SlR (X:Cx) (r:V→Option Int→Option Int→Hp→VK→Prop):Prop :=
 ∀ (pins:Pnn) (s:Shared) (σ:St) (H:Hp) (x:V) (v vl vu:Value) (lo hi:Option Int) (sl:Addr) (Q:VK),Inv X pins σ H s→RelV x v→s.heap.IsSliceOf sl vl vu .none→IsPart vl lo→IsPart vu hi→r x lo hi H Q →
  ∃ T id,typeLookup (.type T) "__getitem__" = pure (some (.builtin id))∧s.TypeIs v T∧wpAny (model X.prog X.w) X.A (getItem v (.ref sl)) (EP X pins σ Q) X.xe s
def tSl (r:V→Option Int→Option Int→Hp→VK→Prop) (te:TE) (tl th:TO):TE:=fun σ H Q=>te σ H fun x H1=>tl σ H1 fun l H2=>th σ H2 fun u H3=>r x l u H3 Q
theorem zcA_ {r:V→Option Int→Option Int→Hp→VK→Prop}(hr:SlR X r) (he:PE X e te) (hl:PO X lo tl) (hu:PO X hi th):PE X (.Subscript e (.Slice lo hi none p2) pos) (tSl r te tl th):=by
 intro pins s σ H Q I h
 refine Subscript_ (thn (he pins s σ H _ I h) fun v s1 hq_=>?_)
 obtain ⟨x,H1,I1,r1,q1⟩:=hq_
 refine wpAny_Slice (thn (hl pins s1 σ H1 _ I1 q1) fun vl s2 ⟨l,H2,I2,pl,q2⟩=>thn (hu pins s2 σ H2 _ I2 q2) fun vu s3 hq_=>?_)
 obtain ⟨u,H3,I3,pu,q3⟩:=hq_
 rw [evalPart_none]
 refine wpAny_pure ?_
 have I4:Inv X pins σ H3 { s3 with heap:=s3.heap.push { cls:=.type "slice",data:=.fields #[vl,vu,.none] } }:=I3.kept (t':=s3.toks) fun b ob q=>Heap.get?_push_of_some _ q
 obtain ⟨T,id,hT,ht,hg⟩:=hr pins { s3 with heap:=s3.heap.push { cls:=.type "slice",data:=.fields #[vl,vu,.none] } } σ H3 x v vl vu l u s3.heap.objs.size Q I4 r1 (Heap.IsSliceOf.new ..) pl pu q3
 show wpAny (model X.prog X.w) X.A (subscriptTail e (.Slice lo hi none p2) v (.ref s3.heap.objs.size)) (EP X pins σ Q) X.xe { s3 with heap:=s3.heap.push { cls:=.type "slice",data:=.fields #[vl,vu,.none] } }
 exact tail_any (ops:=[.ref s3.heap.objs.size,v]) ht hT hg (by with_unfolding_all rfl)
def cutV (xs:List V) (lo hi:Option Int):List V:=(xs.drop (HT.sIx xs.length 0 lo)).take (HT.sIx xs.length xs.length hi-HT.sIx xs.length 0 lo)
theorem zei_ (xs:List V) (lo hi:Option Int):(cutV xs lo hi).length≤xs.length:=by
 unfold cutV
 rw [List.length_take,List.length_drop]
 lia
def rSlT (K:Fgg):V→Option Int→Option Int→Hp→VK→Prop:=fun x lo hi H Q=>∃ a xs,x=.ref a∧SqT K H a xs ∧
 ¬ (HT.sIx xs.length 0 lo=0∧HT.sIx xs.length xs.length hi=xs.length)∧∀ p,H p=none→Q (.ref p) (upd H p (.tup (cutV xs lo hi)))
theorem znR_:SlR X (rSlT X.K):=by
 intro pins s σ H x v vl vu lo hi sl Q I rx hs pl pu h
 obtain ⟨a,xs,rfl,hx,hw,q⟩:=h
 cases rx
 obtain ⟨its,r,ht,hz⟩:=I.tuple hx
 have hlen:its.toArray.size=xs.length:=by rw [List.size_toArray]; exact r.length.symm
 refine ⟨"tuple",_,PyProof.Rows.slot_tuple_getitem.lookup,ht.typeIs,?_⟩
 refine HT.getItem_tuple_cut ht hs pl pu (by rw [hlen]; exact hw) ?_ (by rw [hlen]; exact hz)
 rw [hlen]
 refine ⟨.ref s.heap.objs.size,_,I.laid (t':=s.toks) (o:=.tup (cutV xs lo hi)) (fun b ob q=>Heap.get?_push_of_some _ q) (Nat.le_refl _) ?_,rfl,q _ (I.hok.fresh (Nat.le_refl _))⟩
 exact ⟨Nat.le_trans (zei_ xs lo hi) hz,_,(r.drop (HT.sIx xs.length 0 lo)).take (HT.sIx xs.length xs.length hi-HT.sIx xs.length 0 lo),IsTup.new _ _⟩
end
end L2
namespace L2
open PySem PySem.Spec PyProof.Rows
def ixN (n:Nat) (i:Int):Option Nat:=if 0≤i then (if i<n then some i.toNat else none) else if -(n:Int)≤i then some (i+n).toNat else none
def atI {α:Type}(xs:List α) (i:Int):Option α:=(ixN xs.length i).bind fun j=>xs[j]?
theorem zmb_ {n:Nat}{i:Int}{j:Nat}(h:ixN n i=some j):seqIndex? i n=some j∧j<n ∧ -(n:Int)≤i∧i<n:=by
 unfold ixN at h
 by_cases h0:0≤i
 ·rw [if_pos h0] at h
  by_cases h1:i<n
  ·rw [if_pos h1] at h
   have e:i.toNat=j:=Option.some.inj h
   exact ⟨by rw [seqIndex_of h0 h1,e],by lia,by lia,h1⟩
  ·rw [if_neg h1] at h; cases h
 ·rw [if_neg h0] at h
  by_cases h1 : -(n:Int)≤i
  ·rw [if_pos h1] at h
   have e:(i+n).toNat=j:=Option.some.inj h
   exact ⟨by rw [seqIndex_neg (by lia) h1,e],by lia,h1,by lia⟩
  ·rw [if_neg h1] at h; cases h
theorem zh3_ {α:Type}{xs:List α}{i:Int}{v:α}(h:atI xs i=some v):∃ j,seqIndex? i xs.length=some j∧xs[j]?=some v∧j<xs.length ∧ -(xs.length:Int)≤i∧i<xs.length:=by
 unfold atI at h
 cases e:ixN xs.length i with
 | none=>rw [e] at h; cases h
 | some j =>
  rw [e] at h
  obtain ⟨h1,h2,h3,h4⟩:=zmb_ e
  exact ⟨j,h1,h,h2,h3,h4⟩
theorem zma_ {α:Type}{xs:List α}{j:Nat}{v:α}(h:xs[j]?=some v):atI xs (j:Int)=some v:=by
 have hj:j<xs.length:=(List.getElem?_eq_some_iff.mp h).1
 have e:ixN xs.length (j:Int)=some j:=by
  unfold ixN
  rw [if_pos (by lia),if_pos (by lia)]; simp
 unfold atI; rw [e]; exact h
def PlainIx (b:Expr):Prop:=∀ o i,subscripted b false o i=operate [o,i] (getItem o i)
def IxR (X:Cx) (r:R2):Prop :=
 ∀ (value slice:Expr) (pins:Pnn) (s:Shared) (σ:St) (H:Hp) (x y:V) (v u:Value) (Q:VK),Inv X pins σ H s→RelV x v→RelV y u→r x y H Q →
  subscripted slice false v u=operate [v,u] (getItem v u)→wpAny (model X.prog X.w) X.A (subscriptTail value slice v u) (EP X pins σ Q) X.xe s
def MtR (X:Cx) (id:String) (r:V→List V→Hp→VK→Prop):Prop :=
 ∀ (pins:Pnn) (s:Shared) (σ:St) (H:Hp) (x:V) (xs:List V) (v:Value) (us:List Value) (Q:VK),Inv X pins σ H s→RelV x v→Vals xs us→r x xs H Q →
  wpAny (model X.prog X.w) X.A (call (.builtin id) (v::us)) (EP X pins σ Q) X.xe s
section
variable {X:Cx}{a b:Expr}{ta tb:TE}{pos:Pos}
theorem zG_ {r:R2}(hr:IxR X r) (ha:PE X a ta) (hb:PE X b tb) (hs:PlainIx b):PE X (.Subscript a b pos) (tOp r ta tb):=by
 intro pins s σ H Q I h
 exact Subscript_ (binT ha hb I h fun v u s2 x y H2 I2 rx ry q=>hr a b pins s2 σ H2 x y v u Q I2 rx ry q (hs _ _))
def rIxL (K:Fgg):R2:=fun x y H Q=>∃ p xs i v,x=.ref p∧y=.int i∧SqL K H p xs∧atI xs i=some v∧Q v H
def rIxT (K:Fgg):R2:=fun x y H Q=>∃ p xs i v,x=.ref p∧y=.int i∧SqT K H p xs∧atI xs i=some v∧Q v H
def rIxS:R2:=fun x y H Q=>∃ z i c,x=.str z∧y=.int i∧z.length≤sizeLine∧atI z.cps.toList i=some c∧Q (.str ⟨#[c]⟩) H
theorem zm1_:IxR X (rIxL X.K):=by
 intro value slice pins s σ H x y v u Q I rx ry h hs
 obtain ⟨p,xs,i,z,rfl,rfl,hq,he,q⟩:=h
 cases rx
 obtain ⟨t,rfl⟩:=ry
 obtain ⟨its,r,pl,hz⟩:=I.list hq
 obtain ⟨j,h1,h2,h3,h4,h5⟩:=zh3_ he
 obtain ⟨w,ew,rw'⟩:=r.get h2
 have hl:=r.length
 have hn:=line63
 have fin:EP X pins σ Q w s:=⟨z,H,I,rw',q⟩
 by_cases h0:0≤i
 ·have hj:i.toNat=j:=by
   rw [seqIndex_of h0 h5] at h1
   exact Option.some.inj h1
  exact item_listR pl.isList h0 (by lia) (by rw [hj]; simpa using ew) fin hs
 ·have hj:(i+(its.toArray.size:Int)).toNat=j:=by
   rw [seqIndex_neg (by lia) h4] at h1
   rw [List.size_toArray,← hl]
   exact Option.some.inj h1
  exact subscriptTail_builtinR (x:=w) pl.isList.typeIs slot_list_getitem.lookup
   (wpAny_getItem_list_neg (Q:=fun r s'=>r=w∧EP X pins σ Q r s') pl.isList (by lia) (by rw [List.size_toArray]<;>lia) (by lia) (by rw [hj]; simpa using ew) ⟨rfl,fin⟩) hs
theorem zoc_:IxR X (rIxT X.K):=by
 intro value slice pins s σ H x y v u Q I rx ry h hs
 obtain ⟨p,xs,i,z,rfl,rfl,hq,he,q⟩:=h
 cases rx
 obtain ⟨t,rfl⟩:=ry
 obtain ⟨its,r,pl,hz⟩:=I.tuple hq
 obtain ⟨j,h1,h2,h3,h4,h5⟩:=zh3_ he
 obtain ⟨w,ew,rw'⟩:=r.get h2
 have hl:=r.length
 have hn:=line63
 have fin:EP X pins σ Q w s:=⟨z,H,I,rw',q⟩
 exact subscriptTail_builtinR (x:=w) pl.typeIs slot_tuple_getitem.lookup
  (getItem_tuple (j:=j) (Q:=fun r s'=>r=w∧EP X pins σ Q r s') pl (by lia) (by lia) (by rw [List.size_toArray,← hl]; exact h1) (by simpa using ew) ⟨rfl,fin⟩) hs
theorem zok_:IxR X rIxS:=by
 intro value slice pins s σ H x y v u Q I rx ry h hs
 obtain ⟨z,i,c,rfl,rfl,hz,he,q⟩:=h
 obtain ⟨t,rfl⟩:=rx
 obtain ⟨t',rfl⟩:=ry
 obtain ⟨j,h1,h2,h3,h4,h5⟩:=zh3_ he
 have hl:z.cps.toList.length=z.length:=by simp [Str.length]
 rw [hl] at h1 h4 h5
 have hn:=line63
 exact tail_any (typeIs_str s z t) slot_str_getitem.lookup (getItem_str (c:=c) (by
  have e1:decide (i < -(2 ^ 63:Int))=false:=decide_eq_false (by lia)
  have e2:decide (i ≥ 2 ^ 63)=false:=decide_eq_false (by lia)
  rw [e1,e2,Bool.or_false]) (by rw [h1]; simpa using h2) ⟨.str ⟨#[c]⟩,H,I.tok _,⟨_,rfl⟩,q⟩) hs
theorem zfS_ (lo hi:Option Int) (n:Nat):(sliceBounds lo hi none n).1=((HT.sIx n 0 lo:Nat):Int)∧(sliceBounds lo hi none n).2.1=((HT.sIx n n hi:Nat):Int)∧(sliceBounds lo hi none n).2.2=1:=by
 refine ⟨?_,?_,rfl⟩
 ·cases lo with
  | none=>simp [sliceBounds,HT.sIx]
  | some i =>
   simp only [sliceBounds,HT.sIx,Option.getD_none,show (1:Int) > 0 by decide,if_true]
   by_cases h:i<0
   ·simp only [h,if_true]<;>lia
   ·simp only [h,if_false]<;>lia
 ·cases hi with
  | none=>simp [sliceBounds,HT.sIx]
  | some i =>
   simp only [sliceBounds,HT.sIx,Option.getD_none,show (1:Int) > 0 by decide,if_true]
   by_cases h:i<0
   ·simp only [h,if_true]<;>lia
   ·simp only [h,if_false]<;>lia
theorem zfu_ (its:List Value) (lo hi:Option Int):slicePick its.toArray lo hi none=((its.drop (HT.sIx its.length 0 lo)).take (HT.sIx its.length its.length hi-HT.sIx its.length 0 lo)).toArray:=by
 obtain ⟨h1,h2,h3⟩:=zfS_ lo hi its.toArray.size
 unfold slicePick
 rw [h1,h2,h3]
 simp only [sliceRange_one,pick_run,List.size_toArray]<;>rfl
def rSlL (K:Fgg):V→Option Int→Option Int→Hp→VK→Prop:=fun x lo hi H Q=>∃ a xs,x=.ref a∧SqL K H a xs∧∀ p,H p=none→Q (.ref p) (upd H p (.lst (cutV xs lo hi)))
theorem zl1_:SlR X (rSlL X.K):=by
 intro pins s σ H x v vl vu lo hi sl Q I rx hs pl pu h
 obtain ⟨a,xs,rfl,hx,q⟩:=h
 cases rx
 obtain ⟨its,r,ht,hz⟩:=I.list hx
 have hlen:=r.length
 refine ⟨"list",_,slot_list_getitem.lookup,ht.isList.typeIs,?_⟩
 refine wpAny_getItem_list_slice ht.isList hs pl pu .none (by simp) ?_ (by rw [List.size_toArray]<;>lia)
 rw [zfu_,← hlen]
 refine ⟨.ref s.heap.objs.size,_,I.laid (t':=s.toks) (o:=.lst (cutV xs lo hi)) (fun b ob q=>Heap.get?_push_of_some _ q) (Nat.le_refl _) ?_,rfl,q _ (I.hok.fresh (Nat.le_refl _))⟩
 exact ⟨Nat.le_trans (zei_ xs lo hi) hz,_,0,(r.drop (HT.sIx xs.length 0 lo)).take (HT.sIx xs.length xs.length hi-HT.sIx xs.length 0 lo),Heap.get?_push_size _ rfl⟩
def flatV:V→Bool
 | .non=>true
 | .bl _=>true
 | .int _=>true
 | .str _=>true
 | _=>false
def eqV:V→V→Bool
 | .non,.non=>true
 | .bl a,.bl b=>a == b
 | .bl a,.int b=>(if a then 1 else 0) == b
 | .int a,.bl b=>a == (if b then 1 else 0)
 | .int a,.int b=>a == b
 | .str a,.str b=>a == b
 | _,_=>false
theorem zmV_ {A:Around}{s:Shared}{y x:V}{u v:Value}(ry:RelV y u) (rx:RelV x v) (fy:flatV y=true) (fx:flatV x=true):SeqAt.EqAt A s u v (eqV y x):=by
 cases y with
 | non =>
  cases ry
  cases x with
  | non=>cases rx; exact SeqAt.EqAt.same _
  | bl b=>cases rx; exact SeqAt.EqAt.none_bool b
  | int b=>obtain ⟨t,rfl⟩:=rx; exact SeqAt.EqAt.none_int b t
  | str b=>obtain ⟨t,rfl⟩:=rx; exact SeqAt.EqAt.none_str b t
  | _=>exact absurd (show false=true from fx) Bool.false_ne_true
 | bl a =>
  cases ry
  cases x with
  | non=>cases rx; exact SeqAt.EqAt.bool_none a
  | bl b=>cases rx; exact SeqAt.EqAt.bool_bool a b
  | int b=>obtain ⟨t,rfl⟩:=rx; exact SeqAt.EqAt.bool_int a b t
  | str b=>obtain ⟨t,rfl⟩:=rx; exact SeqAt.EqAt.bool_str a b t
  | _=>exact absurd (show false=true from fx) Bool.false_ne_true
 | int a =>
  obtain ⟨t',rfl⟩:=ry
  cases x with
  | non=>cases rx; exact SeqAt.EqAt.int_none a t'
  | bl b=>cases rx; exact SeqAt.EqAt.int_bool a t' b
  | int b=>obtain ⟨t,rfl⟩:=rx; exact SeqAt.EqAt.int_int a t' b t
  | str b=>obtain ⟨t,rfl⟩:=rx; exact SeqAt.EqAt.int_str a t' b t
  | _=>exact absurd (show false=true from fx) Bool.false_ne_true
 | str a =>
  obtain ⟨t',rfl⟩:=ry
  cases x with
  | non=>cases rx; exact SeqAt.EqAt.str_none a t'
  | bl b=>cases rx; exact SeqAt.EqAt.str_bool a t' b
  | int b=>obtain ⟨t,rfl⟩:=rx; exact SeqAt.EqAt.str_int a t' b t
  | str b=>obtain ⟨t,rfl⟩:=rx; exact SeqAt.EqAt.str_str a t' b t
  | _=>exact absurd (show false=true from fx) Bool.false_ne_true
 | _=>exact absurd (show false=true from fy) Bool.false_ne_true
def eqU (x:V) (u:Value):Bool:=match u with
 | .none=>eqV .non x
 | .bool b=>eqV (.bl b) x
 | .int i _=>eqV (.int i) x
 | .str z _=>eqV (.str z) x
 | _=>false
theorem zmw_ {x y:V}{u:Value}(r:RelV y u) (f:flatV y=true):eqU x u=eqV y x:=by
 cases y with
 | non=>cases r; rfl
 | bl b=>cases r; rfl
 | int i=>obtain ⟨t,rfl⟩:=r; rfl
 | str z=>obtain ⟨t,rfl⟩:=r; rfl
 | _=>exact absurd (show false=true from f) Bool.false_ne_true
theorem zfm_ {x:V}:∀ {xs:List V}{us:List Value},Vals xs us→xs.all flatV=true→us.any (eqU x)=xs.any fun y=>eqV y x
 | _,_,.nil,_=>rfl
 | y::xs,u::us,.cons r t,f=>by
  rw [List.all_cons,Bool.and_eq_true] at f
  rw [List.any_cons,List.any_cons,zmw_ r f.1,zfm_ t f.2]
theorem zda_ {A:Around}{s:Shared}{x:V}{v:Value}(rx:RelV x v) (fx:flatV x=true):∀ {xs:List V}{us:List Value},Vals xs us→xs.all flatV=true→∀ u∈us,SeqAt.EqAt A s u v (eqU x u)
 | _,_,.nil,_=>fun u hu=>by cases hu
 | y::xs,u::us,.cons r t,f=>fun u' hu=>by
  rw [List.all_cons,Bool.and_eq_true] at f
  rcases List.mem_cons.mp hu with rfl | hu
  ·rw [zmw_ r f.1]; exact zmV_ r rx f.1 fx
  ·exact zda_ rx fx t f.2 u' hu
def inV (x:V) (xs:List V):Bool:=xs.any fun y=>eqV y x
def rIn (K:Fgg) (neg:Bool):R2:=fun x y H Q=>∃ p xs,y=.ref p∧(SqL K H p xs∨SqT K H p xs)∧flatV x=true∧xs.all flatV=true∧Q (.bl (if neg then !inV x xs else inV x xs)) H
theorem zi4_:OpR X (compareOp .In) (rIn X.K false):=by
 intro pins s σ H x y v u Q I rx ry h
 obtain ⟨p,xs,rfl,hq,fx,fs,q⟩:=h
 cases ry
 rcases hq with hq | hq
 ·obtain ⟨its,r,pl,hz⟩:=I.list hq
  refine SeqAt.in_listAt (eqU x) pl.isList (fun w hw=>zda_ rx fx r fs w (by simpa using hw)) ⟨.bl _,H,I,rfl,?_⟩
  rw [show its.toArray.any (eqU x)=its.any (eqU x) by simp,zfm_ r fs]
  exact q
 ·obtain ⟨its,r,pl,hz⟩:=I.tuple hq
  refine SeqAt.in_tupleAt (eqU x) pl (fun w hw=>zda_ rx fx r fs w (by simpa using hw)) ⟨.bl _,H,I,rfl,?_⟩
  rw [show its.toArray.any (eqU x)=its.any (eqU x) by simp,zfm_ r fs]
  exact q
theorem zfO_:OpR X (compareOp .NotIn) (rIn X.K true):=by
 intro pins s σ H x y v u Q I rx ry h
 obtain ⟨p,xs,rfl,hq,fx,fs,q⟩:=h
 cases ry
 rcases hq with hq | hq
 ·obtain ⟨its,r,pl,hz⟩:=I.list hq
  refine SeqAt.notIn_listAt (eqU x) pl.isList (fun w hw=>zda_ rx fx r fs w (by simpa using hw)) ⟨.bl _,H,I,rfl,?_⟩
  rw [show its.toArray.any (eqU x)=its.any (eqU x) by simp,zfm_ r fs]
  exact q
 ·obtain ⟨its,r,pl,hz⟩:=I.tuple hq
  refine SeqAt.notIn_tupleAt (eqU x) pl (fun w hw=>zda_ rx fx r fs w (by simpa using hw)) ⟨.bl _,H,I,rfl,?_⟩
  rw [show its.toArray.any (eqU x)=its.any (eqU x) by simp,zfm_ r fs]
  exact q
theorem zfX_:CallR X (.builtin "len") (fun xs H Q=>∃ p ys,xs=[.ref p]∧(SqL X.K H p ys∨SqT X.K H p ys)∧Q (.int ys.length) H):=by
 intro pins s σ H xs us Q I r h
 obtain ⟨p,ys,rfl,hq,q⟩:=h
 obtain ⟨u,rfl,rx⟩:=vals1 r
 cases rx
 have hn:=line63
 rcases hq with hq | hq
 ·obtain ⟨its,r',pl,hz⟩:=I.list hq
  have hlen:=r'.length
  exact Calls.call_len_list pl.isList (by simp only [List.size_toArray]<;>lia) ⟨.int ys.length,H,I.tok _,⟨s.toks+1,by rw [List.size_toArray,hlen]⟩,q⟩
 ·obtain ⟨its,r',pl,hz⟩:=I.tuple hq
  have hlen:=r'.length
  exact len_tuple pl (by simp only [List.size_toArray]<;>lia) ⟨.int ys.length,H,I.tok _,⟨s.toks+1,by rw [List.size_toArray,hlen]⟩,q⟩
theorem zfN_:CallR X (.builtin "len") (fun xs H Q=>∃ z,xs=[.str z]∧z.length≤sizeLine∧Q (.int z.length) H):=by
 intro pins s σ H xs us Q I r h
 obtain ⟨z,rfl,hz,q⟩:=h
 obtain ⟨u,rfl,t,rfl⟩:=vals1 r
 have hn:=line63
 exact len_str (by lia) ⟨.int z.length,H,I.tok _,⟨_,rfl⟩,q⟩
theorem zfY_:CallR X (.type "list") (fun xs H Q=>∃ p ys,xs=[.ref p]∧(SqL X.K H p ys∨SqT X.K H p ys)∧∀ l,H l=none→Q (.ref l) (upd H l (.lst ys))):=by
 intro pins s σ H xs us Q I r h
 obtain ⟨p,ys,rfl,hq,q⟩:=h
 obtain ⟨u,rfl,rx⟩:=vals1 r
 cases rx
 have fin:∀ (its:List Value),Vals ys its→ys.length≤sizeLine→∀ (h':Heap) (c':Nat),(∀ b o',s.heap.get? b=some o'→h'.get? b=some o') →
   h'.get? s.heap.objs.size=some { cls:=.type "list",dict:=none,data:=.seq its.toArray c',slots:=#[] }→EP X pins σ Q (.ref s.heap.objs.size) { s with heap:=h' }:=fun its r' hz h' c' kp e =>
  ⟨.ref s.heap.objs.size,_,I.laid (t':=s.toks) kp (Nat.le_refl _) (show ObjOk X.prog X.w _ h' _ (.lst ys) from ⟨hz,its,c',r',e⟩),rfl,q _ (I.hok.fresh (Nat.le_refl _))⟩
 rcases hq with hq | hq
 ·obtain ⟨its,r',pl,hz⟩:=I.list hq
  have hlen:=r'.length
  obtain ⟨o,ho,hc,n,hd⟩:=pl.isList
  exact call_list_seq p (.inl rfl) ho hc hd (fun h' c' kp e=>fin its r' hz h' c' kp e) (by simp only [List.size_toArray]<;>lia)
 ·obtain ⟨its,r',pl,hz⟩:=I.tuple hq
  have hlen:=r'.length
  obtain ⟨o,ho,hc,n,hd⟩:=pl
  exact call_list_seq p (.inr rfl) ho hc hd (fun h' c' kp e=>fin its r' hz h' c' kp e) (by simp only [List.size_toArray]<;>lia)
def tyV (K:Fgg) (T:String) (x:V) (H:Hp):Prop:=match x with
 | .str _=>T = "str"
 | .int _=>T = "int"
 | .ref p=>(T = "list" ∧ ∃ xs,SqL K H p xs)∨(T = "tuple" ∧ ∃ o,K.lookup p=some o∧o.cls=.type "tuple" ∧ o.dict=none) ∨
   (T = "dict" ∧ ((∃ kvs,H p=some (.dK kvs))∨∃ kvs,H p=some (.dT kvs)))∨(T = "set" ∧ ∃ S n,H p=some (.set S n))
 | _=>False
theorem znr_ {pins:Pnn}{σ:St}{H:Hp}{s:Shared}{T:String}{x:V}{v:Value}(I:Inv X pins σ H s) (r:RelV x v) (ty:tyV X.K T x H) :
  s.TypeIs v T∧∀ a,v=.ref a→∃ ob,s.heap.get? a=some ob∧ob.dict=none:=by
 cases x with
 | str z =>
  obtain ⟨t,rfl⟩:=r
  cases (show T = "str" from ty)
  exact ⟨typeIs_str s z t,fun _ e=>nomatch e⟩
 | int i =>
  obtain ⟨t,rfl⟩:=r
  cases (show T = "int" from ty)
  exact ⟨typeIs_int s i t,fun _ e=>nomatch e⟩
 | ref p =>
  cases r
  rcases ty with ⟨rfl,xs,hq⟩ | ⟨rfl,o,hk,hc,hd⟩ | ⟨rfl,hk⟩ | ⟨rfl,S,n,hk⟩
  ·obtain ⟨its,_,pl,_⟩:=I.list hq
   refine ⟨pl.isList.typeIs,fun a e=>?_⟩
   cases e
   obtain ⟨o,n,e,c,hd,_⟩:=pl
   exact ⟨o,e,hd⟩
  ·refine ⟨⟨o,I.kIn p o hk,hc⟩,fun a e=>?_⟩
   cases e
   exact ⟨o,I.kIn _ o hk,hd⟩
  ·have z:∃ o,s.heap.get? p=some o∧o.ExactDict:=by
    rcases hk with ⟨kvs,hk⟩ | ⟨kvs,hk⟩
    ·obtain ⟨_,_,_,_,o,_,_,e,ex,_⟩:=I.hok p _ hk
     exact ⟨o,e,ex⟩
    ·obtain ⟨_,_,_,_,o,_,_,e,ex,_⟩:=I.hok p _ hk
     exact ⟨o,e,ex⟩
   obtain ⟨o,e,ex⟩:=z
   refine ⟨⟨o,e,ex.1⟩,fun a e2=>?_⟩
   cases e2
   exact ⟨o,e,ex.2.1⟩
  ·obtain ⟨o,_,_,_,e,ex,_⟩:=I.hok p _ hk
   refine ⟨⟨o,e,ex.1⟩,fun a e2=>?_⟩
   cases e2
   exact ⟨o,e,ex.2.1⟩
 | _=>exact False.elim ty
def tBM (K:Fgg) (T:String) (r:V→List V→Hp→VK→Prop) (to:TE) (t:TA):TE:=fun σ H Q=>to σ H fun x H1=>tyV K T x H1∧t σ H1 fun xs H2=>r x xs H2 Q
variable {o e:Expr}{es:List Expr}{to:TE}{t:TA}{name:Str}{apos cpos:Pos}{T id:String}{r:V→List V→Hp→VK→Prop}
theorem ziu_ (pa:PlainAttrs T) (slot:Slot T name id) (hty:typeOf (.builtin id)=pure (.type "method_descriptor")) (hm:MtR X id r) (ho:PE X o to) (ha:PA X (e::es) t)
  (hbase:attributeBase o name X.env (eval o X.env)=eval o X.env:=by rfl)
  (hfew:((backTo cpos (starEach (e::es) X.env)).all (fun x=>!x.1) && (backToKw cpos (keywordEach [] X.env)).all (fun x=>x.1.isSome)
   && decide ((e::es).length+([]:List Keyword).length+(if ([]:List Keyword).isEmpty then 0 else 1)<30))=true:=by rfl)
  (hline:(apos.endLine == cpos.line)=true:=by rfl) (hs:starEach (e::es) X.env=(false,eval e X.env)::starEach es X.env:=by rfl) (hplain:(backTo cpos (starEach es X.env)).any (·.1)=false:=by rfl) :
  PE X (.Call (.Attribute o name apos) (e::es) [] cpos) (tBM X.K T r to t):=by
 intro pins s σ H Q I h
 refine wpAny_Call_method_late hbase hfew hline rfl (thn (ho pins s σ H _ I h) fun v s1 hq_=>?_)
 obtain ⟨x,H1,I1,r1,ty,q1⟩:=hq_
 obtain ⟨h1,h2⟩:=znr_ I1 r1 ty
 refine ⟨T,id,pa,slot,hty,h1,h2,?_⟩
 have hA:=ha cpos pins s1 σ H1 _ I1 q1
 rw [hs] at hA ⊢
 refine Calls.callWith_builtin (by show (false || (backTo cpos (starEach es X.env)).any (·.1))=false; rw [hplain]<;>rfl) (Calls.evalArgs_plain ?_)
 exact thn hA fun us s2 ⟨vs,H2,I2,r2,q2⟩=>hm pins s2 σ H2 x vs v us Q I2 r1 r2 q2
end
end L2
namespace L2
open PySem PySem.Spec PyProof.Rows
def MtM (X:Cx) (id:String) (r:V→List V→Hp→VK→Prop):Prop :=
 ∀ (pins:Pnn) (s:Shared) (σ:St) (H:Hp) (x:V) (xs:List V) (v:Value) (us:List Value) (Q:VK),Inv X pins σ H s→RelV x v→Vals xs us→r x xs H Q →
  wpAny (model X.prog X.w) X.A (call (.builtin id) (v::us)) (EP X pins σ Q) X.xe s
theorem Vals.one:∀ {x:V}{us:List Value},Vals [x] us→∃ u,us=[u]∧RelV x u
 | _,_,.cons r .nil=>⟨_,rfl,r⟩
theorem Vals.dropLast {xs:List V}{us:List Value}(h:Vals xs us):Vals xs.dropLast us.dropLast:=by
 induction h with
 | nil=>exact .nil
 | cons r t ih =>
  cases t with
  | nil=>exact .nil
  | cons q t'=>exact .cons r ih
theorem Vals.rep {xs:List V}{us:List Value}(h:Vals xs us):∀ k:Nat,Vals (List.replicate k xs).flatten (List.replicate k us).flatten
 | 0=>.nil
 | k+1=>by
  rw [List.replicate_succ,List.replicate_succ,List.flatten_cons,List.flatten_cons]
  exact Vals.append h (Vals.rep h k)
theorem zlM_ {α:Type}(l:List α):l.eraseIdx (l.length-1)=l.dropLast:=by
 induction l with
 | nil=>rfl
 | cons a r ih =>
  cases r with
  | nil=>rfl
  | cons b r =>
   have e:(a::b::r).length-1=((b::r).length-1)+1:=by
    have h1:(a::b::r).length=r.length+2:=rfl
    have h2:(b::r).length=r.length+1:=rfl
    lia
   rw [e,List.eraseIdx_cons_succ,ih]
   all_goals rfl
theorem zgw_ (its:List Value):∀ (k:Nat) (acc:List Value),
  List.foldl (fun x1 x2=>x1++x2) acc.toArray (List.replicate k its.toArray)=(acc++(List.replicate k its).flatten).toArray
 | 0,acc=>by simp
 | k+1,acc=>by
  have e:acc.toArray++its.toArray=(acc++its).toArray:=by simp
  have e2:(acc++its)++(List.replicate k its).flatten=acc++(List.replicate (k+1) its).flatten:=by
   rw [List.replicate_succ,List.flatten_cons,List.append_assoc]
  rw [← e2,← zgw_ its k (acc++its),← e,List.replicate_succ,List.foldl_cons]
section
variable {X:Cx}{pins:Pnn}{σ:St}{H:Hp}{s:Shared}{l b:Addr}{xs ys zs:List V}
theorem Inv.lset {its its':List Value}{n:Nat}{f:Array Value→Array Value}{t':Nat}(I:Inv X pins σ H s) (hH:H l=some (.lst xs))
  (e:s.heap.get? l=some { cls:=.type "list",data:=.seq its.toArray n }) (hf:f its.toArray=its'.toArray) (hv:Vals ys its') (hz:ys.length≤sizeLine) :
  Inv X pins σ (upd H l (.lst ys)) { s with heap:=s.heap.update l (Obj.mapSeq f),toks:=t' }:=by
 have q:=PySem.IsL.update e f
 rw [hf] at q
 refine I.write (x:=l) (e:=l) (by rw [hH]; exact trivial) (.inl rfl) (fun b' u hb hu=>(Heap.get?_update_other s.heap (Obj.mapSeq f) (Ne.symm hb)).trans hu) ⟨_,q⟩ ?_
 exact ⟨hz,its',_,hv,q⟩
theorem Inv.lnew {its:List Value}{t':Nat}(I:Inv X pins σ H s) (hv:Vals ys its) (hz:ys.length≤sizeLine) :
  Inv X pins σ (upd H s.heap.objs.size (.lst ys)) { s with heap:=s.heap.push { cls:=.type "list",data:=.seq its.toArray },toks:=t' } :=
 I.laid (fun _ _ q=>Heap.get?_push_of_some _ q) (Nat.le_refl _) ⟨hz,its,0,hv,Heap.get?_push_size _ rfl⟩
theorem Inv.fresh (I:Inv X pins σ H s):H s.heap.objs.size=none:=I.hok.fresh (Nat.le_refl _)
theorem Inv.lstM (I:Inv X pins σ H s) (hH:H l=some (.lst xs)):xs.length≤sizeLine∧∃ (its:List Value) (n:Nat),Vals xs its∧xs.length=its.length∧s.heap.get? l=some { cls:=.type "list",data:=.seq its.toArray n }:=by
 obtain ⟨z,its,n,r,e⟩:=I.hok l _ hH
 exact ⟨z,its,n,r,r.length,e⟩
theorem notLongL {n:Nat}(h:n≤sizeLine):Builtin.List.listTooLong n=false:=by
 unfold Builtin.List.listTooLong
 exact decide_eq_false (by lia)
end
section
variable {X:Cx}
def rAppend:V→List V→Hp→VK→Prop:=fun x vs H Q=>∃ l xs y,x=.ref l∧vs=[y]∧H l=some (.lst xs)∧xs.length<sizeLine∧Q .non (upd H l (.lst (xs++[y])))
theorem zaC_:MtM X "list.append" rAppend:=by
 intro pins s σ H x vs v us Q I rx rv h
 obtain ⟨l,xs,y,rfl,rfl,hH,hz,q⟩:=h
 cases rx
 obtain ⟨u,rfl,ru⟩:=rv.one
 obtain ⟨z,its,n,r,hl,e⟩:=I.lstM hH
 refine call_meets F.slot_list_append ⟨_,e,rfl⟩ F.entry_list_append (F.args_list_append_2 _ _) (PySem.list_append l its.toArray n u (by rw [List.size_toArray]; lia)) ⟨e,?_⟩
 refine ⟨.non,_,I.lset (its':=its++[u]) hH e (by simp) (r.append (.cons ru .nil)) ?_,rfl,q⟩
 rw [List.length_append,List.length_singleton]
 lia
def rExtend:V→List V→Hp→VK→Prop:=fun x vs H Q=>∃ l b xs zs,x=.ref l∧vs=[.ref b]∧H l=some (.lst xs)∧H b=some (.lst zs)∧xs.length+zs.length≤sizeLine∧Q .non (upd H l (.lst (xs++zs)))
theorem zeJ_:MtM X "list.extend" rExtend:=by
 intro pins s σ H x vs v us Q I rx rv h
 obtain ⟨l,b,xs,zs,rfl,rfl,hH,hB,hz,q⟩:=h
 cases rx
 obtain ⟨u,rfl,ru⟩:=rv.one
 cases ru
 obtain ⟨z,its,n,r,hl,e⟩:=I.lstM hH
 obtain ⟨z2,its2,n2,r2,hl2,e2⟩:=I.lstM hB
 have hsz:its.toArray.size+its2.toArray.size≤sizeLine:=by rw [List.size_toArray,List.size_toArray]; lia
 have hlong:¬ (!its.toArray.isEmpty && Builtin.List.listTooLong (its.toArray.size+its2.toArray.size))=true:=by
  rw [notLongL hsz,Bool.and_false]
  exact Bool.false_ne_true
 refine call_meets F.slot_list_extend ⟨_,e,rfl⟩ F.entry_list_extend (F.args_list_extend_2 _ _)
  (AutoSeq1.list_extend_list_list_0 l its.toArray n b its2.toArray n2 hlong (by rw [List.size_toArray]; lia) (by lia)) ⟨e,e2,?_⟩
 refine ⟨.non,_,I.lset (its':=its++its2) hH e (by simp) (r.append r2) ?_,rfl,q⟩
 rw [List.length_append]
 lia
def rCat:R2:=fun x y H Q=>∃ l b xs zs,x=.ref l∧y=.ref b∧H l=some (.lst xs)∧H b=some (.lst zs)∧xs.length+zs.length≤sizeLine∧∀ p,H p=none→Q (.ref p) (upd H p (.lst (xs++zs)))
theorem zn3_:OpR X (binaryOp .Add) rCat:=by
 intro pins s σ H x y v u Q I rx ry h
 obtain ⟨l,b,xs,zs,rfl,rfl,hH,hB,hz,q⟩:=h
 cases rx
 cases ry
 obtain ⟨z,its,n,r,hl,e⟩:=I.lstM hH
 obtain ⟨z2,its2,n2,r2,hl2,e2⟩:=I.lstM hB
 refine PySem.P.add_list e e2 ?_ (by rw [List.size_toArray,List.size_toArray]; lia)
 have ea:its.toArray++its2.toArray=(its++its2).toArray:=by simp
 rw [ea]
 exact ⟨.ref _,_,I.lnew (t':=s.toks) (r.append r2) (by rw [List.length_append]; lia),rfl,q _ I.fresh⟩
def rRep:R2:=fun x y H Q=>∃ l k xs,x=.ref l∧y=.int k∧H l=some (.lst xs) ∧ -(2 ^ 63)≤k∧k<2 ^ 63∧xs.length*k.toNat≤sizeLine ∧
 ∀ p,H p=none→Q (.ref p) (upd H p (.lst (List.replicate k.toNat xs).flatten))
theorem zjx_ {α:Type}(xs:List α) (k:Nat):(List.replicate k xs).flatten.length=k*xs.length:=by
 induction k with
 | zero=>simp
 | succ k ih=>rw [List.replicate_succ,List.flatten_cons,List.length_append,ih,Nat.succ_mul,Nat.add_comm]
theorem znl_:OpR X (binaryOp .Mult) rRep:=by
 intro pins s σ H x y v u Q I rx ry h
 obtain ⟨l,k,xs,rfl,rfl,hH,h1,h2,hz,q⟩:=h
 cases rx
 obtain ⟨t,rfl⟩:=ry
 obtain ⟨z,its,n,r,hl,e⟩:=I.lstM hH
 have hlen:its.toArray.size*k.toNat≤sizeLine:=by rw [List.size_toArray,← hl]; exact hz
 have hcap:¬ its.toArray.size*k.toNat > (2 ^ 63-1) / 8:=by
  have:(sizeLine:Nat)≤(2 ^ 63-1) / 8:=by decide
  lia
 have hfit:¬ (!Builtin.List.listFitsIndex k)=true:=by
  rw [fitsIndex_both h1 h2]
  exact Bool.false_ne_true
 have hlong:¬ Builtin.List.listTooLong (its.toArray.size*k.toNat)=true:=by
  rw [notLongL hlen]
  exact Bool.false_ne_true
 have hnew:List.foldl (fun x1 x2=>x1++x2) #[] (List.replicate (if its.toArray.isEmpty=true then 0 else k.toNat) its.toArray)=(List.replicate k.toNat its).flatten.toArray:=by
  have f0:∀ m:Nat,List.foldl (fun x1 x2=>x1++x2) #[] (List.replicate m its.toArray)=(List.replicate m its).flatten.toArray:=fun m=>by
   have:=zgw_ its m []
   rw [List.nil_append] at this
   exact this
  rw [f0]
  cases its with
  | nil=>simp
  | cons a r'=>rw [if_neg (by simp)]
 refine wpAny_binaryOp_repeat_ref (T := "list") (U := "int") (by decide) ⟨_,e,rfl⟩ (fun s'=>typeIs_int s' k t) noFill_list_mul F.fills_int_mul F.slot_int_rmul repeat_list F.slot_int_index.lookup
  (call_meets F.slot_int_rmul (typeIs_int s k t) F.entry_int_rmul (F.args_int_rmul_2 _ _) (int___rmul___int_list k t l its.toArray n)
   ⟨e,rfl,⟨_,e,rfl⟩,call_meets F.slot_list_mul ⟨_,e,rfl⟩ F.entry_list_mul (F.args_list_mul_2 _ _) (AutoListH.list___mul___list_int_3 l its.toArray n k t hfit hcap hlong) ⟨e,?_⟩⟩)
 rw [hnew]
 exact ⟨.ref _,_,I.lnew (t':=s.toks) (r.rep k.toNat) (by rw [zjx_,Nat.mul_comm]; exact hz),rfl,q _ I.fresh⟩
end
section
variable {prog:Program}{w:World}{A:Around}{E:Value→Shared→Prop}{s:Shared}
end
section
variable {X:Cx}
end
end L2
namespace Att
open PySem PySem.W PySem.Calls PyProof.Rows
theorem zdU_ {P:Params}{h:Heap}:∀ (ns:List Int) (vs:List Value),WellAll P h vs (ns.map WData.int)→IntsAre vs ns:=by
 intro ns
 induction ns with
 | nil =>
  intro vs w
  rw [List.map_nil] at w
  cases w
  exact .nil
 | cons n ns ih =>
  intro vs w
  rw [List.map_cons] at w
  cases w with
  | cons a b =>
   cases a
   exact .cons _ _ (ih _ b)
theorem zi9_ {l:OpenLaw}{n:Nat}(hn:l.most=some n) {P:Params}{h:Heap}{args:List WData}{vals:List Value}
  (hpre:l.row.toRowW.claim.pre args=true) (hwl:WellAll P h vals args) :
  ∃ a vs ns,vals=[Value.ref a]∧args=[WData.list (ns.map WData.int)]∧h.get? a=some { cls:=.type "list",data:=.seq vs.toArray }∧IntsAre vs ns∧ns.length≤n:=by
 have hsh:WShape.hasAll [] args [.list .int]=true:=(pre_splitW hpre).1
 have hc:l.pre.holds [] { args:=args }=true:=(pre_splitW hpre).2
 obtain ⟨d,r,rfl,h1,h2⟩:=hasAllW_cons hsh
 obtain rfl:=hasAllW_nil h2
 obtain ⟨xs,rfl,h3⟩:=hasW_list h1
 obtain ⟨ns,rfl⟩:=items_int h3
 have hlen:ns.length≤n:=by
  unfold OpenLaw.pre at hc
  have h4:(WTm.not (.lt (.lit (.int (n:Int))) (.len (.arg 0)))).holds [] { args:=[.list (ns.map .int)] }=true:=by
   have h4:=(holds_andW hc).1
   rw [hn] at h4
   exact h4
  have h5:=condW_of h4 (w_not (w_lt w_lit (w_len_list (w_arg rfl))))
  rw [List.length_map] at h5
  refine Nat.le_of_not_lt fun q=>?_
  have q':(n:Int)<((ns.length:Nat):Int):=by lia
  first
   | (rw [decide_eq_true q'] at h5; exact absurd h5 (by decide))
   | (simp at h5; lia)
 cases hwl with
 | cons w1 w2 =>
  cases w2
  cases w1 with
  | list ho hall=>exact ⟨_,_,ns,rfl,rfl,ho,zdU_ ns _ hall,hlen⟩
theorem ziV_ (l:OpenLaw) (args:List WData):l.row.toRowW.claim.post args (.bool true) args=true :=
 postW_of (r:=l.row.toRowW) (X:=(true == true))
  (show WShape.has [] (.bool true) .bool=true by first | rfl | decide | simp [WShape.has,WShape.arms,WShape.armsAll])
  (show (WTm.eq .res (.lit (.bool true))).value [] { args:=args,res:=some (.bool true),after:=args }=some (.bool (true == true)) from w_eq_bool (w_res rfl) w_lit) rfl
section
variable {prog:Program}{w:World}{A:Around}{E:Value→Shared→Prop}{s:Shared}{K:Frag}
end
end Att
namespace L2
open PySem PySem.Spec PyProof.Rows
theorem zgo_:∀ {vs:List Value}{ns:List Int},IntsAre vs ns→Vals (ns.map V.int) vs
 | _,_,.nil=>.nil
 | _,_,.cons n t h=>.cons ⟨t,rfl⟩ (zgo_ h)
def Only (H:Hp):Prop:=∀ b,H b=none∨∃ o xs,H b=some (.frz o (.lst xs))
theorem zk8_ {P:Program}{w:World}{K:Fgg}{mg mb:Str→Option Value}{CX:CXT}{k:Nat}{fa a:Addr}{fd:FuncData}{x:Str}{sp:Sp}{s₁:Shared}{vs:List Value}{ns:List Int}
  (KX:K.In s₁.heap) (hns:s₁.heap.Ns mainGlobals mg) (hb:s₁.heap.Ns builtinsNs mb) (hbb:∀ x:Str,x ≠ "__name__" → mb x=bootBuiltins x) (hlim:s₁.heap.NoLimit) (hg:s₁.gens=#[])
  (ha:s₁.heap.get? a=some { cls:=.type "list",data:=.seq vs.toArray }) (hi:IntsAre vs ns) (hl:ns.length≤sizeLine) (hr:Room k callerA)
  (F:∀ base:Heap,K.In base→base.Ns mainGlobals mg→FnOk P w K mg base CX k fa fd [x] sp) (hbind:∀ (s:Shared) (u:Value),BindsTo s fd ⟨[u],[]⟩ [(x,u)])
  (hsp:∀ H:Hp,Only H→SqL K H a (ns.map V.int)→sp [.ref a] H (fun v _=>v=.bl true) fun _ _ _=>False)
  (hCX:∀ H e s',CX [] H s₁ (fun _ _ _=>False) e s'→False) :
  codeAny (model P w) callerA (.call (.ref fa) ⟨[.ref a],[]⟩) (fun r s'=>r=.ok (.ret (.bool true))∧OldK s₁.heap s'.heap∧s'.os=s₁.os∧AllBare s'.gens) s₁:=by
 have rv:=zgo_ hi
 have lenV:=hi.length
 have core:∀ H:Hp,Only H→SqL K H a (ns.map V.int)→HOk P w H s₁.heap→(∀ b,H b≠none→b=a)→(H a≠none→K.lookup a=none) →
   codeAny (model P w) callerA (.call (.ref fa) ⟨[.ref a],[]⟩) (fun r s'=>r=.ok (.ret (.bool true))∧OldK s₁.heap s'.heap∧s'.os=s₁.os∧AllBare s'.gens) s₁:=by
  intro H hO hS hok hA hK
  have base_of:∀ {b:Addr}{o:Obj},s₁.heap.get? b=some o→H b=none→(hidT s₁.heap H).get? b=some o:=fun e n=>zkB_ e n
  have noA:∀ {b:Addr}{o:Obj}{es:Array DictEntry}{ep:Nat},s₁.heap.get? b=some o→o.data=.dict es ep→H b=none:=fun {b o es ep} e d=>by
   cases q:H b with
   | none=>rfl
   | some u =>
    have e':b=a:=hA b (by rw [q]; simp)
    subst e'
    rw [ha] at e; cases e
    have d':Data.seq vs.toArray _=Data.dict es ep:=d
    cases d'
  have nsK:∀ {b:Addr}{m:Str→Option Value},s₁.heap.Ns b m→(hidT s₁.heap H).Ns b m:=fun {b m} ⟨o,es,ep,e,d,r⟩=>⟨o,es,ep,base_of e (noA e d),d,r⟩
  have hKb:K.In (hidT s₁.heap H):=fun b o e=>base_of (KX b o e) (by
   cases q:H b with
   | none=>rfl
   | some u =>
    have e':b=a:=hA b (by rw [q]; simp)
    subst e'
    rw [hK (by rw [q]; simp)] at e; cases e)
  have hM:Mod K mg (hidT s₁.heap H):=⟨hKb,nsK hns,⟨mb,nsK hb,hbb⟩,let ⟨mc,h1,h2⟩:=hlim; ⟨mc,nsK h1,h2⟩⟩
  have e0:Env0 P w K mg (hidT s₁.heap H) callerA [] s₁ H:=⟨rfl,hM,fun b o e=>zmh_ e,Nat.le_of_eq (zjh_ _ _),trivial,fun b hb=>absurd (show b∈([]:List Addr) from hb) (by simp),hok,.of_eq hg⟩
  refine codeAny_mono ((F _ hKb (nsK hns)).run callerA [] s₁ H ⟨[.ref a],[]⟩ [.ref a] [.ref a] _ _ hr e0 (hbind s₁ (.ref a)) (.cons rfl .nil) (hsp H hO hS)) fun r s' h=>?_
  cases r with
  | error e=>exact (hCX H e s' h).elim
  | ok fl =>
   cases fl with
   | next=>exact False.elim h
   | brk=>exact False.elim h
   | cont=>exact False.elim h
   | ret u =>
    obtain ⟨v,H',os,bare,un,hok',r',q⟩:=h
    have q':v=.bl true:=q
    subst q'
    obtain rfl:u=Value.bool true:=r'
    refine ⟨rfl,OldK.of_keep fun b o e=>?_,os,bare⟩
    cases q:H b with
    | none=>exact un.keep b o e q (by intro z; exact absurd (show b∈([]:List Addr) from z) (by simp)) (by simp)
    | some u =>
     rcases hO b with z | ⟨ob,xs,z⟩
     ·rw [q] at z; cases z
     ·have z2:=un.frzs b ob _ z
      obtain ⟨e1,_⟩:=hok b _ z
      obtain ⟨e2,_⟩:=hok' b _ z2
      rw [e] at e1; cases e1
      exact e2
 cases hk:K.lookup a with
 | some o =>
  have e:=KX a o hk
  rw [ha] at e
  cases e
  refine core (fun _=>none) (fun _=>.inl rfl) (.inr ⟨_,vs.toArray,_,hk,rfl,rfl,rfl,by rw [List.size_toArray,lenV]; exact hl,by simpa using rv⟩) (fun b u z=>by have z':(none:Option HO)=some u:=z; cases z') (fun b z=>absurd rfl z) fun z=>absurd rfl z
 | none =>
  refine core (fun b=>if b=a then some (.frz { cls:=.type "list",data:=.seq vs.toArray } (.lst (ns.map V.int))) else none) (fun b=>?_) (.inl (.inr ⟨{ cls:=.type "list",data:=.seq vs.toArray },if_pos rfl⟩)) (fun b u z=>?_) (fun b z=>?_) fun _=>hk
  ·by_cases hb:b=a
   ·exact .inr ⟨_,_,if_pos hb⟩
   ·exact .inl (if_neg hb)
  ·by_cases hb:b=a
   ·have z':=(if_pos hb).symm.trans z
    cases z'
    subst hb
    exact ⟨ha,by rw [List.length_map]; exact hl,vs,_,rv,ha⟩
   ·have z':=(if_neg hb).symm.trans z
    cases z'
  ·by_cases hb:b=a
   ·exact hb
   ·exact absurd (if_neg hb) z
end L2
namespace L2
open PySem PySem.Spec PyProof.Rows
end L2
namespace L2
open PySem PySem.Spec PyProof.Rows
def inClass (s:Stmt) (j:Nat):Stmt:=match s with
 | .ClassDef _ _ _ body _ _ _ _ _ _ _=>body.getD j (.Pass ⟨0,0,0,0⟩)
 | _=>.Pass ⟨0,0,0,0⟩
def defArgs (s:Stmt):Arguments:=match s with
 | .FunctionDef _ a _ _ _ _ _ _ _ _=>a
 | _=>{ posonlyargs:=[],args:=[],vararg:=none,kwonlyargs:=[],kw_defaults:=[],kwarg:=none,defaults:=[] }
def defBody (s:Stmt):List Stmt:=match s with
 | .FunctionDef _ _ b _ _ _ _ _ _ _=>b
 | _=>[]
def defScope (s:Stmt):Scope:=match s with
 | .FunctionDef _ _ _ _ _ _ sc _ _ _=>sc
 | _=>{ kind:=.function,names:=[],isGenerator:=false,isCoroutine:=false }
abbrev CX0:CXT:=fun _ _ _ _ _ _=>False
abbrev E0:XK:=fun _ _ _=>False
theorem pass0 {X:Cx}:Passes CX0 X E0:=fun _ _ _ _ _ _ _ h=>h.elim
structure Fun (K:Fgg) (x qual:Str) (st:Stmt) (f:Addr) (fd:FuncData):Prop where
 ex:∃ (oc:Value) (od:Option Addr) (kV doc pm:Value) (an:Option Addr) (cdv ct:Value) (osl:Array (Option Value)),
  fd=PySem.W.fnOf x qual (defArgs st) (defBody st) (defScope st) .none kV doc pm an cdv ct∧K.lookup f=some ⟨oc,od,.func fd,osl⟩∧PySem.W.codeIn K cdv qual=true
 kp:PySem.W.keepIn K (.ref f)=true
section
variable {P:Program}{w:World}{K:Fgg}{mg:Str→Option Value}{base:Heap}
theorem Fun.ok {x qual:Str}{st:Stmt}{f:Addr}{fd:FuncData}{N ps:List Str}{k:Nat}{sp:Sp}(F:Fun K x qual st f fd) (S:FnScope N ps (defScope st)) (len:∀ vs H Q E,sp vs H Q E→vs.length=ps.length)
  (hbody:∀ (cdv:Value) (A:Around) (outer:List Env) (s:Shared) (H:Hp) (vs:List V) (Q:VK) (E:XK),Room k (A.deeper (envOfC qual (defScope st) s.heap.objs.size f cdv))→sp vs H Q E →
   ∃ t,PSs (cxOf CX0 P w K mg base N qual (defScope st) f cdv A outer s H E).nox (defBody st) t∧t { nx:=fun _ H'=>Q .non H',rt:=Q } (start N vs) H):FnOk P w K mg base CX0 (k+1) f fd ps sp:=by
 obtain ⟨oc,od,kV,doc,pm,an,cdv,ct,osl,rfl,lk,hcd⟩:=F.ex
 refine znS_ lk hcd S len fun A outer s H vs Q E hr hsp=>?_
 obtain ⟨t,h,q⟩:=hbody cdv A outer s H vs Q E hr hsp
 exact ⟨t,h.nox,q⟩
theorem Fun.binds {x qual:Str}{st:Stmt}{f:Addr}{fd:FuncData}{ps:List Str}(F:Fun K x qual st f fd)
  (h:∀ (kV doc pm:Value) (an:Option Addr) (cdv ct:Value) (us:List Value),us.length=ps.length→bindArgs (PySem.W.fnOf x qual (defArgs st) (defBody st) (defScope st) .none kV doc pm an cdv ct) ⟨us,[]⟩=pure (ps.zip us)):Binds K fd ps []:=by
 obtain ⟨oc,od,kV,doc,pm,an,cdv,ct,osl,rfl,lk,hcd⟩:=F.ex
 exact .all (h kV doc pm an cdv ct)
theorem zl5_ {x qual:Str}{st:Stmt}{f:Addr}{oc:Value}{od an:Option Addr}{osl:Array (Option Value)}{kV doc pm cdv ct:Value}(l:K.lookup f=some ⟨oc,od,.func (PySem.W.fnOf x qual (defArgs st) (defBody st) (defScope st) .none kV doc pm an cdv ct),osl⟩)
  (c:PySem.W.codeIn K cdv qual=true) (k:PySem.W.keepIn K (.ref f)=true):Fun K x qual st f (PySem.W.fnOf x qual (defArgs st) (defBody st) (defScope st) .none kV doc pm an cdv ct):=⟨⟨oc,od,kV,doc,pm,an,cdv,ct,osl,rfl,l,c⟩,k⟩
end
section
variable {X:Cx}
end
def Same (H H':Hp):Prop:=∀ b o,H b=some o→H' b=some o
theorem Same.refl (H:Hp):Same H H:=fun _ _ h=>h
theorem Same.trans {H H1 H2:Hp}(a:Same H H1) (b:Same H1 H2):Same H H2:=fun c o h=>b c o (a c o h)
theorem Same.free {H H':Hp}(e:Same H H') {l:Addr}(h:H' l=Option.none):H l=Option.none:=by
 cases q:H l with
 | none=>rfl
 | some o =>
  rw [e l o q] at h
  cases h
theorem Same.seq {K:Fgg}{H H':Hp}{a:Addr}{xs:List V}(e:Same H H') (h:SqL K H a xs):SqL K H' a xs:=by
 rcases h with (h | ⟨o,h⟩) | h
 ·exact .inl (.inl (e _ _ h))
 ·exact .inl (.inr ⟨o,e _ _ h⟩)
 ·exact .inr h
end L2
namespace L2
open PySem PySem.Spec PyProof.Rows
def Itp (n:Nat) (f:Nat→V):It:=⟨fun i _=>i<n,fun i H x H'=>H'=H∧x=f i,fun i _=>n≤i⟩
def ownTups:List String:=["enumerate", "zip", "dict_itemiterator", "dict_reverseitemiterator", "odict_iterator", "itertools.zip_longest", "itertools.pairwise"]
theorem ziX_ {P:Program}{w:World}{K:Fgg}{tg:Expr}{it:Addr}{n:Nat}{f:Nat→V}{Pw:Nat→Value→Prop}{St:Nat→Heap→Prop}
  (W:∀ A:Around,A.handled=none→Walks P w A it [it] [it] n Pw St) (hv:∀ i v,i<n→Pw i v→RelV (f i) v)
  (ho:∀ i h,St i h→∃ o nm vs,h.get? it=some o∧o.cls=.type nm∧o.data=.fields vs∧ownTups.contains nm=false)
  (hself:∀ (A:Around) (i:Nat) (s:Shared) (Q:Value→Shared→Prop) (E:Value→Shared→Prop),St i s.heap→Q (.ref it) s→wpAny (model P w) A (pyIter (.ref it)) Q E s)
  (hkeep:∀ i h h',St i h→(∀ b∈[it],∀ o,h.get? b=some o→h'.get? b=some o)→St i h') :
  Turn P w K tg (Itp n f) [it] it (fun i h=>i≤n∧St i h) where
 mem:=by simp
 obj:=fun i h st b hb=>by
  have e:b=it:=by simpa using hb
  subst e
  obtain ⟨o,nm,vs,e,c,d,_⟩:=ho i h st.2
  exact ⟨o,e,fun v z=>by rw [d] at z; cases z⟩
 keep:=fun i h h' st k=>⟨st.1,hkeep i h h' st.2 k⟩
 item:=by
  intro X hP hw hK hc i pins s σ H E I hf st hg
  subst hP hw hK
  obtain ⟨f0,f1,f2,f3,f4,f5⟩:=hf it (by simp)
  have hi:i<n:=hg
  refine (W X.A (I.ok.hd hc)).item i s _ _ hi st.2 fun v h' tk hv' st' kk=>?_
  have I1:Inv X pins σ H { s with heap:=h',toks:=tk }:=I.turned (fun b o hb e=>kk b o (by simpa using hb) e) f0 f1 f3 f4 f5
  obtain ⟨o,nm,vs,e,c,d,hn⟩:=ho _ _ st'
  exact ⟨_,rfl,zm8_ (s:={ s with heap:=h',toks:=tk }) (n:=nm) e c d hn ⟨f i,H,I1,hv i v hi hv',⟨rfl,rfl⟩,⟨hi,st'⟩,fun b hb=>(hf b hb).1⟩⟩
 done:=by
  intro X hP hw hK hc i pins s σ H E I hf st hg
  subst hP hw hK
  obtain ⟨f0,f1,f2,f3,f4,f5⟩:=hf it (by simp)
  have hi:n≤i:=hg
  have e:i=n:=Nat.le_antisymm st.1 hi
  subst e
  exact (W X.A (I.ok.hd hc)).done s _ _ st.2 fun h' tk kk=>⟨rfl,I.turned (fun b o hb e=>kk b o (by simpa using hb) e) f0 f1 f3 f4 f5⟩
 self:=fun A i s Q E st h=>hself A i s Q E st.2 h
def sgn (x:Str) (i:Nat):V:=.str ⟨#[x.cps.getD i 0]⟩
theorem ziE_ {P:Program}{w:World}{it:Addr}{x:Str}{t:Tok}(A:Around) (hA:A.handled=none):Walks P w A it [it] [it] x.cps.size (SignAt x) (fun i h=>h.IsStrIter it (strIterType x) x t i):=by
 cases ha:x.cps.all (·<128)
 ·have e:strIterType x = "str_iterator" := by simp [strIterType,ha]
  rw [e]; exact Walks.strWide hA it x t
 ·have e:strIterType x = "str_ascii_iterator" := by simp [strIterType,ha]
  rw [e]; exact Walks.strAscii hA it x t
theorem zeX_ {x:Str}{i:Nat}{v:Value}(h:SignAt x i v):RelV (sgn x i) v:=by
 obtain ⟨c,u,e,rfl⟩:=h
 refine ⟨u,?_⟩
 have:x.cps.getD i 0=c:=by simp [Array.getD_eq_getD_getElem?,e]
 rw [this]
theorem zeM_ (x:Str):ownTups.contains (strIterType x)=false:=by
 unfold strIterType; split<;>decide
theorem zkS_ {P:Program}{w:World}{K:Fgg}{tg:Expr}(it:Addr) (x:Str) (t:Tok):Turn P w K tg (Itp x.cps.size (sgn x)) [it] it (fun i h=>i≤x.cps.size∧h.IsStrIter it (strIterType x) x t i):=by
 refine ziX_ (Pw:=SignAt x) (fun A hA=>ziE_ A hA) (fun i v _ h=>zeX_ h) (fun i h st=>?_) (fun A i s Q E st h=>?_) (fun i h h' st k=>?_)
 ·obtain ⟨o,e,c,d⟩:=st
  exact ⟨o,_,_,e,c,d,zeM_ x⟩
 ·cases ha:x.cps.all (·<128)
  ·have e:strIterType x = "str_iterator" := by simp [strIterType,ha]
   rw [e] at st; exact wpAny_pyIter_striter_wide st h
  ·have e:strIterType x = "str_ascii_iterator" := by simp [strIterType,ha]
   rw [e] at st; exact wpAny_pyIter_striter_ascii st h
 ·obtain ⟨o,e,r⟩:=st
  exact ⟨o,k it (by simp) o e,r⟩
section
variable {X:Cx}{tg:Expr}
end
end L2
namespace L2
open PySem PySem.Spec PyProof.Rows
theorem Inv.turnedL {X:Cx}{pins:Pnn}{σ:St}{H:Hp}{s:Shared}{h':Heap}{t':Nat}{ch:List Addr}(I:Inv X pins σ H s) (k:∀ b o,b∉ch→s.heap.get? b=some o→h'.get? b=some o)
  (hf:∀ b∈ch,FpOk X pins H b):Inv X pins σ H { s with heap:=h',toks:=t' }:=by
 have nit:∀ b u,H b=some u→b∉ch:=fun b u e z=>by rw [(hf b z).1] at e; cases e
 refine I.step (g':=s.gens) (d':=s.drawn) (ch:=ch) (fun b hb=>?_) (fun b o _ _ hc e _=>k b o hc e) (fun b o _ _ hc e _=>⟨o.slots,k b o hc e⟩) (fun _ _ _ _ n=>n)
  (fun b o hc e=>⟨o,k b o hc e⟩) (fun _ _ e=>e) (fun _ _ _ e=>e) (fun b ps e=>⟨#[],by rw [e]; simp⟩) (fun m hm=>?_) (fun b u e=>?_) I.bare
 ·obtain ⟨f0,f1,f2,f3,f4,f5⟩:=hf b hb
  exact ⟨f3,f1,f4,f5⟩
 ·obtain ⟨o,es,ep,ho,r⟩:=hm
  exact ⟨o,es,ep,k _ o (fun z=>(hf _ z).2.1 rfl) ho,r⟩
 ·refine (I.hok b u e).stay (fun c v hc q=>k c v ?_ q) (fun _ q=>q) fun _ _ q=>q
  rcases hc with z | z
  ·rw [z]; exact nit b u e
  ·exact nit c _ z
theorem ziC_ {X:Cx}{pins:Pnn}{σ:St}{H:Hp}{s:Shared}{h1:Heap}{tk:Nat}{tk':Tok}{e it:Addr}{i:Nat}{x:Value}{y:V}{St:Heap→Prop}{elts:List Expr}{kk:Nat}{pos:Pos}{E:Value→Shared→Prop}
  (I:Inv X pins σ H s) (hf:∀ b∈[e,it],FpOk X pins H b) (he:e<s.heap.objs.size) (hit:it<s.heap.objs.size) (hei:e≠it) (heo:IsEnumOut h1 e it ((i:Int)+1) x s.heap.objs.size) (ry:RelV y x)
  (ht:h1.get? s.heap.objs.size=some { cls:=.type "tuple",data:=.seq #[.int i tk',x] }) (hz:h1.objs.size=s.heap.objs.size+1) (hk:∀ b o,b≠e→b≠it→s.heap.get? b=some o→h1.get? b=some o)
  (hSt:∀ h2,Heap.SameBut e h1 h2→St h2) :
  wpAny (model X.prog X.w) X.A (letOwnedTupleGo (.Tuple elts kk pos) (.ref e) (.ref s.heap.objs.size)) (fun _ s2=>∃ z H',Inv X pins σ H' s2∧RelV z (.ref s.heap.objs.size) ∧
   (∃ p,H p=none∧z=.ref p∧H'=upd H p (.tup [.int i,y]))∧(IsEnum s2.heap e it ((i+1:Nat):Int) x∧St s2.heap)∧∀ b∈[e,it],H' b=none) E { s with heap:=h1,toks:=tk }:=by
 refine wpAny_letOwnedTupleGo_enum heo fun h2 he2 hs2=>?_
 replace hs2:Heap.SameBut e h1 h2:=hs2
 have hp:H s.heap.objs.size=none:=I.hok.fresh (Nat.le_refl _)
 have hne:s.heap.objs.size≠e:=Nat.ne_of_gt he
 have hni:s.heap.objs.size≠it:=Nat.ne_of_gt hit
 have I1:Inv X pins σ (upd H s.heap.objs.size (.tup [.int i,y])) { s with heap:=s.heap.push { cls:=.type "tuple",data:=.seq #[.int i tk',x] },toks:=tk }:=by
  refine I.laid (fun b u q=>Heap.get?_push_of_some _ q) (Nat.le_refl _) ⟨?_,[.int i tk',x],.cons ⟨_,rfl⟩ (.cons ry .nil),⟨_,Heap.get?_push_size _ rfl,rfl,_,rfl⟩⟩
  show 2≤sizeLine
  decide
 have hf1:∀ b∈[e,it],FpOk X pins (upd H s.heap.objs.size (.tup [.int i,y])) b:=fun b hb=>by
  obtain ⟨f0,r⟩:=hf b hb
  refine ⟨?_,r⟩
  rw [z4_ (by rcases List.mem_cons.mp hb with rfl | hb; exact hne.symm; rcases List.mem_cons.mp hb with rfl | hb; exact hni.symm; cases hb)]
  exact f0
 have I2:Inv X pins σ (upd H s.heap.objs.size (.tup [.int i,y])) { s with heap:=h2,toks:=tk }:=by
  refine Inv.turnedL (s:={ s with heap:=s.heap.push { cls:=.type "tuple",data:=.seq #[.int i tk',x] },toks:=tk }) (ch:=[e,it]) I1 (fun b o hb q=>?_) hf1
  have nbe:b≠e:=fun z=>hb (by simp [z])
  have nbi:b≠it:=fun z=>hb (by simp [z])
  refine (hs2.2 b nbe).trans ?_
  rcases Heap.get?_push_cases q with ⟨rfl,rfl⟩ | q'
  ·exact ht
  ·exact hk b o nbe nbi q'
 refine ⟨.ref s.heap.objs.size,_,I2,rfl,⟨s.heap.objs.size,hp,rfl,rfl⟩,⟨?_,hSt h2 hs2⟩,fun b hb=>(hf1 b hb).1⟩
 have:((i+1:Nat):Int)=(i:Int)+1:=by push_cast; rfl
 rw [this]; exact he2
def Ite (K:Fgg) (l:Addr):It :=
 ⟨fun i H=>∃ xs x,SqL K H l xs∧xs[i]?=some x,fun i H y H'=>∃ p x,(∀ xs,SqL K H l xs→xs[i]?=some x)∧H p=none∧y=.ref p∧H'=upd H p (.tup [.int i,x]),fun i H=>∃ xs,SqL K H l xs∧xs.length≤i⟩
theorem zhN_ {P:Program}{w:World}{K:Fgg}{elts:List Expr}{kk:Nat}{pos:Pos}(e it l:Addr) (hei:e≠it) :
  Turn P w K (.Tuple elts kk pos) (Ite K l) [e,it] e (fun i h=>(∃ old,IsEnum h e it (i:Nat) old)∧h.IsListIter it l i) where
 mem:=by simp
 obj:=fun i h st b hb=>by
  obtain ⟨⟨old,he⟩,o,ho,c,d⟩:=st
  rcases List.mem_cons.mp hb with rfl | hb
  ·exact ⟨_,he,fun v z=>by cases z⟩
  ·have e:b=it:=by simpa using hb
   subst e
   exact ⟨o,ho,fun v z=>by rw [d] at z; cases z⟩
 keep:=fun i h h' st k=>by
  obtain ⟨⟨old,he⟩,hit⟩:=st
  exact ⟨⟨old,k e (by simp) _ he⟩,hit.at fun o q=>k it (by simp) o q⟩
 item:=by
  intro X hP hw hK hc i pins s σ H E I hf st hg
  subst hP hw hK
  obtain ⟨xs,x,hq,hx⟩:=hg
  obtain ⟨its,rv,p,hz⟩:=I.list hq
  obtain ⟨u,hu,ru⟩:=rv.get hx
  obtain ⟨⟨old,he⟩,hit⟩:=st
  refine wpAny_pyNext_enum_item he hit p.isList (x:=u) (by simpa using hu) hei fun h1 heo hit1 ht1 hz1 hk1=>?_
  refine ⟨_,rfl,?_⟩
  have hel:e<s.heap.objs.size:=Heap.lt_size he
  have hil:it<s.heap.objs.size:=by obtain ⟨o,ho,_⟩:=id hit; exact Heap.lt_size ho
  refine thn (ziC_ (St:=fun h2=>h2.IsListIter it l (i+1)) I hf hel hil hei heo ru ht1 hz1 hk1 fun h2 hs=>hit1.extBut hs.extBut hei.symm) fun _ s2 q=>?_
  obtain ⟨z,H',I2,rz,⟨p,hp,rfl,rfl⟩,⟨he2,hit2⟩,fr⟩:=q
  exact ⟨.ref p,_,I2,rz,⟨p,x,fun ys hy=>by rw [I.list_inj hy hq]; exact hx,hp,rfl,rfl⟩,⟨⟨u,he2⟩,hit2⟩,fr⟩
 done:=by
  intro X hP hw hK hc i pins s σ H E I hf st hg
  subst hP hw hK
  obtain ⟨xs,hq,hx⟩:=hg
  obtain ⟨its,rv,p,hz⟩:=I.list hq
  obtain ⟨⟨old,he⟩,hit⟩:=st
  have hl:=rv.length
  obtain ⟨f0,f1,f2,f3,f4,f5⟩:=hf it (by simp)
  exact wpAny_pyNext_enum_end (I.ok.hd hc) he hit p.isList (by simp; lia) fun h' eb=>⟨rfl,I.turned (t':=s.toks) (fun b o hb e=>eb b o hb e) f0 f1 f3 f4 f5⟩
 self:=fun _ _ _ _ _ st h=>by
  obtain ⟨⟨old,he⟩,_⟩:=st
  exact wpAny_pyIter_enum he h
theorem zgb_ {P:Program}{w:World}{it:Addr}{x:Str}{t:Tok}(A:Around) (hA:A.handled=none):Draws P w A it [it] x.cps.size (fun i v=>∃ c u,x.cps[i]?=some c∧v=.str ⟨#[c]⟩ u) (fun i h=>h.IsStrIter it (strIterType x) x t i):=by
 cases ha:x.cps.all (·<128)
 ·have e:strIterType x = "str_iterator" := by simp [strIterType,ha]
  rw [e]; exact Draws.strWide hA it x t
 ·have e:strIterType x = "str_ascii_iterator" := by simp [strIterType,ha]
  rw [e]; exact Draws.strAscii hA it x t
section
variable {X:Cx}{elts:List Expr}{kk:Nat}{tpos:Pos}
def iEnumL (K:Fgg) (ta:TA):TI:=fun σ H R=>ta σ H fun vs H1=>∃ a,vs=[.ref a]∧(∃ xs,SqL K H1 a xs)∧R (Ite K a) H1
theorem zil_ {a:Expr}{ta:TA}{p pos:Pos}(hg:Gl X "enumerate") (hm:X.mg "enumerate" = none) (ha:PA X [a] ta) (hs:starEach [a] X.env=[(false,eval a X.env)]:=by rfl) :
  PI X (.Tuple elts kk tpos) (.Call (.Name "enumerate" p) [a] [] pos) (iEnumL X.K ta):=by
 intro pins s σ H R I h
 refine Call_ (zgy_ I hg hm (u:=.type "enumerate") (by rfl) (PyProof.Rows.callWith_type1 (thn (ha pos pins s σ H _ I h) fun us s1 hq_=>?_) hs rfl))
 obtain ⟨vs,H1,I1,r1,q1⟩:=hq_
 obtain ⟨l,e,⟨xs,hq⟩,q⟩:=q1
 subst e
 cases r1 with
 | cons r rr =>
  cases rr
  cases r
  obtain ⟨its,rv,p,hz⟩:=I1.list hq
  refine call_enumerate_list p.isList fun h' he hit hsz hk=>?_
  refine wpAny_pyIter_enum (s:={ s1 with heap:=h' }) he ?_
  have I2:Inv X pins σ H1 { s1 with heap:=h' }:=I1.kept (t':=s1.toks) hk
  refine ⟨s1.heap.objs.size+1,[s1.heap.objs.size+1,s1.heap.objs.size],_,_,H1,rfl,I2,zhN_ _ _ l (by simp),⟨⟨_,he⟩,hit⟩,fun b hb=>?_,q⟩
  have hb':s1.heap.objs.size≤b:=by
   rcases List.mem_cons.mp hb with rfl | hb
   ·exact Nat.le_succ _
   ·have e:b=s1.heap.objs.size:=by simpa using hb
    subst e; exact Nat.le_refl _
  exact I1.fpOk hb' (I1.hok.fresh hb')
end
end L2
namespace L2
open PySem PySem.Spec PyProof.Rows
section
variable {prog:Program}{w:World}{A:Around}{R:Result→Shared→Prop}{s:Shared}
theorem zg8_ {elt target iter:Expr}{ifs:List Expr}{scope:Scope}{pos:Pos}{it acc:Value}{env:Env}(I:Nat→Shared→Prop)
  (turn:∀ n s,I n s→wpAny (model prog w) A (pyNext it) (fun r s₁=>match r with
   | none=>R (.ok .next) s₁
   | some v=>wpAny (model prog w) A (letOwnedTupleGo target it v) (fun _ s₂=>wpAny (model prog w) A (assign target env v) (fun _ s₃ =>
     wpAny (model prog w) A (forIn ifs true fun c r=>if r=true then do let ok ← isTrue c env (eval c env); pure (ForInStep.yield ok) else pure (ForInStep.yield r)) (fun ok s₄ =>
      if ok=true then wpAny (model prog w) A (eval elt env) (fun x s₅ =>
       wpAny (model prog w) A (call (.builtin "list.append") [acc,x]) (fun _ s₆=>∃ m,m<n∧I m s₆) (fun _ _=>False) s₅) (fun _ _=>False) s₄
      else ∃ m,m<n∧I m s₄) (fun _ _=>False) s₃) (fun _ _=>False) s₂) (fun _ _=>False) s₁) (fun _ _=>False) s)
  (n:Nat) (h:I n s) :
  codeAny (model prog w) A (.compLoop (.ListComp elt [⟨target,iter,ifs,0⟩] scope pos) 0 it acc env) R s:=by
 refine codeAny_loop rfl I (fun n s hI=>?_) n h
 show wpAny _ A ((compTurn (.ListComp elt [⟨target,iter,ifs,0⟩] scope pos) 0 it acc env).onRaise (fun x=>do noteFrame x env; theTreesLotGoes x)) _ _ s
 refine wpAny_noted ?_
 rw [compTurn_list]
 refine wpAny_bind (wpAny_standAt (wpAny_bind (wpAny_mono (turn n s hI) (fun r s₁ h₁=>?_) fun _ _ h'=>h'.elim)))
 cases r with
 | none=>exact wpAny_pure h₁
 | some v =>
  refine wpAny_bind (wpAny_mono h₁ (fun _ s₂ h₂=>?_) fun _ _ h'=>h'.elim)
  refine wpAny_bind (wpAny_mono h₂ (fun _ s₃ h₃=>wpAny_bind (wpAny_mono h₃ (fun ok s₄ h₄=>?_) fun _ _ h'=>h'.elim)) fun _ _ h'=>h'.elim)
  cases ok with
  | false=>exact wpAny_pure ⟨rfl,h₄⟩
  | true =>
   exact wpAny_bind (wpAny_bind (wpAny_mono h₄ (fun x s₅ h₅=>wpAny_bind (wpAny_mono h₅ (fun _ s₆ h₆=>wpAny_pure (wpAny_pure ⟨rfl,h₆⟩)) fun _ _ h'=>h'.elim)) fun _ _ h'=>h'.elim))
end
def closeL (cells:List (Str×Addr)):List (Str×NameKind)→List (Str×Addr)→Option (List (Str×Addr))
 | [],acc=>some acc
 | (n,k)::r,acc=>if (k == .free)=true then (match cells.lookup n with | some c=>closeL cells r ((n,c)::acc) | none=>none) else closeL cells r acc
theorem zde_ {env:Env}{f:Str×NameKind→List (Str×Addr)→Sem (ForInStep (List (Str×Addr)))}
  (hf:∀ n k cs,f (n,k) cs=if (k == NameKind.free)=true then (do let c ← cellOf env n; pure (ForInStep.yield ((n,c)::cs))) else pure (ForInStep.yield cs)) :
  ∀ (names:List (Str×NameKind)) (acc cl:List (Str×Addr)),closeL env.cells names acc=some cl→(forIn names acc f:Sem (List (Str×Addr)))=pure cl
 | [],acc,cl,h=>by cases h; rfl
 | (n,k)::r,acc,cl,h=>by
  rw [List.forIn_cons,hf]
  unfold closeL at h
  by_cases hk:(k == NameKind.free)=true
  ·rw [if_pos hk] at h
   rw [if_pos hk]
   cases hc:env.cells.lookup n with
   | none=>rw [hc] at h; cases h
   | some c =>
    rw [hc] at h
    have e:cellOf env n=pure c:=by unfold cellOf; rw [hc]
    rw [e]
    simp only [pure_bind]
    exact zde_ hf r _ cl h
  ·rw [if_neg hk] at h
   rw [if_neg hk]
   simp only [pure_bind]
   exact zde_ hf r _ cl h
theorem ziR_ {env:Env}{scope:Scope}{cl:List (Str×Addr)}(h:closeL env.cells scope.names []=some cl):closureFor scope env=pure cl:=by
 unfold closureFor
 dsimp only
 rw [zde_ (env:=env) (fun n k cs=>rfl) scope.names [] cl h]
 rfl
theorem zcf_ {cells:List (Str×Addr)}:∀ (names:List (Str×NameKind)) (acc cl:List (Str×Addr)),closeL cells names acc=some cl→(∀ x c,acc.lookup x=some c→cells.lookup x=some c) →
  (∀ x c,cl.lookup x=some c→cells.lookup x=some c)
 | [],acc,cl,h,ha=>by cases h; exact ha
 | (n,k)::r,acc,cl,h,ha=>by
  unfold closeL at h
  by_cases hk:(k == NameKind.free)=true
  ·rw [if_pos hk] at h
   cases hc:cells.lookup n with
   | none=>rw [hc] at h; cases h
   | some c =>
    rw [hc] at h
    refine zcf_ r _ cl h fun x c' e=>?_
    rw [List.lookup_cons] at e
    cases hx:x == n with
    | true=>rw [hx] at e; cases e; rw [eq_of_beq hx]; exact hc
    | false=>rw [hx] at e; exact ha x c' e
  ·rw [if_neg hk] at h
   exact zcf_ r _ cl h ha
theorem zdJ_ {cells:List (Str×Addr)}:∀ (names:List (Str×NameKind)) (acc cl:List (Str×Addr)),closeL cells names acc=some cl→∀ x,((x,NameKind.free)∈names∨∃ c,acc.lookup x=some c)→∃ c,cl.lookup x=some c
 | [],acc,cl,h,x,hx=>by
  cases h
  rcases hx with hx | hx
  ·cases hx
  ·exact hx
 | (n,k)::r,acc,cl,h,x,hx=>by
  unfold closeL at h
  by_cases hk:(k == NameKind.free)=true
  ·rw [if_pos hk] at h
   cases hc:cells.lookup n with
   | none=>rw [hc] at h; cases h
   | some c =>
    rw [hc] at h
    refine zdJ_ r _ cl h x ?_
    rcases hx with hx | ⟨c',e⟩
    ·rcases List.mem_cons.mp hx with e | hx
     ·cases e; exact .inr ⟨c,by rw [List.lookup_cons,beq_self_eq_true]⟩
     ·exact .inl hx
    ·refine .inr ?_
     rw [List.lookup_cons]
     cases hxn:x == n with
     | true=>exact ⟨c,rfl⟩
     | false=>exact ⟨c',e⟩
  ·rw [if_neg hk] at h
   refine zdJ_ r _ cl h x ?_
   rcases hx with hx | hx
   ·rcases List.mem_cons.mp hx with e | hx
    ·cases e; exact absurd rfl hk
    ·exact .inl hx
   ·exact .inr hx
theorem zeg_ {scope:Scope}{env:Env}{x:Str}{k:NameKind}(h:(relabel scope env).names.lookup x=some k) (hk:k=.cell∨k=.free) (hcell:∀ y∈scope.names,y.2≠.cell):(x,NameKind.free)∈scope.names:=by
 have m:=PySem.mem_of_lookup h
 obtain ⟨⟨n,k0⟩,hm,e⟩:=List.mem_map.mp m
 dsimp only at e
 split at e
 ·rename_i hc
  cases e
  have:k0=.free:=by
   simp only [Bool.and_eq_true,beq_iff_eq] at hc
   exact hc.1.1
  subst this; exact hm
 ·cases e
  rcases hk with rfl | rfl
  ·exact absurd rfl (hcell _ hm)
  ·exact hm
def cxComp (X:Cx) (scope:Scope) (cl:List (Str×Addr)) (C:Addr) (N:List Str) (fp:List Addr) (s2:Shared) (H2:Hp):Cx where
 prog:=X.prog
 w:=X.w
 K:=X.K
 mg:=X.mg
 base:=X.base
 A:=X.A
 N:=N
 s₀:=s2
 H₀:=H2
 env:=compEnvC scope cl C X.env
 outer:=X.stack
 stack:=X.stack
 ex:=fp
 fn:=fun _=>false
 calm:=X.calm
 pn:=[]
 xe:=fun _ _=>False
structure CScope (X:Cx) (scope:Scope) (cl:List (Str×Addr)) (lv:List Str) (fr:List (Str×Nat)):Prop where
 clos:closeL X.env.cells scope.names []=some cl
 cell:∀ y∈scope.names,y.2≠.cell
 kind:scope.kind=.function
 names:∀ z∈scope.names,z.2=.local→scope.names.lookup z.1=some .local
 fr:∀ q∈fr,X.N[q.2]?=some q.1∧(q.1,NameKind.free)∈scope.names∧(X.env.kindOf q.1=some .cell∨X.env.kindOf q.1=some .free) ∧
  ((relabel scope X.env).names.lookup q.1=some .cell∨(relabel scope X.env).names.lookup q.1=some .free)
def cN (lv:List Str) (fr:List (Str×Nat)):List Str:=lv++fr.map (·.1)
def cS (lv:List Str) (fr:List (Str×Nat)) (σ:St):St:=lv.map (fun _=>none)++fr.map fun q=>(σ[q.2]?).join
theorem zkb_ {X:Cx}{pins:Pnn}{σ:St}{H2:Hp}{s2:Shared}{scope:Scope}{cl:List (Str×Addr)}{lv:List Str}{fr:List (Str×Nat)}{fp:List Addr}{h4:Heap}{tk:Nat}{m:Str→Option Value}{n:Nat}
  (I:Inv X pins σ H2 s2) (S:CScope X scope cl lv fr) (hf:∀ b∈fp,FpOk X pins H2 b) (hlt:∀ b∈fp,b<s2.heap.objs.size) (hC:h4.Ns (s2.heap.objs.size+1) m) (hD:h4.get? s2.heap.objs.size=some { cls:=.type "list",data:=.seq #[] n })
  (hk:∀ b o,s2.heap.get? b=some o→h4.get? b=some o) :
  Inv (cxComp X scope cl (s2.heap.objs.size+1) (cN lv fr) fp s2 H2) [] (cS lv fr σ) (upd H2 s2.heap.objs.size (.lst [])) { s2 with heap:=h4,toks:=tk }:=by
 have hcl:=zcf_ scope.names [] cl S.clos (fun x c e=>by cases e)
 have hhas:=zdJ_ scope.names [] cl S.clos
 have hDn:H2 s2.heap.objs.size=none:=I.hok.fresh (Nat.le_refl _)
 have hCn:H2 (s2.heap.objs.size+1)=none:=I.hok.fresh (Nat.le_succ _)
 have hCD:s2.heap.objs.size+1≠s2.heap.objs.size:=Nat.ne_of_gt (Nat.lt_succ_self _)
 have fpC:∀ b∈fp,(b∈X.ex∨X.s₀.heap.objs.size≤b):=fun b hb=>(hf b hb).2.2.2.1
 have cellLt:∀ x c,cl.lookup x=some c→c<s2.heap.objs.size:=fun x c e=>by
  obtain ⟨v,o,ho,_⟩:=I.cell x c (hcl x c e)
  exact Heap.lt_size ho
 refine ⟨⟨I.ok.mod,S.kind,I.ok.glob,I.ok.blt,Nat.le_succ _,fun x y c h1 h2=>I.ok.inj x y c (hcl x c h1) (hcl y c h2),fun x hx=>?_,fun x c hfn=>(by cases hfn),I.ok.hd,I.ok.frames,.inl rfl,fun b hb=>?_,I.bs,Nat.le_trans I.ok.bsz I.sz,fun b o e hb=>?_,fun b hb z=>?_,I.stack,I.stkFree⟩,
  rfl,I.bare,?_,⟨m,hC,fun i x v h1 h2 h3=>?_⟩,fun x c e=>?_,?_,fun x c e=>?_,fun p hp=>absurd (show p∈([]:Pnn) from hp) (by simp),?_,?_⟩
 ·-- has
  have hx':(relabel scope X.env).names.lookup x=some .cell∨(relabel scope X.env).names.lookup x=some .free:=hx
  have hm:(x,NameKind.free)∈scope.names:=hx'.elim (fun z=>zeg_ z (.inl rfl) S.cell) fun z=>zeg_ z (.inr rfl) S.cell
  exact hhas x (.inl hm)
 ·-- exf
  obtain ⟨f0,f1,f2,f3,f4,f5⟩:=hf b hb
  refine ⟨fun z=>?_,fun x c e=>f4 x c (hcl x c e)⟩
  have z':b=s2.heap.objs.size+1:=z
  have:=hlt b hb
  rw [z'] at this
  exact absurd this (Nat.not_lt.mpr (Nat.le_succ _))
 ·rcases fpC b hb with z | z
  ·exact I.ok.noex b o e z
  ·exact absurd (Nat.lt_of_lt_of_le (Nat.lt_of_lt_of_le (Heap.lt_size e) I.ok.bsz) z) (Nat.lt_irrefl _)
 ·obtain ⟨f0,f1,f2,_⟩:=hf b hb
  rcases List.mem_cons.mp (I.stkSub b z) with q | q
  ·exact f1 q
  ·exact f2 q
 ·exact Un.laid hk (Nat.le_refl _) hDn
 ·-- loc
  have h1':(lv++fr.map (·.1))[i]?=some x:=h1
  have h2':(lv.map (fun _=>none)++fr.map fun q=>(σ[q.2]?).join:St)[i]?=some (some v):=h2
  by_cases hi:i<lv.length
  ·rw [List.getElem?_append_left (by simpa using hi),List.getElem?_map] at h2'
   cases hq:lv[i]? with
   | none=>rw [hq] at h2'; cases h2'
   | some z=>rw [hq] at h2'; cases h2'
  ·rw [List.getElem?_append_right (by simpa using hi),List.getElem?_map] at h2'
   rw [List.getElem?_append_right (by lia),List.getElem?_map] at h1'
   simp only [List.length_map] at h2'
   cases hq:fr[i-lv.length]? with
   | none=>rw [hq] at h1'; cases h1'
   | some q =>
    rw [hq] at h1' h2'
    have e1:q.1=x:=Option.some.inj h1'
    have e2:(σ[q.2]?).join=some v:=Option.some.inj h2'
    have e3:σ[q.2]?=some (some v):=by
     cases hz:σ[q.2]? with
     | none=>rw [hz] at e2; cases e2
     | some z=>rw [hz] at e2; exact congrArg some e2
    obtain ⟨g1,g2,g3,g4⟩:=S.fr q (List.mem_of_getElem? hq)
    obtain ⟨m0,hn0,hl0⟩:=I.loc
    have vis:Vis X.env.scope q.1:=by
     rcases g3 with g3 | g3
     ·exact .inr (.inl g3)
     ·exact .inr (.inr g3)
    obtain ⟨u,r,l⟩:=hl0 q.2 q.1 v g1 e3 vis
    refine ⟨u,r,.inr ⟨?_,?_⟩⟩
    ·rw [← e1]; exact g4
    ·rcases l with ⟨lk,_⟩ | ⟨_,c,ec,ic⟩
     ·rcases g3 with g3 | g3<;>(rw [lk] at g3; cases g3)
     ·obtain ⟨c',ec'⟩:=hhas q.1 (.inl g2)
      have:c'=c:=by
       have:=hcl q.1 c' ec'
       rw [ec] at this; exact (Option.some.inj this).symm
      subst this
      obtain ⟨o,ho,hd⟩:=ic
      exact ⟨c',by rw [← e1]; exact ec',o,hk _ _ ho,hd⟩
 ·obtain ⟨v,o,ho,hd⟩:=I.cell x c (hcl x c e)
  exact ⟨v,o,hk _ _ ho,hd⟩
 ·show upd H2 _ _ (s2.heap.objs.size+1)=none
  rw [z4_ hCD]; exact hCn
 ·have:=cellLt x c e
  rw [z4_ (Nat.ne_of_lt this)]
  exact I.freeC x c (hcl x c e)
 ·exact I.hok.laid hk (Nat.le_refl _) ⟨Nat.zero_le _,[],n,.nil,hD⟩
 ·show (cS lv fr σ).length=(cN lv fr).length
  simp [cS,cN]
end L2
namespace L2
open PySem PySem.Spec PyProof.Rows
def PIf (X:Cx) (ifs:List Expr) (t:TT):Prop :=
 ∀ (pins:Pnn) (s:Shared) (σ:St) (H:Hp) (Q:Bool→Hp→Prop),Inv X pins σ H s→t σ H Q →
  wpAny (model X.prog X.w) X.A (forIn ifs true fun c r=>if r=true then do let ok ← isTrue c X.env (eval c X.env); pure (ForInStep.yield ok) else pure (ForInStep.yield r)) (TP X pins σ Q) X.xe s
def tTrue:TT:=fun _ H Q=>Q true H
theorem zdI_ {X:Cx}:PIf X [] tTrue:=fun pins s σ H Q I h=>wpAny_tests_nil ⟨H,I,h⟩
def tCompR (J:It) (g:TG) (tt:TT) (te:TE) (σ0:St) (H1:Hp) (Q:VK):Prop :=
 ∀ D,H1 D=none→∃ W:Nat→Nat→List V→St→Hp→Prop,(∃ m,W 0 m [] σ0 (upd H1 D (.lst [])))∧∀ i m ys σ H,W i m ys σ H →
  (J.stop i H∧Q (.ref D) H)∨(J.go i H∧∃ N:List V→St→Hp→Prop,(∀ ys' σ' H',N ys' σ' H'→∃ m',m'<m∧W (i+1) m' ys' σ' H') ∧
   ∀ x H',J.yld i H x H'→g x σ H' fun σ2 H2=>tt σ2 H2 fun b H3=>if b=true then te σ2 H3 fun v H4=>H4 D=some (.lst ys)∧ys.length<sizeLine∧N (ys++[v]) σ2 (upd H4 D (.lst (ys++[v]))) else N ys σ2 H3)
section
variable {X:Cx}{scope:Scope}{cl:List (Str×Addr)}{lv:List Str}{fr:List (Str×Nat)}{elt tg iter:Expr}{ifs:List Expr}{pos:Pos}{g:TG}{tt:TT}{te:TE}
theorem zig_ {pins:Pnn}{σ:St}{H2:Hp}{s2:Shared}{it:Addr}{fp:List Addr}{tn:Nat→Heap→Prop}{J:It}{Q:VK}{E:Value→Shared→Prop}{use:Option (Value→Sem Unit)}{Q':Value→Shared→Prop}
  (I:Inv X pins σ H2 s2) (S:CScope X scope cl lv fr) (T:Turn X.prog X.w X.K tg J fp it tn) (st:tn 0 s2.heap) (hf:∀ b∈fp,FpOk X pins H2 b) (hc:X.calm=true)
  (hg:∀ C fp s2 H2,PG (cxComp X scope cl C (cN lv fr) fp s2 H2) tg g) (ht:∀ C fp s2 H2,PIf (cxComp X scope cl C (cN lv fr) fp s2 H2) ifs tt) (he:∀ C fp s2 H2,PE (cxComp X scope cl C (cN lv fr) fp s2 H2) elt te)
  (hq:tCompR J g tt te (cS lv fr σ) H2 Q)
  (fin:∀ D C oC H' s',Inv X (pins++[(C,oC)]) σ H' s'→(∀ h:Heap,h.get? C=some oC→∃ m,h.Ns C m)→FpOk X pins H' C→Q (.ref D) H'→compPost (model X.prog X.w) X.A E use Q' (.ref D) C (.ok .next) s') :
  wpAny (model X.prog X.w) X.A (newList []) (fun acc s₃=>wpAny (model X.prog X.w) X.A (newFunctionEnv scope X.env.globals cl [] X.env.qual none .none (some X.env)) (fun cenv s₄ =>
   codeAny (model X.prog X.w) X.A (.compStart (.ListComp elt [⟨tg,iter,ifs,0⟩] scope pos) 0 (.ref it) acc { cenv with scope:=relabel scope X.env }) (compPost (model X.prog X.w) X.A E use Q' acc cenv.locals) s₄) E s₃) E s2:=by
 have hlt:∀ b∈fp,b<s2.heap.objs.size:=fun b hb=>by
  obtain ⟨o,ho,_⟩:=T.obj 0 _ st b hb
  exact Heap.lt_size ho
 refine wpAny_newList (wpAny_newFunctionEnv S.cell (by intro y hy; simp at hy) (fun h₁ hns₁ hsb₁=>?_) S.kind)
 dsimp only at hns₁ hsb₁ ⊢
 have hsz:(s2.heap.push { cls:=.type "list",data:=.seq ([]:List Value).toArray }).objs.size=s2.heap.objs.size+1:=Heap.size_push ..
 rw [hsz] at hns₁ hsb₁ ⊢
 have old:∀ b o,s2.heap.get? b=some o→h₁.get? b=some o:=fun b o e=>hsb₁.extBut b o (Nat.ne_of_lt (Nat.lt_succ_of_lt (Heap.lt_size e))) (Heap.get?_push_of_some _ (Heap.get?_push_of_some _ e))
 have hacc:h₁.get? s2.heap.objs.size=some { cls:=.type "list",data:=.seq #[] }:=hsb₁.extBut _ _ (Nat.ne_of_lt (Nat.lt_succ_self _)) (Heap.get?_push_of_some _ (Heap.get?_push_size _ rfl))
 have I4:Inv (cxComp X scope cl (s2.heap.objs.size+1) (cN lv fr) fp s2 H2) [] (cS lv fr σ) (upd H2 s2.heap.objs.size (.lst [])) { s2 with heap:=h₁,toks:=s2.toks+([]:List (Str×Value)).length } :=
  zkb_ I S hf hlt hns₁ hacc old
 generalize hX':cxComp X scope cl (s2.heap.objs.size+1) (cN lv fr) fp s2 H2=X' at I4
 have eP:X'.prog=X.prog:=by rw [← hX']; rfl
 have ew:X'.w=X.w:=by rw [← hX']; rfl
 have eK:X'.K=X.K:=by rw [← hX']; rfl
 have eA:X'.A=X.A:=by rw [← hX']; rfl
 have ec:X'.calm=true:=by rw [← hX']; exact hc
 have ex:X'.xe=fun _ _=>False:=by rw [← hX']; rfl
 have een:X'.env=compEnvC scope cl (s2.heap.objs.size+1) X.env:=by rw [← hX']; rfl
 have hg':PG X' tg g:=hX' ▸ hg _ _ _ _
 have ht':PIf X' ifs tt:=hX' ▸ ht _ _ _ _
 have he':PE X' elt te:=hX' ▸ he _ _ _ _
 obtain ⟨W,⟨m0,w0⟩,turn⟩:=hq s2.heap.objs.size (I.hok.fresh (Nat.le_refl _))
 have st1:tn 0 h₁:=T.keep _ _ _ st fun b _ o e=>old b o e
 have f4:∀ b∈fp,FpOk X' [] (upd H2 s2.heap.objs.size (.lst [])) b:=fun b hb=>by
  obtain ⟨f0,f1,f2,f3,f4,f5⟩:=hf b hb
  have:=hlt b hb
  refine ⟨?_,?_,?_,.inl ?_,?_,?_⟩
  ·rw [z4_ (Nat.ne_of_lt this)]; exact f0
  ·rw [een]; exact Nat.ne_of_lt (Nat.lt_succ_of_lt this)
  ·intro z
   have z':b∈frs X.stack:=by rw [← hX'] at z; exact z
   rcases List.mem_cons.mp (I.stkSub b z') with q | q
   ·exact f1 q
   ·exact f2 q
  ·rw [← hX']; exact hb
  ·intro x c e
   rw [een] at e
   exact f4 x c (zcf_ scope.names [] cl S.clos (fun x c e=>by cases e) x c e)
  ·intro p hp
   rw [← hX'] at hp
   exact absurd (show p∈([]:Pnn) from hp) (by simp)
 have stat:∀ {H':Hp},(∀ b∈fp,H' b=none)→∀ b∈fp,FpOk X' [] H' b:=fun hn b hb=>⟨hn b hb,(f4 b hb).2⟩
 have loop:∀ s₃:Shared,s₃={ s2 with heap:=h₁,toks:=s2.toks+([]:List (Str×Value)).length } →
   codeAny (model X.prog X.w) X.A (.compLoop (.ListComp elt [⟨tg,iter,ifs,0⟩] scope pos) 0 (.ref it) (.ref s2.heap.objs.size) (compEnvC scope cl (s2.heap.objs.size+1) X.env))
    (compPost (model X.prog X.w) X.A E use Q' (.ref s2.heap.objs.size) (s2.heap.objs.size+1)) s₃:=by
  rintro s₃ rfl
  refine zg8_ (fun n s'=>∃ i ys σ' H',Inv X' [] σ' H' s'∧tn i s'.heap∧(∀ b∈fp,H' b=none)∧W i n ys σ' H') ?_ m0 ⟨0,[],_,_,I4,st1,fun b hb=>(f4 b hb).1,w0⟩
  rintro n s3 ⟨i,ys,σ3,H3,I3,st3,fr3,w3⟩
  rcases turn i n ys σ3 H3 w3 with ⟨stop,qn⟩ | ⟨go,N,hN,step⟩
  ·have a0:=T.done X' eP ew eK ec i [] s3 σ3 H3 (fun _ _=>False) I3 (stat fr3) st3 stop
   rw [eA] at a0
   refine thn a0 fun r s4 hq_=>?_
   obtain ⟨hr,I4'⟩:=hq_
   subst hr
   have un:Un (frs X.stack) fp H2 H3 s2.heap s4.heap:=by
    have:=I4'.base
    rw [← hX'] at this
    exact this
   have os:s4.os=s2.os:=by
    have:=I4'.os
    rw [← hX'] at this
    exact this
   have hok:HOk X.prog X.w H3 s4.heap:=by
    have:=I4'.hok
    rw [← hX'] at this
    exact this
   have J1:Inv X pins σ H3 s4:=I.call' os un hok I4'.bare fun b hb=>by
    obtain ⟨f0,f1,f2,f3,f4,f5⟩:=hf b hb
    exact ⟨f3,f1,f4,f5⟩
   obtain ⟨m,hn,_⟩:=I4'.loc
   have hn':s4.heap.Ns (s2.heap.objs.size+1) m:=by rw [een] at hn; exact hn
   have hCn:H3 (s2.heap.objs.size+1)=none:=by
    have:=I4'.free
    rw [een] at this; exact this
   have fC:FpOk X pins H3 (s2.heap.objs.size+1):=I.fpOk (Nat.le_succ _) hCn
   obtain ⟨oC,es,ep,hoC,hdC,rC⟩:=id hn'
   have J2:Inv X (pins++[(s2.heap.objs.size+1,oC)]) σ H3 s4:=J1.pins_of fun p hp=>by
    rcases List.mem_append.mp hp with hp | hp
    ·exact J1.pin p (List.mem_append_right _ hp)
    ·have e:p=(s2.heap.objs.size+1,oC):=by simpa using hp
     subst e
     exact ⟨hoC,hCn,fC.2.1,fC.2.2.1,fun v z=>by rw [hdC] at z; cases z⟩
   exact fin _ _ oC H3 s4 J2 (fun h e=>⟨m,oC,es,ep,e,hdC,rC⟩) fC qn
  ·have a0:=T.item X' eP ew eK ec i [] s3 σ3 H3 (fun _ _=>False) I3 (stat fr3) st3 go
   rw [eA] at a0
   refine thn a0 fun r s4 hq_=>?_
   obtain ⟨u,hr,h4⟩:=hq_
   subst hr
   refine thn h4 fun _ s5 hq_=>?_
   obtain ⟨x,H5,I5,r5,y5,st5,fr5⟩:=hq_
   have I5':=I5.pinned (stat fr5) (T.obj _ _ st5)
   have a1:=hg' _ s5 σ3 H5 x u _ I5' r5 (step x H5 y5)
   rw [eP,ew,eA,een,ex] at a1
   refine thn a1 fun _ s6 hq_=>?_
   obtain ⟨σ6,H6,I6,q6⟩:=hq_
   have a2:=ht' _ s6 σ6 H6 _ I6 q6
   rw [eP,ew,eA,een,ex] at a2
   refine thn a2 fun ok s7 hq_=>?_
   obtain ⟨H7,I7,q7⟩:=hq_
   have again:∀ {ys7:List V}{H7:Hp}{s7:Shared},Inv X' ([]++pinsAt fp s5.heap) σ6 H7 s7→N ys7 σ6 H7→∃ m,m<n∧∃ i ys σ' H',Inv X' [] σ' H' s7∧tn i s7.heap∧(∀ b∈fp,H' b=none)∧W i m ys σ' H':=fun {ys7 H7 s7} I7 n7=>by
    obtain ⟨m',hm,w7⟩:=hN ys7 σ6 H7 n7
    refine ⟨m',hm,i+1,ys7,σ6,H7,I7.unpinned,T.keep _ _ _ st5 fun b hb o e=>(I7.pin (b,o) (List.mem_append_right _ (List.mem_append_right _ (zb6_ hb e)))).1,fun b hb=>?_,w7⟩
    obtain ⟨o,e,d⟩:=T.obj _ _ st5 b hb
    exact (I7.pin (b,o) (List.mem_append_right _ (List.mem_append_right _ (zb6_ hb e)))).2.1
   cases ok with
   | false=>exact again I7 q7
   | true =>
    have a3:=he' _ s7 σ6 H7 _ I7 q7
    rw [eP,ew,eA,een,ex] at a3
    refine thn a3 fun y s8 hq_=>?_
    obtain ⟨v,H8,I8,r8,hD8,hl8,n8⟩:=hq_
    have a4:=zaC_ (X:=X') _ s8 σ6 H8 (.ref s2.heap.objs.size) [v] (.ref s2.heap.objs.size) [y] (fun _ H9=>N (ys++[v]) σ6 H9) I8 rfl (.cons r8 .nil) ⟨_,_,_,rfl,rfl,hD8,hl8,n8⟩
    rw [eP,ew,eA,ex] at a4
    refine thn a4 fun _ s9 hq_=>?_
    obtain ⟨v9,H9,I9,_,n9⟩:=hq_
    exact again I9 n9
 exact codeAny_compStart_list (loop _ rfl) (T.self _ 0 _ _ _ st1 (loop _ rfl))
def tComp (lv:List Str) (fr:List (Str×Nat)) (wi:TI) (g:TG) (tt:TT) (te:TE):TE:=fun σ H Q=>wi σ H fun J H1=>tCompR J g tt te (cS lv fr σ) H1 Q
theorem zdr_ {wi:TI}(hc:X.calm=true) (S:CScope X scope cl lv fr) (hi:PI X tg iter wi)
  (hg:∀ C fp s2 H2,PG (cxComp X scope cl C (cN lv fr) fp s2 H2) tg g) (ht:∀ C fp s2 H2,PIf (cxComp X scope cl C (cN lv fr) fp s2 H2) ifs tt) (he:∀ C fp s2 H2,PE (cxComp X scope cl C (cN lv fr) fp s2 H2) elt te)
  (hs:∀ x,foldedSetIterable iter X.env x=pure x:=by intro _; rfl):PE X (.ListComp elt [⟨tg,iter,ifs,0⟩] scope pos) (tComp lv fr wi g tt te):=by
 intro pins s σ H Q I h
 rw [eval_ListComp]
 refine wpAny_comprehension_free (use:=none) rfl hs (ziR_ S.clos) S.kind S.names ?_
 refine thn (hi pins s σ H _ I h) fun v s1 h1=>thn h1 fun itv s2 h2=>?_
 obtain ⟨it,fp,tn,J,H2,e,I2,T,st2,f2,q⟩:=h2
 subst e
 refine zig_ I2 S T st2 f2 hc hg ht he q fun D C oC H' s' J1 hNs fC qD=>?_
 have hp:=J1.pin (C,oC) (List.mem_append_right _ (List.mem_append_right _ (List.mem_singleton.mpr rfl)))
 obtain ⟨m,hm⟩:=hNs s'.heap hp.1
 refine ⟨m,hm,fun h' hs'=>?_⟩
 exact ⟨.ref D,H',J1.unpinned.turned (t':=s'.toks) (fun b o hb e=>(hs'.2 b hb).trans e) fC.1 fC.2.1 fC.2.2.2.1 fC.2.2.2.2.1 fC.2.2.2.2.2,rfl,qD⟩
end
end L2
namespace L2
open PySem PySem.Spec PyProof.Rows
abbrev tx (l:List Nat):V:=.str ⟨l.toArray⟩
def br (b:Bool) (A B:Prop):Prop:=(b=true→A)∧(b=false→B)
theorem zl7_ (a b:Str):a++b=⟨(a.cps.toList++b.cps.toList).toArray⟩:=by
 cases a; cases b
 show Str.mk (_++_)=_
 simp
theorem zdc_ (a:Str):a=⟨a.cps.toList.toArray⟩:=by cases a; simp
def cutL (l:List Nat) (lo hi:Option Int):List Nat:=(l.drop (HT.sIx l.length 0 lo)).take (HT.sIx l.length l.length hi-HT.sIx l.length 0 lo)
theorem zdF_ (lo hi:Option Int) (n:Nat):Builtin.Str.strSliceIndices lo hi 1 n=sliceRange ((HT.sIx n 0 lo:Nat):Int) ((HT.sIx n n hi:Nat):Int) 1:=by
 unfold Builtin.Str.strSliceIndices
 simp only [show (1:Int) > 0 by decide,if_true]
 congr 1
 ·cases lo with
  | none=>simp [HT.sIx]
  | some i =>
   simp only [HT.sIx]
   by_cases h:i<0
   ·simp only [h,if_true]<;>lia
   ·simp only [h,if_false]<;>lia
 ·cases hi with
  | none=>simp [HT.sIx]
  | some i =>
   simp only [HT.sIx]
   by_cases h:i<0
   ·simp only [h,if_true]<;>lia
   ·simp only [h,if_false]<;>lia
theorem zhi_ (x:Str) (lo hi:Option Int):(Builtin.Str.strSliceIndices lo hi 1 x.length).filterMap (x.cps[·]?)=cutL x.cps.toList lo hi:=by
 rw [zdF_,sliceRange_one,pick_run]
 unfold cutL Str.length
 simp only [Array.length_toList]
theorem zeA_ (l:List Nat) (lo hi:Option Int):(cutL l lo hi).length≤l.length:=by
 unfold cutL
 rw [List.length_take,List.length_drop]
 lia
theorem ziQ_ {l:List Nat}{lo hi:Option Int}(h:(cutL l lo hi).length=l.length):cutL l lo hi=l:=by
 unfold cutL at h ⊢
 rw [List.length_take,List.length_drop] at h
 have h1:HT.sIx l.length l.length hi≤l.length:=HT.sIx_le _ _ (Nat.le_refl _) _
 by_cases hl:l.length=0
 ·have:l=[]:=List.length_eq_zero_iff.mp hl
  subst this
  simp
 ·have h2:HT.sIx l.length 0 lo=0:=by lia
  rw [h2,List.drop_zero,List.take_of_length_le]
  lia
section
variable {X:Cx}
def rSlS:V→Option Int→Option Int→Hp→VK→Prop:=fun x lo hi H Q=>match x with | .str z=>z.length≤sizeLine∧Q (tx (cutL z.cps.toList lo hi)) H | _=>False
theorem zdL_ {v:Value}{o:Option Int}(p:IsPart v o):∃ l:Option (Int×Tok),v=partValue l∧l.map (·.1)=o:=by
 cases p with
 | none=>exact ⟨none,rfl,rfl⟩
 | int i t=>exact ⟨some (i,t),rfl,rfl⟩
theorem znD_:SlR X rSlS:=by
 intro pins s σ H x v vl vu lo hi sl Q I rx hs pl pu h
 cases x with
 | str z =>
  obtain ⟨hz,q⟩:=h
  obtain ⟨t,rfl⟩:=rx
  obtain ⟨l,rfl,rfl⟩:=zdL_ pl
  obtain ⟨u,rfl,rfl⟩:=zdL_ pu
  refine ⟨"str",_,F.slot_str_getitem.lookup,typeIs_str _ _ _,?_⟩
  refine wpAny_getItem_str_slice (l:=l) (u:=u) (st:=none) hs rfl ?_
  unfold sliceMade
  have e:slicePicked z l u none=Builtin.Str.strSliceIndices (l.map (·.1)) (u.map (·.1)) 1 z.length:=rfl
  rw [e]
  have hlen:(Builtin.Str.strSliceIndices (l.map (·.1)) (u.map (·.1)) 1 z.length).length=(cutL z.cps.toList (l.map (·.1)) (u.map (·.1))).length:=by
   rw [zdF_,sliceRange_one,List.length_map,List.length_range]
   unfold cutL
   rw [List.length_take,List.length_drop]
   have h1:HT.sIx z.length z.length (u.map (·.1))≤z.length:=HT.sIx_le _ _ (Nat.le_refl _) _
   have h2:z.cps.toList.length=z.length:=by simp [Str.length]
   rw [h2]
   lia
  split
  ·rename_i hc
   have hc':(cutL z.cps.toList (l.map (·.1)) (u.map (·.1))).length=z.cps.toList.length:=by
    rw [← hlen]
    simpa [Str.length] using hc
   rw [ziQ_ hc'] at q
   have q':Q (.str z) H:=by rw [zdc_ z]; exact q
   exact ⟨.str z,H,I,⟨_,rfl⟩,q'⟩
  ·rw [zhi_]
   have h3:=zeA_ z.cps.toList (l.map (·.1)) (u.map (·.1))
   have h2:z.cps.toList.length=z.length:=by simp [Str.length]
   refine ⟨?_,tx (cutL z.cps.toList (l.map (·.1)) (u.map (·.1))),H,I.tok _,⟨_,rfl⟩,q⟩
   show (cutL z.cps.toList (l.map (·.1)) (u.map (·.1))).toArray.size≤sizeLine
   rw [List.size_toArray]
   exact Nat.le_trans h3 (by rw [h2]; exact hz)
 | _=>exact h.elim
end
end L2
namespace L2
open PySem PySem.Spec PyProof.Rows
def mVar (i:Nat):TE:=fun σ H Q=>match σ[i]? with | some (some v)=>Q v H | _=>False
section
variable {X:Cx}{a b c:Expr}{ta tb tc:TE}{pos:Pos}
theorem za_ (i:Nat) {x:Str}{pos:Pos}(hN:X.N[i]?=some x:=by rfl) (hv:Vis X.env.scope x:=by first | exact Or.inl rfl | exact Or.inr (Or.inl rfl) | exact Or.inr (Or.inr rfl)) (hd:(x == ("__debug__" : Str))=false:=by decide)
  (hcd:(x == ("__classdict__" : Str))=false:=by decide):PE X (.Name x pos) (mVar i):=by
 intro pins s σ H Q I h
 unfold mVar at h
 cases e:σ[i]? with
 | none=>rw [e] at h; exact h.elim
 | some o =>
  rw [e] at h
  cases o with
  | none=>exact h.elim
  | some v=>exact zni_ hN hv hd hcd pins s σ H Q I ⟨v,e,h⟩
theorem zV_ {x:Str}{l:List Nat}{j pos} (h:x=⟨l.toArray⟩:=by rfl):PE X (.Constant (.str x) j pos) (tC (tx l)):=h ▸ zn9_
def mAdd:R2:=fun x y H Q=>match x,y with
 | .int i,.int j=>Q (.int (i+j)) H
 | .str a,.str b=>a.cps.toList.length+b.cps.toList.length≤sizeLine∧Q (tx (a.cps.toList++b.cps.toList)) H
 | .ref a,.ref b=>∃ xs zs,H a=some (.lst xs)∧H b=some (.lst zs)∧xs.length+zs.length≤sizeLine∧∀ p,H p=none→Q (.ref p) (upd H p (.lst (xs++zs)))
 | _,_=>False
theorem z1_:OpR X (binaryOp .Add) mAdd:=by
 intro pins s σ H x y v u Q I rx ry h
 cases x<;>cases y<;>first
  | exact h.elim
  | exact znH_ pins s σ H _ _ v u Q I rx ry ⟨_,_,rfl,rfl,h⟩
  | exact zhI_ pins s σ H _ _ v u Q I rx ry ⟨_,_,rfl,rfl,by simpa [Str.length] using h.1,by rw [zl7_]; exact h.2⟩
  | (obtain ⟨xs,zs,h1,h2,h3,h4⟩:=h; exact zn3_ pins s σ H _ _ v u Q I rx ry ⟨_,_,xs,zs,rfl,rfl,h1,h2,h3,h4⟩)
def mI (C:Int→Int→Prop) (g:Int→Int→V):R2:=fun x y H Q=>match x,y with | .int i,.int j=>C i j∧Q (g i j) H | _,_=>False
def mI0 (g:Int→Int→V):R2:=fun x y H Q=>match x,y with | .int i,.int j=>Q (g i j) H | _,_=>False
theorem opM {f:Value→Value→Sem Value}{C:Int→Int→Prop}{g:Int→Int→V}(h:OpR X f (rI C g)):OpR X f (mI C g):=by
 intro pins s σ H x y v u Q I rx ry q
 cases x<;>cases y<;>first | exact q.elim | exact h pins s σ H _ _ v u Q I rx ry ⟨_,_,rfl,rfl,q.1,q.2⟩
theorem opM0 {f:Value→Value→Sem Value}{g:Int→Int→V}(h:OpR X f (rI0 g)):OpR X f (mI0 g):=by
 intro pins s σ H x y v u Q I rx ry q
 cases x<;>cases y<;>first | exact q.elim | exact h pins s σ H _ _ v u Q I rx ry ⟨_,_,rfl,rfl,q⟩
abbrev mSub:R2:=mI0 fun i j=>.int (i-j)
abbrev mMod:R2:=mI (fun _ j=>0<j) fun i j=>.int (i % j)
theorem zir_:OpR X (binaryOp .Sub) mSub:=opM0 znL_
theorem zaW_:OpR X (binaryOp .Mod) mMod:=opM zod_
def mEqB (x y:V):Option Bool:=match x,y with
 | .int i,.int j=>some (decide (i=j))
 | .str a,.str b=>some (decide (a.cps.toList=b.cps.toList))
 | .bl a,.bl b=>some (decide (a=b))
 | .non,.non=>some true
 | .non,.int _=>some false | .int _,.non=>some false | .non,.bl _=>some false | .bl _,.non=>some false | .non,.str _=>some false | .str _,.non=>some false
 | .int _,.str _=>some false | .str _,.int _=>some false | .bl _,.str _=>some false | .str _,.bl _=>some false
 | _,_=>none
theorem zhg_ {x y:V}{b:Bool}(h:mEqB x y=some b):scal x y=true∧decide (x=y)=b:=by
 cases x<;>cases y<;>first
  | (cases (show (none:Option Bool)=some b from h); done)
  | (refine ⟨rfl,?_⟩; have h':=Option.some.inj h; rw [← h']; first | rfl | (simp; done))
  | (rename_i a b'
     refine ⟨rfl,?_⟩
     have h':=Option.some.inj h
     rw [← h',decide_eq_decide]
     constructor
     ·intro e; cases e; rfl
     ·intro e; rw [zdc_ a,zdc_ b',e])
def mEq:R2:=fun x y H Q=>match mEqB x y with | some b=>Q (.bl b) H | none=>False
def mNe:R2:=fun x y H Q=>match mEqB x y with | some b=>Q (.bl (!b)) H | none=>False
theorem zny_:OpR X (compareOp .Eq) mEq:=by
 intro pins s σ H x y v u Q I rx ry h
 unfold mEq at h
 cases e:mEqB x y with
 | none=>rw [e] at h; exact h.elim
 | some b =>
  rw [e] at h
  obtain ⟨h1,h2⟩:=zhg_ e
  exact op_eq pins s σ H x y v u Q I rx ry ⟨h1,by rw [h2]; exact h⟩
theorem zn8_:OpR X (compareOp .NotEq) mNe:=by
 intro pins s σ H x y v u Q I rx ry h
 unfold mNe at h
 cases e:mEqB x y with
 | none=>rw [e] at h; exact h.elim
 | some b =>
  rw [e] at h
  obtain ⟨h1,h2⟩:=zhg_ e
  exact op_ne pins s σ H x y v u Q I rx ry ⟨h1,by rw [h2]; exact h⟩
abbrev mLt:R2:=mI0 fun i j=>.bl (decide (i<j))
abbrev mLe:R2:=mI0 fun i j=>.bl (decide (i≤j))
abbrev mGt:R2:=mI0 fun i j=>.bl (decide (j<i))
theorem zg4_:OpR X (compareOp .Lt) mLt:=opM0 op_lt
theorem zaP_:OpR X (compareOp .LtE) mLe:=opM0 op_le
theorem zmj_:OpR X (compareOp .Gt) mGt:=opM0 op_gt
def mIsB (x y:V):Option Bool:=match y with
 | .non=>some (decide (x=.non))
 | .bl b=>(match x with | .bl a=>some (decide (a=b)) | _=>none)
 | _=>none
def mIs:R2:=fun x y H Q=>match mIsB x y with | some b=>Q (.bl b) H | none=>False
def mIsNot:R2:=fun x y H Q=>match mIsB x y with | some b=>Q (.bl (!b)) H | none=>False
theorem zko_ {M:Model}{A:Around}{E:Value→Shared→Prop}{s:Shared}{a b:Bool}{Q:Value→Shared→Prop}(h:Q (.bool (decide (a=b))) s):wpAny M A (compareOp .Is (.bool a) (.bool b)) Q E s:=by
 cases a<;>cases b<;>exact wpAny_pure h
theorem zgQ_ {M:Model}{A:Around}{E:Value→Shared→Prop}{s:Shared}{a b:Bool}{Q:Value→Shared→Prop}(h:Q (.bool (!decide (a=b))) s):wpAny M A (compareOp .IsNot (.bool a) (.bool b)) Q E s:=by
 cases a<;>cases b<;>exact wpAny_pure h
theorem ziP_:OpR X (compareOp .Is) mIs:=by
 intro pins s σ H x y v u Q I rx ry h
 unfold mIs mIsB at h
 cases y with
 | non=>exact znv_ pins s σ H x _ v u Q I rx ry ⟨rfl,h⟩
 | bl b =>
  cases x with
  | bl a=>cases rx; cases ry; exact zko_ ⟨.bl _,H,I,rfl,h⟩
  | _=>exact h.elim
 | _=>exact h.elim
theorem zcu_:OpR X (compareOp .IsNot) mIsNot:=by
 intro pins s σ H x y v u Q I rx ry h
 unfold mIsNot mIsB at h
 cases y with
 | non=>exact zmi_ pins s σ H x _ v u Q I rx ry ⟨rfl,h⟩
 | bl b =>
  cases x with
  | bl a=>cases rx; cases ry; exact zgQ_ ⟨.bl _,H,I,rfl,h⟩
  | _=>exact h.elim
 | _=>exact h.elim
def inS (l:List Nat) (t:List Nat):Bool:=match l with | [c]=>decide (c∈t) | _=>!(Builtin.Str.occurrences ⟨t.toArray⟩ ⟨l.toArray⟩ 0 t.length 1).isEmpty
theorem zjv_ (a b:Str):(!(Builtin.Str.occurrences b a 0 b.length 1).isEmpty)=inS a.cps.toList b.cps.toList:=by
 have e:b.length=b.cps.toList.length:=by simp [Str.length]
 unfold inS
 split
 ·rename_i c hc
  have ea:a=⟨#[c]⟩:=by rw [zdc_ a,hc]
  rw [ea]
  exact StrLaws.found_one b c
 ·rw [← zdc_,← zdc_,e]
def mIn (K:Fgg) (neg:Bool):R2:=fun x y H Q=>match y with
 | .str b=>(match x with | .str a=>Q (.bl (if neg then !inS a.cps.toList b.cps.toList else inS a.cps.toList b.cps.toList)) H | _=>False)
 | .ref p=>∃ xs,(SqL K H p xs∨SqT K H p xs)∧flatV x=true∧xs.all flatV=true∧Q (.bl (if neg then !inV x xs else inV x xs)) H
 | _=>False
theorem zi0_:OpR X (compareOp .In) (mIn X.K false):=by
 intro pins s σ H x y v u Q I rx ry h
 unfold mIn at h
 cases y with
 | str b =>
  cases x with
  | str a=>exact ziT_ pins s σ H _ _ v u Q I rx ry ⟨_,_,rfl,rfl,by rw [zjv_]; exact h⟩
  | _=>exact h.elim
 | ref p =>
  obtain ⟨xs,h1,h2,h3,h4⟩:=h
  exact zi4_ pins s σ H _ _ v u Q I rx ry ⟨_,xs,rfl,h1,h2,h3,h4⟩
 | _=>exact h.elim
theorem zje_:OpR X (compareOp .NotIn) (mIn X.K true):=by
 intro pins s σ H x y v u Q I rx ry h
 unfold mIn at h
 cases y with
 | str b =>
  cases x with
  | str a=>exact zfP_ pins s σ H _ _ v u Q I rx ry ⟨_,_,rfl,rfl,by rw [zjv_]; exact h⟩
  | _=>exact h.elim
 | ref p =>
  obtain ⟨xs,h1,h2,h3,h4⟩:=h
  exact zfO_ pins s σ H _ _ v u Q I rx ry ⟨_,xs,rfl,h1,h2,h3,h4⟩
 | _=>exact h.elim
def mTest (t:TE):TT:=fun σ H Q=>t σ H fun x H'=>match x with | .bl k=>Q k H' | _=>False
def mAndV (ta tb:TE):TE:=fun σ H Q=>ta σ H fun x H1=>match x with | .bl c=>br c (tb σ H1 Q) (Q (.bl false) H1) | _=>False
def mOrV (ta tb:TE):TE:=fun σ H Q=>ta σ H fun x H1=>match x with | .bl c=>br c (Q (.bl true) H1) (tb σ H1 Q) | _=>False
def mNotV (ta:TE):TE:=fun σ H Q=>ta σ H fun x H1=>match x with | .bl c=>Q (.bl (!c)) H1 | _=>False
def mAnd (t u:TT):TT:=fun σ H Q=>t σ H fun c H1=>br c (u σ H1 Q) (Q false H1)
def mOr (t u:TT):TT:=fun σ H Q=>t σ H fun c H1=>br c (Q true H1) (u σ H1 Q)
variable {rest:List Expr}{tA tB':TT}
theorem zba_ (ha:PE X a ta) (hb:PE X (.BoolOp .And (b::rest) pos) tb):PE X (.BoolOp .And (a::b::rest) pos) (mAndV ta tb):=by
 intro pins s σ H Q I h
 refine BoolOp_and (thn (ha pins s σ H _ I h) fun v s1 hq_=>?_)
 obtain ⟨x,H1,I1,r1,q1⟩:=hq_
 cases x with
 | bl c =>
  cases r1
  refine wpAny_truthy_bool ?_
  cases c with
  | true=>exact hb pins s1 σ H1 Q I1 (q1.1 rfl)
  | false=>exact ⟨.bl false,H1,I1,rfl,q1.2 rfl⟩
 | _=>exact q1.elim
theorem zkR_ (ha:PE X a ta) (hb:PE X (.BoolOp .Or (b::rest) pos) tb):PE X (.BoolOp .Or (a::b::rest) pos) (mOrV ta tb):=by
 intro pins s σ H Q I h
 refine BoolOp_or (thn (ha pins s σ H _ I h) fun v s1 hq_=>?_)
 obtain ⟨x,H1,I1,r1,q1⟩:=hq_
 cases x with
 | bl c =>
  cases r1
  refine wpAny_truthy_bool ?_
  cases c with
  | false=>exact hb pins s1 σ H1 Q I1 (q1.2 rfl)
  | true=>exact ⟨.bl true,H1,I1,rfl,q1.1 rfl⟩
 | _=>exact q1.elim
theorem zh4_ (ha:PE X a ta):PE X (.UnaryOp .Not a pos) (mNotV ta):=by
 intro pins s σ H Q I h
 refine UnaryOp_ (thn (ha pins s σ H _ I h) fun v s1 hq_=>?_)
 obtain ⟨x,H1,I1,r1,q1⟩:=hq_
 cases x with
 | bl c=>cases r1; exact not_of (wpAny_truthy_bool ⟨.bl (!c),H1,I1,rfl,q1⟩)
 | _=>exact q1.elim
theorem zdg_ (ha:PT X a tA) (hb:PW X (.BoolOp .And (b::rest) pos) tB'):PW X (.BoolOp .And (a::b::rest) pos) (mAnd tA tB'):=by
 intro wh pins s σ H Q I h
 refine isTrue_and (thn (ha pins s σ H _ I h) fun c s1 hq_=>?_)
 obtain ⟨H1,I1,q1⟩:=hq_
 cases c with
 | true=>exact hb wh pins s1 σ H1 Q I1 (q1.1 rfl)
 | false=>exact ⟨H1,I1,q1.2 rfl⟩
theorem zlU_ (ha:PT X a tA) (hb:PW X (.BoolOp .Or (b::rest) pos) tB'):PW X (.BoolOp .Or (a::b::rest) pos) (mOr tA tB'):=by
 intro wh pins s σ H Q I h
 refine isTrue_or (thn (ha pins s σ H _ I h) fun c s1 hq_=>?_)
 obtain ⟨H1,I1,q1⟩:=hq_
 cases c with
 | true=>exact ⟨H1,I1,q1.1 rfl⟩
 | false=>exact hb wh pins s1 σ H1 Q I1 (q1.2 rfl)
theorem zcV_ {e:Expr}{t:TE}(h:PE X e t) (he:∀ whole,isTrue e X.env whole=(do let v ← whole; standAt e.pos; holding [v] (truthy v)):=by intro _; rfl):PT X e (mTest t):=by
 intro pins s σ H Q I hw
 refine isTrue_plain (thn (h pins s σ H _ I hw) fun v s1 hq_=>?_) (he _)
 obtain ⟨x,H1,I1,r1,q1⟩:=hq_
 cases x with
 | bl c=>cases r1; exact wpAny_truthy_bool ⟨H1,I1,q1⟩
 | _=>exact q1.elim
theorem zN_ {op:CmpOp}{r:R2}(ho:OpR X (compareOp op) r) (ha:PE X a ta) (hb:PE X b tb) (hm:behindInMarks op b=false:=by first | exact nobehind _ (by decide) (by decide) | rfl):PT X (.Compare a [op] [b] pos) (mTest (tOp r ta tb)):=by
 intro pins s σ H Q I hw
 refine wpAny_isTrue_Compare1 (binT ha hb I hw fun v u s2 x y H2 I2 rx ry q=>?_) hm
 refine thn (ho pins s2 σ H2 x y v u _ I2 rx ry q) fun c s3 hq_=>?_
 obtain ⟨z,H3,I3,r3,q3⟩:=hq_
 cases z with
 | bl k=>cases r3; exact wpAny_truthy_bool ⟨H3,I3,q3⟩
 | _=>exact q3.elim
theorem zK_ {op:CmpOp}{r:R2}(ho:OpR X (compareOp op) r) (ha:PE X a ta) (hb:PE X b tb) (hm:behindInMarks op b=false:=by first | exact nobehind _ (by decide) (by decide) | rfl):PE X (.Compare a [op] [b] pos) (tOp r ta tb):=zmp_ ho ha hb hm
def mIf (t:TT) (ta tb:TE):TE:=fun σ H Q=>t σ H fun c H1=>br c (ta σ H1 Q) (tb σ H1 Q)
theorem zii_ {c:Expr}(hc:PT X c tA) (ha:PE X a ta) (hb:PE X b tb):PE X (.IfExp c a b pos) (mIf tA ta tb):=by
 intro pins s σ H Q I h
 refine wpAny_IfExp (thn (hc pins s σ H _ I h) fun d s1 hq_=>?_)
 obtain ⟨H1,I1,q1⟩:=hq_
 cases d with
 | true=>exact ha pins s1 σ H1 Q I1 (q1.1 rfl)
 | false=>exact hb pins s1 σ H1 Q I1 (q1.2 rfl)
def mIfS (c:TT) (t u:TS):TS:=fun D σ H=>c σ H fun b H1=>br b (t D σ H1) (u D σ H1)
theorem zaw_ {c:Expr}{a b:List Stmt}{tc:TT}{t u:TS}(hc:PT X c tc) (ha:PSs X a t) (hb:PSs X b u):PS X (.If c a b pos) (mIfS tc t u):=by
 intro pins s σ H D I h
 refine wpAny_If (thn (hc pins s σ H _ I h) fun d s1 hq_=>?_)
 obtain ⟨H1,I1,q1⟩:=hq_
 cases d with
 | true=>exact ha pins s1 σ H1 D I1 (q1.1 rfl)
 | false=>exact hb pins s1 σ H1 D I1 (q1.2 rfl)
def mChain (r r':R2) (ta tb tc:TE):TE:=fun σ H Q=>ta σ H fun x H1=>tb σ H1 fun y H2=>r x y H2 fun z H3=>match z with | .bl k=>br k (tc σ H3 fun w H4=>r' y w H4 Q) (Q (.bl false) H3) | _=>False
theorem zc5_ {op op':CmpOp}{r r':R2}(ho:OpR X (compareOp op) r) (ho':OpR X (compareOp op') r') (ha:PE X a ta) (hb:PE X b tb) (hc:PE X c tc)
  (hm:lastMarks [op,op'] [b,c]=false:=by with_unfolding_all rfl):PE X (.Compare a [op,op'] [b,c] pos) (mChain r r' ta tb tc):=by
 intro pins s σ H Q I h
 refine Compare_chain (thn (ha pins s σ H _ I h) fun v s1 ⟨x,H1,I1,r1,q1⟩=>chain_link (thn (hb pins s1 σ H1 _ I1 q1) fun u s2 ⟨y,H2,I2,r2,q2⟩ =>
  thn (ho pins s2 σ H2 x y v u _ I2 r1 r2 q2) fun d s3 ⟨z,H3,I3,r3,q3⟩=>?_)) hm
 cases z with
 | bl k =>
  cases r3
  refine wpAny_truthy_bool ?_
  cases k with
  | false=>exact ite_ff ⟨.bl false,H3,I3,rfl,q3.2 rfl⟩
  | true=>exact ite_tt (chain_last (thn (hc pins s3 σ H3 _ I3 (q3.1 rfl)) fun w' s4 ⟨z',H4,I4,r4,q4⟩=>ho' pins s4 σ H4 y z' u w' Q I4 r2 r4 q4))
 | _=>exact q3.elim
end
end L2
namespace L2
open PySem PySem.Spec PyProof.Rows
section
variable {X:Cx}{a b c e o:Expr}{es:List Expr}{ta tb tc:TE}{t:TA}{pos:Pos}
def mIx (K:Fgg):R2:=fun x y H Q=>match y with
 | .int i=>(match x with
  | .ref p=>∃ xs,(SqL K H p xs∨SqT K H p xs)∧(match atI xs i with | some v=>Q v H | none=>False)
  | .str z=>z.cps.toList.length≤sizeLine∧(match atI z.cps.toList i with | some c=>Q (tx [c]) H | none=>False)
  | _=>False)
 | _=>False
theorem ix_M:IxR X (mIx X.K):=by
 intro value slice pins s σ H x y v u Q I rx ry h hs0
 unfold mIx at h
 cases y with
 | int i =>
  cases x with
  | ref p =>
   obtain ⟨xs,hs,h⟩:=h
   cases ev:atI xs i with
   | none=>rw [ev] at h; exact h.elim
   | some w' =>
    rw [ev] at h
    rcases hs with hs | hs
    ·exact zm1_ value slice pins s σ H _ _ v u Q I rx ry ⟨p,xs,i,w',rfl,rfl,hs,ev,h⟩ hs0
    ·exact zoc_ value slice pins s σ H _ _ v u Q I rx ry ⟨p,xs,i,w',rfl,rfl,hs,ev,h⟩ hs0
  | str z =>
   obtain ⟨hz,h⟩:=h
   cases ev:atI z.cps.toList i with
   | none=>rw [ev] at h; exact h.elim
   | some w' =>
    rw [ev] at h
    exact zok_ value slice pins s σ H _ _ v u Q I rx ry ⟨z,i,w',rfl,rfl,by simpa [Str.length] using hz,ev,h⟩ hs0
  | _=>exact h.elim
 | _=>exact h.elim
def mSl (K:Fgg):V→Option Int→Option Int→Hp→VK→Prop:=fun x lo hi H Q=>match x with
 | .str z=>z.cps.toList.length≤sizeLine∧Q (tx (cutL z.cps.toList lo hi)) H
 | .ref a=>∃ xs,SqL K H a xs∧∀ p,H p=none→Q (.ref p) (upd H p (.lst (cutV xs lo hi)))
 | _=>False
theorem sl_M:SlR X (mSl X.K):=by
 intro pins s σ H x v vl vu lo hi sl Q I rx hs pl pu h
 unfold mSl at h
 cases x with
 | str z=>exact znD_ pins s σ H _ v vl vu lo hi sl Q I rx hs pl pu ⟨by simpa [Str.length] using h.1,h.2⟩
 | ref p =>
  obtain ⟨xs,h1,h2⟩:=h
  exact zl1_ pins s σ H _ v vl vu lo hi sl Q I rx hs pl pu ⟨p,xs,rfl,h1,h2⟩
 | _=>exact h.elim
def mPart (t:TE):TO:=fun σ H Q=>t σ H fun x H1=>match x with | .int i=>Q (some i) H1 | _=>False
theorem po_M (h:PE X e ta):PO X (some e) (mPart ta):=by
 intro pins s σ H Q I hw
 rw [evalPart_some]
 refine thn (h pins s σ H _ I hw) fun u s1 hq_=>?_
 obtain ⟨x,H1,I1,r1,q1⟩:=hq_
 cases x with
 | int i=>obtain ⟨t,rfl⟩:=r1; exact ⟨some i,H1,I1,.int i t,q1⟩
 | _=>exact q1.elim
def mLen (K:Fgg):List V→Hp→VK→Prop:=fun xs H Q=>match xs with
 | [.str z]=>z.cps.toList.length≤sizeLine∧Q (.int z.cps.toList.length) H
 | [.ref p]=>∃ ys,(SqL K H p ys∨SqT K H p ys)∧Q (.int ys.length) H
 | _=>False
theorem zkA_ {K:Fgg}{xs:List V}{H:Hp}{Q:VK}(h:mLen K xs H Q):(∃ z,xs=[.str z]∧z.cps.toList.length≤sizeLine∧Q (.int z.cps.toList.length) H)∨∃ p ys,xs=[.ref p]∧(SqL K H p ys∨SqT K H p ys)∧Q (.int ys.length) H:=by
 rcases xs with _ | ⟨x,_ | ⟨y,t⟩⟩
 ·exact False.elim h
 ·cases x with
  | str z=>exact .inl ⟨z,rfl,h⟩
  | ref p=>obtain ⟨ys,h⟩:=h; exact .inr ⟨p,ys,rfl,h⟩
  | _=>exact False.elim h
 ·cases x<;>exact False.elim h
theorem zF_:CallR X (.builtin "len") (mLen X.K):=by
 intro pins s σ H xs us Q I r h
 rcases zkA_ h with ⟨z,rfl,h⟩ | ⟨p,ys,rfl,h1,h2⟩
 ·exact zfN_ pins s σ H _ us Q I r ⟨_,rfl,by simpa [Str.length] using h.1,by simpa [Str.length] using h.2⟩
 ·exact zfX_ pins s σ H _ us Q I r ⟨_,ys,rfl,h1,h2⟩
def mTwo (g:Int→Int→Int):List V→Hp→VK→Prop:=fun xs H Q=>match xs with | [.int i,.int j]=>Q (.int (g i j)) H | _=>False
theorem zkJ_ {g:Int→Int→Int}{xs:List V}{H:Hp}{Q:VK}(h:mTwo g xs H Q):∃ i j,xs=[.int i,.int j]∧Q (.int (g i j)) H:=by
 rcases xs with _ | ⟨x,_ | ⟨y,_ | ⟨w,t⟩⟩⟩
 ·exact False.elim h
 ·cases x<;>exact False.elim h
 ·cases x with
  | int i=>cases y with
   | int j=>exact ⟨i,j,rfl,h⟩
   | _=>exact False.elim h
  | _=>exact False.elim h
 ·cases x with
  | int i=>cases y<;>exact False.elim h
  | _=>exact False.elim h
theorem zi8_ (hc:X.calm=true):CallR X (.builtin "min") (mTwo min):=by
 intro pins s σ H xs us Q I r h
 obtain ⟨i,j,rfl,h⟩:=zkJ_ h
 refine ziN_ hc pins s σ H _ us Q I r ⟨i,j,rfl,?_⟩
 have e:(if j<i then j else i)=min i j:=by split<;>lia
 rw [e]; exact h
def tyS (K:Fgg) (H:Hp):V→String→Prop:=fun x T=>match x with
 | .non=>T = "NoneType" | .bl _=>T = "bool" | .int _=>T = "int" | .str _=>T = "str"
 | .ref p=>(T = "list" ∧ ∃ xs,H p=some (.lst xs))∨(T = "tuple" ∧ ∃ xs,H p=some (.tup xs))
 | _=>False
theorem znV_ {K:Fgg}{H:Hp}{x:V}{T:String}(h:tyS K H x T):TyOf K H x (.type T):=by
 unfold tyS at h
 cases x with
 | non=>subst h; exact .non
 | bl b=>subst h; exact .bl b
 | int i=>subst h; exact .int i
 | str z=>subst h; exact .str z
 | ref p =>
  rcases h with ⟨rfl,xs,h⟩ | ⟨rfl,xs,h⟩
  ·exact .lst h
  ·exact .tup h
 | _=>exact h.elim
def isaB (T c:String):Option Bool :=
 if T=c then some true else if T = "bool" ∧ c = "int" then some true
 else if (T = "bool" ∨ T = "int" ∨ T = "str" ∨ T = "list" ∨ T = "tuple" ∨ T = "NoneType")∧(c = "bool" ∨ c = "int" ∨ c = "str" ∨ c = "list" ∨ c = "tuple" ∨ c = "dict") then some false else none
theorem zme_ {K:Fgg}{T c:String}{b:Bool}(h:isaB T c=some b):PySem.W.kitOne K (.type T) (.type c)=some b:=by
 unfold isaB at h
 split at h
 ·rename_i e; subst e; cases h
  unfold PySem.W.kitOne
  rw [if_pos (by simp)]
 ·split at h
  ·rename_i e; obtain ⟨rfl,rfl⟩:=e; cases h; rfl
  ·split at h
   ·rename_i h1 h2 e
    cases h
    obtain ⟨e1,e2⟩:=e
    rcases e1 with rfl | rfl | rfl | rfl | rfl | rfl<;>rcases e2 with rfl | rfl | rfl | rfl | rfl | rfl<;>first | rfl | exact absurd rfl h1 | exact absurd ⟨rfl,rfl⟩ h2
   ·cases h
def mIsa (K:Fgg):List V→Hp→VK→Prop:=fun xs H Q=>match xs with
 | [.int _,.ty c]=>(match isaB "int" c with | some b=>Q (.bl b) H | none=>False)
 | [.bl _,.ty c]=>(match isaB "bool" c with | some b=>Q (.bl b) H | none=>False)
 | [.str _,.ty c]=>(match isaB "str" c with | some b=>Q (.bl b) H | none=>False)
 | [.non,.ty c]=>(match isaB "NoneType" c with | some b=>Q (.bl b) H | none=>False)
 | [.ref p,.ty c]=>∃ T,tyS K H (.ref p) T∧(match isaB T c with | some b=>Q (.bl b) H | none=>False)
 | _=>False
theorem zhX_:CallR X (.builtin "isinstance") (mIsa X.K):=by
 intro pins s σ H xs us Q I r h
 have key:∀ (x:V) (T c:String),xs=[x,.ty c]→tyS X.K H x T→(match isaB T c with | some b=>Q (.bl b) H | none=>False)→wpAny (model X.prog X.w) X.A (call (.builtin "isinstance") us) (EP X pins σ Q) X.xe s:=by
  intro x T c e ht hq
  subst e
  obtain ⟨u,w',rfl,r1,r2⟩:=vals2 r
  cases r2
  cases eb:isaB T c with
  | none=>rw [eb] at hq; exact hq.elim
  | some b =>
   rw [eb] at hq
   exact ziU_ I r1 (znV_ ht) (zme_ eb) fun tk=>⟨.bl b,H,I.tok tk,rfl,hq⟩
 unfold mIsa at h
 split at h
 ·exact key _ "int" _ rfl rfl h
 ·exact key _ "bool" _ rfl rfl h
 ·exact key _ "str" _ rfl rfl h
 ·exact key _ "NoneType" _ rfl rfl h
 ·obtain ⟨T,h1,h2⟩:=h
  exact key _ T _ rfl h1 h2
 ·exact h.elim
end
end L2
namespace L2
open PySem PySem.Spec PyProof.Rows
def Gd (P:Program) (w:World) (K:Fgg) (mg:Str→Option Value) (base:Heap) (CX:CXT) (k:Nat) (x:Str) (ps:List Str) (sp:Sp):Prop :=
 ∃ f fd,FnOk P w K mg base CX k f fd ps sp∧mg x=some (.ref f)∧PySem.W.keepIn K (.ref f)=true∧Binds K fd ps []
def Gc (mg:Str→Option Value) (x:Str) (v:V):Prop:=∃ u,mg x=some u∧RelV v u
abbrev Gb (mg:Str→Option Value) (x:Str):Prop:=mg x=none
section
variable {X:Cx}{CX:CXT}{k:Nat}{x:Str}{ps:List Str}{sp:Sp}{p pos:Pos}{e:Expr}{es:List Expr}{t:TA}{tg:Expr}
theorem zo_ (G:Gd X.prog X.w X.K X.mg X.base CX0 k x ps sp) (hr:Room k X.A) (ha:PA X (e::es) t) (hg:Gl X x:=by rfl) (hdb:(x == ("__debug__" : Str))=false:=by decide)
  (he:starEach (e::es) X.env=(false,eval e X.env)::starEach es X.env:=by rfl) (hpl:(backTo pos (starEach es X.env)).any (·.1)=false:=by rfl) :
  PE X (.Call (.Name x p) (e::es) [] pos) (tCall sp [] E0 t):=by
 obtain ⟨f,fd,F,hm,hk,hb⟩:=G
 exact zjt_ F hr hg hm hk hb .nil pass0 ha hdb he hpl
theorem zdt_ {v:V}(h:Gc X.mg x v) (hg:Gl X x:=by rfl) (hd:(x == ("__debug__" : Str))=false:=by decide):PE X (.Name x pos) (tC v):=by
 obtain ⟨u,hm,r⟩:=h
 exact zmz_ hg hm r hd
theorem zn7_ (T:String) (hm:Gb X.mg x) (hg:Gl X x:=by rfl) (hv:bootBuiltins x=some (.type T):=by rfl) (hn:x ≠ "__name__" := by decide) (hd:(x == ("__debug__" : Str))=false:=by decide):PE X (.Name x pos) (tC (.ty T)) :=
 zmU_ hg hm hv rfl hn hd
theorem zbO_ {id:String}{r:List V→Hp→VK→Prop}(hc:CallR X (.builtin id) r) (hm:Gb X.mg x) (ha:PA X (e::es) t) (hg:Gl X x:=by rfl) (hv:bootBuiltins x=some (.builtin id):=by rfl) (hn:x ≠ "__name__" := by decide) (hdb:(x == ("__debug__" : Str))=false:=by decide)
  (hs:starEach (e::es) X.env=(false,eval e X.env)::starEach es X.env:=by rfl) (hpl:(backTo pos (starEach es X.env)).any (·.1)=false:=by rfl):PE X (.Call (.Name x p) (e::es) [] pos) (tCB r t) :=
 zkq_ hc hg hm hv ha hn hdb hs hpl
def iAny (K:Fgg) (tl:TE):TI:=fun σ H R=>tl σ H fun x H1=>match x with
 | .str z=>R (Itp z.cps.toList.length (fun i=>tx [z.cps.toList.getD i 0])) H1
 | .ref a=>((∃ xs,SqL K H1 a xs)∧R (Itl K a) H1)∨((∃ xs,SqT K H1 a xs)∧R (Itt K a) H1)
 | _=>False
theorem znc_ (z:Str):sgn z=fun i=>tx [z.cps.toList.getD i 0]:=by
 funext i
 unfold sgn
 simp [Array.getD_eq_getD_getElem?,List.getD_eq_getElem?_getD]
theorem zbd_ {l:Expr}{tl:TE}(hl:PE X l tl):PI X tg l (iAny X.K tl):=by
 intro pins s σ H R I h
 refine thn (hl pins s σ H _ I h) fun v s1 hq_=>?_
 obtain ⟨x,H1,I1,r1,q1⟩:=hq_
 have pt:∀ (v:V),PE X l (tC v)→PE X l (tC v):=fun _ h=>h
 cases x with
 | str z =>
  obtain ⟨t,rfl⟩:=r1
  refine wpAny_pyIter_strU ?_
  have q:R (Itp z.cps.size (sgn z)) H1:=by
   have e:z.cps.toList.length=z.cps.size:=by simp
   rw [znc_,← e]
   exact q1
  refine ⟨s1.heap.objs.size,[s1.heap.objs.size],_,_,H1,rfl,I1.kept (t':=s1.toks) fun b o e=>Heap.get?_push_of_some _ e,zkS_ _ z t,⟨Nat.zero_le _,⟨_,Heap.get?_push_size _ rfl,rfl,rfl⟩⟩,fun b hb=>?_,q⟩
  have e:b=s1.heap.objs.size:=by simpa using hb
  subst e
  exact I1.fpOk (Nat.le_refl _) (I1.hok.fresh (Nat.le_refl _))
 | ref a =>
  cases r1
  rcases q1 with ⟨⟨xs,hq⟩,q⟩ | ⟨⟨xs,hq⟩,q⟩
  ·obtain ⟨its,rv,p,hz⟩:=I1.list hq
   refine wpAny_pyIter_list p.isList ?_
   refine ⟨s1.heap.objs.size,[s1.heap.objs.size],_,_,H1,rfl,I1.kept (t':=s1.toks) fun b o e=>Heap.get?_push_of_some _ e,ziy_ a _,⟨_,Heap.get?_push_size _ rfl,rfl,rfl⟩,fun b hb=>?_,q⟩
   have e:b=s1.heap.objs.size:=by simpa using hb
   subst e
   exact I1.fpOk (Nat.le_refl _) (I1.hok.fresh (Nat.le_refl _))
  ·obtain ⟨its,rv,p,hz⟩:=I1.tuple hq
   refine wpAny_pyIter_tuple (show s1.heap.IsTuple a its.toArray from p) ?_
   refine ⟨s1.heap.objs.size,[s1.heap.objs.size],_,_,H1,rfl,I1.kept (t':=s1.toks) fun b o e=>Heap.get?_push_of_some _ e,zij_ a _,⟨_,Heap.get?_push_size _ rfl,rfl,rfl⟩,fun b hb=>?_,q⟩
   have e:b=s1.heap.objs.size:=by simpa using hb
   subst e
   exact I1.fpOk (Nat.le_refl _) (I1.hok.fresh (Nat.le_refl _))
 | _=>exact q1.elim
def mRng1 (ta:TA):TI:=fun σ H R=>ta σ H fun vs H1=>match vs with | [.int j] => -(2 ^ 62)≤j∧j<2 ^ 62∧R (Itr 0 j.toNat) H1 | _=>False
end
section
variable {X:Cx}{tg:Expr}
theorem zf6_ {a:Expr}{ta:TA}{p pos:Pos}(hm:Gb X.mg "range") (ha:PA X [a] ta) (hg:Gl X "range" := by rfl) (hs:starEach [a] X.env=[(false,eval a X.env)]:=by rfl):PI X tg (.Call (.Name "range" p) [a] [] pos) (mRng1 ta):=by
 intro pins s σ H R I h
 refine Call_ (zgy_ I hg hm boot_range (PyProof.Rows.callWith_type1 (thn (ha pos pins s σ H _ I h) fun us s1 hq_=>?_) hs rfl))
 obtain ⟨vs,H1,I1,r1,q1⟩:=hq_
 try dsimp only at q1
 split at q1
 ·obtain ⟨q2,q3,q⟩:=q1
  cases r1 with
  | cons r rr =>
   cases rr
   obtain ⟨t,rfl⟩:=r
   exact call_range_1 (zk2_ I1 (by lia) (by lia) q2 q3 (by simpa using q))
 ·exact q1.elim
variable {elts:List Expr}{kk:Nat}{tpos:Pos}
def gNilM:TGs:=fun vs σ H Q=>match vs with | []=>Q σ H | _=>False
def gConsM (t:TG) (u:TGs):TGs:=fun vs σ H Q=>match vs with | v::r=>t v σ H fun σ' H'=>u r σ' H' Q | []=>False
theorem zeD_:PGs X [] gNilM:=by
 intro pins s σ H vs us Q I r h
 cases vs with
 | nil=>exact zms_ pins s σ H [] us Q I r ⟨rfl,h⟩
 | cons _ _=>exact h.elim
theorem zaH_ {e:Expr}{es:List Expr}{t:TG}{u:TGs}(h1:PG X e t) (h2:PGs X es u)
  (hs:(assignEach (e::es) X.env).map (·.2)=assign e X.env::(assignEach es X.env).map (·.2):=by rfl):PGs X (e::es) (gConsM t u):=by
 intro pins s σ H vs us Q I r h
 cases vs with
 | nil=>exact h.elim
 | cons v vr=>exact zkz_ h1 h2 hs pins s σ H _ us Q I r ⟨v,vr,rfl,h⟩
def gTupM (K:Fgg) (n:Nat) (t:TGs):TG:=fun v σ H Q=>match v with | .ref a=>∃ xs,SqT K H a xs∧xs.length=n∧t xs σ H Q | _=>False
theorem zge_ {es:List Expr}{k:Nat}{t:TGs}{n:Nat}{pos:Pos}(hc:X.calm=true) (h:PGs X es t)
  (hn:(assignEach es X.env).length=n:=by rfl) (hst:(assignEach es X.env).findIdx? (·.1)=none:=by rfl):PG X (.Tuple es k pos) (gTupM X.K n t):=by
 intro pins s σ H v u Q I r hw
 cases v with
 | ref a =>
  obtain ⟨xs,h1,h2,h3⟩:=hw
  exact znK_ hc h hn hst pins s σ H _ u Q I r ⟨a,xs,rfl,h1,h2,h3⟩
 | _=>exact hw.elim
def mNeg (ta:TE):TE:=fun σ H Q=>ta σ H fun x H1=>match x with | .int i=>Q (.int (-i)) H1 | _=>False
theorem zmD_ {a:Expr}{ta:TE}{pos:Pos}(ha:PE X a ta):PE X (.UnaryOp .USub a pos) (mNeg ta):=by
 intro pins s σ H Q I h
 refine UnaryOp_ (thn (ha pins s σ H _ I h) fun v s1 hq_=>?_)
 obtain ⟨x,H1,I1,r1,q1⟩:=hq_
 cases x with
 | int i=>exact zn1_ pins s1 σ H1 _ v Q I1 r1 ⟨i,rfl,q1⟩
 | _=>exact q1.elim
end
theorem zdn_ {H:Hp}{p:Addr}(h:H p=none) (o:HO):Same H (upd H p o):=fun b u q=>by rw [z4_ (zaO_ q h)]; exact q
end L2
namespace L2
open PySem PySem.Spec PyProof.Rows
theorem zb7_ {n:Nat}(h:n≤100000):n≤sizeLine:=by rw [sizeLine_eq]; lia
end L2
namespace L2
open PySem PySem.Spec PyProof.Rows
section
variable {X:Cx}{tg:Expr}
theorem zk7_ {n:Nat}{k:Int}(h0:0≤k) (h1:k<n):ixN n k=some k.toNat:=by unfold ixN; rw [if_pos h0,if_pos h1]
end
section
variable {X:Cx}{x:Str}{p pos:Pos}{e:Expr}{es:List Expr}{t:TA}
theorem zjy_ (T:String) {r:List V→Hp→VK→Prop}(hc:CallR X (.type T) r) (hm:Gb X.mg x) (ha:PA X (e::es) t) (hg:Gl X x:=by rfl) (hv:bootBuiltins x=some (.type T):=by rfl) (hn:x ≠ "__name__" := by decide) (hdb:(x == ("__debug__" : Str))=false:=by decide)
  (hs:starEach (e::es) X.env=(false,eval e X.env)::starEach es X.env:=by rfl) (hpl:(backTo pos (starEach es X.env)).any (·.1)=false:=by rfl):PE X (.Call (.Name x p) (e::es) [] pos) (tCB r t) :=
 ziJ_ hc hg hm hv ha hn hdb hs hpl
end
end L2
namespace L2
open PySem PySem.Spec PyProof.Rows
end L2
namespace L2
open PySem PySem.Spec PyProof.Rows
end L2
namespace L2
open PySem PySem.Spec PyProof.Rows
def Dc (x:Addr) (d:Option Addr) (h:Heap):Prop:=∃ o,h.get? x=some o∧o.dict=d∧∀ vs,o.data=.fields vs→vs[2]?=some .none
theorem zmQ_ (o:Obj) (f):(o.mapFields f).dict=o.dict:=by obtain ⟨c,d,dt,sl⟩:=o; cases dt<;>rfl
section
variable {M:Model}{A:Around}{E:Value→Shared→Prop}{s:Shared}{base:Heap}{env:Env}{outer l:List Env}{L e:Addr}{cls a0 fl:Value}{d:Option Addr}{Q:Unit→Shared→Prop}
theorem ent_d {oe:Obj}{vs:Array Value}{head:Value}{nx:Bool}(hfr:A.frames=some (env::outer)) (hl:s.heap.FunFrames base (env::outer)) (hf:env.frame=some L) (he:s.heap.get? e=some oe) (hkb:base.StaysIn s.heap) (hen:base.get? e=none) (hd:oe.data=.fields vs) (hsz:1<vs.size) (h0:vs[0]?=some a0) (hx2:vs[2]?=some .none)
  (k:∀ h',Heap.NotedW base (env::outer) e oe.cls a0 (rawInt L) s.heap h'→Dc e oe.dict h'→Q () { s with heap:=h' }) :
  wpAny M A (do let a ← frameOf env; let pl ← entryPlaceOf L nx; let b ← EntryCells.newEntry head a .none (rawInt L) .none pl; setField (.ref e) 1 b) Q E s:=by
 have out:e∉(env::outer).filterMap (·.frame):=fun hm=>by obtain ⟨_,o,ho,hnf⟩:=hl.mem hm; cases he.symm.trans ho; exact hnf vs hd
 refine wpAny_bind (wpAny_frameOf_fun hfr hl hf fun g1 so=>wpAny_bind (wpAny_entryPlaceOf fun pl hpl=>?_))
 unfold EntryCells.newEntry newFields; refine wpAny_bind (wpAny_newObj_type ?_ (hpl.sizeOk5 _ _ _ _ _))
 have e1:g1.get? e=some oe:=(so.2.1 e out).trans he
 have b1:base.StaysIn g1:=fun b o q=>(so.2.1 b fun hm=>by have:=(hl.mem hm).1; rw [q] at this; cases this).trans (hkb b o q)
 have ne:g1.objs.size≠e:=Nat.ne_of_gt (Heap.lt_size e1)
 generalize hOb:({ cls:=.type "traceback",dict:=none,data:=.fields ([head,.ref L,.none,rawInt L,.none]++(if pl.isEmpty then List.replicate 6 Value.none else pl)).toArray }:Obj)=ob
 have obd:ob.data=.fields ([head,.ref L,.none,rawInt L,.none]++(if pl.isEmpty then List.replicate 6 Value.none else pl)).toArray:=by rw [← hOb]
 have obf:ob.isFreed=false:=Obj.isFreed_of_fields obd
 have e2:(g1.push ob).get? e=some oe:=Heap.get?_push_of_some ob e1
 have d3:=Obj.data_mapFields hd (·.setIfInBounds 1 (Value.ref g1.objs.size))
 have e3:=Heap.get?_update_self (Obj.mapFields (·.setIfInBounds 1 (Value.ref g1.objs.size))) e2 (Obj.isFreed_of_fields d3)
 have t3:((g1.push ob).update e (Obj.mapFields (·.setIfInBounds 1 (Value.ref g1.objs.size)))).get? g1.objs.size=some ob:=(Heap.get?_update_other _ _ ne.symm).trans (Heap.get?_push_size g1 obf)
 have old:∀ b o,b≠e→g1.get? b=some o→((g1.push ob).update e (Obj.mapFields (·.setIfInBounds 1 (Value.ref g1.objs.size)))).get? b=some o:=fun b o hb q=>(Heap.get?_update_other _ _ hb.symm).trans (Heap.get?_push_of_some ob q)
 have nrec:∀ b o,s.heap.get? b=some o→(∀ vs,o.data≠.fields vs)→b≠e:=fun b o q hnf z=>by rw [z,he] at q; cases q; exact hnf vs hd
 refine wpAny_setField e2 hd hsz (k _ ⟨fun b o q=>old b o (fun z=>by rw [z,hen] at q; cases q) (b1 b o q),hl.of_keeps fun b o q hnf=>?_,?_,fun b o q hnf=>?_⟩ ⟨_,e3,zmQ_ _ _,fun ws q=>by cases d3.symm.trans q; rw [Array.getElem?_setIfInBounds_ne (by decide)]; exact hx2⟩)
 ·obtain ⟨sl,z⟩:=so.2.2 b o q; exact ⟨_,old b _ (nrec b o q hnf) z,rfl⟩
 ·exact ⟨_,_,_,_,_,e3,⟨Obj.cls_mapFields _ _,by rw [Array.getElem?_setIfInBounds_ne (by decide)]; exact h0⟩,d3,by simp [hsz],b1.fresh,ne,t3,obd,by first | (simp; done) | (rcases hpl with rfl | ⟨_,_,_,_,_,_,_,rfl⟩<;>simp)⟩
 ·obtain ⟨sl,z⟩:=so.2.2 b o q; exact ⟨sl,old b _ (nrec b o q hnf) z⟩
theorem fl_d (hkb:base.StaysIn s.heap) (hl:s.heap.FunFrames base l) (ht:s.heap.TracedAtW base e cls a0 fl) (hD:Dc e d s.heap)
  (k:∀ h',base.StaysIn h'→h'.FunFrames base l→h'.TracedW base e cls a0→s.heap.UpToSlots h'→Dc e d h'→Q () { s with heap:=h' }):wpAny M A (setFlight (.ref e) none) Q E s:=by
 obtain ⟨oe,vs,T,oT,ts,he,hc,hd,h1,hnT,hTe,hT,hdT,h3⟩:=ht
 have h3s:3<ts.size:=(Array.getElem?_eq_some_iff.mp h3).1
 have oth:∀ b,b≠T→(s.heap.update T (Obj.mapFields (·.setIfInBounds 3 ((none:Option Addr).elim Value.none fun f=>rawInt f)))).get? b=s.heap.get? b:=fun b z=>Heap.get?_update_other _ _ (Ne.symm z)
 have nrec:∀ b o,s.heap.get? b=some o→(∀ vs,o.data≠.fields vs)→b≠T:=fun b o q hnf z=>by rw [z,hT] at q; cases q; exact hnf ts hdT
 unfold setFlight; refine wpAny_bind (wpAny_field he hd h1 ?_); rw [if_pos (show (Value.ref T != Value.none)=true by simp)]
 refine wpAny_setField hT hdT h3s (k _ (fun b o q=>(oth b fun z=>by rw [z,hnT] at q; cases q).trans (hkb b o q)) (hl.of_keeps fun b o q hnf=>⟨o,(oth b (nrec b o q hnf)).trans q,rfl⟩) ?_ (fun b o q hnf=>⟨o.slots,(oth b (nrec b o q hnf)).trans q⟩) ?_)
 ·exact ⟨oe,vs,T,_,_,(oth e hTe.symm).trans he,hc,hd,h1,hnT,hTe,Heap.get?_update_self _ hT (Obj.isFreed_of_fields (Obj.data_mapFields hdT _)),Obj.data_mapFields hdT _,by simp [h3s]⟩
 ·obtain ⟨o,q,z⟩:=hD; exact ⟨o,(oth e hTe.symm).trans q,z⟩
theorem zmH_ {oe:Obj}{vs:Array Value}(hfr:A.frames=some (env::outer)) (hl:s.heap.FunFrames base (env::outer)) (hf:env.frame=some L) (he:s.heap.get? e=some oe) (hkb:base.StaysIn s.heap) (hen:base.get? e=none) (hd:oe.data=.fields vs) (h1:vs[1]?=some .none) (h0:vs[0]?=some a0) (hx2:vs[2]?=some .none)
  (k:∀ h',Heap.NotedW base (env::outer) e oe.cls a0 (rawInt L) s.heap h'→Dc e oe.dict h'→Q () { s with heap:=h' }):wpAny M A (noteFrame (.ref e) env) Q E s:=by
 unfold noteFrame; simp only [hf]; refine wpAny_bind (wpAny_field he hd h1 ?_); rw [if_neg (by decide)]
 exact ent_d hfr hl hf he hkb hen hd (Array.getElem?_eq_some_iff.mp h1).1 h0 hx2 k
theorem zih_ (hfr:A.frames=some (env::outer)) (hl:s.heap.FunFrames base (env::outer)) (hf:env.frame=some L) (ht:s.heap.TracedW base e cls a0) (hkb:base.StaysIn s.heap) (hen:base.get? e=none) (hD:Dc e d s.heap)
  (k:∀ h',Heap.NotedW base (env::outer) e cls a0 (rawInt L) s.heap h'→Dc e d h'→Q () { s with heap:=h' }):wpAny M A (noteFrame (.ref e) env) Q E s:=by
 obtain ⟨oe,vs,T,oT,ts,he,⟨rfl,h0⟩,hd,h1,hnT,hTe,hT,hdT,h3⟩:=ht
 obtain ⟨rfl,hx⟩:oe.dict=d∧vs[2]?=some .none:=by obtain ⟨o,q,z,z2⟩:=hD; cases he.symm.trans q; exact ⟨z,z2 _ hd⟩
 unfold noteFrame; simp only [hf]; refine wpAny_bind (wpAny_field he hd h1 ?_); rw [if_pos (show (Value.ref T != Value.none)=true by simp)]
 refine wpAny_bind (wpAny_field hT hdT h3 ?_); rw [if_neg (show ¬ ((Value.none == rawInt L)=true) by simp [rawInt])]; refine wpAny_bind (wpAny_setField hT hdT (Array.getElem?_eq_some_iff.mp h3).1 ?_)
 have oth:∀ b,b≠T→(s.heap.update T (Obj.mapFields (·.setIfInBounds 3 Value.none))).get? b=s.heap.get? b:=fun b z=>Heap.get?_update_other _ _ (Ne.symm z)
 have nrec:∀ b o,s.heap.get? b=some o→(∀ vs,o.data≠.fields vs)→b≠T:=fun b o q hnf z=>by rw [z,hT] at q; cases q; exact hnf ts hdT
 refine ent_d (s:={ s with heap:=s.heap.update T (Obj.mapFields (·.setIfInBounds 3 Value.none)) }) hfr (hl.of_keeps fun b o q hnf=>⟨o,(oth b (nrec b o q hnf)).trans q,rfl⟩) hf ((oth e hTe.symm).trans he) (fun b o q=>(oth b fun z=>by rw [z,hnT] at q; cases q).trans (hkb b o q)) hen hd (Array.getElem?_eq_some_iff.mp h1).1 h0 hx
  fun h' ⟨x1,x2,x3,x4⟩ dd=>k h' ⟨x1,x2,x3,fun b o q hnf=>x4 b o ((oth b (nrec b o q hnf)).trans q) hnf⟩ dd
theorem ze9_ {h h1 h2:Heap}(n:Heap.NotedW base l e cls a0 fl h h1) (a:base.StaysIn h2) (b:h2.FunFrames base l) (c:h2.TracedW base e cls a0) (u:h1.UpToSlots h2):Heap.LeftW base l e cls a0 h h2 :=
 ⟨a,b,c,fun x o q hnf=>by obtain ⟨sl,z⟩:=n.2.2.2 x o q hnf; obtain ⟨sl',z'⟩:=u x _ z hnf; exact ⟨sl',z'⟩⟩
theorem zku_ {oe:Obj}{vs:Array Value}(hfr:A.frames=some (env::outer)) (hl:s.heap.FunFrames base (env::outer)) (hf:env.frame=some L) (he:s.heap.get? e=some oe) (hkb:base.StaysIn s.heap) (hen:base.get? e=none) (hd:oe.data=.fields vs) (h1:vs[1]?=some .none) (h0:vs[0]?=some a0) (hx2:vs[2]?=some .none)
  (k:∀ h',Heap.LeftW base (env::outer) e oe.cls a0 s.heap h'→Dc e oe.dict h'→Q () { s with heap:=h' }):wpAny M A (leaving env (.ref e)) Q E s:=by
 unfold leaving; refine wpAny_bind (zmH_ hfr hl hf he hkb hen hd h1 h0 hx2 fun h' n dd=>?_)
 exact fl_d n.1 n.2.1 n.2.2.1 dd fun h2 a b c u dd=>k h2 (ze9_ n a b c u) dd
theorem zky_ (hfr:A.frames=some (env::outer)) (hl:s.heap.FunFrames base (env::outer)) (hf:env.frame=some L) (ht:s.heap.TracedW base e cls a0) (hkb:base.StaysIn s.heap) (hen:base.get? e=none) (hD:Dc e d s.heap)
  (k:∀ h',Heap.LeftW base (env::outer) e cls a0 s.heap h'→Dc e d h'→Q () { s with heap:=h' }):wpAny M A (leaving env (.ref e)) Q E s:=by
 unfold leaving; refine wpAny_bind (zih_ hfr hl hf ht hkb hen hD fun h' n dd=>?_)
 exact fl_d n.1 n.2.1 n.2.2.1 dd fun h2 a b c u dd=>k h2 (ze9_ n a b c u) dd
end
def XAt (x C:Addr) (d:Option Addr) (h:Heap):Prop:=∃ o vs,h.get? x=some o∧o.cls=.ref C∧o.dict=d∧o.data=.fields vs∧vs[2]?=some .none
abbrev XO (x C:Addr) (d:Option Addr):HO:=.ext (XAt x C d)
theorem xo_ok {P:Program}{w:World}{H:Hp}{x C:Addr}{d:Option Addr}{h:Heap}(q:XAt x C d h):ObjOk P w H h x (XO x C d):=by
 obtain ⟨o,vs,a,b⟩:=q
 exact ⟨⟨o,vs,a,b⟩,⟨o,a⟩,fun h1 h2 ⟨o,vs,z1,z2⟩ k=>⟨o,vs,k o z1,z2⟩⟩
def DAt (dx:Addr) (fs:List (Str×V)) (h:Heap):Prop:=∃ mA,h.Ns1 dx mA∧(∀ f,RelO (fs.lookup f) (mA f))∧PySem.Within mA (fs.map (·.1))
abbrev XDO (dx:Addr) (fs:List (Str×V)):HO:=.ext (DAt dx fs)
structure FlyX (x T C:Addr) (d:Option Addr) (H:Hp) (hb h:Heap):Prop where
 obj:∃ oe vs a0 oT ts,h.get? x=some oe∧(oe.cls=.ref C∧vs[0]?=some a0)∧oe.data=.fields vs∧vs[1]?=some (.ref T)∧T≠x∧h.get? T=some oT∧oT.data=.fields ts∧ts[3]?=some .none
 dc:Dc x d h
 hx:H x=none
 hT:H T=none
 nx:hb.get? x=none
 nT:hb.get? T=none
def CXx (P:Program) (w:World):CXT:=fun outer H s E e s'=>∃ x T C d H',e=.ref x∧s'.os=s.os∧AllBare s'.gens∧Un (frs outer) [] H H' s.heap s'.heap∧HOk P w H' s'.heap ∧
 FlyX x T C d H' s.heap s'.heap∧E (.ref C) d H'
theorem HOk.at_ {P:Program}{w:World}{H:Hp}{h:Heap}{a:Addr}{o:HO}(x:HOk P w H h) (e:H a=some o):∃ u,h.get? a=some u:=by
 have q:=x a o e
 clear e x
 induction o with
 | lst xs=>obtain ⟨_,_,_,_,e⟩:=q; exact ⟨_,e⟩
 | tup xs=>obtain ⟨_,_,_,o,e,_⟩:=q; exact ⟨_,e⟩
 | dK kvs=>obtain ⟨_,_,_,_,o,_,_,e,_⟩:=q; exact ⟨_,e⟩
 | dT kvs=>obtain ⟨_,_,_,_,o,_,_,e,_⟩:=q; exact ⟨_,e⟩
 | set S n=>obtain ⟨o,_,_,_,e,_⟩:=q; exact ⟨_,e⟩
 | ins C dx fs=>obtain ⟨_,_,_,e,_⟩:=q; exact ⟨_,e⟩
 | own y=>obtain ⟨_,e⟩:=q; exact ⟨_,e⟩
 | xd fs=>obtain ⟨_,⟨_,_,_,e,_⟩,_⟩:=q; exact ⟨_,e⟩
 | rng lo hi=>obtain ⟨_,_,_,e⟩:=q; exact ⟨_,e⟩
 | frz ob u _=>obtain ⟨e,_⟩:=q; exact ⟨_,e⟩
 | tbl ps=>exact ⟨_,(show h.get? a=some _ from q)⟩
 | met f y=>exact ⟨_,(show h.get? a=some _ from q)⟩
 | ext φ=>obtain ⟨_,⟨_,e⟩,_⟩:=q; exact ⟨_,e⟩
theorem HOk.none_at {P:Program}{w:World}{H:Hp}{h:Heap}{a:Addr}(x:HOk P w H h) (e:h.get? a=none):H a=none:=by
 cases q:H a with
 | none=>rfl
 | some o =>
  obtain ⟨u,z⟩:=x.at_ q
  rw [e] at z; cases z
section
variable {X:Cx}{pins:Pnn}{σ:St}{H:Hp}{s:Shared}
theorem znW_ (hst:X.stack=X.env::X.outer) {b:Addr}(h:b∈X.fs):b∈frs X.stack:=by
 rw [hst]
 unfold Cx.fs frs at *
 rw [List.filterMap_cons]
 split
 ·exact h
 ·exact List.mem_cons_of_mem _ h
theorem zgu_ (I:Inv X pins σ H s) (hst:X.stack=X.env::X.outer) (hex:X.ex=[]) {x C:Addr}{a0:Value}{ex:List Addr}{h2:Heap}(hxs:∀ b∈ex,H b=none∧X.s₀.heap.get? b=none) (hx:x∈ex)
  {d:Option Addr}(L:Heap.LeftW (PySem.W.hideAll s.heap (frs X.stack++ex)) X.stack x (.ref C) a0 s.heap h2) (dd:Dc x d h2) :
  ∃ T,Un (frs X.outer) [] X.H₀ H X.s₀.heap h2∧HOk X.prog X.w H h2∧FlyX x T C d H X.s₀.heap h2:=by
 obtain ⟨st,ff,⟨oe,vs,T,oT,ts,he,hc,hd,h1,hnT,hTe,hT,hdT,h3⟩,up⟩:=L
 have nex:∀ b:Addr,b∉X.ex:=fun b z=>by rw [hex] at z; cases z
 have keepS:∀ b o,s.heap.get? b=some o→b∉frs X.stack→b∉ex→h2.get? b=some o:=fun b o q n1 n2=>st b o (PySem.W.hideAll_get _ q fun z=>(List.mem_append.mp z).elim n1 n2)
 have slotS:∀ b o,s.heap.get? b=some o→b∈frs X.stack→∃ sl,h2.get? b=some { o with slots:=sl }:=fun b o q hb=>up b o q (by
  obtain ⟨_,o',q',d⟩:=I.stack.mem hb
  cases q.symm.trans q'
  exact d)
 have notL:∀ b o,X.s₀.heap.get? b=some o→b≠X.env.locals:=fun b o q=>Nat.ne_of_lt (Nat.lt_of_lt_of_le (Heap.lt_size q) I.ok.above)
 have notX:∀ b o,X.s₀.heap.get? b=some o→b∉ex:=fun b o q z=>by
  have:=(hxs b z).2
  rw [q] at this; cases this
 have notF:∀ b o,X.s₀.heap.get? b=some o→b∉X.fs→b∉frs X.stack:=fun b o q n z=>by
  rcases List.mem_cons.mp (I.stkSub b z) with e | e
  ·exact notL b o q e
  ·exact n e
 have young:∀ b,s.heap.get? b=none→X.s₀.heap.get? b=none:=fun b q=>by
  cases e:X.s₀.heap.get? b with
  | none=>rfl
  | some o =>
   obtain ⟨o',z⟩:=I.base.there b o e (nex b)
   rw [q] at z; cases z
 refine ⟨T,⟨fun b o q n hb _=>?_,fun b o q n hb _=>?_,fun b o q n _=>I.base.free b o q n (nex b),fun b o q _=>?_,I.base.tups,I.base.frzs,I.base.tbls⟩,fun a o e=>?_,⟨oe,vs,a0,oT,ts,he,hc,hd,h1,hTe,hT,hdT,h3⟩,dd,(hxs x hx).1,?_,(hxs x hx).2,?_⟩
 ·exact keepS b o (I.base.keep b o q n hb (nex b)) (notF b o q hb) (notX b o q)
 ·obtain ⟨sl,e⟩:=I.base.slot b o q n hb (nex b)
  obtain ⟨sl',e'⟩:=slotS b _ e (znW_ hst hb)
  exact ⟨sl',e'⟩
 ·obtain ⟨o',e⟩:=I.base.there b o q (nex b)
  by_cases hb:b∈frs X.stack
  ·obtain ⟨sl',e'⟩:=slotS b _ e hb
   exact ⟨_,e'⟩
  ·exact ⟨o',keepS b o' e hb (notX b o q)⟩
 ·refine (I.hok a o e).stay (fun b u hb q=>?_) (fun _ q=>q) fun _ _ q=>q
  have tr:∃ o,H b=some o:=by
   rcases hb with rfl | hb
   ·exact ⟨_,e⟩
   ·exact ⟨_,hb⟩
  obtain ⟨ob,tr⟩:=tr
  refine keepS b u q (fun z=>?_) fun z=>?_
  ·rw [I.stkFree b z] at tr; cases tr
  ·rw [(hxs b z).1] at tr; cases tr
 all_goals
  by_cases hTx:T∈ex
  ·first | exact (hxs T hTx).1 | exact (hxs T hTx).2
  by_cases hTf:T∈frs X.stack
  ·obtain ⟨_,o',q',d⟩:=I.stack.mem hTf
   obtain ⟨sl,e'⟩:=slotS T o' q' hTf
   rw [hT] at e'
   cases e'
   exact absurd hdT (d ts)
  have q:s.heap.get? T=none:=by
   cases e:s.heap.get? T with
   | none=>rfl
   | some o =>
    rw [PySem.W.hideAll_get _ e fun z=>(List.mem_append.mp z).elim hTf hTx] at hnT
    cases hnT
  first | exact I.hok.none_at q | exact young T q
end
section
variable {P:Program}{w:World}{K:Fgg}{mg:Str→Option Value}{base:Heap}{N:List Str}{qual:Str}{scope:Scope}{f:Addr}{cd:Value}{A:Around}{outer:List Env}{s0:Shared}{H0:Hp}{E:XK}
theorem zjg_ {l:List Env}{more:List Addr}:∀ env∈l,∀ a,env.frame=some a→a∈frs l++more:=fun env he a hf=>List.mem_append_left _ (List.mem_filterMap.mpr ⟨env,he,hf⟩)
def Takes (X:Cx) (E:XK):Prop:=∀ (pins:Pnn) (σ:St) (H:Hp) (s:Shared) (x C:Addr) (oe:Obj) (vs:Array Value) (a0:Value),Inv X pins σ H s→H x=none→X.s₀.heap.get? x=none→s.heap.get? x=some oe→oe.cls=.ref C→oe.data=.fields vs→vs[1]?=some .none→vs[0]?=some a0→vs[2]?=some .none→E (.ref C) oe.dict H→X.xe (.ref x) s
theorem zkV_:Takes (cxOf (CXx P w) P w K mg base N qual scope f cd A outer s0 H0 E) E:=by
 intro pins σ H s x C oe vs a0 I hx hx0 he hc hd h1 h0 hx2 hE
 show wpAny _ _ (leaving _ _) _ _ _
 refine zku_ (base:=PySem.W.hideAll s.heap (frs (envOfC qual scope s0.heap.objs.size f cd::outer)++[x])) (a0:=a0) I.ok.frames (PySem.W.funFrames_hide I.stack zjg_) rfl he (fun b o q=>PySem.W.of_hideAll _ q)
  (PySem.W.hideAll_none _ (List.mem_append_right _ List.mem_cons_self)) hd h1 h0 hx2 fun h2 L dd=>?_
 rw [hc] at L
 obtain ⟨T,u,ok,fly⟩:=zgu_ (ex:=[x]) I rfl rfl (fun b hb=>by
  rw [List.mem_singleton.mp hb]
  exact ⟨hx,hx0⟩) List.mem_cons_self L dd
 exact ⟨x,T,C,_,H,rfl,I.os,I.bare,u,ok,fly,hE⟩
theorem Takes.made {X:Cx}(hT:Takes X E) {pins:Pnn}{σ:St}{H:Hp}{s:Shared}{h:Heap}{x C:Addr}{args:List Value}(I:Inv X pins σ H s) (hex:X.ex=[]) (hx:Heap.MadeExcOf s.heap h x (.ref C) args) (hE:E (.ref C) none H):X.xe (.ref x) { s with heap:=h }:=by
 obtain ⟨t,he,htn,ht⟩:=hx.there
 refine hT pins σ H { s with heap:=h } x C _ _ _ (I.kept (t':=s.toks) hx.keeps) (I.hok.none_at hx.new) ?_ he rfl rfl rfl rfl rfl hE
 cases e:X.s₀.heap.get? x with
 | none=>rfl
 | some o =>
  obtain ⟨o',z⟩:=I.base.there x o e (fun z=>by rw [hex] at z; cases z)
  rw [hx.new] at z; cases z
theorem zt_:Passes (CXx P w) (cxOf (CXx P w) P w K mg base N qual scope f cd A outer s0 H0 E) E:=by
 intro pins σ H s e s' I h
 obtain ⟨x,T,C,d,H',rfl,os,bare,un,ok,fly,hE⟩:=h
 have I1:Inv (cxOf (CXx P w) P w K mg base N qual scope f cd A outer s0 H0 E) pins σ H' s':=I.call' (ch:=[]) os un ok bare (fun b z=>absurd z (by simp))
 obtain ⟨oe,vs,a0,oT,ts,he,hc,hd,h1,hTe,hT,hdT,h3⟩:=fly.obj
 show wpAny _ _ (leaving _ _) _ _ _
 refine zky_ (base:=PySem.W.hideAll s'.heap (frs (envOfC qual scope s0.heap.objs.size f cd::outer)++[x,T])) (cls:=.ref C) (a0:=a0) I.ok.frames (PySem.W.funFrames_hide I1.stack zjg_) rfl
  ⟨oe,vs,T,oT,ts,he,hc,hd,h1,PySem.W.hideAll_none _ (List.mem_append_right _ (List.mem_cons_of_mem _ List.mem_cons_self)),hTe,hT,hdT,h3⟩ (fun b o q=>PySem.W.of_hideAll _ q)
  (PySem.W.hideAll_none _ (List.mem_append_right _ List.mem_cons_self)) fly.dc fun h2 L dd=>?_
 have old:∀ b,s.heap.get? b=none→s0.heap.get? b=none:=fun b q=>by
  cases e:s0.heap.get? b with
  | none=>rfl
  | some o =>
   obtain ⟨o',z⟩:=I.base.there b o e (fun z=>nomatch z)
   rw [q] at z; cases z
 obtain ⟨T2,u,ok2,fly2⟩:=zgu_ (ex:=[x,T]) I1 rfl rfl (fun b hb=>by
  rcases List.mem_cons.mp hb with rfl | hb
  ·exact ⟨fly.hx,old _ fly.nx⟩
  ·rw [List.mem_singleton.mp hb]
   exact ⟨fly.hT,old _ fly.nT⟩) List.mem_cons_self L dd
 exact ⟨x,T2,C,d,H',rfl,I1.os,I1.bare,u,ok2,fly2,hE⟩
end
end L2
namespace L2
open PySem PySem.Spec PyProof.Rows
abbrev bmV:List Value:=[.type "ValueError",.type "Exception",.type "BaseException",.type "object"]
def excK (K:Fgg) (C:Addr):Bool:=PySem.W.excIn K C bmV "ValueError.__new__"
def gA (K:Fgg) (x:Str):Addr:=match PySem.W.nsIn K mainGlobals x with | some (some (.ref c))=>c | _=>0
theorem zjC_ {K:Fgg}{x:Str}{c:Addr}(h:PySem.W.nsIn K mainGlobals x=some (some (.ref c))):gA K x=c:=by unfold gA; rw [h]
theorem zl2_ {K:Fgg}{h:Heap}{C:Addr}(kin:K.In h) (q:excK K C=true) :
  ∃ nm qn N bs bm hd sn sub ab col dd k0 k1 k2 k3 k5 mN,h.get? C=some (excClassObj nm qn C N bs bm hd sn sub ab col dd k0 k1 k2 k3 k5 "ValueError.__new__")∧h.Ns N mN∧mN "__init__" = none∧OwnTail h bmV bm:=by
 unfold excK PySem.W.excIn at q
 split at q
 case h_2=>cases q
 case h_1 dx cx slx at1 =>
  split at q
  case h_2=>cases q
  case h_1 Cx tl y0 y1 y2 y3 yn y5 m1 m2 =>
   rw [Bool.and_eq_true,Bool.and_eq_true,Bool.and_eq_true,Bool.and_eq_true,Bool.and_eq_true] at q
   obtain ⟨⟨⟨⟨⟨q1,q2⟩,q3⟩,q4⟩,q5⟩,q6⟩:=q
   replace q1:=beq_iff_eq.mp q1
   replace q2:=beq_iff_eq.mp q2
   replace q6:=beq_iff_eq.mp q6
   replace q3:cx.hasDel=false:=by simpa using q3
   subst q1 q2
   cases cx
   dsimp only at m1 q3 q5 q6
   subst m1 q3
   cases slx
   dsimp only at m2
   subst m2
   exact ⟨_,_,_,_,tl,_,_,_,_,_,dx,y0,y1,y2,y3,y5,_,kin _ _ at1,.of_isNs (PySem.W.isNs_of_in kin q5),PySem.W.nsMap_none_of_in kin q5 q6,PySem.W.tail_of_in kin q4⟩
section
variable {X:Cx}{E:XK}{C:Addr}{x:Str}{e:Expr}{es:List Expr}{t:TA}{np cpos pos:Pos}
def tRaise (C:Addr) (E:XK) (t:TA):TS:=fun _ σ H=>t σ H fun vs H1=>vs.length≤100∧E (.ref C) none H1
theorem zkX_ (hT:Takes X E) (hcm:X.calm=true) (hq:excK X.K C=true) (hm:X.mg x=some (.ref C)) (ha:PA X (e::es) t) (hg:Gl X x:=by rfl) (hdb:(x == ("__debug__" : Str))=false:=by decide)
  (he:starEach (e::es) X.env=(false,eval e X.env)::starEach es X.env:=by rfl) (hpl:(backTo cpos (starEach es X.env)).any (·.1)=false:=by rfl) (hex:X.ex=[]:=by rfl) :
  PS X (.Raise (some (.Call (.Name x np) (e::es) [] cpos)) none pos) (tRaise C E t):=by
 intro pins s σ H D I h
 obtain ⟨nm,qn,N,bs,bm,hd,sn,sub,ab,col,dd,k0,k1,k2,k3,k5,mN,hC,hN,hni,TL⟩:=zl2_ I.ok.mod.kin hq
 refine wpAny_Raise_call_subU (C:=C) (nm:=nm) (q:=qn) (N:=N) (bs:=bs) (bm:=bm) (hdct:=hd) (sn:=sn) (sub:=sub) (ab:=ab) (col:=col) (dd:=dd) (k0:=k0) (k1:=k1) (k2:=k2) (k3:=k3) (k5:=k5)
  PySem.F.excBase_ValueError (by decide) PySem.F.excBase_ValueError (mN:=mN) (TL.hasType rfl) (I.ok.hd hcm) (by rw [he]; show (false || (backTo cpos (starEach es X.env)).any (·.1))=false; rw [hpl]; rfl) hni (zee_ I hg hm ⟨rfl,?_⟩ hdb)
 have h2:=ha cpos pins s σ H _ I h
 rw [he] at h2 ⊢
 refine Calls.evalArgs_plain (wpAny_mono h2 (fun us s1 q=>?_) fun _ _ y=>y)
 obtain ⟨vs,H1,I1,r,hl,q⟩:=q
 refine ⟨rfl,?_,I1.bk _ _ hC,hN.keeps I1.bk,TL.keeps I1.bk,fun h' a hmade=>hT.made I1 hex hmade q⟩
 show us.length≤sizeLine
 rw [← r.length]
 exact Nat.le_trans hl (by rw [sizeLine_eq]; decide)
end
section
variable {X:Cx}{a:Expr}{ta:TE}{pos:Pos}
end
def isaK (K:Fgg) (D:Addr) (c:Value):Option Bool :=
 if (PySem.W.findIn K (.ref D) "__getattribute__" == some (some (.builtin "BaseException.__getattribute__")) && PySem.W.findIn K (.ref D) "__getattr__" == some none && PySem.W.mroIn K D (.type "BaseException") == some true) && PySem.W.hasDictIn K D && PySem.W.findIn K (.ref D) "__class__" == some (some (.builtin "object.__class__")) && PySem.W.specialIn K (.builtin "object.__class__") "__get__" == some (some (.builtin "getset_descriptor.__get__"))
  && PySem.W.takesIn K (.builtin "object.__class__") == some true && PySem.W.mroIn K D (.type "object") == some true then PySem.W.kitOne K (.ref D) c else none
end L2
namespace LX
open PySem PySem.W PySem.Calls PyProof.Rows Builtin Builtin.ObjectAttr Builtin.Getset_descriptor
section
variable {prog:Program}{w:World}{A:Around}{K:Frag}{x D:Addr}{dc:Option Addr}
theorem ty_x {M:Model}{h:Heap}(I:L2.XAt x D dc h):Looks M h (typeOf (.ref x)) (.ref D):=by
 obtain ⟨o,_,e,c,_⟩:=I
 exact c ▸ (Looks.ld e).andThen .now
theorem zkg_ {M:Model}{E:Value→Shared→Prop}{s:Shared}{nameV:Value}{Q:Unit→Shared→Prop}(T0:Looks M s.heap (typeOf (.ref x)) (.ref D)) (T8:Looks M s.heap (isSubtype (.ref D) (.type "BaseException")) true) (hq:Q () s) :
  wpAny M A (checkBuiltinCall "BaseException.__getattribute__" ⟨[.ref x,nameV],[]⟩) Q E s:=by
 have hk:builtinKind "BaseException.__getattribute__" = some .slot:=by decide +kernel
 have hsplit:splitId "BaseException.__getattribute__" = some ("BaseException", "__getattribute__"):=by decide +kernel
 have hargs:=F.args_bexc_ga (.ref x) nameV
 simp only [checkBuiltinCall,hk,hsplit]
 refine wpAny_bind ?_
 unfold isInstance
 cases s with
 | mk hp gs dr tk ost =>
 refine wpAny_bind (T0.at (T8.at ?_))
 repeat (first | assumption | wp_step)
theorem zkn_ {E:Value→Shared→Prop}{s:Shared}{Q:Option Value→Shared→Prop}(hg1:findIn K (.ref D) "__getattribute__" = some (some (.builtin "BaseException.__getattribute__"))) (hg2:findIn K (.ref D) "__getattr__" = some none)
  (ha:findIn K (.ref D) "__class__" = some (some (.builtin "object.__class__")))
  (hn:specialIn K (.builtin "object.__class__") "__get__" = some (some (.builtin "getset_descriptor.__get__"))) (htk:takesIn K (.builtin "object.__class__")=some true) (hm:mroIn K D (.type "object")=some true) (hb:mroIn K D (.type "BaseException")=some true)
  (kin:K.In s.heap) (I:L2.XAt x D dc s.heap) (h:Q (some (.ref D)) { s with toks:=s.toks+1 }):wpAny (model prog w) A (getAttr? (.ref x) "__class__") Q E s:=by
 cases s with
 | mk hp gs dr tk ost =>
 have T0:=ty_x (M:=model prog w) I
 have T1:=looks_findIn (M:=model prog w) kin hg1
 have T2:=looks_findIn (M:=model prog w) kin hg2
 have T3:=looks_findIn (M:=model prog w) kin ha
 have T4:=looks_specialIn (M:=model prog w) kin hn
 have T5:=looks_takesIn (M:=model prog w) kin htk
 have T6:=looks_mroIn (M:=model prog w) kin hm
 have T8:=looks_mroIn (M:=model prog w) kin hb
 have T7:Looks (model prog w) hp (find (.ref x) (.ref D) "__class__") (.bind (.builtin "getset_descriptor.__get__") (.builtin "object.__class__")) :=
  T3.andThen (T4.andThen ((show Looks (model prog w) hp (dataDescriptor? (some (.builtin "object.__class__")) (some (.builtin "getset_descriptor.__get__"))) (some (.builtin "getset_descriptor.__get__",.builtin "object.__class__")) from T5.andThen .now).andThen (.tag .now)))
 have hx2:(onTheHeap (Value.ref D) && Value.builtin "BaseException.__getattribute__" == Value.builtin "object.__getattribute__")=false:=(show (Value.builtin "BaseException.__getattribute__" == Value.builtin "object.__getattribute__")=false by decide +kernel)
 have f3:=F.excAttr_ValueError.ga.bind (.ref x)
 unfold getAttr? getAttrBy? getAttrBy
 refine wpAny_bind (wpAny_mkText ?_); refine wpAny_bind (wpAny_attempt (wpAny_holding ?_)); refine wpAny_bind (T0.at ?_); refine wpAny_bind (T1.at ?_)
 simp only [hx2]
 rw [if_neg (by decide)]
 unfold getAttrByItsOwn hookBefore
 refine wpAny_bind ?_
 show wpAny _ _ (typeLookup (.ref D) "__getattr__") _ _ _
 refine T2.at ?_
 refine wpAny_bind (wpAny_attempt (wpAny_holding ?_))
 show wpAny _ _ (boundAndCalled _ _ _) _ _ _
 unfold boundAndCalled
 rw [f3]
 refine wpAny_bind (wpAny_pure ?_)
 refine wpAny_call ?_
 refine codeAny_call_builtin F.excAttr_ValueError.ga.plain F.entry_bexc_ga ?_
 refine (show wpAny _ _ (checkBuiltinCall "BaseException.__getattribute__" ⟨[.ref x,.str "__class__" tk],[]⟩) _ _ _ from ?_)
 refine zkg_ T0 T8 ?_
 unfold Builtin.«object.__getattribute__»
 refine wpAny_bind (wpAny_pure ?_)
 refine wpAny_bind (wpAny_pure ?_)
 refine wpAny_bind (T0.at ?_)
 refine wpAny_bind (T7.at ?_)
 show wpAny _ _ (holding [Value.builtin "object.__class__"] (call (.builtin "getset_descriptor.__get__") [.builtin "object.__class__",.ref x,.ref D])>>=ret) _ _ _
 refine wpAny_bind (wpAny_holding (wpAny_call ?_))
 refine codeAny_call_builtin KF.slot_gs.plain KF.entry_gs (KF.slot_gs.check _ _ _ _ _ _ _ _ KF.type_class (KF.args_gs _ _ _) ?_); unfold Builtin.«getset_descriptor.__get__» descrGet; rw [dga_obj]
 refine wpAny_bind (wpAny_pure ?_); unfold descrGetter descrCheckInstance descrNameAndClass isInstance; simp only [KF.owner_class]; repeat lk
 refine ⟨Code.quiet_builtin _ (by decide +kernel),codeAny_builtin KF.entry_class ?_⟩; unfold Builtin.«object.__class__» shownTypeOf; repeat lk
 exact h
theorem it_x {h:Heap}(hd:hasDictIn K D=true) (kin:K.In h):(∃ c d cd sl,h.get? D=some ⟨c,d,.cls cd,sl⟩)∧∀ M:Model,Looks M h (isType (.ref D)) true:=by
 obtain ⟨cd,e,_⟩:=any_some hd
 unfold clsIn at e
 split at e
 case h_2=>cases e
 case h_1 c1 d1 cd1 sl1 at1 =>
  refine ⟨⟨_,_,_,_,kin _ _ at1⟩,fun M A' Q' E' s' k q=>?_⟩
  unfold isType loadHead
  exact wpAny_bind (wpAny_loadPart (k _ _ (kin _ _ at1)) (wpAny_pure q))
theorem kitx_x (hg1:findIn K (.ref D) "__getattribute__" = some (some (.builtin "BaseException.__getattribute__"))) (hg2:findIn K (.ref D) "__getattr__" = some none) (hb:mroIn K D (.type "BaseException")=some true) (hd:hasDictIn K D=true) (ha:findIn K (.ref D) "__class__" = some (some (.builtin "object.__class__")))
  (hn:specialIn K (.builtin "object.__class__") "__get__" = some (some (.builtin "getset_descriptor.__get__"))) (htk:takesIn K (.builtin "object.__class__")=some true) (hm:mroIn K D (.type "object")=some true) :
  KitX K (.ref x) (.ref D) (L2.XAt x D dc) :=
 ⟨fun _ _ _ I=>ty_x I,fun _ _ kin _=>(it_x hd kin).2 _,(fun h tp dd its n sl kin e=>by
  obtain ⟨⟨c,d,cd,sl2,e2⟩,_⟩:=it_x hd kin
  refine Bool.eq_false_iff.mpr fun q=>?_
  have z:=Value.ref.inj (beq_iff_eq.mp q)
  subst z
  have e3:=e2.symm.trans e
  cases e3),fun kin I k=>zkn_ hg1 hg2 ha hn htk hm hb kin I k⟩
end
end LX
namespace L2
open PySem PySem.Spec PyProof.Rows
def clsV:V→Option Value
 | .ty c=>some (.type c)
 | .ref a=>some (.ref a)
 | _=>none
def mIsaX (K:Fgg):List V→Hp→VK→Prop:=fun xs H Q=>match xs with
 | [.ref p,c]=>∃ D d v b,H p=some (XO p D d)∧clsV c=some v∧isaK K D v=some b∧Q (.bl b) H
 | _=>False
theorem zae_ {X:Cx}:CallR X (.builtin "isinstance") (mIsaX X.K):=by
 intro pins s σ H xs us Q I r h
 unfold mIsaX at h
 split at h
 ·rename_i p c
  obtain ⟨D,d,v,b,hp,hv,hk,q⟩:=h
  obtain ⟨u,z,rfl,r1,r2⟩:=vals2 r
  obtain rfl:u=.ref p:=r1
  have ez:z=v:=by
   cases c<;>first | (cases hv; exact r2) | cases hv
  subst ez
  unfold isaK at hk
  split at hk
  case isFalse=>cases hk
  case isTrue g =>
   rw [Bool.and_eq_true,Bool.and_eq_true,Bool.and_eq_true,Bool.and_eq_true,Bool.and_eq_true,Bool.and_eq_true,Bool.and_eq_true] at g
   obtain ⟨⟨⟨⟨⟨⟨⟨g1,g7⟩,g8⟩,g2⟩,g3⟩,g4⟩,g5⟩,g6⟩:=g
   obtain ⟨hx,_,_⟩:=I.hok p _ hp
   exact PySem.W.kia_one (LX.kitx_x (beq_iff_eq.mp g1) (beq_iff_eq.mp g7) (beq_iff_eq.mp g8) g2 (beq_iff_eq.mp g3) (beq_iff_eq.mp g4) (beq_iff_eq.mp g5) (beq_iff_eq.mp g6)) I.kIn hx hk (fun z=>by cases z) fun tk=>⟨.bl b,H,I.tok tk,rfl,q⟩
 ·exact h.elim
end L2
namespace L2
open PySem PySem.Spec PyProof.Rows
section
variable {X:Cx}{k:Nat}{x:Str}{ps:List Str}{sp:Sp}{E:XK}{p pos:Pos}{e:Expr}{es:List Expr}{t:TA}
theorem zy_ (G:Gd X.prog X.w X.K X.mg X.base (CXx X.prog X.w) k x ps sp) (hr:Room k X.A) (hx:Passes (CXx X.prog X.w) X E) (ha:PA X (e::es) t) (hg:Gl X x:=by rfl) (hdb:(x == ("__debug__" : Str))=false:=by decide)
  (he:starEach (e::es) X.env=(false,eval e X.env)::starEach es X.env:=by rfl) (hpl:(backTo pos (starEach es X.env)).any (·.1)=false:=by rfl) :
  PE X (.Call (.Name x p) (e::es) [] pos) (tCall sp [] E t):=by
 obtain ⟨f,fd,F,hm,hk,hb⟩:=G
 exact zjt_ F hr hg hm hk hb .nil hx ha hdb he hpl
end
def XP (X:Cx) (pins:Pnn) (W:St→XK) (e:Value) (s':Shared):Prop:=∃ σ' Hb sb,Inv X pins σ' Hb sb∧CXx X.prog X.w X.stack Hb sb (W σ') e s'
abbrev TX:=Ends→(St→XK)→St→Hp→Prop
def PSx (X:Cx) (st:Stmt) (t:TX):Prop :=
 ∀ (pins:Pnn) (s:Shared) (σ:St) (H:Hp) (D:Ends) (W:St→XK),Inv X pins σ H s→t D W σ H→wpAny (model X.prog X.w) X.A (exec st X.env) (SP X pins D) (XP X pins W) s
def PSsx (X:Cx) (st:List Stmt) (t:TX):Prop :=
 ∀ (pins:Pnn) (s:Shared) (σ:St) (H:Hp) (D:Ends) (W:St→XK),Inv X pins σ H s→t D W σ H→wpAny (model X.prog X.w) X.A (execs st X.env) (SP X pins D) (XP X pins W) s
theorem PA.nox {X:Cx}{es:List Expr}{t:TA}(h:PA X.nox es t):PA X es t:=fun pos pins s σ H Q I hw =>
 wpAny_mono (h pos pins s σ H Q (I.wish _) hw) (fun _ _ ⟨v,H',I',r,q⟩=>⟨v,H',I'.unwish,r,q⟩) fun _ _ z=>False.elim z
section
variable {X:Cx}{st:Stmt}{rest:List Stmt}{t u:TX}{k:Nat}{x:Str}{ps:List Str}{sp:Sp}{p pos pos':Pos}{e:Expr}{es:List Expr}{ta:TA}
theorem znI_ {t:TS}(h:PS X.nox st t):PSx X st (fun D _ σ H=>t D σ H):=fun pins s σ H D W I hw =>
 wpAny_mono (h pins s σ H D (I.wish _) hw) (fun _ _ q=>q.unwish) fun _ _ z=>False.elim z
theorem zis_ (h1:PSx X st t):PSsx X [st] t:=by
 intro pins s σ H D W I h
 refine wpAny_execs_cons (thn (h1 pins s σ H D W I h) fun f s1 q=>?_)
 cases f with
 | next=>exact wpAny_execs_nil q
 | ret v=>exact q
 | brk=>exact q
 | cont=>exact q
end
section
variable {X:Cx}{pins:Pnn}{σ:St}{Hb H':Hp}{sb s1:Shared}{x T C:Addr}{d:Option Addr}
theorem landed (Ib:Inv X pins σ Hb sb) (os:s1.os=sb.os) (bare:AllBare s1.gens) (un:Un (frs X.stack) [] Hb H' sb.heap s1.heap) (ok:HOk X.prog X.w H' s1.heap) (fly:FlyX x T C d H' sb.heap s1.heap) {h':Heap}{a0:Value}
  (f:Heap.FlyingW (PySem.W.hideAll s1.heap (frs X.stack++[x,T])) X.stack x (.ref C) a0 h') (up:s1.heap.UpToSlots h') (dd:Dc x d h'):Inv X pins σ (upd H' x (XO x C d)) { s1 with heap:=h' }:=by
 have ne:∀ b o,sb.heap.get? b=some o→b≠x∧b≠T:=fun b o q=>⟨(fun z=>by rw [z,fly.nx] at q; cases q),(fun z=>by rw [z,fly.nT] at q; cases q)⟩
 have nt:∀ b o,H' b=some o→b≠x∧b≠T:=fun b o q=>⟨(fun z=>by rw [z,fly.hx] at q; cases q),(fun z=>by rw [z,fly.hT] at q; cases q)⟩
 have I1:Inv X pins σ H' s1:=Ib.call' (ch:=[]) os un ok bare (fun b z=>absurd z (by simp))
 have keepS:∀ b o,s1.heap.get? b=some o→b∉frs X.stack→b≠x∧b≠T→h'.get? b=some o:=fun b o q n1 n2=>f.1 b o (PySem.W.hideAll_get _ q fun z=>by
  rcases List.mem_append.mp z with z | z
  ·exact n1 z
  ·rcases List.mem_cons.mp z with z | z
   ·exact n2.1 z
   ·exact n2.2 (List.mem_singleton.mp z))
 have slotS:∀ b o,s1.heap.get? b=some o→b∈frs X.stack→∃ sl,h'.get? b=some { o with slots:=sl }:=fun b o q hb=>up b o q (by
  obtain ⟨_,o',q',d⟩:=I1.stack.mem hb
  cases q.symm.trans q'
  exact d)
 have old:∀ b,b≠x→upd H' x (XO x C d) b=H' b:=fun b h=>z4_ h
 refine Ib.call' (s':={ s1 with heap:=h' }) (ch:=[]) os ⟨fun b o q n hb hx=>?_,fun b o q n hb hx=>?_,fun b o q n hx=>?_,fun b o q hx=>?_,fun b xs q=>?_,fun b o u q=>?_,fun b ps q=>?_⟩ (fun a o e=>?_) bare (fun b z=>absurd z (by simp))
 ·exact keepS b o (un.keep b o q n hb hx) hb (ne b o q)
 ·obtain ⟨sl,e⟩:=un.slot b o q n hb hx
  obtain ⟨sl',e'⟩:=slotS b _ e hb
  exact ⟨sl',e'⟩
 ·rw [old b (ne b o q).1]
  exact un.free b o q n hx
 ·obtain ⟨o',e⟩:=un.there b o q hx
  by_cases hb:b∈frs X.stack
  ·obtain ⟨sl',e'⟩:=slotS b _ e hb
   exact ⟨_,e'⟩
  ·exact ⟨o',keepS b o' e hb (ne b o q)⟩
 ·have z:=un.tups b xs q
  rw [old b (nt b _ z).1]
  exact z
 ·have z:=un.frzs b o u q
  rw [old b (nt b _ z).1]
  exact z
 ·obtain ⟨m,z⟩:=un.tbls b ps q
  exact ⟨m,by rw [old b (nt b _ z).1]; exact z⟩
 ·by_cases ha:a=x
  ·subst ha
   rw [zD_] at e
   cases e
   obtain ⟨ob,vs,q1,q2,q3,_⟩:=f.first; obtain ⟨o2,z1,z2,z3⟩:=dd; cases q1.symm.trans z1
   exact xo_ok ⟨ob,vs,q1,q2,z2,q3,z3 _ q3⟩
  ·rw [old a ha] at e
   refine (ok a o e).stay (fun b u hb q=>?_) (fun b q=>by rw [old b (nt b _ q).1]; exact q) fun b xs q=>by rw [old b (nt b _ q).1]; exact q
   have tr:∃ o,H' b=some o:=by
    rcases hb with rfl | hb
    ·exact ⟨_,e⟩
    ·exact ⟨_,hb⟩
   obtain ⟨ob,tr⟩:=tr
   refine keepS b u q (fun z=>?_) (nt b ob tr)
   rw [I1.stkFree b z] at tr; cases tr
end
abbrev Cx.inX (X:Cx) (x:Addr):Cx:={ X with A:=X.A.mark (some (.ref x)),calm:=false,xe:=fun _ _=>False }
theorem Inv.inX {X:Cx}{pins:Pnn}{σ:St}{H:Hp}{s:Shared}(I:Inv X pins σ H s) (x:Addr):Inv (X.inX x) pins σ H s :=
 ⟨⟨I.ok.mod,I.ok.kind,I.ok.glob,I.ok.blt,I.ok.above,I.ok.inj,I.ok.has,I.ok.cab,(fun z=>by cases z),I.ok.frames,I.ok.stk,I.ok.exf,I.ok.bs,I.ok.bsz,I.ok.noex,I.ok.exfs,I.ok.funs,I.ok.frf⟩,I.os,I.bare,I.base,I.loc,I.cell,I.free,I.freeC,I.pin,I.hok,I.len⟩
theorem Inv.outX {X:Cx}{pins:Pnn}{σ:St}{H:Hp}{s:Shared}{x:Addr}(ok:X.Ok) (I:Inv (X.inX x) pins σ H s):Inv X pins σ H s :=
 ⟨ok,I.os,I.bare,I.base,I.loc,I.cell,I.free,I.freeC,I.pin,I.hok,I.len⟩
theorem SP.outX {X:Cx}{pins:Pnn}{D:Ends}{f:Flow}{s':Shared}{x:Addr}(ok:X.Ok) (h:SP (X.inX x) pins D f s'):SP X pins D f s':=by
 cases f with
 | next=>obtain ⟨σ',H',I,q⟩:=h; exact ⟨σ',H',I.outX ok,q⟩
 | brk=>obtain ⟨σ',H',I,q⟩:=h; exact ⟨σ',H',I.outX ok,q⟩
 | cont=>obtain ⟨σ',H',I,q⟩:=h; exact ⟨σ',H',I.outX ok,q⟩
 | ret u=>obtain ⟨v,σ',H',I,r,q⟩:=h; exact ⟨v,σ',H',I.outX ok,r,q⟩
def catN (K:Fgg) (C S:Addr):Bool :=
 PySem.W.typeIn K (.ref S) == some (.type "type") && (PySem.W.clsIn K S).isSome && PySem.W.mroIn K S (.type "BaseException") == some true && PySem.W.mroIn K C (.ref S) == some false
def catK (K:Fgg) (C S:Addr):Bool :=
 PySem.W.typeIn K (.ref S) == some (.type "type") && (PySem.W.clsIn K S).isSome && PySem.W.mroIn K S (.type "BaseException") == some true && PySem.W.mroIn K C (.ref S) == some true
theorem zi6_ {K:Fgg}{M:Model}{A:Around}{E:Value→Shared→Prop}{s:Shared}{x C S:Addr}{d:Option Addr}{Q:Bool→Shared→Prop}(kin:K.In s.heap) (I:XAt x C d s.heap) (h:catK K C S=true) (q:Q true s) :
  wpAny M A (excMatches (.ref x) (.ref S)) Q E s:=by
 unfold catK at h
 rw [Bool.and_eq_true,Bool.and_eq_true,Bool.and_eq_true] at h
 obtain ⟨⟨⟨h1,h2⟩,h3⟩,h4⟩:=h
 have T1:=PySem.W.looks_typeIn (M:=M) kin (beq_iff_eq.mp h1)
 have T3:=PySem.W.looks_mroIn (M:=M) kin (beq_iff_eq.mp h3)
 have T4:=PySem.W.looks_mroIn (M:=M) kin (beq_iff_eq.mp h4)
 have T5:=LX.ty_x (M:=M) I
 have T6:PySem.W.Looks M s.heap (isSubtype (.type "type") (.type "tuple")) false:=.of_pure tc_notTuple
 have T2:PySem.W.Looks M s.heap (isType (.ref S)) true:=by
  obtain ⟨cd,e⟩:=Option.isSome_iff_exists.mp h2
  unfold PySem.W.clsIn at e
  split at e
  case h_2=>cases e
  case h_1 c1 d1 cd1 sl1 at1 =>
   intro A' Q' E' s' k z
   unfold isType loadHead
   exact wpAny_bind (wpAny_loadPart (k _ _ (kin _ _ at1)) (wpAny_pure z))
 cases s with
 | mk hp gs dr tk ost =>
 unfold excMatches isInstance isExcClass
 repeat lk
 exact q
theorem zjf_ {K:Fgg}{M:Model}{A:Around}{E:Value→Shared→Prop}{s:Shared}{x C S:Addr}{d:Option Addr}{Q:Bool→Shared→Prop}(kin:K.In s.heap) (I:XAt x C d s.heap) (h:catN K C S=true) (q:Q false s) :
  wpAny M A (excMatches (.ref x) (.ref S)) Q E s:=by
 unfold catN at h
 rw [Bool.and_eq_true,Bool.and_eq_true,Bool.and_eq_true] at h
 obtain ⟨⟨⟨h1,h2⟩,h3⟩,h4⟩:=h
 have T1:=PySem.W.looks_typeIn (M:=M) kin (beq_iff_eq.mp h1)
 have T3:=PySem.W.looks_mroIn (M:=M) kin (beq_iff_eq.mp h3)
 have T4:=PySem.W.looks_mroIn (M:=M) kin (beq_iff_eq.mp h4)
 have T5:=LX.ty_x (M:=M) I
 have T6:PySem.W.Looks M s.heap (isSubtype (.type "type") (.type "tuple")) false:=.of_pure tc_notTuple
 have T2:PySem.W.Looks M s.heap (isType (.ref S)) true:=by
  obtain ⟨cd,e⟩:=Option.isSome_iff_exists.mp h2
  unfold PySem.W.clsIn at e
  split at e
  case h_2=>cases e
  case h_1 c1 d1 cd1 sl1 at1 =>
   intro A' Q' E' s' k z
   unfold isType loadHead
   exact wpAny_bind (wpAny_loadPart (k _ _ (kin _ _ at1)) (wpAny_pure z))
 cases s with
 | mk hp gs dr tk ost =>
 unfold excMatches isInstance isExcClass
 repeat lk
 exact q
end L2
namespace L2
open PySem PySem.Spec PyProof.Rows
theorem zgn_ {X:Cx}{pins:Pnn}{σ:St}{H:Hp}{s:Shared}{M:Model}{A:Around}{E:Value→Shared→Prop}{i:Nat}{n:Str}{pos:Pos}{Q:Unit→Shared→Prop}(I:Inv X pins σ H s) (hN:X.N.Nodup) (hi:X.N[i]?=some n)
  (hl:X.env.scope.names.lookup n=some .local) (h:∀ s',Inv X pins (σ.set i none) H s'→Q () s'):wpAny M A (do bindName X.env n .none; unbindBehindTheSuite X.env n pos) Q E s:=by
 have hcls:(X.env.scope.kind == .class || (X.env.scope.kind == .module && X.env.locals != X.env.globals))=false:=by rw [I.ok.kind]; rfl
 have hk:X.env.kindOf n=some .local:=hl
 refine wpAny_bind (wpAny_bindName (zeo_ (v:=.non) I hN hi (.inl hl) rfl (fun s1 I1=>?_) (.inr hl)))
 obtain ⟨m,hn,hlo⟩:=id I1.loc
 unfold unbindBehindTheSuite; refine wpAny_onRaise ?_; unfold unbindName
 refine wpAny_bind (wpAny_point ?_); refine wpAny_bind ?_
 unfold deleteName; simp only [hk,hcls]; rw [if_neg (by decide)]
 have hiσ:i<σ.length:=by rw [I.len]; exact (List.getElem?_eq_some_iff.mp hi).1
 have there:(m n).isSome=true:=by
  obtain ⟨u,r,q⟩:=hlo i n .non hi (List.getElem?_set_self hiσ) (.inl hl)
  rcases q with ⟨_,e⟩ | ⟨z,_⟩
  ·rw [e]; rfl
  ·rw [hk] at z
   rcases z with z | z<;>cases z
 refine wpAny_bind (wpAny_nsDel_keeps hn fun h2 v hn2 hs=>?_)
 rw [there]
 simp only [Bool.not_true,Bool.false_eq_true,if_false]
 refine wpAny_pure (wpAny_point (h _ ?_))
 obtain ⟨oL,_,_,hoL,_⟩:=id hn
 have cne:=I1.cne
 have low:∀ b o,X.s₀.heap.get? b=some o→b≠X.env.locals:=fun b o e=>Nat.ne_of_lt (Nat.lt_of_lt_of_le (Heap.lt_size e) I1.ok.above)
 refine ⟨I1.ok,I1.os,I1.bare,⟨fun b o e n hb hx=>?_,fun b o e n hb hx=>?_,I1.base.free,fun b o e hx=>?_,I1.base.tups,I1.base.frzs,I1.base.tbls⟩,⟨_,hn2,fun j y v' e1 e2 e3=>?_⟩,fun y c e=>?_,I1.free,I1.freeC,fun p hp=>?_,fun b ob e=>?_,by simpa using I.len⟩
 ·exact (hs.2 b (low b o e)).trans (I1.base.keep b o e n hb hx)
 ·obtain ⟨sl,e1⟩:=I1.base.slot b o e n hb hx
  exact ⟨sl,(hs.2 b (low b o e)).trans e1⟩
 ·obtain ⟨o',e1⟩:=I1.base.there b o e hx
  exact ⟨o',(hs.2 b (low b o e)).trans e1⟩
 ·by_cases hj:j=i
  ·subst hj
   rw [List.getElem?_set_self hiσ] at e2
   cases e2
  ·rw [List.getElem?_set_ne (Ne.symm hj)] at e2
   obtain ⟨u',r',q⟩:=hlo j y v' e1 (by rw [List.getElem?_set_ne (Ne.symm hj)]; exact e2) e3
   refine ⟨u',r',?_⟩
   rcases q with ⟨k,e⟩ | ⟨k,c,e,z⟩
   ·refine .inl ⟨k,?_⟩
    have:y≠n:=fun e=>hj (zf0_ hN e1 (e ▸ hi))
    simp [this,e]
   ·exact .inr ⟨k,c,e,z.sameBut hs (cne y c e)⟩
 ·obtain ⟨w',z⟩:=I1.cell y c e
  exact ⟨w',z.sameBut hs (cne y c e)⟩
 ·obtain ⟨e,n,ne,nf,d⟩:=I1.pin p hp
  exact ⟨(hs.2 p.1 ne).trans e,n,ne,nf,d⟩
 ·refine (I1.hok b ob e).stay (fun c w' hc q=>(hs.2 c ?_).trans q) (fun _ q=>q) fun _ _ q=>q
  rintro rfl
  rcases hc with rfl | hc
  ·rw [I1.free] at e; cases e
  ·rw [I1.free] at hc; cases hc
abbrev ziw_ (X:Cx) (s1:Shared) (x T:Addr):Heap:=PySem.W.hideAll s1.heap (frs X.stack++[x,T])
section
variable {X:Cx}{body:List Stmt}{tb:TX}{ts:TS}{S:Addr}{sx n:Str}{i:Nat}{b₀:Stmt}{suite:List Stmt}{np hpos pos:Pos}
def gone (i:Nat) (D:Ends):Ends:={ nx:=fun σ H=>D.nx (σ.set i none) H,rt:=D.rt,bk:=fun σ H=>D.bk (σ.set i none) H,ct:=fun σ H=>D.ct (σ.set i none) H }
abbrev TH:=Addr→Option Addr→Ends→St→Hp→Prop
def tHAs (K:Fgg) (S:Addr) (i:Nat) (ts:TS) (rest:TH):TH:=fun C d D σ H=>if catK K C S=true then ∀ x,H x=none→ts (gone i D) (σ.set i (some (.ref x))) (upd H x (XO x C d)) else catN K C S=true∧rest C d D σ H
def tH0:TH:=fun _ _ _ _ _=>False
def tTryH (tb:TX) (th:TH):TS:=fun D σ H=>tb D (fun σ' c d H'=>∃ C,c=.ref C∧th C d D σ' H') σ H
def PH (X:Cx) (hs:List ExceptHandler) (t:TH):Prop:=∀ (pins:Pnn) (σ:St) (H:Hp) (D:Ends) (s:Shared) (x C:Addr) (d:Option Addr) (E:Value→Shared→Prop),Inv X pins σ (upd H x (XO x C d)) s→H x=none →
 (∀ A' Q' E',(∀ h2,Inv X pins σ (upd H x (XO x C d)) { s with heap:=h2 }→Q' () { s with heap:=h2 })→wpAny (model X.prog X.w) A' (setFlight (.ref x) none) Q' E' s)→t C d D σ H→wpAny (model X.prog X.w) X.A (handleBy (.ref x) X.env hs) (SP X pins D) E s
variable {th rest:TH}{hs:List ExceptHandler}
theorem zn0_:PH X [] tH0:=fun _ _ _ _ _ _ _ _ _ _ _ _ h=>h.elim
theorem zm0_ {t:Prop}{nm:Option Str}(hm:X.mg sx=some (.ref S)) (hg:Gl X sx) (hdb:(sx == ("__debug__" : Str))=false) {pins:Pnn}{σ:St}{H:Hp}{D:Ends}{s:Shared}{x C:Addr}{d:Option Addr}{E:Value→Shared→Prop}(I:Inv X pins σ (upd H x (XO x C d)) s)
  (h:if catK X.K C S=true then codeAny (model X.prog X.w) (X.A.mark (some (.ref x))) (.handlers (.ref x) [.ExceptHandler none nm (b₀::suite) hpos] X.env) (fun r s₂=>match r with
     | .ok f=>(match nm with
      | none=>SP X pins D f s₂
      | some n=>wpAny (model X.prog X.w) X.A (do bindName X.env n .none; unbindBehindTheSuite X.env n hpos) (fun _ s₃=>SP X pins D f s₃) E s₂)
     | .error y=>cameBackBy (model X.prog X.w) X.A X.env E y s₂) s else catN X.K C S=true∧wpAny (model X.prog X.w) X.A (handleBy (.ref x) X.env hs) (SP X pins D) E s) :
  wpAny (model X.prog X.w) X.A (handleBy (.ref x) X.env (.ExceptHandler (some (.Name sx np)) nm (b₀::suite) hpos::hs)) (SP X pins D) E s:=by
 refine wpAny_handleBy_cons (codeAny_handlers_test (zee_ (X:=X.inX x) (I.inX x) hg hm ?_ hdb)) (by intro q; cases q)
 obtain ⟨xa,_⟩:=I.hok x _ zD_
 split at h
 case isTrue hc=>exact zi6_ (K:=X.K) I.kIn xa hc h
 case isFalse hc=>exact zjf_ (K:=X.K) I.kIn xa h.1 h.2
theorem ph_as (hm:X.mg sx=some (.ref S)) (hN:X.N.Nodup) (hi:X.N[i]?=some n) (hl:X.env.scope.names.lookup n=some .local) (hsu:∀ x,PSs (X.inX x) (b₀::suite) ts) (hr:PH X hs rest)
  (hg:Gl X sx:=by rfl) (hdb:(sx == ("__debug__" : Str))=false:=by decide):PH X (.ExceptHandler (some (.Name sx np)) (some n) (b₀::suite) hpos::hs) (tHAs X.K S i ts rest):=by
 intro pins σ H D s x C d E I hx fl h
 refine zm0_ (t:=True) hm hg hdb I ?_
 unfold tHAs at h
 split at h
 case isFalse hc=>rw [if_neg hc]; exact ⟨h.1,hr pins σ H D s x C d E I hx fl h.2⟩
 case isTrue hc =>
  rw [if_pos hc]
  refine codeAny_handlers_suite_as (fl _ _ _ fun h6 I6=>?_)
  refine zeo_ (X:=X.inX x) (v:=.ref x) (I6.inX x) hN hi (.inl hl) rfl (fun s7 I7=>?_) (.inr hl)
  refine wpAny_mono (hsu x pins s7 _ _ _ I7 (h x hx)) (fun f s8 q=>?_) fun _ _ z=>z.elim
  have q:=q.outX I.ok
  cases f with
  | next =>
   obtain ⟨σ2,H2,I8,q⟩:=q
   exact zgn_ I8 hN hi hl fun s9 I9=>⟨_,H2,I9,q⟩
  | brk =>
   obtain ⟨σ2,H2,I8,q⟩:=q
   exact zgn_ I8 hN hi hl fun s9 I9=>⟨_,H2,I9,q⟩
  | cont =>
   obtain ⟨σ2,H2,I8,q⟩:=q
   exact zgn_ I8 hN hi hl fun s9 I9=>⟨_,H2,I9,q⟩
  | ret u =>
   obtain ⟨v,σ2,H2,I8,r,q⟩:=q
   exact zgn_ I8 hN hi hl fun s9 I9=>⟨v,_,H2,I9,r,q⟩
theorem zmm_ {h₀:ExceptHandler}(hst:X.stack=X.env::X.outer) (hfr:X.env.frame=some X.env.locals) (hb:PSsx X body tb) (hh:PH X (h₀::hs) th):PS X (.Try body (h₀::hs) [] [] pos) (tTryH tb th):=by
 intro pins s σ H D I h
 refine wpAny_Try_except (wpAny_mono (hb pins s σ H D _ I h) (fun f s1 q=>?_) fun e s1 q=>?_)
 ·cases f with
  | next=>exact wpAny_execs_nil q
  | ret v=>exact q
  | brk=>exact q
  | cont=>exact q
 ·obtain ⟨σ',Hb,sb,Ib,x,T,C,d,H',rfl,os,bare,un,ok,fly,C',hC',q⟩:=q
  cases hC'
  have I1:Inv X pins σ' H' s1:=Ib.call' (ch:=[]) os un ok bare (fun b z=>absurd z (by simp))
  obtain ⟨oe,vs,a0,oT,ts',he,hcl,hd,h1,hTe,hT,hdT,h3⟩:=fly.obj
  have land:∀ h',ziw_ X s1 x T |>.StaysIn h'→h'.FunFrames (ziw_ X s1 x T) X.stack→h'.TracedW (ziw_ X s1 x T) x (.ref C) a0→s1.heap.UpToSlots h'→Dc x d h'→Inv X pins σ' (upd H' x (XO x C d)) { s1 with heap:=h' }:=fun h' a b c up dd=>landed Ib os bare un ok fly ⟨a,PySem.W.hideAll_none _ (List.mem_append_right _ List.mem_cons_self),b,c⟩ up dd
  have tr:s1.heap.TracedW (ziw_ X s1 x T) x (.ref C) a0:=⟨oe,vs,T,oT,ts',he,hcl,hd,h1,PySem.W.hideAll_none _ (List.mem_append_right _ (List.mem_cons_of_mem _ List.mem_cons_self)),hTe,hT,hdT,h3⟩
  have fr1:s1.heap.FunFrames (ziw_ X s1 x T) X.stack:=PySem.W.funFrames_hide I1.stack zjg_
  rw [hst] at fr1
  refine zih_ (outer:=X.outer) (I1.ok.frames.trans (congrArg some hst)) fr1 hfr tr (fun b o q=>PySem.W.of_hideAll _ q) (PySem.W.hideAll_none _ (List.mem_append_right _ List.mem_cons_self)) fly.dc fun h4 n4 d4=>?_
  refine fl_d n4.1 n4.2.1 n4.2.2.1 d4 fun h5 a5 b5 c5 u5 d5=>?_
  have u4:s1.heap.UpToSlots h4:=n4.2.2.2
  rw [← hst] at b5
  refine hh pins σ' H' D _ x C d _ (land h5 a5 b5 c5 (u4.trans u5) d5) fly.hx (fun A' Q' E' kk=>?_) q
  exact fl_d a5 b5 c5.at d5 fun h6 a6 b6 c6 u6 d6=>kk h6 (land h6 a6 b6 c6 ((u4.trans u5).trans u6) d6)
end
end L2
namespace L2
open PySem PySem.Spec PyProof.Rows
structure RoomN (k:Nat) (A:Around):Prop where
 dp:A.depth+3*k+5<recursionLimit
 un:A.units+16*k+200<cLine
theorem Room.nX {k:Nat}{A:Around}(r:Room k A) (x:Addr):RoomN k (A.mark (some (.ref x))):=⟨r.dp,r.un⟩
theorem RoomN.mono {j k:Nat}{A:Around}(r:RoomN k A) (h:j≤k):RoomN j A:=⟨by have:=r.dp; lia,by have:=r.un; lia⟩
theorem RoomN.deeper {k:Nat}{A:Around}(r:RoomN (k+1) A) (env:Env):RoomN k (A.deeper env):=⟨by have:=r.dp; show A.depth+1+3*k+5<_; lia,by have:=r.un; show A.units+3+16*k+200<_; lia⟩
structure FnOkN (P:Program) (w:World) (K:Fgg) (mg:Str→Option Value) (base:Heap) (k:Nat) (f:Addr) (fd:FuncData) (ps:List Str) (sp:Sp):Prop where
 len:∀ vs H Q E,sp vs H Q E→vs.length=ps.length
 run:∀ (A:Around) (outer:List Env) (s:Shared) (H:Hp) (args:Args) (us:List Value) (vs:List V) (Q:VK) (E:XK),RoomN k A→Env0 P w K mg base A outer s H→BindsTo s fd args (ps.zip us)→Vals vs us→sp vs H Q E →
  codeAny (model P w) A (.call (.ref f) args) (CR CX0 outer P w H s Q E) s
def cxN (P:Program) (w:World) (K:Fgg) (mg:Str→Option Value) (base:Heap) (N:List Str) (qual:Str) (scope:Scope) (f:Addr) (cd:Value) (A:Around) (outer:List Env) (s:Shared) (H:Hp):Cx :=
 { cxOf CX0 P w K mg base N qual scope f cd A outer s H E0 with calm:=false,xe:=fun _ _=>False }
section
variable {P:Program}{w:World}{K:Fgg}{mg:Str→Option Value}{base:Heap}
theorem Fun.okN {x qual:Str}{st:Stmt}{f:Addr}{fd:FuncData}{N ps:List Str}{k:Nat}{sp:Sp}(F:Fun K x qual st f fd) (S:FnScope N ps (defScope st)) (len:∀ vs H Q E,sp vs H Q E→vs.length=ps.length)
  (hbody:∀ (cdv:Value) (A:Around) (outer:List Env) (s:Shared) (H:Hp) (vs:List V) (Q:VK) (E:XK),RoomN k (A.deeper (envOfC qual (defScope st) s.heap.objs.size f cdv))→sp vs H Q E →
   ∃ t,PSs (cxN P w K mg base N qual (defScope st) f cdv A outer s H) (defBody st) t∧t { nx:=fun _ H'=>Q .non H',rt:=Q } (start N vs) H):FnOkN P w K mg base (k+1) f fd ps sp:=by
 obtain ⟨oc,od,kV,doc,pm,an,cdv,ct,osl,rfl,lk,hcd⟩:=F.ex
 refine ⟨len,fun A outer s H args us vs Q E hr e0 hb r hsp=>?_⟩
 have hl:=len _ _ _ _ hsp
 have KX:K.In s.heap:=e0.mod.kin.keeps fun b o e=>(e0.bs b o e).1
 have lim:s.heap.NoLimit:=e0.mod.nolimit.keeps fun b o e=>(e0.bs b o e).1
 have hkind:∀ y∈ps.zip us,(defScope st).names.lookup y.1=some .local∨((defScope st).names.lookup y.1=some .cell∧((cellsFrom (s.heap.objs.size+1) (defScope st).names []).lookup y.1).isSome=true):=fun ⟨n,v⟩ hy=>by
  rcases S.par n (List.of_mem_zip hy).1 with q | q
  ·exact .inl q
  ·exact .inr ⟨q,PySem.W.cellsFrom_some _ _ _ (.inl q)⟩
 refine codeAny_call_function (by have:=hr.dp; lia) (KX _ _ lk) rfl S.co S.gen rfl (PySem.W.codeRec_of KX hcd) (hb _ _ _ _ ?_)
 refine wpAny_newFunctionEnv_cells S.kind hkind fun env he s1 x=>?_
 subst he
 refine ⟨lim.keeps x.toInCall.keep,codeAny_func ?_⟩
 obtain ⟨t,ht,hq⟩:=hbody cdv A outer s H vs Q E (hr.deeper _) hsp
 have J:Inv (cxOf CX0 P w K mg base N qual (defScope st) f cdv { A with handled:=none } outer s H E0) [] (start N vs) H s1:=zgl_ S rfl ⟨e0.frames,e0.mod,e0.bs,e0.bsz,e0.funs,e0.frf,e0.hok,e0.bare⟩ hl r x
 have I:Inv (cxN P w K mg base N qual (defScope st) f cdv A outer s H) [] (start N vs) H s1 :=
  ⟨⟨J.ok.mod,J.ok.kind,J.ok.glob,J.ok.blt,J.ok.above,J.ok.inj,J.ok.has,J.ok.cab,(fun z=>by cases z),Around.frames_deeper e0.frames,J.ok.stk,J.ok.exf,J.ok.bs,J.ok.bsz,J.ok.noex,J.ok.exfs,J.ok.funs,J.ok.frf⟩,J.os,J.bare,J.base,J.loc,J.cell,J.free,J.freeC,J.pin,J.hok,J.len⟩
 refine wpAny_mono (ht [] s1 (start N vs) H _ I hq) (fun fl s' hs=>?_) fun e s' hs=>hs.elim
 have fin:∀ {σ':St}{H':Hp}{v:V}{u:Value},Inv (cxN P w K mg base N qual (defScope st) f cdv A outer s H) [] σ' H' s'→RelV v u→Q v H'→CE outer P w H s Q u s' :=
  fun {σ' H' v u} J rv q=>⟨v,H',J.os,J.bare,J.base,J.hok,rv,q⟩
 cases fl with
 | ret u =>
  obtain ⟨v,σ',H',J,rv,q⟩:=hs
  exact fin J rv q
 | next =>
  obtain ⟨σ',H',J,q⟩:=hs
  exact fin (v:=V.non) (u:=Value.none) J rfl q
 | brk =>
  obtain ⟨_,_,_,q⟩:=hs
  exact False.elim q
 | cont =>
  obtain ⟨_,_,_,q⟩:=hs
  exact False.elim q
theorem Fun.okX {x qual:Str}{st:Stmt}{f:Addr}{fd:FuncData}{N ps:List Str}{k:Nat}{sp:Sp}(F:Fun K x qual st f fd) (S:FnScope N ps (defScope st)) (len:∀ vs H Q E,sp vs H Q E→vs.length=ps.length)
  (hbody:∀ (cdv:Value) (A:Around) (outer:List Env) (s:Shared) (H:Hp) (vs:List V) (Q:VK) (E:XK),Room k (A.deeper (envOfC qual (defScope st) s.heap.objs.size f cdv))→sp vs H Q E →
   ∃ t,PSs (cxOf (CXx P w) P w K mg base N qual (defScope st) f cdv A outer s H E) (defBody st) t∧t { nx:=fun _ H'=>Q .non H',rt:=Q } (start N vs) H):FnOk P w K mg base (CXx P w) (k+1) f fd ps sp:=by
 obtain ⟨oc,od,kV,doc,pm,an,cdv,ct,osl,rfl,lk,hcd⟩:=F.ex
 exact znS_ lk hcd S len fun A outer s H vs Q E hr hsp=>hbody cdv A outer s H vs Q E hr hsp
end
def GdN (P:Program) (w:World) (K:Fgg) (mg:Str→Option Value) (base:Heap) (k:Nat) (x:Str) (ps:List Str) (sp:Sp):Prop :=
 ∃ f fd,FnOkN P w K mg base k f fd ps sp∧mg x=some (.ref f)∧PySem.W.keepIn K (.ref f)=true∧Binds K fd ps []
section
variable {X:Cx}{k:Nat}{x:Str}{ps:List Str}{sp:Sp}{p pos:Pos}{e:Expr}{es:List Expr}{t:TA}
theorem zjV_ (G:GdN X.prog X.w X.K X.mg X.base k x ps sp) (hr:RoomN k X.A) (ha:PA X (e::es) t) (hg:Gl X x:=by rfl) (hdb:(x == ("__debug__" : Str))=false:=by decide)
  (he:starEach (e::es) X.env=(false,eval e X.env)::starEach es X.env:=by rfl) (hpl:(backTo pos (starEach es X.env)).any (·.1)=false:=by rfl) :
  PE X (.Call (.Name x p) (e::es) [] pos) (tCall sp [] E0 t):=by
 intro pins s σ H Q I h
 obtain ⟨f,fd,F,hm,hk,hb⟩:=G
 refine wpAny_Call_Name_kw (zee_ I hg hm ?_ hdb)
 refine PySem.W.callWith_K (h₀:=X.base) I.ok.mod.kin hk (thn (ha pos pins s σ H _ I h) fun us s1 q=>?_) he hpl
 obtain ⟨vs,H1,I1,r,q⟩:=q
 refine ⟨I1.kIn,?_⟩
 have r2:Vals (vs++[]) (us++[]):=r.append .nil
 have hl:(us++[]).length=ps.length:=by rw [← r2.length]; exact F.len _ _ _ _ q
 refine wpAny_call (codeAny_mono (F.run X.A X.stack s1 H1 ⟨us,[]⟩ (us++[]) (vs++[]) Q E0 hr I1.env0 (hb s1 us I1.kIn hl) r2 q) fun r s' hq=>?_)
 cases r with
 | error e=>exact False.elim hq
 | ok fl =>
  cases fl with
  | ret u=>exact I1.after hq
  | next=>exact False.elim hq
  | brk=>exact False.elim hq
  | cont=>exact False.elim hq
end
end L2
namespace L2
open PySem PySem.Spec PyProof.Rows
section
variable {X:Cx}{k:Nat}{x:Str}{ps:List Str}{sp:Sp}{p pos pos':Pos}{e:Expr}{es:List Expr}{ta:TA}{i:Nat}{y:Str}{py:Pos}
end
def SG:List Nat:=[32,48,49,50,51,52,53,54,55,56,57,65,66,67,68,69,70,71,72,73,74,75,76,77,78,79,80,81,82,83,84,85,86,87,88,89,90]
def rk (l:List Nat):Option Nat:=match l with | [c]=>SG.findIdx? (· == c) | _=>none
end L2
namespace L2
open PySem PySem.Spec PyProof.Rows
section
variable {X:Cx}
def mAll (K:Fgg):List V→Hp→VK→Prop:=fun xs H Q=>match xs with | [.ref p]=>∃ bs:List Bool,SqL K H p (bs.map V.bl)∧Q (.bl (bs.all id)) H | _=>False
theorem zfw_:∀ {bs:List Bool}{us:List Value},Vals (bs.map V.bl) us→us=bs.map Value.bool
 | [],_,.nil=>rfl
 | b::bs,_,.cons r t=>by rw [zfw_ t]; cases r; rfl
theorem zgK_ {P:Program}{w:World}{A:Around}{bs:List Bool}:TruthOf P w A (fun i v=>(bs.map Value.bool).toArray[i]?=some v) (fun i=>bs.getD i false):=by
 intro i v s Q E h q
 have h':(bs.map Value.bool)[i]?=some v:=by simpa using h
 rw [List.getElem?_map] at h'
 cases e:bs[i]? with
 | none=>rw [e] at h'; cases h'
 | some b =>
  rw [e] at h'
  cases h'
  have:bs.getD i false=b:=by rw [List.getD_eq_getElem?_getD,e]; rfl
  have q:Q (bs.getD i false) s:=q
  rw [this] at q
  exact wpAny_truthy_bool q
theorem zex_ (bs:List Bool):(List.range bs.length).all (fun i=>bs.getD i false)=bs.all id:=by
 rw [Bool.eq_iff_iff,List.all_eq_true,List.all_eq_true]
 constructor
 ·intro h b hb
  obtain ⟨i,hi,e⟩:=List.getElem_of_mem hb
  have:=h i (List.mem_range.mpr hi)
  rw [List.getD_eq_getElem?_getD,List.getElem?_eq_getElem hi] at this
  rw [← e]; exact this
 ·intro h i hi
  have hi:=List.mem_range.mp hi
  rw [List.getD_eq_getElem?_getD,List.getElem?_eq_getElem hi]
  exact h _ (List.getElem_mem hi)
theorem zgj_ (hc:X.calm=true):CallR X (.builtin "all") (mAll X.K):=by
 intro pins s σ H xs us Q I r h
 unfold mAll at h
 split at h
 ·rename_i p
  obtain ⟨bs,hS,q⟩:=h
  obtain ⟨u,rfl,rx⟩:=vals1 r
  cases rx
  obtain ⟨its,rv,pl,hz⟩:=I.list hS
  rw [zfw_ rv] at pl
  have hp:=Heap.lt_size pl.isList.choose_spec.1
  have hne:p≠s.heap.objs.size:=Nat.ne_of_lt hp
  refine call_all_walk (wpAny_pyIter_list pl.isList ⟨_,_,_,_,_,_,_,rfl,Walks.list (A:=X.A.in1) (I.ok.hd hc) _ p hne (bs.map Value.bool).toArray,⟨⟨_,Heap.get?_push_size _ rfl,rfl,rfl⟩,pl.isList.at fun o e=>Heap.get?_push_of_some _ e⟩,zgK_,fun h' tk kk=>?_⟩)
  refine ⟨.bl (bs.all id),H,I.kept (t':=tk) fun b o e=>kk b o (by simpa using Nat.ne_of_lt (Heap.lt_size e)) (Heap.get?_push_of_some _ e),?_,q⟩
  show Value.bool _=_
  rw [List.size_toArray,List.length_map,zex_]
 ·exact h.elim
end
section
variable {X:Cx}
def mRange:List V→Hp→VK→Prop:=fun xs H Q=>match xs with
 | [.int j]=>∀ p,H p=none→Q (.ref p) (upd H p (.rng 0 j))
 | [.int i,.int j]=>∀ p,H p=none→Q (.ref p) (upd H p (.rng i j))
 | _=>False
theorem zgD_:CallR X (.type "range") mRange:=by
 intro pins s σ H xs us Q I r h
 unfold mRange at h
 split at h
 ·rename_i j
  obtain ⟨u,rfl,t,rfl⟩:=vals1 r
  refine call_range_1 ⟨.ref s.heap.objs.size,_,I.laid (o:=.rng 0 j) (fun b ob q=>Heap.get?_push_of_some _ q) (Nat.le_refl _) ?_,rfl,h _ (I.hok.fresh (Nat.le_refl _))⟩
  exact ⟨_,_,_,Heap.get?_push_size _ rfl⟩
 ·rename_i i j
  obtain ⟨u,u',rfl,⟨t,rfl⟩,⟨t',rfl⟩⟩:=vals2 r
  refine call_range_2 ⟨.ref s.heap.objs.size,_,I.laid (o:=.rng i j) (fun b ob q=>Heap.get?_push_of_some _ q) (Nat.le_refl _) ?_,rfl,h _ (I.hok.fresh (Nat.le_refl _))⟩
  exact ⟨_,_,_,Heap.get?_push_size _ rfl⟩
 ·exact h.elim
def intsV (lo hi:Int):List V:=(List.range (hi-lo).toNat).map fun (i:Nat)=>V.int (lo+i)
def mList (K:Fgg):List V→Hp→VK→Prop:=fun xs H Q=>match xs with
 | [.ref p]=>(∃ ys,(SqL K H p ys∨SqT K H p ys)∧∀ l,H l=none→Q (.ref l) (upd H l (.lst ys))) ∨
   (∃ lo hi,H p=some (.rng lo hi)∧(-50000≤lo∧lo≤50000 ∧ -50000≤hi∧hi≤50000)∧∀ l,H l=none→Q (.ref l) (upd H l (.lst (intsV lo hi))))
 | _=>False
theorem zkU_ {lo:Int}:∀ {n:Nat}{us:List Value},us.length=n→(∀ (j:Nat) (v:Value),us[j]?=some v→∃ t,v=Value.int (lo+j) t)→Vals ((List.range n).map fun (i:Nat)=>V.int (lo+i)) us
 | n,us,hl,h=>by
  refine paired_of (by rw [List.length_map,List.length_range,hl]) fun j x u hx hu=>?_
  rw [List.getElem?_map] at hx
  cases e:(List.range n)[j]? with
  | none=>rw [e] at hx; cases hx
  | some i =>
   rw [e] at hx; cases hx
   have:=List.getElem?_eq_some_iff.mp e
   obtain ⟨hj,ej⟩:=this
   rw [List.getElem_range] at ej
   subst ej
   exact h j u hu
 where paired_of:∀ {xs:List V}{us:List Value},xs.length=us.length→(∀ (j:Nat) x u,xs[j]?=some x→us[j]?=some u→RelV x u)→Vals xs us
 | [],[],_,_=>.nil
 | x::xs,u::us,hl,h=>.cons (h 0 x u rfl rfl) (paired_of (Nat.succ.inj hl) fun j x u a b=>h (j+1) x u a b)
theorem zax_ (hc:X.calm=true):CallR X (.type "list") (mList X.K):=by
 intro pins s σ H xs us Q I r h
 have hv:∃ p,xs=[.ref p]:=by
  rcases xs with _ | ⟨y,_ | ⟨z,t⟩⟩
  ·exact False.elim h
  ·cases y with
   | ref p=>exact ⟨p,rfl⟩
   | _=>exact False.elim h
  ·cases y<;>exact False.elim h
 obtain ⟨p,rfl⟩:=hv
 ·rcases h with ⟨ys,hq,q⟩ | ⟨lo,hi,hp,⟨h1,h2,h3,h4⟩,q⟩
  ·exact zfY_ pins s σ H _ us Q I r ⟨p,ys,rfl,hq,q⟩
  ·obtain ⟨u,rfl,rx⟩:=vals1 r
   cases rx
   obtain ⟨t,u,v,e⟩:=I.hok p _ hp
   have hn:Builtin.Range.rangeSize lo hi 1=(((hi-lo).toNat:Nat):Int):=by rw [rangeSize_one]; split<;>lia
   refine call_list_range (I.ok.hd hc) e (small_one (by lia) (by lia) (by lia) (by lia)) hn (by lia) fun h' tk acc c' kp e' hq_=>?_
   obtain ⟨hs,hi'⟩:=hq_
   refine ⟨.ref s.heap.objs.size,_,I.laid (o:=.lst (intsV lo hi)) (t':=tk) kp (Nat.le_refl _) ?_,rfl,q _ (I.hok.fresh (Nat.le_refl _))⟩
   refine ⟨?_,acc.toList,c',zkU_ (by simpa using hs) (fun j v hv=>?_),by simpa using e'⟩
   ·unfold intsV; rw [List.length_map,List.length_range]; exact zb7_ (by lia)
   ·obtain ⟨t,ht⟩:=hi' j v (by simpa using hv)
    exact ⟨t,by rw [ht]; simp⟩
end
inductive EqD (K:Fgg) (H:Hp):Nat→V→V→Bool→Prop
 | flat {x y:V}(hx:flatV x=true) (hy:flatV y=true):EqD K H 0 x y (eqV x y)
 | lst {n:Nat}{p q:Addr}{xs ys:List V}(e:Nat→Bool) (hp:SqL K H p xs) (hq:SqL K H q ys) (hl:xs.length=ys.length) (h:∀ (i:Nat) x y,xs[i]?=some x→ys[i]?=some y→EqD K H n x y (e i)):EqD K H (n+1) (.ref p) (.ref q) ((List.range xs.length).all e)
 | lstN {n:Nat}{p q:Addr}{xs ys:List V}(hp:SqL K H p xs) (hq:SqL K H q ys) (hl:xs.length≠ys.length):EqD K H n (.ref p) (.ref q) false
 | tup {n:Nat}{p q:Addr}{xs ys:List V}(e:Nat→Bool) (hp:SqT K H p xs) (hq:SqT K H q ys) (h:∀ (i:Nat) x y,xs[i]?=some x→ys[i]?=some y→EqD K H n x y (e i)):EqD K H (n+1) (.ref p) (.ref q) ((List.range (min xs.length ys.length)).all e && xs.length == ys.length)
 | lt {n:Nat}{p q:Addr}{xs ys:List V}(hp:SqL K H p xs) (hq:SqT K H q ys):EqD K H n (.ref p) (.ref q) false
 | tl {n:Nat}{p q:Addr}{xs ys:List V}(hp:SqT K H p xs) (hq:SqL K H q ys):EqD K H n (.ref p) (.ref q) false
 | lf {n:Nat}{p:Addr}{xs:List V}{y:V}(hp:SqL K H p xs) (hy:flatV y=true):EqD K H n (.ref p) y false
 | fl {n:Nat}{p:Addr}{xs:List V}{y:V}(hp:SqL K H p xs) (hy:flatV y=true):EqD K H n y (.ref p) false
 | tf {n:Nat}{p:Addr}{xs:List V}{y:V}(hp:SqT K H p xs) (hy:flatV y=true):EqD K H n (.ref p) y false
 | ft {n:Nat}{p:Addr}{xs:List V}{y:V}(hp:SqT K H p xs) (hy:flatV y=true):EqD K H n y (.ref p) false
 | up {n:Nat}{x y:V}{b:Bool}(h:EqD K H n x y b):EqD K H (n+1) x y b
section
variable {X:Cx}{pins:Pnn}{σ:St}{H:Hp}{s:Shared}
theorem zcY_ {xs:List V}{us:List Value}(r:Vals xs us) {i:Nat}(h:i<us.toArray.size):∃ x,xs[i]?=some x∧RelV x us.toArray[i]:=by
 have hi:i<us.length:=by simpa using h
 have hl:=r.length
 obtain ⟨u,hu,ru⟩:=r.get (List.getElem?_eq_getElem (show i<xs.length by lia))
 refine ⟨_,List.getElem?_eq_getElem (by lia),?_⟩
 rw [List.getElem?_eq_getElem hi] at hu
 cases hu
 simpa using ru
theorem zhs_ (I:Inv X pins σ H s) {n:Nat}{x y:V}{b:Bool}(h:EqD X.K H n x y b):x=y→b=true:=by
 induction h with
 | flat hx hy =>
  rename_i x y
  rintro rfl
  cases x<;>first | (cases hx; done) | (simp [eqV]; done) | rfl
 | lst e hp hq hl h ih =>
  rename_i n p q xs ys
  intro e0
  cases e0
  have exy:=I.list_inj hp hq
  subst exy
  rw [List.all_eq_true]
  intro i hi
  have hi:=List.mem_range.mp hi
  exact ih i _ _ (List.getElem?_eq_getElem hi) (List.getElem?_eq_getElem hi) rfl
 | lstN hp hq hl =>
  intro e0
  cases e0
  exact absurd (by rw [I.list_inj hp hq]) hl
 | tup e hp hq h ih =>
  rename_i n p q xs ys
  intro e0
  cases e0
  have exy:=I.tuple_inj hp hq
  subst exy
  rw [Bool.and_eq_true,List.all_eq_true]
  refine ⟨?_,by simp⟩
  intro i hi
  have hi:=List.mem_range.mp hi
  have hi:i<xs.length:=by lia
  exact ih i _ _ (List.getElem?_eq_getElem hi) (List.getElem?_eq_getElem hi) rfl
 | lt hp hq =>
  intro e0
  cases e0
  obtain ⟨its,r1,p1,z1⟩:=I.list hp
  obtain ⟨its2,r2,p2,z2⟩:=I.tuple hq
  exact absurd rfl (SeqAt.ne_of_list_tuple p1.isList p2)
 | tl hp hq =>
  intro e0
  cases e0
  obtain ⟨its,r1,p1,z1⟩:=I.tuple hp
  obtain ⟨its2,r2,p2,z2⟩:=I.list hq
  exact absurd rfl (SeqAt.ne_of_list_tuple p2.isList p1)
 | lf hp hy=>rintro rfl; cases hy
 | fl hp hy=>rintro rfl; cases hy
 | tf hp hy=>rintro rfl; cases hy
 | ft hp hy=>rintro rfl; cases hy
 | up h ih=>exact ih
theorem zlo_ (I:Inv X pins σ H s) {n:Nat}{x y:V}{b:Bool}(h:EqD X.K H n x y b):∀ (A:Around) (v u:Value),A.units+n<cLine→RelV x v→RelV y u →
  SeqAt.EqAt A s v u b∧(∀ p q,x=.ref p→y=.ref q→SeqAt.RcAt A s v u b):=by
 induction h with
 | flat hx hy =>
  intro A v u _ rx ry
  refine ⟨zmV_ rx ry hx hy,fun p q e _=>?_⟩
  subst e; cases hx
 | lst e hp hq hl h ih =>
  rename_i n p q xs ys
  intro A v u hu rx ry
  cases rx; cases ry
  obtain ⟨its,r1,p1,z1⟩:=I.list hp
  obtain ⟨its2,r2,p2,z2⟩:=I.list hq
  have l1:=r1.length
  have l2:=r2.length
  have rc:SeqAt.RcAt A s (.ref p) (.ref q) ((List.range xs.length).all e):=by
   have:=SeqAt.RcAt.lists (A:=A) (e:=e) p1.isList p2.isList (by simp only [List.size_toArray]; lia) (by lia) (fun j h1 h2=>by
    obtain ⟨x,ex,rx⟩:=zcY_ r1 h1
    obtain ⟨y,ey,ry⟩:=zcY_ r2 h2
    exact (ih j x y ex ey A.in1 _ _ (by show A.units+1+n<_; lia) rx ry).1)
   rw [List.size_toArray,← l1] at this
   exact this
  refine ⟨?_,fun _ _ _ _=>rc⟩
  by_cases hpq:p=q
  ·subst hpq
   have exy:=I.list_inj hp hq
   subst exy
   have:(List.range xs.length).all e=true:=by
    rw [List.all_eq_true]
    intro i hi
    have hi:=List.mem_range.mp hi
    exact zhs_ I (h i _ _ (List.getElem?_eq_getElem hi) (List.getElem?_eq_getElem hi)) rfl
   rw [this]
   exact SeqAt.EqAt.same _
  ·exact .of_refs hpq rc
 | lstN hp hq hl =>
  rename_i n p q xs ys
  intro A v u hu rx ry
  cases rx; cases ry
  obtain ⟨its,r1,p1,z1⟩:=I.list hp
  obtain ⟨its2,r2,p2,z2⟩:=I.list hq
  have l1:=r1.length
  have l2:=r2.length
  have rc:SeqAt.RcAt A s (.ref p) (.ref q) false:=SeqAt.RcAt.lists_lengths p1.isList p2.isList (by simp only [List.size_toArray,bne_iff_ne,ne_eq]; lia) (by lia)
  refine ⟨.of_refs (fun e=>?_) rc,fun _ _ _ _=>rc⟩
  subst e
  exact hl (by rw [I.list_inj hp hq])
 | tup e hp hq h ih =>
  rename_i n p q xs ys
  intro A v u hu rx ry
  cases rx; cases ry
  obtain ⟨its,r1,p1,z1⟩:=I.tuple hp
  obtain ⟨its2,r2,p2,z2⟩:=I.tuple hq
  have l1:=r1.length
  have l2:=r2.length
  have rc:SeqAt.RcAt A s (.ref p) (.ref q) ((List.range (min xs.length ys.length)).all e && xs.length == ys.length):=by
   have:=SeqAt.RcAt.tuples (A:=A) (e:=e) (show s.heap.IsTuple p its.toArray from p1) (show s.heap.IsTuple q its2.toArray from p2) (by lia) (fun j h1 h2=>by
    obtain ⟨x,ex,rx⟩:=zcY_ r1 h1
    obtain ⟨y,ey,ry⟩:=zcY_ r2 h2
    exact (ih j x y ex ey A.in1 _ _ (by show A.units+1+n<_; lia) rx ry).1)
   rw [List.size_toArray,List.size_toArray,← l1,← l2] at this
   exact this
  refine ⟨?_,fun _ _ _ _=>rc⟩
  by_cases hpq:p=q
  ·subst hpq
   have exy:=I.tuple_inj hp hq
   subst exy
   have:((List.range (min xs.length xs.length)).all e && xs.length == xs.length)=true:=by
    rw [Bool.and_eq_true,List.all_eq_true]
    refine ⟨?_,by simp⟩
    intro i hi
    have hi:=List.mem_range.mp hi
    have hi:i<xs.length:=by lia
    exact zhs_ I (h i _ _ (List.getElem?_eq_getElem hi) (List.getElem?_eq_getElem hi)) rfl
   rw [this]
   exact SeqAt.EqAt.same _
  ·exact .of_refs hpq rc
 | lt hp hq =>
  intro A v u hu rx ry
  cases rx; cases ry
  obtain ⟨its,r1,p1,z1⟩:=I.list hp
  obtain ⟨its2,r2,p2,z2⟩:=I.tuple hq
  exact ⟨.list_tuple p1.isList p2 (by lia),fun _ _ _ _=>.list_tuple p1.isList p2 (by lia)⟩
 | tl hp hq =>
  intro A v u hu rx ry
  cases rx; cases ry
  obtain ⟨its,r1,p1,z1⟩:=I.tuple hp
  obtain ⟨its2,r2,p2,z2⟩:=I.list hq
  exact ⟨.tuple_list p1 p2.isList (by lia),fun _ _ _ _=>.tuple_list p1 p2.isList (by lia)⟩
 | lf hp hy =>
  rename_i n p xs y
  intro A v u hu rx ry
  cases rx
  obtain ⟨its,r1,p1,z1⟩:=I.list hp
  refine ⟨?_,fun _ _ _ e=>by subst e; cases hy⟩
  cases y with
  | non=>cases ry; exact .list_none p1.isList (by lia)
  | bl b=>cases ry; exact .list_bool b p1.isList (by lia)
  | int b=>obtain ⟨t,rfl⟩:=ry; exact .list_int b t p1.isList (by lia)
  | str b=>obtain ⟨t,rfl⟩:=ry; exact .list_str b t p1.isList (by lia)
  | _=>cases hy
 | fl hp hy =>
  rename_i n p xs y
  intro A v u hu rx ry
  cases ry
  obtain ⟨its,r1,p1,z1⟩:=I.list hp
  refine ⟨?_,fun _ _ e _=>by subst e; cases hy⟩
  cases y with
  | non=>cases rx; exact .none_list p1.isList (by lia)
  | bl b=>cases rx; exact .bool_list b p1.isList (by lia)
  | int b=>obtain ⟨t,rfl⟩:=rx; exact .int_list b t p1.isList (by lia)
  | str b=>obtain ⟨t,rfl⟩:=rx; exact .str_list b t p1.isList (by lia)
  | _=>cases hy
 | tf hp hy =>
  rename_i n p xs y
  intro A v u hu rx ry
  cases rx
  obtain ⟨its,r1,p1,z1⟩:=I.tuple hp
  refine ⟨?_,fun _ _ _ e=>by subst e; cases hy⟩
  cases y with
  | non=>cases ry; exact .tuple_none p1 (by lia)
  | bl b=>cases ry; exact .tuple_bool b p1 (by lia)
  | int b=>obtain ⟨t,rfl⟩:=ry; exact .tuple_int b t p1 (by lia)
  | str b=>obtain ⟨t,rfl⟩:=ry; exact .tuple_str b t p1 (by lia)
  | _=>cases hy
 | ft hp hy =>
  rename_i n p xs y
  intro A v u hu rx ry
  cases ry
  obtain ⟨its,r1,p1,z1⟩:=I.tuple hp
  refine ⟨?_,fun _ _ e _=>by subst e; cases hy⟩
  cases y with
  | non=>cases rx; exact .none_tuple p1 (by lia)
  | bl b=>cases rx; exact .bool_tuple b p1 (by lia)
  | int b=>obtain ⟨t,rfl⟩:=rx; exact .int_tuple b t p1 (by lia)
  | str b=>obtain ⟨t,rfl⟩:=rx; exact .str_tuple b t p1 (by lia)
  | _=>cases hy
 | up h ih =>
  intro A v u hu rx ry
  exact ih A v u (by lia) rx ry
end
section
variable {X:Cx}
def mEqK (K:Fgg):R2:=fun x y H Q=>match x,y with
 | .ref p,.ref q=>∃ n b,n≤50∧EqD K H n (.ref p) (.ref q) b∧Q (.bl b) H
 | _,_=>mEq x y H Q
def mNeK (K:Fgg):R2:=fun x y H Q=>match x,y with
 | .ref p,.ref q=>∃ n b,n≤50∧EqD K H n (.ref p) (.ref q) b∧Q (.bl (!b)) H
 | _,_=>mNe x y H Q
theorem zds_ (hu:X.A.units+60<cLine):OpR X (compareOp .Eq) (mEqK X.K):=by
 intro pins s σ H x y v u Q I rx ry h
 unfold mEqK at h
 split at h
 ·rename_i p q
  obtain ⟨n,b,hn,h,q⟩:=h
  have:=(zlo_ I h X.A v u (by lia) rx ry).2 _ _ rfl rfl
  exact this X.prog X.w X.xe _ ⟨.bl b,H,I,rfl,q⟩
 ·exact zny_ pins s σ H x y v u Q I rx ry h
end
section
variable {X:Cx}{pins:Pnn}{σ:St}{H:Hp}{s:Shared}
theorem znB_ (I:Inv X pins σ H s) {n:Nat}{x y:V}{b:Bool}(h:EqD X.K H n x y b):∀ (A:Around) (v u:Value),A.units+n<cLine→RelV x v→RelV y u→∀ p q,x=.ref p→y=.ref q→SeqAt.RcNeAt A s v u (!b):=by
 induction h with
 | flat hx hy=>intro A v u _ rx ry p q e _; subst e; cases hx
 | lst e hp hq hl h ih =>
  rename_i n p q xs ys
  intro A v u hu rx ry _ _ _ _
  cases rx; cases ry
  obtain ⟨its,r1,p1,z1⟩:=I.list hp
  obtain ⟨its2,r2,p2,z2⟩:=I.list hq
  have l1:=r1.length
  have l2:=r2.length
  have:=SeqAt.RcNeAt.lists (A:=A) (e:=e) p1.isList p2.isList (by simp only [List.size_toArray]; lia) (by lia) (fun j h1 h2=>by
   obtain ⟨x,ex,rx⟩:=zcY_ r1 h1
   obtain ⟨y,ey,ry⟩:=zcY_ r2 h2
   exact (zlo_ I (h j x y ex ey) A.in1 _ _ (by show A.units+1+n<_; lia) rx ry).1)
  rw [List.size_toArray,← l1] at this
  exact this
 | lstN hp hq hl =>
  intro A v u hu rx ry _ _ _ _
  cases rx; cases ry
  obtain ⟨its,r1,p1,z1⟩:=I.list hp
  obtain ⟨its2,r2,p2,z2⟩:=I.list hq
  have l1:=r1.length
  have l2:=r2.length
  exact SeqAt.RcNeAt.lists_lengths p1.isList p2.isList (by simp only [List.size_toArray,bne_iff_ne,ne_eq]; lia) (by lia)
 | tup e hp hq h ih =>
  rename_i n p q xs ys
  intro A v u hu rx ry _ _ _ _
  cases rx; cases ry
  obtain ⟨its,r1,p1,z1⟩:=I.tuple hp
  obtain ⟨its2,r2,p2,z2⟩:=I.tuple hq
  have l1:=r1.length
  have l2:=r2.length
  have:=SeqAt.RcNeAt.tuples (A:=A) (e:=e) (show s.heap.IsTuple p its.toArray from p1) (show s.heap.IsTuple q its2.toArray from p2) (by lia) (fun j h1 h2=>by
   obtain ⟨x,ex,rx⟩:=zcY_ r1 h1
   obtain ⟨y,ey,ry⟩:=zcY_ r2 h2
   exact (zlo_ I (h j x y ex ey) A.in1 _ _ (by show A.units+1+n<_; lia) rx ry).1)
  rw [List.size_toArray,List.size_toArray,← l1,← l2] at this
  exact this
 | lt hp hq =>
  intro A v u hu rx ry _ _ _ _
  cases rx; cases ry
  obtain ⟨its,r1,p1,z1⟩:=I.list hp
  obtain ⟨its2,r2,p2,z2⟩:=I.tuple hq
  exact .list_tuple p1.isList p2 (by lia)
 | tl hp hq =>
  intro A v u hu rx ry _ _ _ _
  cases rx; cases ry
  obtain ⟨its,r1,p1,z1⟩:=I.tuple hp
  obtain ⟨its2,r2,p2,z2⟩:=I.list hq
  exact .tuple_list p1 p2.isList (by lia)
 | lf hp hy=>intro A v u hu rx ry _ _ _ e; subst e; cases hy
 | fl hp hy=>intro A v u hu rx ry _ _ e _; subst e; cases hy
 | tf hp hy=>intro A v u hu rx ry _ _ _ e; subst e; cases hy
 | ft hp hy=>intro A v u hu rx ry _ _ e _; subst e; cases hy
 | up h ih=>intro A v u hu rx ry; exact ih A v u (by lia) rx ry
theorem zf2_ (hu:X.A.units+60<cLine):OpR X (compareOp .NotEq) (mNeK X.K):=by
 intro pins s σ H x y v u Q I rx ry h
 unfold mNeK at h
 split at h
 ·rename_i p q
  obtain ⟨n,b,hn,h,q⟩:=h
  have:=znB_ I h X.A v u (by lia) rx ry _ _ rfl rfl
  exact this X.prog X.w X.xe _ ⟨.bl (!b),H,I,rfl,q⟩
 ·exact zn8_ pins s σ H x y v u Q I rx ry h
end
theorem Room.u60 {k:Nat}{A:Around}(r:Room k A):A.units+60<cLine:=by have:=r.units; lia
end L2
namespace LX
open PySem Builtin Builtin.Str
section
variable {prog:Program}{w:World}{A:Around}{E:Value→Shared→Prop}{s:Shared}{x:Str}{t:Tok}{Q:Value→Shared→Prop}
end
end LX
namespace L2
open PySem PySem.Spec PyProof.Rows
section
variable {X:Cx}
end
section
variable {X:Cx}{a b c d:Expr}{ta tb tc td:TE}{pos:Pos}
def mChain3 (r r' r'':R2) (ta tb tc td:TE):TE:=fun σ H Q=>ta σ H fun x H1=>tb σ H1 fun y H2=>r x y H2 fun z H3=>match z with
 | .bl k=>br k (tc σ H3 fun w H4=>r' y w H4 fun z' H5=>match z' with | .bl k'=>br k' (td σ H5 fun w' H6=>r'' w w' H6 Q) (Q (.bl false) H5) | _=>False) (Q (.bl false) H3)
 | _=>False
theorem zhd_ {op op' op'':CmpOp}{r r' r'':R2}(ho:OpR X (compareOp op) r) (ho':OpR X (compareOp op') r') (ho'':OpR X (compareOp op'') r'') (ha:PE X a ta) (hb:PE X b tb) (hc:PE X c tc) (hd:PE X d td)
  (hm:lastMarks [op,op',op''] [b,c,d]=false:=by with_unfolding_all rfl):PE X (.Compare a [op,op',op''] [b,c,d] pos) (mChain3 r r' r'' ta tb tc td):=by
 intro pins s σ H Q I h
 refine Compare_chain (thn (ha pins s σ H _ I h) fun v s1 ⟨x,H1,I1,r1,q1⟩=>chain_link (thn (hb pins s1 σ H1 _ I1 q1) fun u s2 ⟨y,H2,I2,r2,q2⟩ =>
  thn (ho pins s2 σ H2 x y v u _ I2 r1 r2 q2) fun d s3 ⟨z,H3,I3,r3,q3⟩=>?_)) hm
 cases z with
 | bl k =>
  cases r3
  refine wpAny_truthy_bool ?_
  cases k with
  | false=>exact ite_ff ⟨.bl false,H3,I3,rfl,q3.2 rfl⟩
  | true =>
   refine ite_tt (chain_link (thn (hc pins s3 σ H3 _ I3 (q3.1 rfl)) fun w' s4 ⟨z',H4,I4,r4,q4⟩=>thn (ho' pins s4 σ H4 y z' u w' _ I4 r2 r4 q4) fun d' s5 hq_=>?_))
   obtain ⟨z2,H5,I5,r5,q5⟩:=hq_
   cases z2 with
   | bl k2 =>
    cases r5
    refine wpAny_truthy_bool ?_
    cases k2 with
    | false=>exact ite_ff ⟨.bl false,H5,I5,rfl,q5.2 rfl⟩
    | true=>exact ite_tt (chain_last (thn (hd pins s5 σ H5 _ I5 (q5.1 rfl)) fun w2 s6 ⟨z3,H6,I6,r6,q6⟩=>ho'' pins s6 σ H6 z' z3 w' w2 Q I6 r4 r6 q6))
   | _=>exact q5.elim
 | _=>exact q3.elim
end
end L2
namespace L2
open PySem PySem.Spec PyProof.Rows
section
variable {κ:Type} [DecidableEq κ]
def valV (kvs:List (κ×V)) (k:κ):Option V:=(kvs.find? fun kv=>decide (kv.1=k)).map (·.2)
def putK (kvs:List (κ×V)) (k:κ) (v:V):List (κ×V) :=
 if (kvs.any fun kv=>decide (kv.1=k))=true then kvs.map (fun kv=>if kv.1=k then (kv.1,v) else kv) else kvs++[(k,v)]
theorem zfE_ {p:κ×V}{r:List (κ×V)}{k:κ}(e:p.1=k):valV (p::r) k=some p.2:=by simp [valV,List.find?_cons,e]
theorem zfU_ {p:κ×V}{r:List (κ×V)}{k:κ}(e:¬ p.1=k):valV (p::r) k=valV r k:=by simp [valV,List.find?_cons,e]
theorem zhA_ (k:κ):∀ kvs:List (κ×V),(kvs.any fun kv=>decide (kv.1=k))=(valV kvs k).isSome
 | []=>rfl
 | p::r=>by
  rw [List.any_cons]
  by_cases e:p.1=k
  ·simp only [zfE_ e,decide_eq_true e,Bool.true_or,Option.isSome_some]
  ·rw [zfU_ e,decide_eq_false e,Bool.false_or]; exact zhA_ k r
theorem zcB_ (kvs:List (κ×V)) (k:κ) (v:V):(putK kvs k v).length≤kvs.length+1:=by
 unfold putK
 split
 ·rw [List.length_map]; lia
 ·rw [List.length_append,List.length_cons,List.length_nil]; lia
theorem RelO.isSome_eq {o:Option V}{u:Option Value}(r:RelO o u):o.isSome=u.isSome:=by
 cases o with
 | none=>cases u with
  | none=>rfl
  | some _=>exact (show False from r).elim
 | some _=>cases u with
  | none=>exact (show False from r).elim
  | some _=>rfl
theorem KV.val {kvs:List (κ×V)}{vs:List (κ×Value)}(r:KV kvs vs) (k:κ):RelO (valV kvs k) (valueAt vs k):=by
 unfold KV at r
 induction r with
 | nil=>exact True.intro
 | @cons p q ps qs h t ih =>
  obtain ⟨h1,h2⟩:=h
  by_cases e:p.1=k
  ·have e':q.1=k:=h1.symm.trans e
   have b:valueAt (q::qs) k=some q.2:=by simp [valueAt,List.find?_cons,e']
   rw [zfE_ e,b]; exact h2
  ·have e':¬ q.1=k:=fun z=>e (h1.trans z)
   have b:valueAt (q::qs) k=valueAt qs k:=by simp [valueAt,List.find?_cons,e']
   rw [zfU_ e,b]; exact ih
theorem KV.any {kvs:List (κ×V)}{vs:List (κ×Value)}(r:KV kvs vs) (k:κ):(kvs.any fun kv=>decide (kv.1=k))=vs.any fun kv=>decide (kv.1=k):=by
 unfold KV at r
 induction r with
 | nil=>rfl
 | cons h t ih=>rw [List.any_cons,List.any_cons,ih,h.1]
theorem KV.repl {kvs:List (κ×V)}{vs:List (κ×Value)}(r:KV kvs vs) (k:κ) {y:V}{u:Value}(ry:RelV y u) :
  KV (kvs.map fun kv=>if kv.1=k then (kv.1,y) else kv) (vs.map fun kv=>if kv.1=k then (kv.1,u) else kv):=by
 unfold KV at r ⊢
 induction r with
 | nil=>exact .nil
 | @cons p q ps qs h t ih =>
  rw [List.map_cons,List.map_cons]
  refine .cons ?_ ih
  obtain ⟨h1,h2⟩:=h
  by_cases e:p.1=k
  ·rw [if_pos e,if_pos (h1.symm.trans e)]; exact ⟨h1,ry⟩
  ·rw [if_neg e,if_neg (fun z=>e (h1.trans z))]; exact ⟨h1,h2⟩
theorem KV.put {kvs:List (κ×V)}{vs:List (κ×Value)}(r:KV kvs vs) (k:κ) {y:V}{u:Value}(ry:RelV y u):KV (putK kvs k y) (stored vs k u):=by
 unfold putK stored
 rw [r.any k]
 by_cases e:(vs.any fun kv=>decide (kv.1=k))=true
 ·rw [if_pos e,if_pos e]; exact r.repl k ry
 ·rw [if_neg e,if_neg e]; exact Paired.snoc r ⟨rfl,ry⟩
theorem KV.length {kvs:List (κ×V)}{vs:List (κ×Value)}(r:KV kvs vs):kvs.length=vs.length:=Paired.length r
end
theorem zmq_ {P:Program}{w:World}{k:Key}{u:Value}(r:RelV (kV k) u):(mixKind P w).is k u=true:=by
 cases k with
 | inl i=>obtain ⟨t,e⟩:=(show ∃ t,u=Value.int i t from r); subst e; exact zgE_ P w i t
 | inr x=>obtain ⟨t,e⟩:=(show ∃ t,u=Value.str x t from r); subst e; exact zgP_ P w x t
theorem zgc_ {P:Program}{w:World}:∀ {ks:List Key}{us:List Value},Vals (ks.map kV) us→ItemsAre (mixKind P w) ks us
 | [],_,r=>by rw [List.map_nil] at r; cases r; exact .nil
 | k::ks,_,r=>by
  rw [List.map_cons] at r
  cases r with
  | cons h t=>exact .cons (zmq_ h) (zgc_ t)
abbrev KT (H:Hp):List (List Key×V)→List (List Key×Addr×Value)→Prop:=Paired fun p q=>p.1=q.1∧H q.2.1=some (.tup (p.1.map kV))∧RelV p.2 q.2.2
theorem KT.val {H:Hp}{kvs:List (List Key×V)}{xs:List (List Key×Addr×Value)}(r:KT H kvs xs) (k:List Key):RelO (valV kvs k) ((atKey xs k).map (·.2)):=by
 induction r with
 | nil=>exact True.intro
 | @cons p q ps qs h t ih =>
  obtain ⟨h1,_,h2⟩:=h
  by_cases e:p.1=k
  ·have e':q.1=k:=h1.symm.trans e
   have b:atKey (q::qs) k=some q.2:=by simp [atKey,List.find?_cons,e']
   rw [zfE_ e,b]; exact h2
  ·have e':¬ q.1=k:=fun z=>e (h1.trans z)
   have b:atKey (q::qs) k=atKey qs k:=by simp [atKey,List.find?_cons,e']
   rw [zfU_ e,b]; exact ih
theorem KT.repl {H:Hp}{kvs:List (List Key×V)}{xs:List (List Key×Addr×Value)}(r:KT H kvs xs) (k:List Key) {y:V}{u:Value}(ry:RelV y u) :
  KT H (kvs.map fun kv=>if kv.1=k then (kv.1,y) else kv) (xs.map (putAt k u)):=by
 induction r with
 | nil=>exact .nil
 | @cons p q ps qs h t ih =>
  rw [List.map_cons,List.map_cons]
  refine .cons ?_ ih
  obtain ⟨h1,h2,h3⟩:=h
  unfold putAt
  by_cases e:p.1=k
  ·rw [if_pos e,if_pos (h1.symm.trans e)]; exact ⟨h1,h2,ry⟩
  ·rw [if_neg e,if_neg (fun z=>e (h1.trans z))]; exact ⟨h1,h2,h3⟩
theorem KT.put {H:Hp}{kvs:List (List Key×V)}{xs:List (List Key×Addr×Value)}(r:KT H kvs xs) (k:List Key) {b:Addr}{y:V}{u:Value}(hb:H b=some (.tup (k.map kV))) (ry:RelV y u) :
  KT H (putK kvs k y) (storedH xs k b u):=by
 have e:(kvs.any fun kv=>decide (kv.1=k))=(atKey xs k).isSome:=by
  rw [zhA_,(r.val k).isSome_eq,Option.isSome_map]
 unfold putK storedH
 rw [e]
 by_cases q:(atKey xs k).isSome=true
 ·rw [if_pos q,if_pos q]; exact r.repl k ry
 ·rw [if_neg q,if_neg q]; exact Paired.snoc r ⟨rfl,hb,ry⟩
theorem KT.keeps {H H':Hp}{kvs:List (List Key×V)}{xs:List (List Key×Addr×Value)}(r:KT H kvs xs) (ht:∀ b ys,H b=some (.tup ys)→H' b=some (.tup ys)):KT H' kvs xs :=
 Paired.mapP r fun _ _ z=>⟨z.1,ht _ _ z.2.1,z.2.2⟩
section
variable {P:Program}{w:World}{H:Hp}{h:Heap}{a:Addr}
theorem rd_of {u:HO}(ok:HOk P w H h) (e:Rd H a u):ObjOk P w H h a u:=e.ok ok
theorem zlt_ {kvs:List (Key×V)}(ok:HOk P w H h) (e:Rd H a (.dK kvs)):kvs.length≤sizeLine∧(a == sysModules)=false∧∃ vs,KV kvs vs∧h.DictOf (mixKind P w) a vs :=
 show ObjOk P w H h a (.dK kvs) from rd_of ok e
theorem dk_of {kvs:List (Key×V)}(ok:HOk P w H h) (e:H a=some (.dK kvs)):kvs.length≤sizeLine∧(a == sysModules)=false∧∃ vs,KV kvs vs∧h.DictOf (mixKind P w) a vs:=zlt_ ok (.inl e)
theorem ziz_ {ks:List Key}(ok:HOk P w H h) (e:H a=some (.tup (ks.map kV))):(tupleKind (mixKind P w)).is h ks a:=by
 obtain ⟨_,its,r,o,h1,h2,n,h3⟩:=(show ObjOk P w H h a (.tup (ks.map kV)) from ok a _ e)
 exact ⟨o,its.toArray,n,h1,h2,h3,by simpa using zgc_ r⟩
theorem zlN_ {kvs:List (List Key×V)}(ok:HOk P w H h) (e:Rd H a (.dT kvs)):kvs.length≤sizeLine∧(a == sysModules)=false ∧
  ∃ xs,KT H kvs xs∧h.DictOfH (tupleKind (mixKind P w)) a xs:=by
 obtain ⟨z,y,xs,r,o,es,ep,h1,h2,h3,h4,h5⟩:=(show ObjOk P w H h a (.dT kvs) from rd_of ok e)
 refine ⟨z,y,xs,r,o,es,ep,h1,h2,h3,h4,fun x hx=>?_,h5⟩
 have all:∀ {l:List (List Key×V)}{m:List (List Key×Addr×Value)},KT H l m→∀ x∈m,(tupleKind (mixKind P w)).is h x.1 x.2.1:=by
  intro l m q
  induction q with
  | nil=>intro x hx; exact nomatch hx
  | @cons p q ps qs hq t ih =>
   intro x hx
   rcases List.mem_cons.mp hx with e | hx
   ·subst e
    exact ziz_ ok (by rw [← hq.1]; exact hq.2.1)
   ·exact ih x hx
 exact all r x hx
theorem dt_of {kvs:List (List Key×V)}(ok:HOk P w H h) (e:H a=some (.dT kvs)):kvs.length≤sizeLine∧(a == sysModules)=false ∧
  ∃ xs,KT H kvs xs∧h.DictOfH (tupleKind (mixKind P w)) a xs:=zlN_ ok (.inl e)
end
def DGet (H:Hp) (a:Addr) (y:V) (r:Option V):Prop :=
 (∃ kvs k,Rd H a (.dK kvs)∧y=kV k∧r=valV kvs k)∨∃ kvs k b,Rd H a (.dT kvs)∧y=.ref b∧H b=some (.tup (k.map kV))∧r=valV kvs k
def DPut (H:Hp) (a:Addr) (y v:V) (H':Hp):Prop :=
 (∃ kvs k,H a=some (.dK kvs)∧y=kV k∧kvs.length<sizeLine∧H'=upd H a (.dK (putK kvs k v))) ∨
 ∃ kvs k b,H a=some (.dT kvs)∧y=.ref b∧H b=some (.tup (k.map kV))∧kvs.length<sizeLine∧H'=upd H a (.dT (putK kvs k v))
theorem DGet.k {H:Hp}{a:Addr}{kvs:List (Key×V)}{k:Key}(e:H a=some (.dK kvs)):DGet H a (kV k) (valV kvs k):=.inl ⟨kvs,k,.inl e,rfl,rfl⟩
theorem DPut.k {H:Hp}{a:Addr}{kvs:List (Key×V)}{k:Key}{v:V}(e:H a=some (.dK kvs)) (hl:kvs.length<sizeLine):DPut H a (kV k) v (upd H a (.dK (putK kvs k v))):=.inl ⟨kvs,k,e,rfl,hl,rfl⟩
section
variable {X:Cx}{pins:Pnn}{σ:St}{H:Hp}{s:Shared}{a:Addr}{y v:V}{u r:Value}{o:Option V}{A:Around}{E:Value→Shared→Prop}
theorem Inv.big (I:Inv X pins σ H s):sysModules<s.heap.objs.size:=by
 have h:mainGlobals<s.heap.objs.size:=(I.mod.glob.keeps I.bk).lt
 exact Nat.lt_trans (by decide) h
theorem zjm_ {Q:Value→Shared→Prop}(hu:A.units+1<cLine) (I:Inv X pins σ H s) (g:DGet H a y (some v)) (ry:RelV y u) (h:∀ w' s',Inv X pins σ H s'→RelV v w'→Q w' s') :
  wpAny (model X.prog X.w) A (getItem (.ref a) u) Q E s:=by
 rcases g with ⟨kvs,k,e,ey,l⟩ | ⟨kvs,k,b,e,ey,eb,l⟩
 ·subst ey
  obtain ⟨z,hd,vs,rel,dd⟩:=zlt_ I.hok e
  obtain ⟨w',hw,rw'⟩:=RelO.some_of (v:=v) (o:=valueAt vs k) (by rw [l]; exact rel.val k)
  exact wpAny_getItem_of (zmq_ ry) dd.mapOf hw (h w' _ (I.tok _) rw')
 ·subst ey
  cases (show u=Value.ref b from ry)
  obtain ⟨z,hd,xs,rel,dd⟩:=zlN_ I.hok e
  obtain ⟨w',hw,rw'⟩:=RelO.some_of (v:=v) (o:=(atKey xs k).map (·.2)) (by rw [l]; exact rel.val k)
  obtain ⟨p,hp,hp2⟩:=Option.map_eq_some_iff.mp hw
  refine wpAny_getItem_heap (tupleKind_room_in1 hu) (ziz_ I.hok eb) dd hp ?_
  rw [hp2]
  exact h w' _ (I.tok _) rw'
theorem d_in {Q:Value→Shared→Prop}(hu:A.units+1<cLine) (I:Inv X pins σ H s) (g:DGet H a y o) (ry:RelV y u) (h:∀ s',Inv X pins σ H s'→Q (.bool o.isSome) s') :
  wpAny (model X.prog X.w) A (compareOp .In u (.ref a)) Q E s:=by
 rcases g with ⟨kvs,k,e,ey,l⟩ | ⟨kvs,k,b,e,ey,eb,l⟩
 ·subst ey
  obtain ⟨z,hd,vs,rel,dd⟩:=zlt_ I.hok e
  refine wpAny_in_of (zmq_ ry) hd dd.mapOf ?_
  rw [← (rel.val k).isSome_eq,← l]
  exact h _ (I.tok _)
 ·subst ey
  cases (show u=Value.ref b from ry)
  obtain ⟨z,hd,xs,rel,dd⟩:=zlN_ I.hok e
  refine wpAny_in_heap (tupleKind_room_in1 hu) (ziz_ I.hok eb) hd dd ?_
  have q:=(rel.val k).isSome_eq
  rw [Option.isSome_map] at q
  rw [← q,← l]
  exact h _ (I.tok _)
theorem zhu_ {h':Heap}{t':Nat}{ob:HO}(I:Inv X pins σ H s) (mu:Mut (H a)) (hs:Heap.SameBut a s.heap h') (he:∃ q,h'.get? a=some q) (new:ObjOk X.prog X.w (upd H a ob) h' a ob) :
  Inv X pins σ (upd H a ob) { s with heap:=h',toks:=t' } :=
 I.write (x:=a) (e:=a) mu (.inl rfl) (fun b q hb z=>(hs.2 b hb).trans z) he new
theorem zmt_ {P:Program}{w:World}{H':Hp}{h':Heap}{kvs:List (Key×V)}{vs:List (Key×Value)}(z:kvs.length≤sizeLine) (hd:(a == sysModules)=false) (rel:KV kvs vs) (dd:h'.DictOf (mixKind P w) a vs) :
  ObjOk P w H' h' a (.dK kvs):=⟨z,hd,vs,rel,dd⟩
theorem zi1_ {H':Hp}{Q:Unit→Shared→Prop}(hu:A.units+1<cLine) (I:Inv X pins σ H s) (g:DPut H a y v H') (ry:RelV y u) (rv:RelV v r) (h:∀ s',Inv X pins σ H' s'→Q () s') :
  wpAny (model X.prog X.w) A (setItem (.ref a) u r) Q E s:=by
 rcases g with ⟨kvs,k,e,ey,l,eH⟩ | ⟨kvs,k,b,e,ey,eb,l,eH⟩
 ·subst ey eH
  obtain ⟨z,hd,vs,rel,dd⟩:=dk_of I.hok e
  have hz:vs.length≤sizeLine:=by rw [← rel.length]; exact z
  have hl:(putK kvs k v).length≤sizeLine:=by have:=zcB_ kvs k v; lia
  refine wpAny_setItem_pairs (hsz:=hz) (zmq_ ry) dd fun h' dd' hs=>h _ ?_
  have he:∃ q,h'.get? a=some q:=let ⟨q,_,_,hq,_⟩:=dd'; ⟨q,hq⟩
  exact zhu_ I (by rw [e]; exact True.intro) hs he (zmt_ hl hd (rel.put k rv) dd')
 ·subst ey eH
  cases (show u=Value.ref b from ry)
  obtain ⟨z,hd,xs,rel,dd⟩:=dt_of I.hok e
  have hz:xs.length≤sizeLine:=by rw [← Paired.length rel]; exact z
  have hl:(putK kvs k v).length≤sizeLine:=by have:=zcB_ kvs k v; lia
  refine wpAny_setItem_heap (hsz:=hz) (tupleKind_room_in1 hu) (ziz_ I.hok eb) dd fun h' dd' hs=>h _ ?_
  obtain ⟨q,es,ep,hq,h2,h3,h4,_,h5⟩:=dd'
  refine zhu_ I (by rw [e]; exact True.intro) hs ⟨q,hq⟩ ⟨hl,hd,_,(rel.put k eb rv).keeps fun c ys ec=>?_,q,es,ep,hq,h2,h3,h4,h5⟩
  rw [z4_ (ne_of ec e (fun z=>nomatch z))]
  exact ec
end
section
variable {X:Cx}{pins:Pnn}{σ:St}{H:Hp}{s:Shared}{a:Addr}{kvs:List (Key×V)}{k:Key}{u:Value}{A:Around}{E:Value→Shared→Prop}
end
def NoSl (i:Expr):Prop:=∀ ov iv,subscripted i false ov iv=operate [ov,iv] (getItem ov iv)
theorem zmZ_ {prog:Program}{w:World}{A:Around}{E:Value→Shared→Prop}{s:Shared}{env:Env}{value slice:Expr}{pos:Pos}{T id:String}{Q:Value→Shared→Prop}
  (hl:typeLookup (.type T) "__getitem__" = pure (some (.builtin id))) (hs:NoSl slice)
  (h:wpAny (model prog w) A (eval value env) (fun o s₁=>wpAny (model prog w) A (eval slice env) (fun i s₂=>s₂.TypeIs o T∧wpAny (model prog w) A (getItem o i) Q E s₂) E s₁) E s) :
  wpAny (model prog w) A (eval (.Subscript value slice pos) env) Q E s:=by
 refine Subscript_ (wpAny_mono h (fun o s₁ h₁=>wpAny_mono h₁ (fun i s₂ h₂=>?_) fun _ _ x=>x) fun _ _ x=>x)
 obtain ⟨hT,h₂⟩:=h₂
 unfold subscriptTail
 refine wpAny_bind ?_
 rw [getitemInPython_of_ne hT.not_modules]
 refine wpAny_bind (wpAny_specialOf hT hl ?_)
 have fin:wpAny (model prog w) A (subscripted slice false o i) (fun r s₃=>wpAny (model prog w) A (letTemporaryGo value o r>>=fun _=>pure r) Q E s₃) E s₂:=by
  rw [hs o i]
  exact wpAny_operating (wpAny_mono h₂ (fun r s₃ h₃=>wpAny_bind (wpAny_letTemporaryGo (wpAny_pure h₃))) fun _ _ x=>x)
 first
  | exact wpAny_pure (wpAny_bind fin)
  | exact wpAny_bind (wpAny_pure (wpAny_bind fin))
  | exact wpAny_bind fin
theorem zgZ_ {X:Cx}{pins:Pnn}{σ:St}{H:Hp}{s:Shared}{a:Addr}{y:V}{o:Option V}(I:Inv X pins σ H s) (g:DGet H a y o):s.TypeIs (.ref a) "dict" := by
 rcases g with ⟨kvs,k,e,_,_⟩ | ⟨kvs,k,b,e,_,_,_⟩
 ·obtain ⟨_,_,vs,_,dd⟩:=zlt_ I.hok e
  exact dd.typeIs
 ·obtain ⟨_,_,xs,_,dd⟩:=zlN_ I.hok e
  exact dd.typeIs
section
variable {X:Cx}{o i e value:Expr}{pos pos' tpos:Pos}{td ty tv:TE}
end
theorem zkT_ {P:Program}{w:World}{H:Hp}(h:Heap) (hb:sysModules<h.objs.size):ObjOk P w H (h.push { cls:=.type "dict",data:=.dict #[] }) h.objs.size (.dK []) :=
 ⟨Nat.zero_le _,beq_eq_false_iff_ne.mpr (Ne.symm (Nat.ne_of_lt hb)),[],.nil,Heap.DictOf.new h⟩
def tDNewK:TE:=fun _ H Q=>∀ p,H p=none→Q (.ref p) (upd H p (.dK []))
section
variable {X:Cx}{pos:Pos}
theorem zh2_:PE X (.Dict [] [] pos) tDNewK:=fun pins s σ H Q I h =>
 wpAny_Dict_empty ⟨.ref s.heap.objs.size,_,I.laid (a:=s.heap.objs.size) (o:=.dK []) (t':=s.toks) (fun _ _ q=>Heap.get?_push_of_some _ q) (Nat.le_refl _) (zkT_ s.heap I.big),rfl,h _ (I.hok.fresh (Nat.le_refl _))⟩
end
structure M2 (X:Cx) (o:Expr) (m:Str) (apos:Pos) (e f:Expr) (cpos:Pos):Prop where
 base:attributeBase o m X.env (eval o X.env)=eval o X.env
 few:((backTo cpos (starEach [e,f] X.env)).all (fun x=>!x.1) && (backToKw cpos (keywordEach [] X.env)).all (fun x=>x.1.isSome)
  && decide (([e,f]:List Expr).length+([]:List Keyword).length+(if ([]:List Keyword).isEmpty then 0 else 1)<30))=true
 line:(apos.endLine == cpos.line)=true
 trees:backTo cpos (starEach [e,f] X.env)=[(false,eval e X.env),(false,eval f X.env)]
def IsD (H:Hp) (a:Addr):Prop:=(∃ kvs,Rd H a (.dK kvs))∨∃ kvs,Rd H a (.dT kvs)
theorem zob_ {X:Cx}{pins:Pnn}{σ:St}{H:Hp}{s:Shared}{a:Addr}(I:Inv X pins σ H s) (d:IsD H a) :
  s.TypeIs (.ref a) "dict" ∧ (∀ b,Value.ref a=.ref b→∃ ob,s.heap.get? b=some ob∧ob.dict=none)∧(a == sysModules)=false:=by
 rcases d with ⟨kvs,e⟩ | ⟨kvs,e⟩
 ·obtain ⟨_,hd,vs,_,dd⟩:=zlt_ I.hok e
  refine ⟨dd.typeIs,fun b q=>?_,hd⟩
  cases q
  obtain ⟨ob,_,_,h1,h2,_⟩:=dd
  exact ⟨ob,h1,h2.2.1⟩
 ·obtain ⟨_,hd,xs,_,dd⟩:=zlN_ I.hok e
  refine ⟨dd.typeIs,fun b q=>?_,hd⟩
  cases q
  obtain ⟨ob,_,_,h1,h2,_⟩:=dd
  exact ⟨ob,h1,h2.2.1⟩
section
variable {X:Cx}{pins:Pnn}{σ:St}{H:Hp}{s:Shared}{a:Addr}{y d:V}{u r:Value}{o:Option V}{A:Around}{E:Value→Shared→Prop}
end
section
variable {X:Cx}{o e f:Expr}{apos cpos:Pos}{td ty tx:TE}
end
section
variable {X:Cx}{pins:Pnn}{σ:St}{H:Hp}{s:Shared}{a:Addr}{kvs:List (Key×V)}{A:Around}{E:Value→Shared→Prop}
end
section
variable {X:Cx}{pins:Pnn}{σ:St}{H:Hp}{s:Shared}{a:Addr}{y:V}{u:Value}{A:Around}{E:Value→Shared→Prop}
namespace L2
open PySem PySem.Spec PyProof.Rows
section
variable {X:Cx}
end
section
variable {κ:Type} [DecidableEq κ]
end
end L2
end
end L2
namespace L2
open PySem PySem.Spec PyProof.Rows
section
variable {X:Cx}
end
def Itz (K:Fgg) (l m:Addr):It :=
 ⟨fun i H=>∃ xs ys x y,SqL K H l xs∧SqL K H m ys∧xs[i]?=some x∧ys[i]?=some y,
  fun i H v H'=>∃ p x y,(∀ xs,SqL K H l xs→xs[i]?=some x)∧(∀ ys,SqL K H m ys→ys[i]?=some y)∧H p=none∧v=.ref p∧H'=upd H p (.tup [x,y]),
  fun i H=>∃ xs ys,SqL K H l xs∧SqL K H m ys∧(xs.length≤i∨ys.length≤i)⟩
theorem zk3_ {P:Program}{w:World}{K:Fgg}{elts:List Expr}{kk:Nat}{pos:Pos}(z TI TO i1 i2 l m:Addr) (D:ZipApart z TI TO i1 i2 l m) :
  Turn P w K (.Tuple elts kk pos) (Itz K l m) [z,TI,TO,i1,i2] z (fun i h=>IsZip h z TI TO .none∧IsPair h TI (.ref i1) (.ref i2)∧(∃ a b,IsPair h TO a b)∧h.IsListIter i1 l i∧h.IsListIter i2 m i) where
 mem:=by simp
 obj:=fun i h st b hb=>by
  obtain ⟨hz,hTI,⟨a,c,hTO⟩,⟨o1,ho1,c1,d1⟩,⟨o2,ho2,c2,d2⟩⟩:=st
  rcases List.mem_cons.mp hb with rfl | hb
  ·exact ⟨_,hz,fun v z=>by cases z⟩
  rcases List.mem_cons.mp hb with rfl | hb
  ·exact ⟨_,hTI,fun v z=>by cases z⟩
  rcases List.mem_cons.mp hb with rfl | hb
  ·exact ⟨_,hTO,fun v z=>by cases z⟩
  rcases List.mem_cons.mp hb with rfl | hb
  ·exact ⟨o1,ho1,fun v z=>by rw [d1] at z; cases z⟩
  ·have e:b=i2:=by simpa using hb
   subst e
   exact ⟨o2,ho2,fun v z=>by rw [d2] at z; cases z⟩
 keep:=fun i h h' st k=>by
  obtain ⟨hz,hTI,⟨a,c,hTO⟩,h1,h2⟩:=st
  exact ⟨k z (by simp) _ hz,k TI (by simp) _ hTI,⟨a,c,k TO (by simp) _ hTO⟩,h1.at fun o q=>k i1 (by simp) o q,h2.at fun o q=>k i2 (by simp) o q⟩
 item:=by
  intro X hP hw hK hc i pins s σ H E I hf st hg
  subst hP hw hK
  obtain ⟨xs,ys,x,y,hq,hq2,hx,hy⟩:=hg
  obtain ⟨its,rv,p,hz0⟩:=I.list hq
  obtain ⟨its2,rv2,p2,hz2⟩:=I.list hq2
  obtain ⟨u,hu,ru⟩:=rv.get hx
  obtain ⟨v,hv,rw'⟩:=rv2.get hy
  obtain ⟨hz,hTI,⟨a,c,hTO⟩,h1,h2⟩:=st
  have lt:∀ {c o},s.heap.get? c=some o→c<s.heap.objs.size:=fun e=>Heap.lt_size e
  have lz:=lt hz
  have lTI:=lt hTI
  have lTO:=lt hTO
  have l1:i1<s.heap.objs.size:=by obtain ⟨o,e,_⟩:=id h1; exact lt e
  have l2:i2<s.heap.objs.size:=by obtain ⟨o,e,_⟩:=id h2; exact lt e
  refine wpAny_pyNext_zip_item D hz hTI hTO h1 h2 p.isList p2.isList (x:=u) (y:=v) (by simpa using hu) (by simpa using hv) fun h3 z3 TO3 it13 it23 pr3 sz3 hk3=>?_
  refine ⟨_,rfl,?_⟩
  refine wpAny_letOwnedTupleGo_zip z3 fun h4 z4 hs4=>?_
  replace hs4:Heap.SameBut z h3 h4:=hs4
  have hp:H s.heap.objs.size=none:=I.hok.fresh (Nat.le_refl _)
  have I1:Inv X pins σ (upd H s.heap.objs.size (.tup [x,y])) { s with heap:=s.heap.push { cls:=.type "tuple",data:=.seq #[u,v] },toks:=s.toks }:=by
   refine I.laid (fun b u q=>Heap.get?_push_of_some _ q) (Nat.le_refl _) ⟨?_,[u,v],.cons ru (.cons rw' .nil),⟨_,Heap.get?_push_size _ rfl,rfl,_,rfl⟩⟩
   show 2≤sizeLine
   decide
  have hlt:∀ b∈[z,TI,TO,i1,i2],b<s.heap.objs.size:=fun b hb=>by
   rcases List.mem_cons.mp hb with rfl | hb
   ·exact lz
   rcases List.mem_cons.mp hb with rfl | hb
   ·exact lTI
   rcases List.mem_cons.mp hb with rfl | hb
   ·exact lTO
   rcases List.mem_cons.mp hb with rfl | hb
   ·exact l1
   ·have e:b=i2:=by simpa using hb
    rw [e]; exact l2
  have hf1:∀ b∈[z,TI,TO,i1,i2],FpOk X pins (upd H s.heap.objs.size (.tup [x,y])) b:=fun b hb=>by
   obtain ⟨f0,r⟩:=hf b hb
   refine ⟨?_,r⟩
   rw [z4_ (Nat.ne_of_lt (hlt b hb))]
   exact f0
  have I2:Inv X pins σ (upd H s.heap.objs.size (.tup [x,y])) { s with heap:=h4,toks:=s.toks }:=by
   refine Inv.turnedL (s:={ s with heap:=s.heap.push { cls:=.type "tuple",data:=.seq #[u,v] },toks:=s.toks }) (ch:=[z,TI,TO,i1,i2]) I1 (fun b o hb q=>?_) hf1
   have n1:b≠z:=fun e=>hb (by simp [e])
   have n2:b≠TO:=fun e=>hb (by simp [e])
   have n3:b≠i1:=fun e=>hb (by simp [e])
   have n4:b≠i2:=fun e=>hb (by simp [e])
   refine (hs4.2 b n1).trans ?_
   rcases Heap.get?_push_cases q with ⟨rfl,rfl⟩ | q'
   ·exact pr3
   ·exact hk3 b o n1 n2 n3 n4 q'
  refine ⟨.ref s.heap.objs.size,_,I2,rfl,⟨s.heap.objs.size,x,y,fun zs hy'=>by rw [I.list_inj hy' hq]; exact hx,fun zs hy'=>by rw [I.list_inj hy' hq2]; exact hy,hp,rfl,rfl⟩,⟨z4,?_,⟨u,v,?_⟩,?_,?_⟩,fun b hb=>(hf1 b hb).1⟩
  ·exact (hs4.2 TI D.TIz).trans (hk3 TI _ D.TIz D.TITO D.TIi1 D.TIi2 hTI)
  ·exact (hs4.2 TO D.TOz).trans TO3
  ·exact it13.extBut hs4.extBut D.i1z
  ·exact it23.extBut hs4.extBut D.i2z
 done:=by
  intro X hP hw hK hc i pins s σ H E I hf st hg
  subst hP hw hK
  obtain ⟨xs,ys,hq,hq2,hx⟩:=hg
  obtain ⟨its,rv,p,hz0⟩:=I.list hq
  obtain ⟨its2,rv2,p2,hz2⟩:=I.list hq2
  obtain ⟨hz,hTI,⟨a,c,hTO⟩,h1,h2⟩:=st
  have hl:=rv.length
  have hl2:=rv2.length
  refine wpAny_pyNext_zip_end (I.ok.hd hc) D hz hTI hTO h1 h2 p.isList p2.isList ?_ fun h' eb=>⟨rfl,?_⟩
  ·rcases hx with hx | hx
   ·exact .inl (by simp; lia)
   ·exact .inr (by simp; lia)
  ·refine Inv.turnedL (s:=s) (t':=s.toks) (ch:=[z,TI,TO,i1,i2]) I (fun b o hb q=>eb b o (fun e=>hb (by simp [e])) (fun e=>hb (by simp [e])) (fun e=>hb (by simp [e])) (fun e=>hb (by simp [e])) q) hf
 self:=fun _ _ _ _ _ st h=>wpAny_pyIter_zip st.1 h
theorem ziO_ {N l m:Nat}(hl:l<N) (hm:m<N):ZipApart (N+4) (N+2) (N+3) N (N+1) l m:=by
 constructor<;>(intro e; have e':(_:Nat)=_:=congrArg (fun x:Nat=>x) e; lia)
section
variable {X:Cx}{elts:List Expr}{kk:Nat}{tpos:Pos}
end
section
variable {X:Cx}{e st:Expr}{te:TE}{ts:TO}{pos p2:Pos}
end
end L2
namespace L2
open PySem PySem.Spec PyProof.Rows
def keyV:V→Option Key
 | .int i=>some (.inl i)
 | .str z=>some (.inr z)
 | _=>none
theorem zml_ {y:V}{k:Key}(h:keyV y=some k):y=kV k:=by
 cases y<;>first | (cases h; rfl) | cases h
def atD (x y:V) (H:Hp) (R:Addr→List (Key×V)→Key→Prop):Prop:=match x with
 | .ref a=>(match keyV y with | some k=>∃ kvs,H a=some (.dK kvs)∧R a kvs k | none=>False)
 | _=>False
theorem zjd_ {x y:V}{H:Hp}{R:Addr→List (Key×V)→Key→Prop}(h:atD x y H R):∃ a kvs k,x=.ref a∧y=kV k∧H a=some (.dK kvs)∧R a kvs k:=by
 unfold atD at h
 cases x with
 | ref a =>
  cases e:keyV y with
  | none=>rw [e] at h; exact h.elim
  | some k =>
   rw [e] at h
   obtain ⟨kvs,h1,h2⟩:=h
   exact ⟨a,kvs,k,rfl,zml_ e,h1,h2⟩
 | _=>exact h.elim
def mDGet (td ty:TE):TE:=fun σ H Q=>td σ H fun x H1=>ty σ H1 fun y H2=>atD x y H2 fun _ kvs k=>∃ v,valV kvs k=some v∧Q v H2
def mDIn (neg:Bool) (ty td:TE):TE:=fun σ H Q=>ty σ H fun y H1=>td σ H1 fun x H2=>atD x y H2 fun _ kvs k=>Q (.bl (if neg then !(valV kvs k).isSome else (valV kvs k).isSome)) H2
def mDPut (td ty tv:TE):TS:=fun D σ H=>tv σ H fun v H1=>td σ H1 fun x H2=>ty σ H2 fun y H3=>atD x y H3 fun a kvs k=>kvs.length<sizeLine∧D.nx σ (upd H3 a (.dK (putK kvs k v)))
section
variable {X:Cx}{o i e value:Expr}{pos pos' tpos:Pos}{td ty tv:TE}
theorem zkt_ (hu:X.A.units+60<cLine) (ho:PE X o td) (hi:PE X i ty) (hs:NoSl i:=by exact fun _ _=>rfl):PE X (.Subscript o i pos) (mDGet td ty):=by
 intro pins s σ H Q I h
 refine zmZ_ PySem.F.slot_dict_getitem.lookup hs (thn (ho pins s σ H _ I h) fun u s1 ⟨x,H1,I1,rx,q1⟩=>thn (hi pins s1 σ H1 _ I1 q1) fun iv s2 hq_=>?_)
 obtain ⟨y,H2,I2,ry,q2⟩:=hq_
 obtain ⟨a,kvs,k,rfl,rfl,hd,v,hv,q⟩:=zjd_ q2
 obtain rfl:u=Value.ref a:=rx
 have g:DGet H2 a (kV k) (some v):=by rw [← hv]; exact DGet.k hd
 exact ⟨zgZ_ I2 g,zjm_ (by lia) I2 g ry fun w' s3 I3 rw'=>⟨v,H2,I3,rw',q⟩⟩
theorem zl3_ (hu:X.A.units+60<cLine) (hi:PE X i ty) (ho:PE X o td):PC X .In i o (mDIn false ty td):=by
 intro pins s σ H Q I h
 refine thn (hi pins s σ H _ I h) fun iv s1 ⟨y,H1,I1,ry,q1⟩=>thn (ho pins s1 σ H1 _ I1 q1) fun u s2 hq_=>?_
 obtain ⟨x,H2,I2,rx,q2⟩:=hq_
 obtain ⟨a,kvs,k,rfl,rfl,hd,q⟩:=zjd_ q2
 obtain rfl:u=Value.ref a:=rx
 exact d_in (by lia) I2 (DGet.k (k:=k) hd) ry fun s3 I3=>⟨.bl (valV kvs k).isSome,H2,I3,rfl,q⟩
theorem zka_ (hu:X.A.units+60<cLine) (ho:PE X o td) (hi:PE X i ty) (hv:PE X value tv) (hs:swapsWith value (some (.Subscript o i pos')) pos.line X.env=pure false:=by rfl) :
  PS X (.Assign [.Subscript o i pos'] value pos) (mDPut td ty tv):=by
 intro pins s σ H D I h
 refine wpAny_Assign_Subscript (thn (hv pins s σ H _ I h) fun r s1 ⟨v,H1,I1,rv,q1⟩=>thn (ho pins s1 σ H1 _ I1 q1) fun u s2 ⟨x,H2,I2,rx,q2⟩=>thn (hi pins s2 σ H2 _ I2 q2) fun iv s3 hq_=>?_) hs
 obtain ⟨y,H3,I3,ry,q3⟩:=hq_
 obtain ⟨a,kvs,k,rfl,rfl,hd,hl,q⟩:=zjd_ q3
 obtain rfl:u=Value.ref a:=rx
 exact zi1_ (by lia) I3 (DPut.k hd hl) ry rv fun s4 I4=>⟨σ,_,I4,q⟩
end
section
variable {X:Cx}{o e f:Expr}{apos cpos:Pos}{td ty tx':TE}
end
section
variable {X:Cx}{o i:Expr}{pos:Pos}{td ty:TE}
theorem zj7_ {op:CmpOp}{a b:Expr}{t:TE}(h:PC X op a b t) (h1:behindInMarks op b=false):PT X (.Compare a [op] [b] pos) (mTest t):=by
 intro pins s σ H Q I hw
 refine wpAny_isTrue_Compare1 (thn (h pins s σ H _ I hw) fun v s1 q=>thn q fun u s2 q=>thn q fun c s3 hq_=>?_) h1
 obtain ⟨x,H1,I1,r,q⟩:=hq_
 cases x with
 | bl k=>cases r; exact wpAny_truthy_bool ⟨H1,I1,q⟩
 | _=>exact q.elim
theorem zlE_ (hu:X.A.units+60<cLine) (hi:PE X i ty) (ho:PE X o td) (h1:behindInMarks .In o=false:=by rfl):PT X (.Compare i [.In] [o] pos) (mTest (mDIn false ty td)):=zj7_ (zl3_ hu hi ho) h1
end
end L2
namespace L2
open PySem PySem.Spec PyProof.Rows
inductive Av where
 | i (n:Int) | p (a b:Int)
inductive Xc where
 | pl (c:String) | at (c:String) (as:List (Str×Av))
instance:Coe String Xc:=⟨Xc.pl⟩
inductive Mo (α:Type) where
 | ok (a:α) | ex (c:Xc) | no
namespace Mo
variable {α β γ:Type}
def bind (x:Mo α) (f:α→Mo β):Mo β:=match x with | .ok a=>f a | .ex c=>.ex c | .no=>.no
theorem ok_bind (a:α) (f:α→Mo β):(Mo.ok a).bind f=f a:=rfl
def noex (x:Mo α):Mo α:=match x with | .ok a=>.ok a | _=>.no
def lim (n:Nat) (k:Mo α):Mo α:=if n≤sizeLine then k else .no
theorem lim_ok {n:Nat}{k:Mo α}(h:n≤100000):lim n k=k:=if_pos (zb7_ h)
def grd (p:Prop) [Decidable p] (k:Mo α):Mo α:=if p then k else .no
theorem grd_ok {p:Prop} [Decidable p] {k:Mo α}(h:p):grd p k=k:=if_pos h
def opt (x:Option α):Mo α:=match x with | some a=>.ok a | none=>.no
end Mo
def un (F h:Hp):Hp:=fun p=>match F p with | some o=>some o | none=>h p
def Dj (F h:Hp):Prop:=∀ p,F p=none∨h p=none
def Jn (h1 h2 h:Hp):Prop:=∀ p,(h1 p=none∧h p=h2 p)∨(h2 p=none∧h p=h1 p)
def Ext (F H F' H':Hp):Prop:=Same F F'∧Same F' H'∧Same H H'∧∀ p,F p=none→F' p≠none→H p=none
theorem Ext.refl {F H:Hp}(h:Same F H):Ext F H F H:=⟨Same.refl _,h,Same.refl _,fun p a b=>absurd a b⟩
theorem Ext.trans {F H F1 H1 F2 H2:Hp}(a:Ext F H F1 H1) (b:Ext F1 H1 F2 H2):Ext F H F2 H2:=by
 obtain ⟨a1,a2,a3,a4⟩:=a
 obtain ⟨b1,b2,b3,b4⟩:=b
 refine ⟨a1.trans b1,b2,a3.trans b3,fun p hp hq=>?_⟩
 cases e:F1 p with
 | none=>exact a3.free (b4 p e hq)
 | some o=>exact a4 p hp (by rw [e]; exact Option.some_ne_none _)
theorem Ext.heap {F H H':Hp}(h:Same F H) (g:Same H H'):Ext F H F H':=⟨Same.refl _,h.trans g,g,fun p a b=>absurd a b⟩
theorem Ext.new {F H:Hp}(h:Same F H) {p:Addr}{o:HO}(hp:H p=none):Ext F H (upd F p o) (upd H p o):=by
 refine ⟨zdn_ (h.free hp) _,fun b u e=>?_,zdn_ hp _,fun q a b=>?_⟩
 ·unfold upd at e ⊢
  split
  ·rename_i z; rw [if_pos z] at e; exact e
  ·rename_i z; rw [if_neg z] at e; exact h _ _ e
 ·unfold upd at b
  split at b
  ·rename_i z; rw [z]; exact hp
  ·exact absurd a b
structure Ty (α:Type) where
 R:α→V→Hp→Prop
 mono:∀ {a v H H'},Same H H'→R a v H→R a v H'
def Tups (H H':Hp):Prop:=∀ p xs,H p=some (.tup xs)→H' p=some (.tup xs)
theorem Same.tups {H H':Hp}(h:Same H H'):Tups H H':=fun p xs e=>h _ _ e
def Imm {α:Type}(T:Ty α):Prop:=∀ {a v H H'},Tups H H'→T.R a v H→T.R a v H'
abbrev tyInt:Ty Int:=⟨fun a v _=>v=.int a,fun _ h=>h⟩
abbrev tyStr:Ty (List Nat):=⟨fun a v _=>v=tx a,fun _ h=>h⟩
abbrev tyBl:Ty Bool:=⟨fun a v _=>v=.bl a,fun _ h=>h⟩
abbrev tyNon:Ty Unit:=⟨fun _ v _=>v=.non,fun _ h=>h⟩
theorem zf_:Imm tyInt:=fun _ h=>h
theorem zS_:Imm tyStr:=fun _ h=>h
theorem zai_:Imm tyBl:=fun _ h=>h
theorem zmM_:Imm tyNon:=fun _ h=>h
abbrev tyOpt {α:Type}(T:Ty α):Ty (Option α):=⟨fun a v H=>match a with | none=>v=.non | some x=>T.R x v H∧v≠.non,fun {a v H H'} g h=>by cases a with | none=>exact h | some x=>exact ⟨T.mono g h.1,h.2⟩⟩
theorem zib_ {α:Type}{T:Ty α}(i:Imm T):Imm (tyOpt T):=fun {a v H H'} g h=>by cases a with | none=>exact h | some x=>exact ⟨i g h.1,h.2⟩
structure Cs (γ:Type) where
 R:γ→List V→Hp→Prop
 mono:∀ {c vs H H'},Same H H'→R c vs H→R c vs H'
def ImmC {γ:Type}(C:Cs γ):Prop:=∀ {c vs H H'},Tups H H'→C.R c vs H→C.R c vs H'
abbrev csNil:Cs Unit:=⟨fun _ vs _=>vs=[],fun _ h=>h⟩
abbrev csLast {α:Type}(T:Ty α):Cs α:=⟨fun a vs H=>∃ v,vs=[v]∧T.R a v H,fun g ⟨v,e,h⟩=>⟨v,e,T.mono g h⟩⟩
abbrev csCons {α γ:Type}(T:Ty α) (C:Cs γ):Cs (α×γ):=⟨fun a vs H=>∃ v us,vs=v::us∧T.R a.1 v H∧C.R a.2 us H,fun g ⟨v,us,e,h,q⟩=>⟨v,us,e,T.mono g h,C.mono g q⟩⟩
theorem zg_ {α:Type}{T:Ty α}(i:Imm T):ImmC (csLast T):=fun g ⟨v,e,h⟩=>⟨v,e,i g h⟩
theorem zd_ {α γ:Type}{T:Ty α}{C:Cs γ}(i:Imm T) (j:ImmC C):ImmC (csCons T C):=fun g ⟨v,us,e,h,q⟩=>⟨v,us,e,i g h,j g q⟩
abbrev tyTup {γ:Type}(C:Cs γ):Ty γ:=⟨fun c v H=>∃ p us,v=.ref p∧H p=some (.tup us)∧C.R c us H,fun g ⟨p,us,e,h,q⟩=>⟨p,us,e,g _ _ h,C.mono g q⟩⟩
theorem zn_ {γ:Type}{C:Cs γ}(i:ImmC C):Imm (tyTup C):=fun g ⟨p,us,e,h,q⟩=>⟨p,us,e,g _ _ h,i g q⟩
abbrev Prs {α:Type}(T:Ty α) (H:Hp) (xs:List α) (vs:List V):Prop:=Paired (fun x v=>T.R x v H) xs vs
theorem zaS_ {α β:Type}{R R':α→β→Prop}(h:∀ a b,R a b→R' a b):∀ {xs:List α}{ys:List β},Paired R xs ys→Paired R' xs ys
 | _,_,.nil=>.nil
 | _,_,.cons a t=>.cons (h _ _ a) (zaS_ h t)
theorem Prs.mono {α:Type}{T:Ty α}{H H':Hp}{xs:List α}{vs:List V}(g:Same H H') (h:Prs T H xs vs):Prs T H' xs vs:=zaS_ (fun _ _ r=>T.mono g r) h
theorem Prs.imm {α:Type}{T:Ty α}(i:Imm T) {H H':Hp}{xs:List α}{vs:List V}(g:Tups H H') (h:Prs T H xs vs):Prs T H' xs vs:=zaS_ (fun _ _ r=>i g r) h
abbrev tyL {α:Type}(T:Ty α):Ty (List α):=⟨fun xs v H=>∃ p vs,v=.ref p∧H p=some (.lst vs)∧Prs T H xs vs,fun g ⟨p,vs,e,h,q⟩=>⟨p,vs,e,g _ _ h,q.mono g⟩⟩
abbrev tySc (K:Fgg):Ty (List Int):=⟨fun xs v H=>∃ p,v=.ref p∧SqL K H p (xs.map V.int),fun g ⟨p,e,h⟩=>⟨p,e,g.seq h⟩⟩
structure Own (α:Type) where
 O:α→V→Hp→Hp→Prop
 fr:Ty α
 mono:∀ {a v F F' h},Same F F'→O a v F h→O a v F' h
 frz:∀ {a v F h},Dj F h→O a v F h→fr.R a v (un F h)
 notup:∀ {a v F h},O a v F h→∀ p xs,h p≠some (.tup xs)
def ImmO {α:Type}(O:Own α):Prop:=∀ {a v F F' h},Tups F F'→O.O a v F h→O.O a v F' h
theorem zcr_ {F h:Hp}:Same F (un F h):=fun p o e=>by unfold un; rw [e]
theorem zgG_ {F h:Hp}(d:Dj F h):Same h (un F h):=fun p o e=>by
 unfold un
 rcases d p with z | z
 ·rw [z]; exact e
 ·rw [z] at e; cases e
abbrev owF {α:Type}(T:Ty α):Own α:=⟨fun a v F h=>(∀ p,h p=none)∧T.R a v F,T,fun g ⟨e,h⟩=>⟨e,T.mono g h⟩,fun _ ⟨_,h⟩=>T.mono zcr_ h,fun ⟨e,_⟩ p xs z=>by rw [e] at z; cases z⟩
theorem zal_ {α:Type}{T:Ty α}(i:Imm T):ImmO (owF T):=fun g ⟨e,h⟩=>⟨e,i g h⟩
def one (p:Addr) (o:HO):Hp:=fun q=>if q=p then some o else none
theorem zbq_ {p:Addr}{o:HO}:one p o p=some o:=if_pos rfl
abbrev owL {α:Type}(T:Ty α):Own (List α):=⟨fun xs v F h=>∃ p vs,v=.ref p∧h=one p (.lst vs)∧Prs T F xs vs,tyL T,fun g ⟨p,vs,e,z,q⟩=>⟨p,vs,e,z,q.mono g⟩,
 fun d ⟨p,vs,e,z,q⟩=>⟨p,vs,e,zgG_ d _ _ (by rw [z]; exact zbq_),q.mono zcr_⟩,
 fun ⟨p,vs,e,z,q⟩ b xs y=>by rw [z] at y; unfold one at y; split at y<;>cases y⟩
theorem zaf_ {α:Type}{T:Ty α}(i:Imm T):ImmO (owL T):=fun g ⟨p,vs,e,z,q⟩=>⟨p,vs,e,z,q.imm i g⟩
inductive Sl:Type 1 where
 | dead
 | fz {α:Type}(T:Ty α) (a:α)
 | ow {α:Type}(O:Own α) (a:α)
def Sl.P:Sl→Option V→Hp→Hp→Prop
 | .dead,_,_,_=>True
 | .fz T a,o,F,_=>∃ v,o=some v∧T.R a v F
 | .ow O a,o,F,h=>∃ v,o=some v∧O.O a v F h
def Sl.Z:Sl→Option V→Hp→Prop
 | .dead,_,_=>True
 | .fz T a,o,F=>∃ v,o=some v∧T.R a v F
 | .ow O a,o,F=>∃ v,o=some v∧O.fr.R a v F
def Sl.cold:Sl→Sl
 | .ow _ _=>.dead
 | s=>s
def Hold:List Sl→St→Hp→Hp→Prop
 | [],[],_,_=>True
 | s::L,o::σ,F,h=>∃ h1 h2,Jn h1 h2 h∧s.P o F h1∧Hold L σ F h2
 | _,_,_,_=>False
def HoldF (L:List Sl) (σ:St) (F:Hp):Prop:=∀ (i:Nat) (s:Sl),L[i]?=some s→s.Z (σ[i]?.join) F
theorem Sl.P.mono {s:Sl}{o:Option V}{F F' h:Hp}(g:Same F F') (q:s.P o F h):s.P o F' h:=by
 cases s with
 | dead=>exact q
 | fz T a=>obtain ⟨v,e,r⟩:=q; exact ⟨v,e,T.mono g r⟩
 | ow O a=>obtain ⟨v,e,r⟩:=q; exact ⟨v,e,O.mono g r⟩
theorem Sl.Z.mono {s:Sl}{o:Option V}{F F':Hp}(g:Same F F') (q:s.Z o F):s.Z o F':=by
 cases s with
 | dead=>exact q
 | fz T a=>obtain ⟨v,e,r⟩:=q; exact ⟨v,e,T.mono g r⟩
 | ow O a=>obtain ⟨v,e,r⟩:=q; exact ⟨v,e,O.fr.mono g r⟩
theorem HoldF.mono {L:List Sl}{σ:St}{F F':Hp}(g:Same F F') (q:HoldF L σ F):HoldF L σ F':=fun i s e=>(q i s e).mono g
theorem Hold.mono:∀ {L:List Sl}{σ:St}{F F' h:Hp},Same F F'→Hold L σ F h→Hold L σ F' h
 | [],[],_,_,_,_,q=>q
 | s::L,o::σ,F,F',h,g,⟨h1,h2,j,p,r⟩=>⟨h1,h2,j,p.mono g,r.mono g⟩
 | [],_::_,_,_,_,_,q=>q.elim
 | _::_,[],_,_,_,_,q=>q.elim
theorem Hold.len:∀ {L:List Sl}{σ:St}{F h:Hp},Hold L σ F h→L.length=σ.length
 | [],[],_,_,_=>rfl
 | s::L,o::σ,F,h,⟨h1,h2,j,p,r⟩=>by rw [List.length_cons,List.length_cons,r.len]
 | [],_::_,_,_,q=>q.elim
 | _::_,[],_,_,q=>q.elim
theorem Jn.l {h1 h2 h:Hp}(j:Jn h1 h2 h):Same h1 h:=fun p o e=>by
 rcases j p with ⟨a,b⟩ | ⟨a,b⟩
 ·rw [a] at e; cases e
 ·rw [b]; exact e
theorem Jn.r {h1 h2 h:Hp}(j:Jn h1 h2 h):Same h2 h:=fun p o e=>by
 rcases j p with ⟨a,b⟩ | ⟨a,b⟩
 ·rw [b]; exact e
 ·rw [a] at e; cases e
theorem Jn.dj {h1 h2 h:Hp}(j:Jn h1 h2 h):Dj h1 h2:=fun p=>by
 rcases j p with ⟨a,b⟩ | ⟨a,b⟩
 ·exact .inl a
 ·exact .inr a
theorem zi2_ {h1 h2:Hp}(d:Dj h1 h2):Jn h1 h2 (un h1 h2):=fun p=>by
 unfold un
 rcases d p with a | a
 ·rw [a]; exact .inl ⟨rfl,rfl⟩
 ·refine .inr ⟨a,?_⟩
  cases h1 p with
  | none=>exact a
  | some o=>rfl
theorem Hold.at:∀ {L:List Sl}{σ:St}{F h:Hp}(i:Nat) {s:Sl},Hold L σ F h→L[i]?=some s →
  ∃ o h1 h2,σ[i]?=some o∧Jn h1 h2 h∧s.P o F h1∧∀ s' o' h1' h',Jn h1' h2 h'→s'.P o' F h1'→Hold (L.set i s') (σ.set i o') F h'
 | [],_,_,_,_,_,_,e=>by cases e
 | s::L,[],_,_,_,_,q,_=>q.elim
 | s::L,o::σ,F,h,0,t,⟨h1,h2,j,p,r⟩,e=>by
  cases e
  exact ⟨o,h1,h2,rfl,j,p,fun s' o' h1' h' j' p'=>⟨h1',h2,j',p',r⟩⟩
 | s::L,o::σ,F,h,i+1,t,⟨h1,h2,j,p,r⟩,e=>by
  obtain ⟨o1,k1,k2,e1,j1,p1,f⟩:=Hold.at i r (by simpa using e)
  have d1:Dj h1 k1:=fun p=>by
   rcases j.dj p with a | a
   ·exact .inl a
   ·exact .inr (j1.l.free a)
  have d2:Dj h1 k2:=fun p=>by
   rcases j.dj p with a | a
   ·exact .inl a
   ·exact .inr (j1.r.free a)
  refine ⟨o1,k1,un h1 k2,by simpa using e1,fun p=>?_,p1,fun s' o' k1' h' j' p'=>?_⟩
  ·rcases j p with ⟨a,b⟩ | ⟨a,b⟩
   ·rcases j1 p with ⟨c,d⟩ | ⟨c,d⟩
    ·refine .inl ⟨c,?_⟩; unfold un; rw [a,b,d]
    ·refine .inr ⟨?_,by rw [b,d]⟩; unfold un; rw [a,c]
   ·refine .inl ⟨j1.l.free a,?_⟩
    have:k2 p=none:=j1.r.free a
    unfold un; rw [b]
    cases h1 p with
    | none=>rw [this]
    | some u=>rfl
  ·have dd:Dj k1' k2:=fun p=>by
    rcases j' p with ⟨a,b⟩ | ⟨a,b⟩
    ·exact .inl a
    ·right; unfold un at a
     cases z:h1 p with
     | none=>rw [z] at a; exact a
     | some u=>rw [z] at a; cases a
   refine ⟨h1,un k1' k2,fun p=>?_,p,f s' o' k1' _ (zi2_ dd) p'⟩
   rcases j' p with ⟨a,b⟩ | ⟨a,b⟩
   ·unfold un at b ⊢
    cases z:h1 p with
    | none=>rw [z] at b; exact .inl ⟨rfl,by rw [b,a]⟩
    | some u =>
     rw [z] at b
     refine .inr ⟨?_,b⟩
     rw [a]
     rcases d2 p with y | y
     ·rw [y] at z; cases z
     ·exact y
   ·unfold un at a
    cases z:h1 p with
    | some u=>rw [z] at a; cases a
    | none =>
     rw [z] at a
     refine .inl ⟨rfl,?_⟩
     unfold un; rw [b]
     cases k1' p with
     | none=>exact a.symm
     | some u=>rfl
theorem Hold.froz {L:List Sl}{σ:St}{F h:Hp}(d:Dj F h) (q:Hold L σ F h):HoldF L σ (un F h):=by
 intro i s e
 obtain ⟨o,h1,h2,e1,j,p,_⟩:=q.at i e
 rw [e1]
 have d1:Dj F h1:=fun p=>by
  rcases d p with a | a
  ·exact .inl a
  ·exact .inr (j.l.free a)
 cases s with
 | dead=>trivial
 | fz T a=>obtain ⟨v,e2,r⟩:=p; exact ⟨v,e2,T.mono zcr_ r⟩
 | ow O a =>
  obtain ⟨v,e2,r⟩:=p
  refine ⟨v,e2,O.fr.mono (fun p u z=>?_) (O.frz d1 r)⟩
  unfold un at z ⊢
  cases y:F p with
  | some w=>rw [y] at z; exact z
  | none=>rw [y] at z; exact j.l _ _ z
theorem Hold.coldF {L:List Sl}{σ:St}{F h:Hp}(q:Hold L σ F h):HoldF (L.map Sl.cold) σ F:=by
 intro i s e
 rw [List.getElem?_map] at e
 cases e1:L[i]? with
 | none=>rw [e1] at e; cases e
 | some t =>
  rw [e1] at e
  cases e
  obtain ⟨o,h1,h2,e2,j,p,_⟩:=q.at i e1
  rw [e2]
  cases t with
  | dead=>trivial
  | fz T a=>obtain ⟨v,e2,r⟩:=p; exact ⟨v,e2,r⟩
  | ow O a=>trivial
end L2
namespace L2
open PySem PySem.Spec PyProof.Rows
def Av.R:Av→V→Hp→Prop
 | .i n,v,_=>v=.int n
 | .p a b,v,H=>∃ q,v=.ref q∧H q=some (.tup [.int a,.int b])
theorem Av.imm {x:Av}{v:V}{H H':Hp}(g:Tups H H') (h:x.R v H):x.R v H':=by
 cases x with
 | i n=>exact h
 | p a b=>obtain ⟨q,e,z⟩:=h; exact ⟨q,e,g _ _ z⟩
def AtR (as:List (Str×Av)) (fs:List (Str×V)) (F:Hp):Prop:=Paired (fun a f=>a.1=f.1∧a.2.R f.2 F) as fs
theorem AtR.imm {as:List (Str×Av)}{fs:List (Str×V)}{H H':Hp}(g:Tups H H') (h:AtR as fs H):AtR as fs H':=zaS_ (fun _ _ r=>⟨r.1,Av.imm g r.2⟩) h
def Tell (K:Fgg) (E:XK) (x:Xc) (H0 F H:Hp):Prop:=match x with
 | .pl c=>E (.ref (gA K c)) none H
 | .at c as=>∀ dx fs,H0 dx=none→F dx=some (XDO dx fs)→AtR as fs F→E (.ref (gA K c)) (some dx) H
theorem Tell.up {K:Fgg}{E:XK}{x:Xc}{H0 H1 F H:Hp}(s:Same H0 H1) (h:Tell K E x H0 F H):Tell K E x H1 F H:=by
 cases x with
 | pl c=>exact h
 | «at» c as=>exact fun dx fs e=>h dx fs (s.free e)
def After {α:Type}(K:Fgg) (r:Mo α) (E:XK) (F H:Hp) (k:α→Hp→Hp→Prop):Prop:=match r with
 | .ok a=>∀ F' H',Ext F H F' H'→k a F' H'
 | .ex c=>∀ F' H',Ext F H F' H'→Tell K E c H F' H'
 | .no=>False
section
variable {K:Fgg}{E:XK}{α β γ ρ:Type}{F H:Hp}
theorem After.bind {r:Mo α}{f:α→Mo β}{k:β→Hp→Hp→Prop}(h:After K (r.bind f) E F H k):After K r E F H fun a F1 H1=>After K (f a) E F1 H1 k:=by
 cases r with
 | ok a =>
  intro F1 H1 x
  have h':After K (f a) E F H k:=h
  cases e:f a with
  | ok b=>rw [e] at h'; exact fun F2 H2 y=>h' F2 H2 (x.trans y)
  | ex c=>rw [e] at h'; exact fun F2 H2 y=>(h' F2 H2 (x.trans y)).up x.2.2.1
  | no=>rw [e] at h'; exact h'
 | ex c=>exact h
 | no=>exact h
theorem After.imp {r:Mo α}{k k':α→Hp→Hp→Prop}(h:After K r E F H k) (g:∀ a F' H',Ext F H F' H'→k a F' H'→k' a F' H'):After K r E F H k':=by
 cases r with
 | ok a=>exact fun F' H' x=>g a F' H' x (h F' H' x)
 | ex c=>exact h
 | no=>exact h
theorem After.ok {a:α}{k:α→Hp→Hp→Prop}(hs:Same F H) (h:After K (.ok a) E F H k):k a F H:=h F H (.refl hs)
theorem After.noex {r:Mo α}{k:α→Hp→Hp→Prop}(h:After K r.noex E F H k):After K r E0 F H k:=by
 cases r with
 | ok a=>exact h
 | ex c=>exact h.elim
 | no=>exact h
theorem After.lim {n:Nat}{r:Mo α}{k:α→Hp→Hp→Prop}(h:After K (Mo.lim n r) E F H k):n≤sizeLine∧After K r E F H k:=by
 unfold Mo.lim at h
 split at h
 ·exact ⟨by assumption,h⟩
 ·exact h.elim
theorem After.grd {p:Prop} [Decidable p] {r:Mo α}{k:α→Hp→Hp→Prop}(h:After K (Mo.grd p r) E F H k):p∧After K r E F H k:=by
 unfold Mo.grd at h
 split at h
 ·exact ⟨by assumption,h⟩
 ·exact h.elim
theorem After.opt {x:Option α}{k:α→Hp→Hp→Prop}(h:After K (Mo.opt x) E F H k):∃ a,x=some a∧After K (.ok a) E F H k:=by
 cases x with
 | none=>exact h.elim
 | some a=>exact ⟨a,rfl,h⟩
def EvF (K:Fgg) (e:TE) (E:XK) (L:List Sl) (r:Mo α) (T:Ty α):Prop :=
 ∀ σ F H (Q:VK),HoldF L σ F→Same F H→After K r E F H (fun a F' H'=>∀ v,T.R a v F'→Q v H')→e σ H Q
def OwnK (O:Own α) (H:Hp) (Q:VK) (a:α) (F' H':Hp):Prop:=∀ v h,(∀ p,h p≠none→H p=none)→Dj F' h→Same h H'→O.O a v F' h→Q v H'
def EvO (K:Fgg) (e:TE) (E:XK) (L:List Sl) (r:Mo α) (O:Own α):Prop :=
 ∀ σ F H (Q:VK),HoldF L σ F→Same F H→After K r E F H (OwnK O H Q)→e σ H Q
def EvT (K:Fgg) (t:TT) (E:XK) (L:List Sl) (r:Mo Bool):Prop :=
 ∀ σ F H (Q:Bool→Hp→Prop),HoldF L σ F→Same F H→After K r E F H (fun b _ H'=>Q b H')→t σ H Q
def EvA (K:Fgg) (t:TA) (E:XK) (L:List Sl) (r:Mo γ) (C:Cs γ):Prop :=
 ∀ σ F H (Q:List V→Hp→Prop),HoldF L σ F→Same F H→After K r E F H (fun c F' H'=>∀ vs,C.R c vs F'→Q vs H')→t σ H Q
variable {L:List Sl}{e e1 e2:TE}{T:Ty α}{r:Mo α}
theorem EvO.fr {O:Own α}(h:EvO K e E L r O):EvF K e E L r O.fr:=by
 intro σ F H Q hL hs q
 refine h σ F H Q hL hs ?_
 cases r with
 | ok a =>
  intro F' H' x v h' fresh d s o
  refine q (un F' h') H' ⟨x.1.trans zcr_,fun p o e=>?_,x.2.2.1,fun p a b=>?_⟩ v (O.frz d o)
  ·unfold un at e
   cases z:F' p with
   | some w=>rw [z] at e; cases e; exact x.2.1 _ _ z
   | none=>rw [z] at e; exact s _ _ e
  ·unfold un at b
   cases z:F' p with
   | some w=>exact x.2.2.2 p a (by rw [z]; exact Option.some_ne_none _)
   | none=>rw [z] at b; exact fresh p b
 | ex c=>exact q
 | no=>exact q
theorem EvF.ow (h:EvF K e E L r T):EvO K e E L r (owF T):=by
 intro σ F H Q hL hs q
 refine h σ F H Q hL hs (q.imp fun a F' H' x k v hv=>?_)
 exact k v (fun _=>none) (fun p z=>absurd rfl z) (fun p=>.inr rfl) (fun p o z=>by cases z) ⟨fun _=>rfl,hv⟩
theorem ev_c {v:V}{a:α}(h:∀ F,T.R a v F):EvF K (tC v) E L (.ok a) T:=fun σ F H Q hL hs q=>q.ok hs v (h F)
theorem zu_ (i:Int):EvF K (tC (.int i)) E L (.ok i) tyInt:=ev_c fun _=>rfl
theorem zU_ (l:List Nat):EvF K (tC (tx l)) E L (.ok l) tyStr:=ev_c fun _=>rfl
theorem zhc_ (b:Bool):EvF K (tC (.bl b)) E L (.ok b) tyBl:=ev_c fun _=>rfl
theorem zeI_:EvF K (tC .non) E L (.ok ()) tyNon:=ev_c fun _=>rfl
theorem zjJ_ {β:Type}{T:Ty β}:EvF K (tC .non) E L (.ok (none:Option β)) (tyOpt T):=ev_c fun _=>rfl
theorem zfg_ (hn:∀ a v F,T.R a v F→v≠.non) (h:EvF K e E L r T):EvF K e E L (r.bind fun a=>.ok (some a)) (tyOpt T):=by
 intro σ F H Q hL hs q
 exact h σ F H Q hL hs (q.bind.imp fun a F1 H1 x k v hv=>k.ok x.2.1 v ⟨hv,hn _ _ _ hv⟩)
theorem zc_ (i:Nat) {a:α}(h:L[i]?=some (.fz T a)):EvF K (mVar i) E L (.ok a) T:=by
 intro σ F H Q hL hs q
 obtain ⟨v,e,r⟩:=hL i _ h
 unfold mVar
 cases z:σ[i]? with
 | none=>rw [z] at e; cases e
 | some o =>
  rw [z] at e
  cases (show o=some v from e)
  exact q.ok hs v r
theorem zin_ (i:Nat) {O:Own α}{a:α}(h:L[i]?=some (.ow O a)):EvF K (mVar i) E L (.ok a) O.fr:=by
 intro σ F H Q hL hs q
 obtain ⟨v,e,r⟩:=hL i _ h
 unfold mVar
 cases z:σ[i]? with
 | none=>rw [z] at e; cases e
 | some o =>
  rw [z] at e
  cases (show o=some v from e)
  exact q.ok hs v r
def Op2 (K:Fgg) (m:R2) (E:XK) (T1:Ty α) (T2:Ty β) (g:α→β→Mo γ) (T:Ty γ):Prop :=
 ∀ a b x y F H (Q:VK),Same F H→T1.R a x F→T2.R b y F→After K (g a b) E F H (fun c F' H'=>∀ v,T.R c v F'→Q v H')→m x y H Q
def Op2O (K:Fgg) (m:R2) (E:XK) (T1:Ty α) (T2:Ty β) (g:α→β→Mo γ) (O:Own γ):Prop :=
 ∀ a b x y F H (Q:VK),Same F H→T1.R a x F→T2.R b y F→After K (g a b) E F H (OwnK O H Q)→m x y H Q
theorem OwnK.back {O:Own α}{H H1:Hp}{Q:VK}{a:α}{F' H':Hp}(g:Same H H1) (h:OwnK O H Q a F' H'):OwnK O H1 Q a F' H' :=
 fun v k fresh d s o=>h v k (fun p z=>g.free (fresh p z)) d s o
theorem zB_ {m:R2}{T1:Ty α}{T2:Ty β}{T:Ty γ}{g:α→β→Mo γ}{r1:Mo α}{r2:Mo β}(hop:Op2 K m E T1 T2 g T) (h1:EvF K e1 E L r1 T1) (h2:EvF K e2 E L r2 T2) :
  EvF K (tOp m e1 e2) E L (r1.bind fun a=>r2.bind fun b=>g a b) T:=by
 intro σ F H Q hL hs q
 refine h1 σ F H _ hL hs (q.bind.imp fun a F1 H1 x1 k1 v1 hv1=>?_)
 refine h2 σ F1 H1 _ (hL.mono x1.1) x1.2.1 (k1.bind.imp fun b F2 H2 x2 k2 v2 hv2=>?_)
 exact hop a b v1 v2 F2 H2 Q x2.2.1 (T1.mono x2.1 hv1) hv2 k2
theorem zfj_ {m:R2}{T1:Ty α}{T2:Ty β}{O:Own γ}{g:α→β→Mo γ}{r1:Mo α}{r2:Mo β}(hop:Op2O K m E T1 T2 g O) (h1:EvF K e1 E L r1 T1) (h2:EvF K e2 E L r2 T2) :
  EvO K (tOp m e1 e2) E L (r1.bind fun a=>r2.bind fun b=>g a b) O:=by
 intro σ F H Q hL hs q
 refine h1 σ F H _ hL hs (q.bind.imp fun a F1 H1 x1 k1 v1 hv1=>?_)
 refine h2 σ F1 H1 _ (hL.mono x1.1) x1.2.1 (k1.bind.imp fun b F2 H2 x2 k2 v2 hv2=>?_)
 exact hop a b v1 v2 F2 H2 Q x2.2.1 (T1.mono x2.1 hv1) hv2 (k2.imp fun c F3 H3 x3 k3=>k3.back (x1.2.2.1.trans x2.2.2.1))
theorem znb_ {g:Int→Int→V}{f:Int→Int→α}(h:∀ i j F,T.R (f i j) (g i j) F):Op2 K (mI0 g) E tyInt tyInt (fun i j=>.ok (f i j)) T:=by
 intro a b x y F H Q hs hx hy q
 cases hx; cases hy
 exact q.ok hs _ (h a b F)
theorem op_i {C:Int→Int→Prop} [∀ i j,Decidable (C i j)] {g:Int→Int→V}{f:Int→Int→α}(h:∀ i j F,T.R (f i j) (g i j) F):Op2 K (mI C g) E tyInt tyInt (fun i j=>.grd (C i j) (.ok (f i j))) T:=by
 intro a b x y F H Q hs hx hy q
 cases hx; cases hy
 obtain ⟨c,q⟩:=q.grd
 exact ⟨c,q.ok hs _ (h a b F)⟩
instance (i j:Int):Decidable (CMul i j):=inferInstanceAs (Decidable (_∨_))
instance (i j:Int):Decidable (CDiv i j):=inferInstanceAs (Decidable (_∧_))
instance (i j:Int):Decidable (CPow i j):=inferInstanceAs (Decidable (_∧_∧_))
theorem zbb_:Op2 K mAdd E tyInt tyInt (fun i j=>.ok (i+j)) tyInt:=by
 intro a b x y F H Q hs hx hy q
 cases hx; cases hy
 exact q.ok hs _ rfl
theorem zhr_:Op2 K mSub E tyInt tyInt (fun i j=>.ok (i-j)) tyInt:=znb_ fun _ _ _=>rfl
theorem zaT_:Op2 K mMod E tyInt tyInt (fun i j=>.grd (0<j) (.ok (i % j))) tyInt:=op_i (C:=fun _ j=>0<j) fun _ _ _=>rfl
theorem zgA_:Op2 K mLt E tyInt tyInt (fun i j=>.ok (decide (i<j))) tyBl:=znb_ fun _ _ _=>rfl
theorem zaN_:Op2 K mLe E tyInt tyInt (fun i j=>.ok (decide (i≤j))) tyBl:=znb_ fun _ _ _=>rfl
theorem zmN_:Op2 K mGt E tyInt tyInt (fun i j=>.ok (decide (j<i))) tyBl:=znb_ fun _ _ _=>rfl
theorem Prs.append {xs ys:List α}{vs us:List V}(a:Prs T H xs vs) (b:Prs T H ys us):Prs T H (xs++ys) (vs++us):=by
 induction a with
 | nil=>exact b
 | cons r t ih=>exact .cons r ih
theorem Prs.len {xs:List α}{vs:List V}(a:Prs T H xs vs):xs.length=vs.length:=Paired.length a
theorem Prs.get {xs:List α}{vs:List V}(a:Prs T H xs vs) (i:Nat):(xs[i]?=none∧vs[i]?=none)∨∃ x v,xs[i]?=some x∧vs[i]?=some v∧T.R x v H:=by
 induction a generalizing i with
 | nil=>exact .inl ⟨rfl,rfl⟩
 | cons r t ih =>
  cases i with
  | zero=>exact .inr ⟨_,_,rfl,rfl,r⟩
  | succ i=>simpa using ih i
theorem Prs.take {xs:List α}{vs:List V}(a:Prs T H xs vs) (n:Nat):Prs T H (xs.take n) (vs.take n):=by
 induction a generalizing n with
 | nil=>rw [List.take_nil,List.take_nil]; exact .nil
 | cons r t ih =>
  cases n with
  | zero=>exact .nil
  | succ n=>exact .cons r (ih n)
theorem Prs.drop {xs:List α}{vs:List V}(a:Prs T H xs vs) (n:Nat):Prs T H (xs.drop n) (vs.drop n):=by
 induction a generalizing n with
 | nil=>rw [List.drop_nil,List.drop_nil]; exact .nil
 | cons r t ih =>
  cases n with
  | zero=>exact .cons r t
  | succ n=>exact ih n
theorem zjR_ {vs:List V}{xs:List α}{p:Addr}{F' H':Hp}{Q:VK}(hp:H p=none) (h2:H' p=some (.lst vs)) (hf:F' p=none) (hr:Prs T F' xs vs) (q:OwnK (owL T) H Q xs F' H'):Q (.ref p) H':=by
 refine q (.ref p) (one p (.lst vs)) (fun b z=>?_) (fun b=>?_) (fun b o z=>?_) ⟨p,vs,rfl,rfl,hr⟩
 ·unfold one at z; split at z
  ·rename_i e; rw [e]; exact hp
  ·exact absurd rfl z
 ·unfold one; split
  ·rename_i e; rw [e]; exact .inl hf
  ·exact .inr rfl
 ·unfold one at z; split at z
  ·rename_i e; rw [e]; cases z; exact h2
  ·cases z
theorem zbJ_ {vs:List V}{xs:List α}{p:Addr}{Q:VK}(hs:Same F H) (hp:H p=none) (hr:Prs T F xs vs) (q:After K (.ok xs) E F H (OwnK (owL T) H Q)):Q (.ref p) (upd H p (.lst vs)) :=
 zjR_ hp zD_ (hs.free hp) hr (q F _ (.heap hs (zdn_ hp _)))
theorem zcK_:Op2O K mAdd E (tyL T) (tyL T) (fun i j=>.lim (i.length+j.length) (.ok (i++j))) (owL T):=by
 rintro a b x y F H Q hs ⟨p,vs,rfl,h1,r1⟩ ⟨p2,us,rfl,h2,r2⟩ q
 obtain ⟨c,q⟩:=q.lim
 exact ⟨vs,us,hs _ _ h1,hs _ _ h2,by rw [← r1.len,← r2.len]; exact c,fun p hp=>zbJ_ hs hp (r1.append r2) q⟩
theorem ze_ (h:EvF K e E L r T):EvA K (tCons e tNil) E L r (csLast T):=by
 intro σ F H Q hL hs q
 exact h σ F H _ hL hs (q.imp fun a F1 H1 x k v hv=>k [v] ⟨v,rfl,hv⟩)
theorem zl_ {ta:TA}{r2:Mo γ}{C:Cs γ}(h:EvF K e E L r T) (h2:EvA K ta E L r2 C):EvA K (tCons e ta) E L (r.bind fun a=>r2.bind fun c=>.ok (a,c)) (csCons T C):=by
 intro σ F H Q hL hs q
 refine h σ F H _ hL hs (q.bind.imp fun a F1 H1 x1 k1 v1 hv1=>?_)
 refine h2 σ F1 H1 _ (hL.mono x1.1) x1.2.1 (k1.bind.imp fun c F2 H2 x2 k2 vs hvs=>?_)
 exact k2.ok x2.2.1 (v1::vs) ⟨v1,vs,rfl,T.mono x2.1 hv1,hvs⟩
def Ct (K:Fgg) (C:Cs γ) (f:γ→Mo ρ) (O:Own ρ):Sp:=fun vs H Q E=>∃ F c,Same F H∧C.R c vs F∧After K (f c) E F H (OwnK O H Q)
theorem zlJ_ {C:Cs γ}{f:γ→Mo ρ}{O:Own ρ}{ta:TA}{r:Mo γ}(h:EvA K ta E L r C):EvO K (tCall (Ct K C f O) [] E ta) E L (r.bind f) O:=by
 intro σ F H Q hL hs q
 refine h σ F H _ hL hs (q.bind.imp fun c F1 H1 x1 k1 vs hvs=>?_)
 rw [List.append_nil]
 exact ⟨F1,c,x1.2.1,hvs,k1.imp fun r F2 H2 x2 k2=>k2.back x1.2.2.1⟩
theorem zaa_ {C:Cs γ}{f:γ→Mo ρ}{O:Own ρ}{ta:TA}{r:Mo γ}(h:EvA K ta E L r C):EvO K (tCall (Ct K C f O) [] E0 ta) E L (r.bind fun c=>(f c).noex) O:=by
 intro σ F H Q hL hs q
 refine h σ F H _ hL hs (q.bind.imp fun c F1 H1 x1 k1 vs hvs=>?_)
 rw [List.append_nil]
 exact ⟨F1,c,x1.2.1,hvs,k1.noex.imp fun r F2 H2 x2 k2=>k2.back x1.2.2.1⟩
def Bl (K:Fgg) (m:List V→Hp→VK→Prop) (E:XK) (C:Cs γ) (g:γ→Mo α) (T:Ty α):Prop :=
 ∀ c vs F H (Q:VK),Same F H→C.R c vs F→After K (g c) E F H (fun c F' H'=>∀ v,T.R c v F'→Q v H')→m vs H Q
def BlO (K:Fgg) (m:List V→Hp→VK→Prop) (E:XK) (C:Cs γ) (g:γ→Mo α) (O:Own α):Prop :=
 ∀ c vs F H (Q:VK),Same F H→C.R c vs F→After K (g c) E F H (OwnK O H Q)→m vs H Q
theorem zd5_ {m:List V→Hp→VK→Prop}{C:Cs γ}{g:γ→Mo α}{ta:TA}{r:Mo γ}(hb:Bl K m E C g T) (h:EvA K ta E L r C):EvF K (tCB m ta) E L (r.bind g) T:=by
 intro σ F H Q hL hs q
 exact h σ F H _ hL hs (q.bind.imp fun c F1 H1 x1 k1 vs hvs=>hb c vs F1 H1 Q x1.2.1 hvs k1)
theorem zeS_ {m:List V→Hp→VK→Prop}{C:Cs γ}{g:γ→Mo α}{O:Own α}{ta:TA}{r:Mo γ}(hb:BlO K m E C g O) (h:EvA K ta E L r C):EvO K (tCB m ta) E L (r.bind g) O:=by
 intro σ F H Q hL hs q
 exact h σ F H _ hL hs (q.bind.imp fun c F1 H1 x1 k1 vs hvs=>hb c vs F1 H1 Q x1.2.1 hvs (k1.imp fun a F2 H2 x2 k2=>k2.back x1.2.2.1))
theorem zjQ_:Bl K (mLen K) E (csLast tyStr) (fun l=>.lim l.length (.ok (l.length:Int))) tyInt:=by
 rintro c vs F H Q hs ⟨v,rfl,rfl⟩ q
 obtain ⟨z,q⟩:=q.lim
 exact ⟨z,q.ok hs _ rfl⟩
theorem za7_:Bl K (mLen K) E (csLast (tyL T)) (fun l=>.ok (l.length:Int)) tyInt:=by
 rintro c vs F H Q hs ⟨v,rfl,p,us,rfl,h,r⟩ q
 exact ⟨us,.inl (.of (hs _ _ h)),q.ok hs _ (by rw [r.len])⟩
theorem zlc_:Bl K (mLen K) E (csLast (tySc K)) (fun l=>.ok (l.length:Int)) tyInt:=by
 rintro c vs F H Q hs ⟨v,rfl,p,rfl,h⟩ q
 exact ⟨_,.inl (hs.seq h),q.ok hs _ (by rw [List.length_map])⟩
theorem znP_:Bl K (mTwo min) E (csCons tyInt (csLast tyInt)) (fun c=>.ok (min c.1 c.2)) tyInt:=by
 rintro c vs F H Q hs ⟨v,us,rfl,rfl,w,rfl,rfl⟩ q
 exact q.ok hs _ rfl
theorem zfb_:BlO K (mList K) E (csLast (tyL T)) (fun l=>.ok l) (owL T):=by
 rintro c vs F H Q hs ⟨v,rfl,p,us,rfl,h,r⟩ q
 exact .inl ⟨us,.inl (.of (hs _ _ h)),fun l hl=>zbJ_ hs hl r q⟩
theorem zid_ {xs:List Int}:Prs tyInt H xs (xs.map V.int):=by
 induction xs with
 | nil=>exact .nil
 | cons x xs ih=>exact .cons rfl ih
theorem zjK_ {xs:List α}{vs:List V}(r:Prs T H xs vs) {i:Int}{x:α}(e:atI xs i=some x):∃ v,atI vs i=some v∧T.R x v H:=by
 unfold atI at e ⊢
 rw [← r.len]
 cases e1:ixN xs.length i with
 | none=>rw [e1] at e; cases e
 | some j =>
  rw [e1] at e
  rcases r.get j with ⟨a,b⟩ | ⟨y,v,a,b,c⟩
  ·have:xs[j]?=some x:=e
   rw [a] at this; cases this
  ·have:xs[j]?=some x:=e
   rw [a] at this; cases this
   exact ⟨v,b,c⟩
theorem zc4_:Op2 K (mIx K) E (tyL T) tyInt (fun l i=>.opt (atI l i)) T:=by
 rintro a b x y F H Q hs ⟨p,vs,rfl,h,r⟩ rfl q
 obtain ⟨l,e,q⟩:=q.opt
 refine ⟨vs,.inl (.of (hs _ _ h)),?_⟩
 obtain ⟨v,e2,rv⟩:=zjK_ r e
 rw [e2]
 exact q.ok hs v rv
theorem zmE_:Op2 K (mIx K) E (tySc K) tyInt (fun l i=>.opt (atI l i)) tyInt:=by
 rintro a b x y F H Q hs ⟨p,rfl,h⟩ rfl q
 obtain ⟨l,e,q⟩:=q.opt
 refine ⟨_,.inl (hs.seq h),?_⟩
 obtain ⟨v,e2,rv⟩:=zjK_ (H:=F) zid_ e
 rw [e2]
 exact q.ok hs v rv
def CsAt (C:Cs γ) (i:Nat) (T:Ty α) (pr:γ→α):Prop:=∀ {c vs H},C.R c vs H→∃ v,vs[i]?=some v∧T.R (pr c) v H
theorem zH_:CsAt (csLast T) 0 T id:=fun ⟨v,e,h⟩=>⟨v,by rw [e]; rfl,h⟩
theorem at_0 {C:Cs γ}:CsAt (csCons T C) 0 T Prod.fst:=fun ⟨v,us,e,h,q⟩=>⟨v,by rw [e]; rfl,h⟩
theorem at_s {C:Cs γ}{i:Nat}{pr:γ→α}{T':Ty β}(h:CsAt C i T pr):CsAt (csCons T' C) (i+1) T (fun c=>pr c.2):=fun ⟨v,us,e,_,q⟩=>by
 obtain ⟨w,e2,r⟩:=h q
 exact ⟨w,by rw [e]; exact e2,r⟩
theorem zC_ {C:Cs γ}{i:Nat}{pr:γ→α}{r:Mo γ}(ha:CsAt C i T pr) (h:EvF K e E L r (tyTup C)):EvF K (tOp (mIx K) e (tC (.int i))) E L (r.bind fun c=>.ok (pr c)) T:=by
 intro σ F H Q hL hs q
 refine h σ F H _ hL hs (q.bind.imp fun c F1 H1 x1 k1 v1 hq_=>?_)
 obtain ⟨p,us,ev,hp,hc⟩:=hq_
 subst ev
 obtain ⟨w,e2,rw'⟩:=ha hc
 refine ⟨us,.inr (.of (x1.2.1 _ _ hp)),?_⟩
 have e3:atI us (i:Int)=some w:=by
  unfold atI
  rw [zk7_ (by lia) (by have:=(List.getElem?_eq_some_iff.mp e2).1; lia)]
  simpa using e2
 rw [e3]
 exact k1.ok x1.2.1 w rw'
end
end L2
namespace L2
open PySem PySem.Spec PyProof.Rows
section
variable {K:Fgg}{E:XK}{α β γ ρ:Type}{F H:Hp}{L:List Sl}{e e1 e2:TE}{T:Ty α}{r:Mo α}
variable {t t1 t2:TT}{b b1 b2:Mo Bool}
theorem z2_ (h:EvF K e E L b tyBl):EvT K (mTest e) E L b:=by
 intro σ F H Q hL hs q
 refine h σ F H _ hL hs (q.imp fun a F1 H1 x k v hv=>?_)
 cases hv
 exact k
theorem zjl_ (h:EvT K t E L b):EvT K (tNot t) E L (b.bind fun c=>.ok (!c)):=by
 intro σ F H Q hL hs q
 exact h σ F H _ hL hs (q.bind.imp fun a F1 H1 x k=>k.ok x.2.1)
theorem zfQ_ (h1:EvT K t1 E L b1) (h2:EvT K t2 E L b2):EvT K (mAnd t1 t2) E L (b1.bind fun c=>if c then b2 else .ok false):=by
 intro σ F H Q hL hs q
 refine h1 σ F H _ hL hs (q.bind.imp fun a F1 H1 x k=>⟨fun c=>?_,fun c=>?_⟩)
 ·rw [if_pos c] at k; exact h2 σ F1 H1 _ (hL.mono x.1) x.2.1 k
 ·rw [if_neg (by rw [c]; decide)] at k; exact k.ok x.2.1
theorem et_or (h1:EvT K t1 E L b1) (h2:EvT K t2 E L b2):EvT K (mOr t1 t2) E L (b1.bind fun c=>if c then .ok true else b2):=by
 intro σ F H Q hL hs q
 refine h1 σ F H _ hL hs (q.bind.imp fun a F1 H1 x k=>⟨fun c=>?_,fun c=>?_⟩)
 ·rw [if_pos c] at k; exact k.ok x.2.1
 ·rw [if_neg (by rw [c]; decide)] at k; exact h2 σ F1 H1 _ (hL.mono x.1) x.2.1 k
theorem zc0_ (h1:EvF K e1 E L b1 tyBl) (h2:EvF K e2 E L b2 tyBl):EvF K (mAndV e1 e2) E L (b1.bind fun c=>if c then b2 else .ok false) tyBl:=by
 intro σ F H Q hL hs q
 refine h1 σ F H _ hL hs (q.bind.imp fun a F1 H1 x k v hv=>?_)
 cases hv
 refine ⟨fun c=>?_,fun c=>?_⟩
 ·rw [if_pos c] at k; exact h2 σ F1 H1 _ (hL.mono x.1) x.2.1 k
 ·rw [if_neg (by rw [c]; decide)] at k; exact k.ok x.2.1 _ rfl
theorem zog_ (h1:EvF K e1 E L b1 tyBl) (h2:EvF K e2 E L b2 tyBl):EvF K (mOrV e1 e2) E L (b1.bind fun c=>if c then .ok true else b2) tyBl:=by
 intro σ F H Q hL hs q
 refine h1 σ F H _ hL hs (q.bind.imp fun a F1 H1 x k v hv=>?_)
 cases hv
 refine ⟨fun c=>?_,fun c=>?_⟩
 ·rw [if_pos c] at k; exact k.ok x.2.1 _ rfl
 ·rw [if_neg (by rw [c]; decide)] at k; exact h2 σ F1 H1 _ (hL.mono x.1) x.2.1 k
theorem zjZ_ (h1:EvF K e1 E L b1 tyBl):EvF K (mNotV e1) E L (b1.bind fun c=>.ok (!c)) tyBl:=by
 intro σ F H Q hL hs q
 refine h1 σ F H _ hL hs (q.bind.imp fun a F1 H1 x k v hv=>?_)
 cases hv
 exact k.ok x.2.1 _ rfl
theorem zmc_ {r:Mo Int}(h1:EvF K e1 E L r tyInt):EvF K (mNeg e1) E L (r.bind fun c=>.ok (-c)) tyInt:=by
 intro σ F H Q hL hs q
 refine h1 σ F H _ hL hs (q.bind.imp fun a F1 H1 x k v hv=>?_)
 cases hv
 exact k.ok x.2.1 _ rfl
theorem ev_if {r1 r2:Mo α}(ht:EvT K t E L b) (h1:EvF K e1 E L r1 T) (h2:EvF K e2 E L r2 T):EvF K (mIf t e1 e2) E L (b.bind fun c=>if c then r1 else r2) T:=by
 intro σ F H Q hL hs q
 refine ht σ F H _ hL hs (q.bind.imp fun a F1 H1 x k=>⟨fun c=>?_,fun c=>?_⟩)
 ·rw [if_pos c] at k; exact h1 σ F1 H1 _ (hL.mono x.1) x.2.1 k
 ·rw [if_neg (by rw [c]; decide)] at k; exact h2 σ F1 H1 _ (hL.mono x.1) x.2.1 k
theorem ziS_ {r1 r2:Mo α}{O:Own α}(ht:EvT K t E L b) (h1:EvO K e1 E L r1 O) (h2:EvO K e2 E L r2 O):EvO K (mIf t e1 e2) E L (b.bind fun c=>if c then r1 else r2) O:=by
 intro σ F H Q hL hs q
 refine ht σ F H _ hL hs (q.bind.imp fun a F1 H1 x k=>⟨fun c=>?_,fun c=>?_⟩)
 ·rw [if_pos c] at k; exact h1 σ F1 H1 _ (hL.mono x.1) x.2.1 (k.imp fun a F2 H2 y z=>z.back x.2.2.1)
 ·rw [if_neg (by rw [c]; decide)] at k; exact h2 σ F1 H1 _ (hL.mono x.1) x.2.1 (k.imp fun a F2 H2 y z=>z.back x.2.2.1)
theorem zez_ {m m':R2}{e3:TE}{T1:Ty α}{T2:Ty β}{T3:Ty γ}{g:α→β→Mo Bool}{g':β→γ→Mo Bool}{r1:Mo α}{r2:Mo β}{r3:Mo γ}(hop:Op2 K m E T1 T2 g tyBl) (hop':Op2 K m' E T2 T3 g' tyBl)
  (h1:EvF K e1 E L r1 T1) (h2:EvF K e2 E L r2 T2) (h3:EvF K e3 E L r3 T3) :
  EvF K (mChain m m' e1 e2 e3) E L (r1.bind fun a=>r2.bind fun b=>(g a b).bind fun c=>if c then r3.bind fun d=>g' b d else .ok false) tyBl:=by
 intro σ F H Q hL hs q
 refine h1 σ F H _ hL hs (q.bind.imp fun a F1 H1 x1 k1 v1 hv1=>?_)
 refine h2 σ F1 H1 _ (hL.mono x1.1) x1.2.1 (k1.bind.imp fun b F2 H2 x2 k2 v2 hv2=>?_)
 refine hop a b v1 v2 F2 H2 _ x2.2.1 (T1.mono x2.1 hv1) hv2 (k2.bind.imp fun c F3 H3 x3 k3 v3 hv3=>?_)
 cases hv3
 refine ⟨fun z=>?_,fun z=>?_⟩
 ·rw [if_pos z] at k3
  refine h3 σ F3 H3 _ (hL.mono ((x1.1.trans x2.1).trans x3.1)) x3.2.1 (k3.bind.imp fun d F4 H4 x4 k4 v4 hv4=>?_)
  exact hop' b d v2 v4 F4 H4 Q x4.2.1 (T2.mono (x3.1.trans x4.1) hv2) hv4 k4
 ·rw [if_neg (by rw [z]; decide)] at k3; exact k3.ok x3.2.1 _ rfl
theorem ziB_ {m m' m'':R2}{e3 e4:TE}{δ:Type}{T1:Ty α}{T2:Ty β}{T3:Ty γ}{T4:Ty δ}{g:α→β→Mo Bool}{g':β→γ→Mo Bool}{g'':γ→δ→Mo Bool}{r1:Mo α}{r2:Mo β}{r3:Mo γ}{r4:Mo δ}
  (hop:Op2 K m E T1 T2 g tyBl) (hop':Op2 K m' E T2 T3 g' tyBl) (hop'':Op2 K m'' E T3 T4 g'' tyBl)
  (h1:EvF K e1 E L r1 T1) (h2:EvF K e2 E L r2 T2) (h3:EvF K e3 E L r3 T3) (h4:EvF K e4 E L r4 T4) :
  EvF K (mChain3 m m' m'' e1 e2 e3 e4) E L (r1.bind fun a=>r2.bind fun b=>(g a b).bind fun c=>if c then (r3.bind fun d=>(g' b d).bind fun c'=>if c' then r4.bind fun f=>g'' d f else .ok false) else .ok false) tyBl:=by
 intro σ F H Q hL hs q
 refine h1 σ F H _ hL hs (q.bind.imp fun a F1 H1 x1 k1 v1 hv1=>?_)
 refine h2 σ F1 H1 _ (hL.mono x1.1) x1.2.1 (k1.bind.imp fun b F2 H2 x2 k2 v2 hv2=>?_)
 refine hop a b v1 v2 F2 H2 _ x2.2.1 (T1.mono x2.1 hv1) hv2 (k2.bind.imp fun c F3 H3 x3 k3 v3 hv3=>?_)
 cases hv3
 refine ⟨fun z=>?_,fun z=>?_⟩
 ·rw [if_pos z] at k3
  refine h3 σ F3 H3 _ (hL.mono ((x1.1.trans x2.1).trans x3.1)) x3.2.1 (k3.bind.imp fun d F4 H4 x4 k4 v4 hv4=>?_)
  refine hop' b d v2 v4 F4 H4 _ x4.2.1 (T2.mono (x3.1.trans x4.1) hv2) hv4 (k4.bind.imp fun c' F5 H5 x5 k5 v5 hv5=>?_)
  cases hv5
  refine ⟨fun z=>?_,fun z=>?_⟩
  ·rw [if_pos z] at k5
   refine h4 σ F5 H5 _ (hL.mono ((((x1.1.trans x2.1).trans x3.1).trans x4.1).trans x5.1)) x5.2.1 (k5.bind.imp fun f F6 H6 x6 k6 v6 hv6=>?_)
   exact hop'' d f v4 v6 F6 H6 Q x6.2.1 (T3.mono (x5.1.trans x6.1) hv4) hv6 k6
  ·rw [if_neg (by rw [z]; decide)] at k5; exact k5.ok x5.2.1 _ rfl
 ·rw [if_neg (by rw [z]; decide)] at k3; exact k3.ok x3.2.1 _ rfl
theorem After.more {k:α→Hp→Hp→Prop}(h:After K r E F H k):After K r E F H fun a F1 H1=>∀ F2 H2,Ext F1 H1 F2 H2→k a F2 H2:=by
 cases r with
 | ok a=>exact fun F1 H1 x F2 H2 y=>h F2 H2 (x.trans y)
 | ex c=>exact h
 | no=>exact h
def CsN (C:Cs γ) (n:Nat):Prop:=∀ {c vs H},C.R c vs H→vs.length=n
theorem zr_:CsN (csLast T) 1:=fun ⟨v,e,_⟩=>by rw [e]; rfl
theorem zm_ {C:Cs γ}{n:Nat}(h:CsN C n):CsN (csCons T C) (n+1):=fun ⟨v,us,e,_,q⟩=>by rw [e,List.length_cons,h q]
theorem zeu_ {ta:TA}{C:Cs γ}{r:Mo γ}{n:Nat}(hl:CsN C n) (h:EvA K ta E L r C) (hn:n≤100:=by decide):EvF K (tTup ta) E L r (tyTup C):=by
 intro σ F H Q hL hs q
 refine h σ F H _ hL hs (q.more.imp fun c F1 H1 x1 k1 vs hvs=>⟨zb7_ (by rw [hl hvs]; lia),fun p hp=>?_⟩)
 have x:=Ext.new (o:=.tup vs) x1.2.1 hp
 exact k1 _ _ x _ ⟨p,vs,rfl,zD_,C.mono x.1 hvs⟩
def CsL (C:Cs γ) (T:Ty α) (f:γ→List α):Prop:=∀ {c vs H},C.R c vs H→Prs T H (f c) vs
theorem zav_:CsL (csLast T) T fun a=>[a]:=fun ⟨v,e,h⟩=>by rw [e]; exact .cons h .nil
theorem zW_ {C:Cs γ}{f:γ→List α}(h:CsL C T f):CsL (csCons T C) T fun c=>c.1::f c.2:=fun ⟨v,us,e,q,z⟩=>by rw [e]; exact .cons q (h z)
theorem zd1_ {ta:TA}{C:Cs γ}{r:Mo γ}{n:Nat}{f:γ→List α}(hl:CsN C n) (hf:CsL C T f) (h:EvA K ta E L r C) (hn:n≤100:=by decide):EvO K (tLst ta) E L (r.bind fun c=>.ok (f c)) (owL T):=by
 intro σ F H Q hL hs q
 refine h σ F H _ hL hs (q.bind.imp fun c F1 H1 x1 k1 vs hvs=>⟨zb7_ (by rw [hl hvs]; omega),fun p hp=>?_⟩)
 exact zbJ_ x1.2.1 hp (hf hvs) (k1.imp fun a F2 H2 x2 k2=>k2.back x1.2.2.1)
theorem zcX_ (T:Ty α):EvO K (tLst tNil) E L (.ok []) (owL T):=by
 intro σ F H Q hL hs q
 exact ⟨Nat.zero_le _,fun p hp=>zbJ_ hs hp (T:=T) .nil q⟩
def EvP (K:Fgg) (t:TO) (E:XK) (L:List Sl) (r:Mo (Option Int)):Prop :=
 ∀ σ F H (Q:Option Int→Hp→Prop),HoldF L σ F→Same F H→After K r E F H (fun b _ H'=>Q b H')→t σ H Q
theorem zna_:EvP K tNoPart E L (.ok none):=fun σ F H Q hL hs q=>q.ok hs
theorem zm7_ {r:Mo Int}(h:EvF K e E L r tyInt):EvP K (mPart e) E L (r.bind fun i=>.ok (some i)):=by
 intro σ F H Q hL hs q
 refine h σ F H _ hL hs (q.bind.imp fun a F1 H1 x k v hv=>?_)
 cases hv
 exact k.ok x.2.1
def cutG (xs:List α) (lo hi:Option Int):List α:=(xs.drop (HT.sIx xs.length 0 lo)).take (HT.sIx xs.length xs.length hi-HT.sIx xs.length 0 lo)
theorem zjE_ {xs:List α}{vs:List V}(q:Prs T H xs vs) (lo hi:Option Int):Prs T H (cutG xs lo hi) (cutV vs lo hi):=by
 unfold cutG cutV
 rw [← q.len]
 exact (q.drop _).take _
variable {tl th:TO}{rl rh:Mo (Option Int)}
theorem zkH_ {r:Mo (List α)}(h:EvF K e E L r (tyL T)) (hl:EvP K tl E L rl) (hh:EvP K th E L rh):EvO K (tSl (mSl K) e tl th) E L (r.bind fun l=>rl.bind fun a=>rh.bind fun b=>.ok (cutG l a b)) (owL T):=by
 intro σ F H Q hL hs q
 refine h σ F H _ hL hs (q.bind.imp fun l F1 H1 x1 k1 v hv=>?_)
 refine hl σ F1 H1 _ (hL.mono x1.1) x1.2.1 (k1.bind.imp fun a F2 H2 x2 k2=>?_)
 refine hh σ F2 H2 _ (hL.mono (x1.1.trans x2.1)) x2.2.1 (k2.bind.imp fun b F3 H3 x3 k3=>?_)
 obtain ⟨p,vs,rfl,hp,hr⟩:=hv
 have x:=x2.1.trans x3.1
 exact ⟨vs,.of (x3.2.1 _ _ (x _ _ hp)),fun q hq=>zbJ_ x3.2.1 hq (zjE_ (hr.mono x) a b) (k3.imp fun _ _ _ _ z=>z.back ((x1.2.2.1.trans x2.2.2.1).trans x3.2.2.1))⟩
theorem zlz_ {r:Mo (List Int)}(h:EvF K e E L r (tySc K)) (hl:EvP K tl E L rl) (hh:EvP K th E L rh):EvO K (tSl (mSl K) e tl th) E L (r.bind fun l=>rl.bind fun a=>rh.bind fun b=>.ok (cutG l a b)) (owL tyInt):=by
 intro σ F H Q hL hs q
 refine h σ F H _ hL hs (q.bind.imp fun l F1 H1 x1 k1 v hv=>?_)
 refine hl σ F1 H1 _ (hL.mono x1.1) x1.2.1 (k1.bind.imp fun a F2 H2 x2 k2=>?_)
 refine hh σ F2 H2 _ (hL.mono (x1.1.trans x2.1)) x2.2.1 (k2.bind.imp fun b F3 H3 x3 k3=>?_)
 obtain ⟨p,rfl,hp⟩:=hv
 have x:=x2.1.trans x3.1
 exact ⟨_,x3.2.1.seq (x.seq hp),fun q hq=>zbJ_ x3.2.1 hq (zjE_ zid_ a b) (k3.imp fun _ _ _ _ z=>z.back ((x1.2.2.1.trans x2.2.2.1).trans x3.2.2.1))⟩
structure EqT (K:Fgg) (T:Ty α) (n:Nat) (q:α→α→Bool):Prop where
 eq:∀ {a b x y H},T.R a x H→T.R b y H→EqD K H n x y (q a b)
theorem zcW_:EqT K tyInt 0 (fun a b=>decide (a=b)):=⟨by
 rintro a b x y H rfl rfl
 have:eqV (.int a) (.int b)=decide (a=b):=by unfold eqV; exact rfl
 rw [← this]; exact .flat rfl rfl⟩
theorem zmK_:EqT K tyStr 0 (fun a b=>decide (a=b)):=⟨by
 rintro a b x y H rfl rfl
 have:eqV (tx a) (tx b)=decide (a=b):=by
  unfold eqV
  rw [Bool.eq_iff_iff,decide_eq_true_iff]
  constructor
  ·intro h
   have h:=eq_of_beq h
   injection h with h
   have:=congrArg Array.toList h
   simpa using this
  ·rintro rfl; exact beq_self_eq_true _
 rw [← this]; exact .flat rfl rfl⟩
def eqL (q:α→α→Bool):List α→List α→Bool
 | [],[]=>true
 | x::xs,y::ys=>q x y && eqL q xs ys
 | _,_=>false
theorem zjr_ {q:α→α→Bool}:∀ {xs ys:List α},xs.length≠ys.length→eqL q xs ys=false
 | [],[],h=>absurd rfl h
 | [],_::_,_=>rfl
 | _::_,[],_=>rfl
 | x::xs,y::ys,h=>by unfold eqL; rw [zjr_ (by simpa using h),Bool.and_false]
theorem zjH_ {q:α→α→Bool}:∀ {xs ys:List α},xs.length=ys.length→eqL q xs ys=(List.range xs.length).all fun i=>match xs[i]?,ys[i]? with | some x,some y=>q x y | _,_=>true
 | [],[],_=>rfl
 | x::xs,y::ys,h=>by
  unfold eqL
  rw [List.length_cons,List.range_succ_eq_map,List.all_cons,List.all_map,zjH_ (by simpa using h)]
  rfl
theorem eqt_l {n:Nat}{q:α→α→Bool}(h:EqT K T n q):EqT K (tyL T) (n+1) (eqL q):=⟨by
 rintro a b x y H ⟨p,vs,rfl,hp,hr⟩ ⟨p2,us,rfl,hp2,hr2⟩
 by_cases hl:a.length=b.length
 ·rw [zjH_ hl,hr.len]
  refine .lst _ (.of hp) (.of hp2) (by rw [← hr.len,← hr2.len,hl]) fun i x y hx hy=>?_
  rcases hr.get i with ⟨_,z⟩ | ⟨x1,v1,e1,e2,r1⟩
  ·rw [z] at hx; cases hx
  rcases hr2.get i with ⟨_,z⟩ | ⟨x2,v2,e3,e4,r2⟩
  ·rw [z] at hy; cases hy
  rw [e2] at hx; cases hx
  rw [e4] at hy; cases hy
  simp only [e1,e3]
  exact h.eq r1 r2
 ·rw [zjr_ hl]
  exact .lstN (.of hp) (.of hp2) (by rw [← hr.len,← hr2.len]; exact hl)⟩
structure EqC (K:Fgg) (C:Cs γ) (n m:Nat) (q:γ→γ→Bool):Prop where
 eq:∀ {a b xs ys H},C.R a xs H→C.R b ys H→xs.length=m∧ys.length=m∧∃ e:Nat→Bool,(∀ i x y,xs[i]?=some x→ys[i]?=some y→EqD K H n x y (e i))∧(List.range m).all e=q a b
theorem EqD.le {H:Hp}{n m:Nat}{x y:V}{b:Bool}(h:EqD K H n x y b) (g:n≤m):EqD K H m x y b:=by
 induction g with
 | refl=>exact h
 | step _ ih=>exact .up ih
theorem zdh_ {n:Nat}{q:α→α→Bool}(h:EqT K T n q):EqC K (csLast T) n 1 q:=⟨by
 rintro a b xs ys H ⟨v,rfl,hv⟩ ⟨u,rfl,hu⟩
 refine ⟨rfl,rfl,fun _=>q a b,fun i x y hx hy=>?_,by simp [List.range_succ]⟩
 cases i with
 | zero=>cases hx; cases hy; exact h.eq hv hu
 | succ i=>cases hx⟩
theorem zb3_ {C:Cs γ}{n m k:Nat}{q:α→α→Bool}{q':γ→γ→Bool}(h:EqT K T n q) (h':EqC K C k m q'):EqC K (csCons T C) (max n k) (m+1) (fun a b=>q a.1 b.1 && q' a.2 b.2):=⟨by
 rintro a b xs ys H ⟨v,us,rfl,hv,hc⟩ ⟨u,ws,rfl,hu,hc'⟩
 obtain ⟨l1,l2,e,he,ea⟩:=h'.eq hc hc'
 refine ⟨by rw [List.length_cons,l1],by rw [List.length_cons,l2],fun i=>match i with | 0=>q a.1 b.1 | j+1=>e j,fun i x y hx hy=>?_,?_⟩
 ·cases i with
  | zero=>cases hx; cases hy; exact (h.eq hv hu).le (Nat.le_max_left _ _)
  | succ i=>exact (he i x y (by simpa using hx) (by simpa using hy)).le (Nat.le_max_right _ _)
 ·rw [List.range_succ_eq_map,List.all_cons,List.all_map,← ea]; rfl⟩
theorem ze5_ {C:Cs γ}{n m:Nat}{q:γ→γ→Bool}(h:EqC K C n m q):EqT K (tyTup C) (n+1) q:=⟨by
 rintro a b x y H ⟨p,us,rfl,hp,hc⟩ ⟨p2,ws,rfl,hp2,hc2⟩
 obtain ⟨l1,l2,e,he,ea⟩:=h.eq hc hc2
 have:=EqD.tup e (.of hp) (.of hp2) he (K:=K)
 rw [l1,l2,Nat.min_self,ea,beq_self_eq_true,Bool.and_true] at this
 exact this⟩
theorem znx_ {n:Nat}{q:α→α→Bool}(h:EqT K T n q) (hn:n≤50:=by decide) (hr:∀ {a x H},T.R a x H→∃ p,x=.ref p):Op2 K (mEqK K) E T T (fun a b=>.ok (q a b)) tyBl:=by
 intro a b x y F H Q hs hx hy k
 have hd:=h.eq (T.mono hs hx) (T.mono hs hy)
 obtain ⟨p,rfl⟩:=hr hx
 obtain ⟨p2,rfl⟩:=hr hy
 exact ⟨n,_,hn,hd,k.ok hs _ rfl⟩
theorem zoh_ {n:Nat}{q:α→α→Bool}(h:EqT K T n q) (hn:n≤50:=by decide) (hr:∀ {a x H},T.R a x H→∃ p,x=.ref p):Op2 K (mNeK K) E T T (fun a b=>.ok (!(q a b))) tyBl:=by
 intro a b x y F H Q hs hx hy k
 have hd:=h.eq (T.mono hs hx) (T.mono hs hy)
 obtain ⟨p,rfl⟩:=hr hx
 obtain ⟨p2,rfl⟩:=hr hy
 exact ⟨n,_,hn,hd,k.ok hs _ rfl⟩
theorem ref_l {a:List α}{x:V}{H:Hp}(h:(tyL T).R a x H):∃ p,x=.ref p:=by obtain ⟨p,_,e,_⟩:=h; exact ⟨p,e⟩
theorem zn6_ {n:Nat}{q:α→α→Bool}(h:EqT K (tyL T) n (eqL q)) (hn:n≤50:=by decide):Op2 K (mEqK K) E (tyL T) (tyL T) (fun a b=>.ok (eqL q a b)) tyBl:=znx_ h hn ref_l
theorem zoe_ {n:Nat}{q:α→α→Bool}(h:EqT K (tyL T) n (eqL q)) (hn:n≤50:=by decide):Op2 K (mNeK K) E (tyL T) (tyL T) (fun a b=>.ok (!(eqL q a b))) tyBl:=zoh_ h hn ref_l
theorem zgC_:Op2 K (mEqK K) E tyInt tyInt (fun a b=>.ok (decide (a=b))) tyBl:=by
 rintro a b x y F H Q hs rfl rfl k
 exact k.ok hs _ rfl
theorem zmF_:Op2 K (mNeK K) E tyInt tyInt (fun a b=>.ok (!decide (a=b))) tyBl:=by
 rintro a b x y F H Q hs rfl rfl k
 exact k.ok hs _ rfl
theorem znh_:Op2 K (mEqK K) E tyBl tyBl (fun a b=>.ok (decide (a=b))) tyBl:=by
 rintro a b x y F H Q hs rfl rfl k
 exact k.ok hs _ rfl
theorem zmn_:Op2 K (mNeK K) E tyBl tyBl (fun a b=>.ok (!decide (a=b))) tyBl:=by
 rintro a b x y F H Q hs rfl rfl k
 exact k.ok hs _ rfl
theorem zkQ_:Op2 K (mEqK K) E tyStr tyStr (fun a b=>.ok (decide (a=b))) tyBl:=by
 rintro a b x y F H Q hs rfl rfl k
 exact k.ok hs _ rfl
theorem zmT_:Op2 K (mNeK K) E tyStr tyStr (fun a b=>.ok (!decide (a=b))) tyBl:=by
 rintro a b x y F H Q hs rfl rfl k
 exact k.ok hs _ rfl
theorem zgk_:Op2 K mIs E (tyOpt T) tyNon (fun a _=>.ok a.isNone) tyBl:=by
 rintro a b x y F H Q hs hx rfl k
 have:decide (x=.non)=a.isNone:=by
  cases a with
  | none=>cases hx; rfl
  | some a=>exact decide_eq_false hx.2
 show (match mIsB x .non with | some b=>Q (.bl b) H | none=>False)
 have e:mIsB x .non=some (decide (x=.non)):=rfl
 rw [e,this]
 exact k.ok hs _ rfl
theorem zen_:Op2 K mIsNot E (tyOpt T) tyNon (fun a _=>.ok a.isSome) tyBl:=by
 rintro a b x y F H Q hs hx rfl k
 have:(!decide (x=.non))=a.isSome:=by
  cases a with
  | none=>cases hx; rfl
  | some a=>rw [decide_eq_false hx.2]; rfl
 show (match mIsB x .non with | some b=>Q (.bl (!b)) H | none=>False)
 have e:mIsB x .non=some (decide (x=.non)):=rfl
 rw [e]
 show Q (.bl (!decide (x=.non))) H
 rw [this]
 exact k.ok hs _ rfl
theorem zlD_:Op2 K (mIn K false) E tyStr tyStr (fun a b=>.ok (inS a b)) tyBl:=by
 rintro a b x y F H Q hs rfl rfl k
 exact k.ok hs _ rfl
structure Flt (T:Ty α) (q:α→α→Bool):Prop where
 flat:∀ {a x H},T.R a x H→flatV x=true
 eq:∀ {a b x y H},T.R a x H→T.R b y H→eqV x y=q a b
theorem zmY_:Flt tyStr (fun a b=>decide (a=b)):=⟨fun h=>by cases h; rfl,fun {a b x y H} h h'=>by
 cases h; cases h'
 unfold eqV
 rw [Bool.eq_iff_iff,decide_eq_true_iff]
 constructor
 ·intro h
  have h:=eq_of_beq h
  injection h with h
  simpa using congrArg Array.toList h
 ·rintro rfl; exact beq_self_eq_true _⟩
theorem zjI_ {q:α→α→Bool}(f:Flt T q) {H:Hp}{a:α}{x:V}(ha:T.R a x H) {xs:List α}{vs:List V}(r:Prs T H xs vs):vs.all flatV=true∧inV x vs=xs.any fun y=>q y a:=by
 induction r with
 | nil=>exact ⟨rfl,rfl⟩
 | cons r t ih =>
  refine ⟨by rw [List.all_cons,f.flat r,ih.1]; rfl,?_⟩
  unfold inV at ih ⊢
  rw [List.any_cons,List.any_cons,f.eq r ha,ih.2]
theorem zmL_ {q:α→α→Bool}(f:Flt T q):Op2 K (mIn K true) E T (tyL T) (fun a b=>.ok (!(b.any fun y=>q y a))) tyBl:=by
 rintro a b x y F H Q hs hx ⟨p,vs,rfl,hp,hr⟩ k
 obtain ⟨h1,h2⟩:=zjI_ f hx hr
 refine ⟨vs,.inl (.of (hs _ _ hp)),f.flat hx,h1,?_⟩
 rw [h2]
 exact k.ok hs _ rfl
def TyN (K:Fgg) (T:Ty α) (n:String):Prop:=∀ {a x H},T.R a x H→tyS K H x n
theorem zm4_:TyN K tyInt "int" := fun h=>by cases h; rfl
theorem zmB_ {x:V}{n c:String}{bb:Bool}{Q:VK}(h:tyS K H x n) (hb:isaB n c=some bb) (q:Q (.bl bb) H):mIsa K [x,.ty c] H Q:=by
 cases x with
 | non=>cases (show n=_ from h); show (match isaB "NoneType" c with | some b=>Q (.bl b) H | none=>False); rw [hb]; exact q
 | bl _=>cases (show n=_ from h); show (match isaB "bool" c with | some b=>Q (.bl b) H | none=>False); rw [hb]; exact q
 | int _=>cases (show n=_ from h); show (match isaB "int" c with | some b=>Q (.bl b) H | none=>False); rw [hb]; exact q
 | str _=>cases (show n=_ from h); show (match isaB "str" c with | some b=>Q (.bl b) H | none=>False); rw [hb]; exact q
 | ref p=>exact ⟨n,h,by rw [hb]; exact q⟩
 | _=>exact h.elim
theorem zmJ_ {n c:String}{bb:Bool}(hn:TyN K T n) (h:EvF K e E L r T) (hb:isaB n c=some bb:=by decide):EvF K (tCB (mIsa K) (tCons e (tCons (tC (.ty c)) tNil))) E L (r.bind fun _=>.ok bb) tyBl:=by
 intro σ F H Q hL hs q
 refine h σ F H _ hL hs (q.bind.imp fun l F1 H1 x1 k1 v hv=>?_)
 exact zmB_ (hn (T.mono x1.2.1 hv)) hb (k1.ok x1.2.1 _ rfl)
end
end L2
namespace L2
open PySem PySem.Spec PyProof.Rows
section
variable {K:Fgg}{E:XK}{α β γ ρ S S' B:Type}{F H:Hp}{L:List Sl}{e e1 e2:TE}{T:Ty α}{r:Mo α}
def setL (L:List Sl) (ss:List (Nat×Sl)):List Sl:=ss.foldl (fun L q=>L.set q.1 q.2) L
def setS (σ:St) (ss:List (Nat×Option V)):St:=ss.foldl (fun L q=>L.set q.1 q.2) σ
inductive Plain (F:Hp):List (Nat×Sl)→List (Nat×Option V)→Prop
 | nil:Plain F [] []
 | cons {α:Type}{T:Ty α}{a:α}{i:Nat}{v:V}{ss vs} (h:T.R a v F) (t:Plain F ss vs):Plain F ((i,.fz T a)::ss) ((i,some v)::vs)
def TgR (K:Fgg) (g:TG) (T:Ty α) (ss:α→List (Nat×Sl)):Prop :=
 ∀ a v σ F H (Q:St→Hp→Prop),Same F H→T.R a v F→(∀ vs,Plain F (ss a) vs→Q (setS σ vs) H)→g v σ H Q
theorem zM_ (i:Nat):TgR K (gName i) T fun a=>[(i,.fz T a)]:=by
 intro a v σ F H Q hs hv q
 exact q [(i,some v)] (.cons hv .nil)
def TgC (K:Fgg) (g:TGs) (C:Cs γ) (ss:γ→List (Nat×Sl)):Prop :=
 ∀ a vs σ F H (Q:St→Hp→Prop),Same F H→C.R a vs F→(∀ us,Plain F (ss a) us→Q (setS σ us) H)→g vs σ H Q
theorem zgf_ {g:TG}{ss:α→List (Nat×Sl)}(h:TgR K g T ss):TgC K (gConsM g gNilM) (csLast T) ss:=by
 rintro a vs σ F H Q hs ⟨v,rfl,hv⟩ q
 exact h a v σ F H _ hs hv fun us hu=>q us hu
theorem zgs_ (i:Nat) {g:TGs}{C:Cs γ}{ss:γ→List (Nat×Sl)}(h:TgC K g C ss):TgC K (gConsM (gName i) g) (csCons T C) fun c=>(i,.fz T c.1)::ss c.2:=by
 rintro a vs σ F H Q hs ⟨v,us,rfl,hv,hc⟩ q
 exact h a.2 us _ F H _ hs hc fun ws hw=>q ((i,some v)::ws) (.cons hv hw)
theorem zjk_ {n:Nat}{g:TGs}{C:Cs γ}{ss:γ→List (Nat×Sl)}(hn:CsN C n) (h:TgC K g C ss):TgR K (gTupM K n g) (tyTup C) ss:=by
 rintro a v σ F H Q hs ⟨p,us,rfl,hp,hc⟩ q
 exact ⟨us,.of (hs _ _ hp),hn hc,h a us σ F H Q hs hc q⟩
theorem zfT_ {σ:St}{i j:Nat}{o:Option V}(h:i<σ.length):((σ.set i o)[j]?).join=if i=j then o else (σ[j]?).join:=by
 rw [List.getElem?_set]
 split
 ·rename_i e; subst e; first | rfl | (rw [if_pos h]; rfl)
 ·rfl
theorem ziK_ {σ:St}{i:Nat}{s:Sl}{o:Option V}(hl:L.length=σ.length) (h:HoldF L σ F) (hs:s.Z o F):HoldF (L.set i s) (σ.set i o) F:=by
 intro j t e
 rw [List.getElem?_set] at e
 split at e
 ·rename_i z; subst z
  split at e
  ·rename_i y; cases e
   rw [zfT_ (by rw [← hl]; exact y),if_pos rfl]; exact hs
  ·cases e
 ·rename_i z
  by_cases y:i<σ.length
  ·rw [zfT_ y,if_neg z]; exact h j t e
  ·rw [List.set_eq_of_length_le (by lia)]; exact h j t e
theorem zg3_ {ss:List (Nat×Sl)}{vs:List (Nat×Option V)}(p:Plain F ss vs):∀ {L:List Sl}{σ:St},L.length=σ.length→HoldF L σ F→HoldF (setL L ss) (setS σ vs) F∧(setS σ vs).length=σ.length∧(setL L ss).length=L.length:=by
 induction p with
 | nil=>exact fun hl h=>⟨h,rfl,rfl⟩
 | cons hv t ih =>
  rename_i T a i v ss vs
  intro L σ hl h
  obtain ⟨a1,b,c⟩:=ih (L:=L.set i (.fz T a)) (σ:=σ.set i (some v)) (by rw [List.length_set,List.length_set]; exact hl) (ziK_ (s:=.fz T a) hl h ⟨v,rfl,hv⟩)
  exact ⟨a1,b.trans (by rw [List.length_set]),c.trans (by rw [List.length_set])⟩
def DeadAt (L:List Sl) (is:List Nat):Prop:=∀ i∈is,∀ s,L[i]?=some s→s=.dead
theorem zhJ_ {ss:List (Nat×Sl)}{vs:List (Nat×Option V)}(p:Plain F ss vs):∀ {L:List Sl}{σ:St},L.length=σ.length→DeadAt L (ss.map (·.1))→HoldF L σ F→HoldF L (setS σ vs) F:=by
 induction p with
 | nil=>exact fun hl d h=>h
 | cons hv t ih =>
  rename_i i v ss vs
  intro L σ hl d h
  refine ih (σ:=σ.set i (some v)) (by rw [List.length_set]; exact hl) (fun j hj=>d j (List.mem_cons_of_mem _ hj)) fun j s e=>?_
  by_cases y:i<σ.length
  ·rw [zfT_ y]
   split
   ·rename_i z; subst z
    rw [d i List.mem_cons_self s e]; trivial
   ·exact h j s e
  ·rw [List.set_eq_of_length_le (by lia)]; exact h j s e
theorem zks_ {ss:List (Nat×Sl)}{vs:List (Nat×Option V)}(p:Plain F ss vs) {j:Nat}:∀ {σ:St},j∉ss.map (·.1)→(setS σ vs)[j]?=σ[j]?:=by
 induction p with
 | nil=>exact fun _=>rfl
 | cons hv t ih =>
  rename_i i v ss vs
  intro σ hj
  have h1:i≠j:=fun z=>hj (by rw [← z]; exact List.mem_cons_self)
  have h2:=ih (σ:=σ.set i (some v)) fun z=>hj (List.mem_cons_of_mem _ z)
  exact h2.trans (List.getElem?_set_ne h1)
structure Yl (K:Fgg) (J:It) (xs:List α) (T:Ty α) (F1:Hp):Prop where
 go:∀ i H x,Same F1 H→xs[i]?=some x→J.go i H∧∀ v H',J.yld i H v H'→∀ F,Same F1 F→Same F H→∃ F',Ext F H F' H'∧T.R x v F'
 stop:∀ H,Same F1 H→J.stop xs.length H
def EvI (K:Fgg) (wi:TI) (E:XK) (L:List Sl) (r:Mo (List α)) (T:Ty α):Prop :=
 ∀ σ F H (R:It→Hp→Prop),HoldF L σ F→Same F H→After K r E F H (fun xs F' H'=>∀ J,Yl K J xs T F'→R J H')→wi σ H R
theorem zm3_ {r:Mo (List Nat)}(h:EvF K e E L r tyStr):EvI K (iAny K e) E L (r.bind fun l=>.ok (l.map fun c=>[c])) tyStr:=by
 intro σ F H R hL hs q
 refine h σ F H _ hL hs (q.bind.imp fun l F1 H1 x1 k1 v hv=>?_)
 cases hv
 refine k1.ok x1.2.1 _ ⟨fun i H x hH hx=>?_,fun H hH=>?_⟩
 ·rw [List.getElem?_map] at hx
  cases e:l[i]? with
  | none=>rw [e] at hx; cases hx
  | some c =>
   rw [e] at hx; cases hx
   have hi:=(List.getElem?_eq_some_iff.mp e).1
   refine ⟨hi,?_⟩
   rintro v H' ⟨rfl,rfl⟩ F _ hF
   refine ⟨F,.refl hF,?_⟩
   show tx [l.getD i 0]=tx [c]
   rw [List.getD_eq_getElem?_getD,e]; rfl
 ·show l.length≤(l.map fun c=>[c]).length
  rw [List.length_map]; exact Nat.le_refl _
theorem ei_l {r:Mo (List α)}(h:EvF K e E L r (tyL T)):EvI K (iAny K e) E L r T:=by
 intro σ F H R hL hs q
 refine h σ F H _ hL hs (q.imp fun l F1 H1 x1 k1 v hv=>?_)
 obtain ⟨p,vs,rfl,hp,hr⟩:=hv
 refine .inl ⟨⟨vs,.of (x1.2.1 _ _ hp)⟩,k1 _ ⟨fun i H x hH hx=>?_,fun H hH=>⟨vs,.of (hH _ _ hp),by rw [hr.len]; exact Nat.le_refl _⟩⟩⟩
 rcases hr.get i with ⟨a,_⟩ | ⟨y,u,a,b,c⟩
 ·rw [a] at hx; cases hx
 ·rw [a] at hx; cases hx
  refine ⟨⟨vs,u,.of (hH _ _ hp),b⟩,?_⟩
  rintro v H' ⟨rfl,z⟩ F hF hF'
  have e:=z vs (.of (hH _ _ hp))
  rw [b] at e; cases e
  exact ⟨F,.refl hF',T.mono hF c⟩
def rngI (lo:Int) (n:Nat):List Int:=(List.range n).map fun (i:Nat)=>lo+i
theorem znn_ {lo:Int}{n:Nat}{F1:Hp}:Yl K (Itr lo n) (rngI lo n) tyInt F1:=by
 refine ⟨fun i H x hH hx=>?_,fun H hH=>?_⟩
 ·unfold rngI at hx
  rw [List.getElem?_map] at hx
  cases e:(List.range n)[i]? with
  | none=>rw [e] at hx; cases hx
  | some c =>
   rw [e] at hx; cases hx
   obtain ⟨hi,e⟩:=List.getElem?_eq_some_iff.mp e
   rw [List.getElem_range] at e; subst e
   rw [List.length_range] at hi
   refine ⟨hi,?_⟩
   rintro v H' ⟨rfl,rfl⟩ F _ hF
   exact ⟨F,.refl hF,rfl⟩
 ·show n≤_
  unfold rngI; rw [List.length_map,List.length_range]; exact Nat.le_refl _
theorem ziq_ {r:Mo Int}{ta:TA}(h:EvA K ta E L r (csLast tyInt)):EvI K (mRng1 ta) E L (r.bind fun j=>.grd (-(2 ^ 62)≤j∧j<2 ^ 62) (.ok (rngI 0 j.toNat))) tyInt:=by
 intro σ F H R hL hs q
 refine h σ F H _ hL hs (q.bind.imp fun l F1 H1 x1 k1 v hv=>?_)
 obtain ⟨u,rfl,rfl⟩:=hv
 obtain ⟨z,k1⟩:=k1.grd
 exact ⟨z.1,z.2,k1.ok x1.2.1 _ znn_⟩
def enumL (xs:List α):List (Int×α):=(List.range xs.length).zip xs |>.map fun q=>((q.1:Int),q.2)
theorem zeF_ (xs:List α) (i:Nat):(enumL xs)[i]?=(xs[i]?).map fun x=>((i:Int),x):=by
 unfold enumL
 rw [List.getElem?_map]
 cases e:xs[i]? with
 | none =>
  have:=List.getElem?_eq_none_iff.mp e
  rw [List.getElem?_eq_none (by rw [List.length_zip,List.length_range]; lia)]; rfl
 | some x =>
  have hi:=(List.getElem?_eq_some_iff.mp e).1
  have:((List.range xs.length).zip xs)[i]?=some (i,x):=List.getElem?_zip_eq_some.mpr ⟨by rw [List.getElem?_range hi],e⟩
  rw [this]; rfl
theorem zc8_ (xs:List α):(enumL xs).length=xs.length:=by unfold enumL; rw [List.length_map,List.length_zip,List.length_range,Nat.min_self]
def compM (f:α→Mo (Option β)):List α→List β→Mo (List β)
 | [],acc=>.ok acc
 | x::xs,acc=>(f x).bind fun o=>match o with | none=>compM f xs acc | some y=>.lim (acc.length+1) (compM f xs (acc++[y]))
theorem zcj_ {f:α→Mo (Option β)}{g:α→β}:∀ {xs:List α}{acc:List β},(∀ x∈xs,f x=.ok (some (g x)))→acc.length+xs.length≤100000→compM f xs acc=.ok (acc++xs.map g)
 | [],acc,_,_=>by unfold compM; rw [List.map_nil,List.append_nil]
 | x::xs,acc,h,hl=>by
  rw [List.length_cons] at hl
  unfold compM
  rw [h x List.mem_cons_self,Mo.ok_bind]
  show Mo.lim _ _=_
  rw [Mo.lim_ok (by lia),zcj_ (fun y hy=>h y (List.mem_cons_of_mem _ hy)) (by rw [List.length_append,List.length_singleton]; lia)]
  simp
def cL (lv:List Str) (fr:List (Str×Nat)) (L:List Sl):List Sl:=lv.map (fun _=>Sl.dead)++fr.map fun q=>(L[q.2]?).getD .dead
theorem zif_ {lv:List Str}{fr:List (Str×Nat)}{σ:St}(h:HoldF L σ F):HoldF (cL lv fr L) (cS lv fr σ) F:=by
 intro i s e
 unfold cL at e
 unfold cS
 by_cases hi:i<lv.length
 ·rw [List.getElem?_append_left (by rw [List.length_map]; exact hi),List.getElem?_map,List.getElem?_eq_getElem hi] at e
  cases e; trivial
 ·rw [List.getElem?_append_right (by rw [List.length_map]; lia),List.length_map,List.getElem?_map] at e
  rw [List.getElem?_append_right (by rw [List.length_map]; lia),List.length_map,List.getElem?_map]
  cases z:fr[i-lv.length]? with
  | none=>rw [z] at e; cases e
  | some q =>
   rw [z] at e
   have e:(L[q.2]?).getD .dead=s:=by simpa using e
   show Sl.Z s (σ[q.2]?).join F
   cases y:L[q.2]? with
   | none=>rw [y] at e; rw [← e]; trivial
   | some t=>rw [y] at e; cases e; exact h _ _ y
theorem zkc_ {lv:List Str}{fr:List (Str×Nat)}{σ:St}:(cL lv fr L).length=(cS lv fr σ).length:=by unfold cL cS; simp
def cond1 (c:Mo Bool) (f:Mo β):Mo (Option β):=(c.bind fun b=>if b then f.bind fun y=>.ok (some y) else .ok none).noex
theorem zdw_ {lv:List Str}{fr:List (Str×Nat)}{wi:TI}{g:TG}{tt:TT}{te:TE}{r:Mo (List α)}{ss:α→List (Nat×Sl)}{c:α→Mo Bool}{f:α→Mo β}{T':Ty β}
  (hi:EvI K wi E L r T) (hg:TgR K g T ss) (hd:∀ a,DeadAt (cL lv fr L) ((ss a).map (·.1))) (ht:∀ a,EvT K tt E0 (setL (cL lv fr L) (ss a)) (c a)) (he:∀ a,EvF K te E0 (setL (cL lv fr L) (ss a)) (f a) T') :
  EvO K (tComp lv fr wi g tt te) E L (r.bind fun xs=>compM (fun x=>cond1 (c x) (f x)) xs []) (owL T'):=by
 intro σ F0 H0 Q hL hs q
 refine hi σ F0 H0 _ hL hs (q.bind.imp fun xs F1 H1 x1 k1 J Y D hD=>?_)
 have hL1:=hL.mono x1.1
 refine ⟨fun i m ys σ' H'=>m=xs.length-i∧i≤xs.length∧∃ acc Fi,Ext F1 H1 Fi H'∧Fi D=none∧H' D=some (.lst ys)∧Prs T' Fi acc ys∧HoldF (cL lv fr L) σ' F1∧σ'.length=(cL lv fr L).length∧After K (compM (fun x=>cond1 (c x) (f x)) (xs.drop i) acc) E F1 H1 (OwnK (owL T') H0 Q),
  ⟨_,rfl,Nat.zero_le _,[],F1,.heap x1.2.1 (zdn_ hD _),x1.2.1.free hD,zD_,.nil,zif_ hL1,zkc_.symm,k1⟩,?_⟩
 rintro i m ys σ' H' ⟨rfl,hi,acc,Fi,xi,hDi,hy,hp,hσ,hln,A⟩
 by_cases hlt:i<xs.length
 ·right
  have ex:xs[i]?=some xs[i]:=List.getElem?_eq_getElem hlt
  obtain ⟨g1,g2⟩:=Y.go i H' xs[i] (xi.1.trans xi.2.1) ex
  refine ⟨g1,fun ys' σ'' H''=>i+1≤xs.length∧∃ acc Fi,Ext F1 H1 Fi H''∧Fi D=none∧H'' D=some (.lst ys')∧Prs T' Fi acc ys'∧HoldF (cL lv fr L) σ'' F1∧σ''.length=(cL lv fr L).length∧After K (compM (fun x=>cond1 (c x) (f x)) (xs.drop (i+1)) acc) E F1 H1 (OwnK (owL T') H0 Q),fun ys' σ'' H'' z=>⟨xs.length-(i+1),by omega,rfl,z⟩,fun v H2 hyl=>?_⟩
  obtain ⟨F2,x2,hv⟩:=g2 v H2 hyl Fi xi.1 xi.2.1
  have keep:∀ {Fa Ha Fb Hb:Hp},Ext Fa Ha Fb Hb→Fa D=none→Ha D=some (.lst ys)→Fb D=none∧Hb D=some (.lst ys):=by
   intro Fa Ha Fb Hb x h1 h2
   refine ⟨?_,x.2.2.1 _ _ h2⟩
   cases z:Fb D with
   | none=>rfl
   | some o=>have:=x.2.2.2 D h1 (by rw [z]; exact Option.some_ne_none _); rw [h2] at this; cases this
  obtain ⟨hD2,hy2⟩:=keep x2 hDi hy
  refine hg xs[i] v σ' F2 H2 _ x2.2.1 hv fun vs hpl=>?_
  have hσ2:HoldF (cL lv fr L) σ' F2:=hσ.mono (xi.1.trans x2.1)
  obtain ⟨a1,a2,a3⟩:=zg3_ hpl hln.symm hσ2
  have hσd:HoldF (cL lv fr L) (setS σ' vs) F1:=by
   have hdead:=hd xs[i]
   refine fun j s e=>?_
   have h1:=zhJ_ hpl hln.symm hdead hσ2
   by_cases hj:∃ q∈(ss xs[i]).map (·.1),q=j
   ·obtain ⟨q,hq,rfl⟩:=hj
    rw [hdead q hq s e]; trivial
   ·have:((setS σ' vs)[j]?)=σ'[j]?:=by
     exact zks_ hpl (fun hq=>hj ⟨j,hq,rfl⟩)
    rw [this]; exact hσ j s e
  have hdrop:xs.drop i=xs[i]::xs.drop (i+1):=List.drop_eq_getElem_cons hlt
  rw [hdrop] at A
  unfold compM at A
  cases ec:c xs[i] with
  | no=>unfold cond1 at A; rw [ec] at A; exact A.elim
  | ex cc=>unfold cond1 at A; rw [ec] at A; exact A.elim
  | ok bb =>
   refine ht xs[i] _ F2 H2 _ a1 x2.2.1 ?_
   rw [ec]
   intro F3 H3 x3
   obtain ⟨hD3,hy3⟩:=keep x3 hD2 hy2
   have x13:=(xi.trans x2).trans x3
   cases bb with
   | false =>
    rw [if_neg (by decide)]
    refine ⟨hlt,acc,F3,x13,hD3,hy3,hp.mono (x2.1.trans x3.1),hσd,by rw [a2]; exact hln,?_⟩
    unfold cond1 at A; rw [ec] at A
    exact A
   | true =>
    rw [if_pos rfl]
    cases ef:f xs[i] with
    | no=>unfold cond1 at A; rw [ec,ef] at A; exact A.elim
    | ex cc=>unfold cond1 at A; rw [ec,ef] at A; exact A.elim
    | ok y =>
     unfold cond1 at A; rw [ec,ef] at A
     have A':After K (Mo.lim (acc.length+1) (compM (fun x=>cond1 (c x) (f x)) (xs.drop (i+1)) (acc++[y]))) E F1 H1 (OwnK (owL T') H0 Q):=A
     obtain ⟨hz,A'⟩:=A'.lim
     refine he xs[i] _ F3 H3 _ (a1.mono x3.1) x3.2.1 ?_
     rw [ef]
     intro F4 H4 x4 v4 hv4
     obtain ⟨hD4,hy4⟩:=keep x4 hD3 hy3
     have hlen:=hp.len
     refine ⟨hy4,by omega,hlt,acc++[y],F4,?_,hD4,zD_,(hp.mono ((x2.1.trans x3.1).trans x4.1)).append (.cons hv4 .nil),hσd,by rw [a2]; exact hln,A'⟩
     have x14:=x13.trans x4
     refine ⟨x14.1,fun b o z=>?_,fun b o z=>?_,x14.2.2.2⟩
     ·unfold upd; split
      ·rename_i w; rw [w,hD4] at z; cases z
      ·exact x14.2.1 _ _ z
     ·unfold upd; split
      ·rename_i w; rw [w,hD] at z; cases z
      ·exact x14.2.2.1 _ _ z
 ·left
  have e:i=xs.length:=by omega
  subst e
  refine ⟨Y.stop H' (xi.1.trans xi.2.1),?_⟩
  rw [List.drop_length] at A
  have A':OwnK (owL T') H0 Q acc Fi H':=A Fi H' xi
  exact zjR_ (x1.2.2.1.free hD) hy hDi hp A'
end
end L2
namespace L2
open PySem PySem.Spec PyProof.Rows
inductive Out (ρ B S:Type) where
 | nx (s:S) | rt (r:ρ) | bk (b:B) | ct (b:B)
def Okk (F0 H0 F h H:Hp):Prop:=Ext F0 H0 F H∧Dj F h∧Same h H∧(∀ p,h p≠none→H0 p=none)∧∀ p xs,h p≠some (.tup xs)
section
variable {K:Fgg}{E:XK}{α β γ ρ S S' B B':Type}{F0 H0 F h H:Hp}{L:List Sl}{e e1 e2:TE}{T:Ty α}{r:Mo α}{O:Own ρ}
def Fin (K:Fgg) (r:Mo (Out ρ B S)) (E:XK) (LS:S→List Sl) (LB:B→List Sl) (O:Own ρ) (F0 H0:Hp) (D:Ends):Prop:=match r with
 | .ok (.nx s)=>∀ σ F h H,Hold (LS s) σ F h→Okk F0 H0 F h H→D.nx σ H
 | .ok (.bk b)=>∀ σ F h H,Hold (LB b) σ F h→Okk F0 H0 F h H→D.bk σ H
 | .ok (.ct b)=>∀ σ F h H,Hold (LB b) σ F h→Okk F0 H0 F h H→D.ct σ H
 | .ok (.rt a)=>∀ v F h H,Okk F0 H0 F h H→O.O a v F h→D.rt v H
 | .ex c=>∀ F h H,Okk F0 H0 F h H→Tell K E c H0 F H
 | .no=>False
def EvS (K:Fgg) (t:TS) (E:XK) (L:List Sl) (r:Mo (Out ρ B S)) (LS:S→List Sl) (LB:B→List Sl) (O:Own ρ):Prop :=
 ∀ F0 H0 σ F h H (D:Ends),Hold L σ F h→Okk F0 H0 F h H→Fin K r E LS LB O F0 H0 D→t D σ H
variable {t u:TS}{LS:S→List Sl}{LS':S'→List Sl}{LB:B→List Sl}
def thenO (r:Mo (Out ρ B S)) (k:S→Mo (Out ρ B S')):Mo (Out ρ B S'):=r.bind fun o=>match o with | .nx s=>k s | .rt a=>.ok (.rt a) | .bk b=>.ok (.bk b) | .ct b=>.ok (.ct b)
theorem zbB_ {r:Mo (Out ρ B S)}{k:S→Mo (Out ρ B S')}(h1:EvS K t E L r LS LB O) (h2:∀ s,EvS K u E (LS s) (k s) LS' LB O):EvS K (tSeq t u) E L (thenO r k) LS' LB O:=by
 intro F0 H0 σ F h H D hL ok fin
 refine h1 F0 H0 σ F h H { D with nx:=u D } hL ok ?_
 cases r with
 | no=>exact fin
 | ex c=>exact fin
 | ok o =>
  cases o with
  | nx s=>exact fun σ F h H hL ok=>h2 s F0 H0 σ F h H D hL ok fin
  | rt a=>exact fin
  | bk b=>exact fin
  | ct b=>exact fin
theorem Okk.thaw (ok:Okk F0 H0 F h H):Same (un F h) H:=fun p o e=>by
 unfold un at e
 cases z:F p with
 | some w=>rw [z] at e; cases e; exact ok.1.2.1 _ _ z
 | none=>rw [z] at e; exact ok.2.2.1 _ _ e
def less (G h:Hp):Hp:=fun p=>match h p with | none=>G p | some _=>none
theorem zbA_ {G h:Hp}{p:Addr}(e:h p=none):less G h p=G p:=by unfold less; rw [e]
theorem Okk.back (ok:Okk F0 H0 F h H) {G' H':Hp}(x:Ext (un F h) H G' H'):Okk F0 H0 (less G' h) h H'∧Same F (less G' h)∧Tups G' (less G' h):=by
 obtain ⟨o1,o2,o3,o4,o5⟩:=ok
 have hs:Same F (less G' h):=fun p o e=>by
  have hp:h p=none:=by
   rcases o2 p with z | z
   ·rw [z] at e; cases e
   ·exact z
  rw [zbA_ hp]; exact x.1 _ _ (zcr_ _ _ e)
 refine ⟨⟨⟨o1.1.trans hs,fun p o e=>?_,o1.2.2.1.trans x.2.2.1,fun p a b=>?_⟩,fun p=>?_,fun p o e=>?_,o4,o5⟩,hs,fun p xs e=>?_⟩
 ·unfold less at e
  split at e
  ·exact x.2.1 _ _ e
  ·cases e
 ·unfold less at b
  split at b
  ·rename_i z
   cases y:un F h p with
   | none=>exact o1.2.2.1.free (x.2.2.2 p y b)
   | some o =>
    unfold un at y
    cases w:F p with
    | some _=>exact o1.2.2.2 p a (by rw [w]; exact Option.some_ne_none _)
    | none=>rw [w,z] at y; cases y
  ·exact absurd rfl b
 ·unfold less
  cases z:h p with
  | none=>exact .inr rfl
  | some o=>exact .inl rfl
 ·exact x.2.1 _ _ (x.1 _ _ (zgG_ o2 _ _ e))
 ·unfold less
  cases z:h p with
  | none=>exact e
  | some o =>
   have:=x.1 _ _ (zgG_ o2 _ _ z)
   rw [e] at this; cases this
   exact absurd z (o5 p xs)
theorem Tell.back {x:Xc}(ok:Okk F0 H0 F h H) {G' H':Hp}(y:Ext (un F h) H G' H') (t:Tell K E x H0 (less G' h) H'):Tell K E x H G' H':=by
 cases x with
 | pl c=>exact t
 | «at» c as =>
  refine fun dx fs e q r=>t dx fs (ok.1.2.2.1.free e) ?_ (r.imm (ok.back y).2.2)
  rw [zbA_ (ok.2.2.1.free e)]; exact q
theorem zaQ_ {r:Mo α}{k:α→Mo (Out ρ B S)}{G:Hp}{D:Ends}{kk:α→Hp→Hp→Prop}(ok:Okk F0 H0 F h H) (G1:Hp) (hG:G1=un F h∨G1=F) (fin:Fin K (r.bind k) E LS LB O F0 H0 D)
  (hk:∀ a F' H',r=.ok a→Ext G1 H F' H'→kk a F' H'):After K r E G1 H kk:=by
 cases r with
 | ok a=>exact fun F' H' x=>hk a F' H' rfl x
 | no=>exact fin
 | ex c =>
  intro F' H' x
  rcases hG with rfl | rfl
  ·exact (fin _ _ _ (ok.back x).1).back ok x
  ·refine Tell.up ok.1.2.2.1 (fin F' h H' ⟨ok.1.trans x,fun p=>?_,ok.2.2.1.trans x.2.2.1,ok.2.2.2.1,ok.2.2.2.2⟩)
   cases z:h p with
   | none=>exact .inr rfl
   | some o =>
    left
    rcases ok.2.1 p with y | y
    ·cases w:F' p with
     | none=>rfl
     | some o'=>have:=x.2.2.2 p y (by rw [w]; exact Option.some_ne_none _); rw [ok.2.2.1 _ _ z] at this; cases this
    ·rw [y] at z; cases z
theorem Okk.cold (ok:Okk F0 H0 F h H) {F' H':Hp}(x:Ext F H F' H'):Okk F0 H0 F' h H':=by
 refine ⟨ok.1.trans x,fun p=>?_,ok.2.2.1.trans x.2.2.1,ok.2.2.2.1,ok.2.2.2.2⟩
 cases z:h p with
 | none=>exact .inr rfl
 | some o =>
  left
  rcases ok.2.1 p with y | y
  ·cases w:F' p with
   | none=>rfl
   | some o'=>have:=x.2.2.2 p y (by rw [w]; exact Option.some_ne_none _); rw [ok.2.2.1 _ _ z] at this; cases this
  ·rw [y] at z; cases z
theorem zcp_ {i:Nat}{s:Sl}{σ:St}{a:α}{v:V}(hi:L[i]?=some s) (hL:Hold L σ F h) (hv:T.R a v F):Hold (L.set i (.fz T a)) (σ.set i (some v)) F h:=by
 obtain ⟨o,h1,h2,_,j,_,f⟩:=hL.at i hi
 exact f (.fz T a) (some v) h1 h j ⟨v,rfl,hv⟩
theorem zjn_ {i:Nat}{s:Sl}{σ:St}{a:α}{v:V}{O1:Own α}{hn:Hp}(ok:Okk F0 H0 F h H) (hi:L[i]?=some s) (hL:Hold L σ F h) (fresh:∀ p,hn p≠none→H0 p=none) (dj:Dj F hn) (dh:Dj hn h) (hs:Same hn H) (hv:O1.O a v F hn) :
  ∃ h',Hold (L.set i (.ow O1 a)) (σ.set i (some v)) F h'∧Okk F0 H0 F h' H:=by
 obtain ⟨o,h1,h2,_,j,_,f⟩:=hL.at i hi
 have d2:Dj hn h2:=fun p=>by
  rcases dh p with z | z
  ·exact .inl z
  ·exact .inr (j.r.free z)
 refine ⟨un hn h2,f (.ow O1 a) (some v) hn _ (zi2_ d2) ⟨v,rfl,hv⟩,ok.1,fun p=>?_,fun p o e=>?_,fun p e=>?_,fun p xs e=>?_⟩
 ·unfold un
  cases z:hn p with
  | some w =>
   rcases dj p with y | y
   ·exact .inl y
   ·rw [y] at z; cases z
  | none =>
   rcases ok.2.1 p with y | y
   ·exact .inl y
   ·exact .inr (j.r.free y)
 ·unfold un at e
  cases z:hn p with
  | some w=>rw [z] at e; cases e; exact hs _ _ z
  | none=>rw [z] at e; exact ok.2.2.1 _ _ (j.r _ _ e)
 ·unfold un at e
  cases z:hn p with
  | some w=>exact fresh p (by rw [z]; exact Option.some_ne_none _)
  | none =>
   rw [z] at e
   cases y:h2 p with
   | none=>exact absurd y e
   | some w=>exact ok.2.2.2.1 p (by rw [j.r _ _ y]; exact Option.some_ne_none _)
 ·unfold un at e
  cases z:hn p with
  | some w=>rw [z] at e; cases e; exact O1.notup hv p xs z
  | none=>rw [z] at e; exact ok.2.2.2.2 p xs (j.r _ _ e)
theorem zfJ_ {i:Nat}{s:Sl}{k:α→Mo (Out ρ B S)}(hi:L[i]?=some s) (hT:Imm T) (he:EvF K e E L r T) (hk:∀ a,EvS K u E (L.set i (.fz T a)) (k a) LS LB O):EvS K (tSeq (tAsg e (gName i)) u) E L (r.bind k) LS LB O:=by
 intro F0 H0 σ F h H D hL ok fin
 refine he σ (un F h) H _ (hL.froz ok.2.1) ok.thaw (zaQ_ (G:=F) ok _ (.inl rfl) fin fun a F' H' hr x v hv=>?_)
 obtain ⟨o,hs,ht⟩:=ok.back x
 rw [hr] at fin
 exact hk a F0 H0 _ _ h H' D (zcp_ hi (hL.mono hs) (hT ht hv)) o fin
theorem zkj_ {i:Nat}{s:Sl}{k:α→Mo (Out ρ B S)}(hi:L[i]?=some s) (he:EvF K e E (L.map Sl.cold) r T) (hk:∀ a,EvS K u E (L.set i (.fz T a)) (k a) LS LB O):EvS K (tSeq (tAsg e (gName i)) u) E L (r.bind k) LS LB O:=by
 intro F0 H0 σ F h H D hL ok fin
 refine he σ F H _ hL.coldF ok.1.2.1 (zaQ_ (G:=F) ok _ (.inr rfl) fin fun a F' H' hr x v hv=>?_)
 rw [hr] at fin
 exact hk a F0 H0 _ _ h H' D (zcp_ hi (hL.mono x.1) hv) (ok.cold x) fin
theorem zn4_ {hn h:Hp}(hh:Same h H) (fresh:∀ p,hn p≠none→H p=none):Dj hn h:=fun p=>by
 cases z:hn p with
 | none=>exact .inl rfl
 | some w =>
  have:=fresh p (by rw [z]; exact Option.some_ne_none _)
  exact .inr (hh.free this)
theorem zbI_ {i:Nat}{s:Sl}{O1:Own α}{k:α→Mo (Out ρ B S)}(hi:L[i]?=some s) (hO:ImmO O1) (he:EvO K e E L r O1) (hk:∀ a,EvS K u E (L.set i (.ow O1 a)) (k a) LS LB O):EvS K (tSeq (tAsg e (gName i)) u) E L (r.bind k) LS LB O:=by
 intro F0 H0 σ F h H D hL ok fin
 refine he σ (un F h) H _ (hL.froz ok.2.1) ok.thaw (zaQ_ (G:=F) ok _ (.inl rfl) fin fun a F' H' hr x v hn fresh dj hsn hv=>?_)
 obtain ⟨o,hs,ht⟩:=ok.back x
 rw [hr] at fin
 have dj':Dj (less F' h) hn:=fun p=>by
  unfold less
  cases z:h p with
  | none=>exact dj p
  | some w=>exact .inl rfl
 obtain ⟨h',a1,a2⟩:=zjn_ o hi (hL.mono hs) (fun p z=>ok.1.2.2.1.free (fresh p z)) dj' (zn4_ ok.2.2.1 fresh) hsn (hO ht hv)
 exact hk a F0 H0 _ _ h' H' D a1 a2 fin
theorem zbh_ {α:Type}{l:List α}{i:Nat}{o:α}(h:l[i]?=some o):l.set i o=l:=by
 obtain ⟨hi,e⟩:=List.getElem?_eq_some_iff.mp h
 rw [← e]; exact List.set_getElem_self hi
theorem zhZ_ {i:Nat}{O1:Own α}{a:α}{r:Mo (Out ρ B S)}(hi:L[i]?=some (.ow O1 a)) (hk:EvS K u E (L.set i (.fz O1.fr a)) r LS LB O):EvS K u E L r LS LB O:=by
 intro F0 H0 σ F h H D hL ok fin
 obtain ⟨o,h1,h2,e1,j,⟨v,e2,hv⟩,f⟩:=hL.at i hi
 obtain ⟨o1,o2,o3,o4,o5⟩:=ok
 have dj1:Dj F h1:=fun p=>by
  rcases o2 p with z | z
  ·exact .inl z
  ·exact .inr (j.l.free z)
 have dj2:Dj F h2:=fun p=>by
  rcases o2 p with z | z
  ·exact .inl z
  ·exact .inr (j.r.free z)
 have g1:Hold (L.set i (.dead)) σ F h2:=by
  have:=f .dead o (fun _=>none) h2 (fun p=>.inl ⟨rfl,rfl⟩) trivial
  rwa [zbh_ e1] at this
 have g2:Hold (L.set i (.fz O1.fr a)) σ (un F h1) h2:=by
  have g3:=g1.mono (zcr_ (h:=h1))
  have hi':(L.set i Sl.dead)[i]?=some .dead:=by
   rw [List.getElem?_set_self]
   exact (List.getElem?_eq_some_iff.mp hi).1
  have:=zcp_ (T:=O1.fr) hi' g3 (O1.frz dj1 hv)
  rw [List.set_set] at this
  subst e2
  rwa [zbh_ e1] at this
 refine hk F0 H0 σ _ h2 H D g2 ⟨⟨o1.1.trans zcr_,fun p o e=>?_,o1.2.2.1,fun p a b=>?_⟩,fun p=>?_,j.r.trans o3,fun p z=>?_,fun p xs e=>o5 p xs (j.r _ _ e)⟩ fin
 ·unfold un at e
  cases z:F p with
  | some w=>rw [z] at e; cases e; exact o1.2.1 _ _ z
  | none=>rw [z] at e; exact o3 _ _ (j.l _ _ e)
 ·unfold un at b
  cases z:F p with
  | some w=>exact o1.2.2.2 p a (by rw [z]; exact Option.some_ne_none _)
  | none =>
   rw [z] at b
   cases y:h1 p with
   | none=>exact absurd y b
   | some w=>exact o4 p (by rw [j.l _ _ y]; exact Option.some_ne_none _)
 ·unfold un
  cases z:F p with
  | some w =>
   rcases dj2 p with y | y
   ·rw [y] at z; cases z
   ·exact .inr y
  | none=>exact j.dj p
 ·cases y:h2 p with
  | none=>exact absurd y z
  | some w=>exact o4 p (by rw [j.r _ _ y]; exact Option.some_ne_none _)
theorem zb4_ {r:Mo ρ}(hO:ImmO O) (he:EvO K e E L r O):EvS K (tRet e) E L (r.bind fun a=>.ok (.rt a)) LS LB O:=by
 intro F0 H0 σ F h H D hL ok fin
 refine he σ (un F h) H _ (hL.froz ok.2.1) ok.thaw (zaQ_ (G:=F) ok _ (.inl rfl) fin fun a F' H' hr x v hn fresh dj hsn hv=>?_)
 obtain ⟨o,hs,ht⟩:=ok.back x
 rw [hr] at fin
 refine fin v _ hn H' ⟨o.1,fun p=>?_,hsn,fun p z=>ok.1.2.2.1.free (fresh p z),O.notup hv⟩ (hO ht hv)
 unfold less
 cases z:h p with
 | none=>exact dj p
 | some w=>exact .inl rfl
theorem zlm_ {r:Mo ρ}(he:EvO K e E (L.map Sl.cold) r O):EvS K (tRet e) E L (r.bind fun a=>.ok (.rt a)) LS LB O:=by
 intro F0 H0 σ F h H D hL ok fin
 refine he σ F H _ hL.coldF ok.1.2.1 (zaQ_ (G:=F) ok _ (.inr rfl) fin fun a F' H' hr x v hn fresh dj hsn hv=>?_)
 rw [hr] at fin
 exact fin v _ hn H' ⟨ok.1.trans x,dj,hsn,fun p z=>ok.1.2.2.1.free (fresh p z),O.notup hv⟩ hv
theorem zlf_ {i:Nat}{a:ρ}(hi:L[i]?=some (.ow O a)):EvS K (tRet (mVar i)) E L (.ok (.rt a)) LS LB O:=by
 intro F0 H0 σ F h H D hL ok fin
 obtain ⟨o,h1,h2,e1,j,⟨v,e2,hv⟩,f⟩:=hL.at i hi
 subst e2
 show mVar i σ H D.rt
 unfold mVar
 rw [e1]
 obtain ⟨o1,o2,o3,o4,o5⟩:=ok
 refine fin v F h1 H ⟨o1,fun p=>?_,j.l.trans o3,fun p z=>?_,O.notup hv⟩ hv
 ·rcases o2 p with z | z
  ·exact .inl z
  ·exact .inr (j.l.free z)
 ·cases y:h1 p with
  | none=>exact absurd y z
  | some w=>exact o4 p (by rw [j.l _ _ y]; exact Option.some_ne_none _)
theorem s_if {c:TT}{b:Mo Bool}{r1 r2:Mo (Out ρ B S)}(hc:EvT K c E L b) (h1:EvS K t E L r1 LS LB O) (h2:EvS K u E L r2 LS LB O):EvS K (mIfS c t u) E L (b.bind fun c=>if c then r1 else r2) LS LB O:=by
 intro F0 H0 σ F h H D hL ok fin
 refine hc σ (un F h) H _ (hL.froz ok.2.1) ok.thaw (zaQ_ (G:=F) ok _ (.inl rfl) fin fun a F' H' hr x=>?_)
 obtain ⟨o,hs,ht⟩:=ok.back x
 rw [hr] at fin
 have fin':Fin K (if a then r1 else r2) E LS LB O F0 H0 D:=fin
 refine ⟨fun z=>?_,fun z=>?_⟩
 ·rw [if_pos z] at fin'; exact h1 F0 H0 σ _ h H' D (hL.mono hs) o fin'
 ·rw [if_neg (by rw [z]; decide)] at fin'; exact h2 F0 H0 σ _ h H' D (hL.mono hs) o fin'
inductive Sub:List Sl→List Sl→Prop
 | nil:Sub [] []
 | same {s:Sl}{L L':List Sl}(h:Sub L L'):Sub (s::L) (s::L')
 | dead {s:Sl}{L L':List Sl}(h:Sub L L'):Sub (s::L) (.dead::L')
theorem Sub.hold {L L':List Sl}(w:Sub L L'):∀ {σ:St}{F h:Hp},Hold L σ F h→Hold L' σ F h:=by
 induction w with
 | nil=>exact fun h=>h
 | same _ ih =>
  intro σ F h q
  cases σ with
  | nil=>exact q.elim
  | cons o σ=>obtain ⟨h1,h2,j,p,r⟩:=q; exact ⟨h1,h2,j,p,ih r⟩
 | dead _ ih =>
  intro σ F h q
  cases σ with
  | nil=>exact q.elim
  | cons o σ=>obtain ⟨h1,h2,j,p,r⟩:=q; exact ⟨h1,h2,j,trivial,ih r⟩
theorem zq_ {s:S}(w:Sub L (LS s)):EvS K tNext E L (.ok (.nx s)) LS LB O:=fun F0 H0 σ F h H D hL ok fin=>fin σ F h H (w.hold hL) ok
theorem zbZ_ {r:Mo (Out ρ B S)}(h:EvS K (tSeq t tNext) E L r LS LB O):EvS K t E L r LS LB O:=h
def forO (step:S→α→Mo (Out ρ S S)):List α→S→Mo (Out ρ B S)
 | [],s=>.ok (.nx s)
 | x::xs,s=>(step s x).bind fun o=>match o with | .nx s'=>forO step xs s' | .ct s'=>forO step xs s' | .bk s'=>.ok (.nx s') | .rt a=>.ok (.rt a)
theorem zeP_ {ss:List (Nat×Sl)}{vs:List (Nat×Option V)}(p:Plain F ss vs):∀ {L:List Sl}{σ:St},Hold L σ F h→Hold (setL L ss) (setS σ vs) F h:=by
 induction p with
 | nil=>exact fun h=>h
 | cons hv t ih =>
  rename_i T a i v ss vs
  intro L σ q
  refine ih (L:=L.set i (.fz T a)) (σ:=σ.set i (some v)) ?_
  by_cases hi:i<L.length
  ·exact zcp_ (List.getElem?_eq_getElem hi) q hv
  ·rw [List.set_eq_of_length_le (by lia),List.set_eq_of_length_le (by have:=q.len; lia)]; exact q
theorem Okk.rebase {F1 H1:Hp}(x:Ext F0 H0 F1 H1) (ok:Okk F0 H0 F h H) (s:Same F1 F):Okk F1 H0 F h H:=by
 obtain ⟨o1,o2,o3,o4,o5⟩:=ok
 refine ⟨⟨s,o1.2.1,o1.2.2.1,fun p a b=>o1.2.2.2 p (x.1.free a) b⟩,o2,o3,o4,o5⟩
theorem Okk.unbase {F1 H1:Hp}(x:Ext F0 H0 F1 H1) (ok:Okk F1 H0 F h H):Okk F0 H0 F h H:=by
 obtain ⟨o1,o2,o3,o4,o5⟩:=ok
 refine ⟨⟨x.1.trans o1.1,o1.2.1,o1.2.2.1,fun p a b=>?_⟩,o2,o3,o4,o5⟩
 cases z:F1 p with
 | none=>exact o1.2.2.2 p z b
 | some w=>exact x.2.2.2 p a (by rw [z]; exact Option.some_ne_none _)
theorem zfx_ {wi:TI}{g:TG}{tb:TS}{s0:S}{r:Mo (List α)}{ss:α→List (Nat×Sl)}{step:S→α→Mo (Out ρ S S)}(hi:EvI K wi E ((LS s0).map Sl.cold) r T) (hg:TgR K g T ss)
  (hb:∀ s a,EvS K tb E (setL (LS s) (ss a)) (step s a) LS LS O):EvS K (tFor wi g tb) E (LS s0) (r.bind fun xs=>forO step xs s0) LS LB O:=by
 intro F0 H0 σ F h H D hL ok fin
 refine hi σ F H _ hL.coldF ok.1.2.1 (zaQ_ (G:=F) ok _ (.inr rfl) fin fun xs F1 H1 hr x1 J Y=>?_)
 rw [hr] at fin
 have xx:=ok.1.trans x1
 refine ⟨fun i m σ H=>m=xs.length-i∧i≤xs.length∧∃ s F h,Hold (LS s) σ F h∧Okk F1 H0 F h H∧Fin K (forO (B:=B) step (xs.drop i) s) E LS LB O F0 H0 D,
  ⟨_,rfl,Nat.zero_le _,s0,F1,h,hL.mono x1.1,(ok.cold x1).rebase xx (Same.refl _),fin⟩,?_⟩
 rintro i m σ H ⟨rfl,hi,s,F,h,hL,ok,fin⟩
 have s1:Same F1 H:=ok.1.1.trans ok.1.2.1
 by_cases hlt:i<xs.length
 ·right
  obtain ⟨g1,g2⟩:=Y.go i H xs[i] s1 (List.getElem?_eq_getElem hlt)
  refine ⟨g1,fun σ' H'=>i+1≤xs.length∧∃ s F h,Hold (LS s) σ' F h∧Okk F1 H0 F h H'∧Fin K (forO (B:=B) step (xs.drop (i+1)) s) E LS LB O F0 H0 D,fun σ' H' z=>⟨xs.length-(i+1),by omega,rfl,z⟩,fun v H2 hy=>?_⟩
  obtain ⟨F2,x2,hv⟩:=g2 v H2 hy F ok.1.1 ok.1.2.1
  refine hg xs[i] v σ F2 H2 _ x2.2.1 hv fun vs hp=>?_
  refine hb s xs[i] F1 H0 _ F2 h H2 _ (zeP_ hp (hL.mono x2.1)) (ok.cold x2) ?_
  rw [List.drop_eq_getElem_cons hlt] at fin
  unfold forO at fin
  cases e:step s xs[i] with
  | no=>rw [e] at fin; exact fin
  | ex c=>rw [e] at fin; exact fun F h H ok=>fin F h H (ok.unbase xx)
  | ok o =>
   rw [e] at fin
   cases o with
   | nx s'=>exact fun σ' F' h' H' hL' ok'=>⟨hlt,s',F',h',hL',ok',fin⟩
   | ct s'=>exact fun σ' F' h' H' hL' ok'=>⟨hlt,s',F',h',hL',ok',fin⟩
   | bk s'=>exact fun σ' F' h' H' hL' ok'=>fin σ' F' h' H' hL' (ok'.unbase xx)
   | rt a=>exact fun v F h H ok=>fin v F h H (ok.unbase xx)
 ·left
  have e:i=xs.length:=by omega
  subst e
  rw [List.drop_length] at fin
  exact ⟨Y.stop H s1,fin σ F h H hL (ok.unbase xx)⟩
theorem zer_ {i:Nat}{σ:St}{xs:List α}(hL:Hold L σ F h) (hi:L[i]?=some (.ow (owL T) xs)) (ok:Okk F0 H0 F h H) :
  ∃ p vs,σ[i]?=some (some (.ref p))∧H p=some (.lst vs)∧Prs T F xs vs∧∀ xs' vs',Prs T F xs' vs'→∃ h',Hold (L.set i (.ow (owL T) xs')) σ F h'∧Okk F0 H0 F h' (upd H p (.lst vs')):=by
 obtain ⟨o,h1,h2,e1,j,⟨v,e2,p,vs,rfl,rfl,hr⟩,f⟩:=hL.at i hi
 subst e2
 obtain ⟨o1,o2,o3,o4,o5⟩:=ok
 have hp:h p=some (.lst vs):=j.l _ _ zbq_
 have h2p:h2 p=none:=by
  rcases j.dj p with z | z
  ·rw [zbq_] at z; cases z
  ·exact z
 have Fp:F p=none:=by
  rcases o2 p with z | z
  ·exact z
  ·rw [hp] at z; cases z
 have H0p:H0 p=none:=o4 p (by rw [hp]; exact Option.some_ne_none _)
 refine ⟨p,vs,e1,o3 _ _ hp,hr,fun xs' vs' hr'=>?_⟩
 have d2:Dj (one p (.lst vs')) h2:=fun q=>by
  unfold one; split
  ·rename_i z; rw [z]; exact .inr h2p
  ·exact .inl rfl
 have g:=f (.ow (owL T) xs') (some (.ref p)) (one p (.lst vs')) _ (zi2_ d2) ⟨_,rfl,p,vs',rfl,rfl,hr'⟩
 rw [zbh_ e1] at g
 refine ⟨_,g,⟨o1.1,fun q o z=>?_,fun q o z=>?_,o1.2.2.2⟩,fun q=>?_,fun q o z=>?_,fun q z=>?_,fun q ys z=>?_⟩
 ·unfold upd; split
  ·rename_i w; rw [w,Fp] at z; cases z
  ·exact o1.2.1 _ _ z
 ·unfold upd; split
  ·rename_i w; rw [w,H0p] at z; cases z
  ·exact o1.2.2.1 _ _ z
 ·by_cases w:q=p
  ·rw [w]; exact .inl Fp
  ·unfold un one; simp only [if_neg w]
   rcases o2 q with z | z
   ·exact .inl z
   ·exact .inr (j.r.free z)
 ·unfold un one at z
  unfold upd
  by_cases w:q=p
  ·rw [if_pos w]; simp only [if_pos w] at z; exact z
  ·rw [if_neg w]; simp only [if_neg w] at z; exact o3 _ _ (j.r _ _ z)
 ·unfold un one at z
  by_cases w:q=p
  ·rw [w]; exact H0p
  ·simp only [if_neg w] at z
   cases y:h2 q with
   | none=>exact absurd y z
   | some u=>exact o4 q (by rw [j.r _ _ y]; exact Option.some_ne_none _)
 ·unfold un one at z
  by_cases w:q=p
  ·simp only [if_pos w] at z; cases z
  ·simp only [if_neg w] at z; exact o5 q ys (j.r _ _ z)
theorem zdi_ {i:Nat}{σ:St}{v:V}{Q:VK}(e:σ[i]?=some (some v)) (q:Q v H):mVar i σ H Q:=by unfold mVar; rw [e]; exact q
theorem zga_ {n:Nat}{r:Mo (Out ρ B S)}{D:Ends}(h:Fin K (Mo.lim n r) E LS LB O F0 H0 D):n≤sizeLine∧Fin K r E LS LB O F0 H0 D:=by
 unfold Mo.lim at h
 split at h
 ·exact ⟨by assumption,h⟩
 ·exact h.elim
theorem zbY_ {i:Nat}{xs:List α}{k:α→Mo (Out ρ B S)}(hi:L[i]?=some (.ow (owL T) xs)) (hT:Imm T) (he:EvF K e E L r T) (hk:∀ a,EvS K u E (L.set i (.ow (owL T) (xs++[a]))) (k a) LS LB O) :
  EvS K (tSeq (tDrop (tBM K "list" rAppend (mVar i) (tCons e tNil))) u) E L (r.bind fun a=>.lim (xs.length+1) (k a)) LS LB O:=by
 intro F0 H0 σ F h H D hL ok fin
 obtain ⟨p,vs,e1,hp,hr,_⟩:=zer_ hL hi ok
 show mVar i σ H fun x H1=>tyV K "list" x H1∧tCons e tNil σ H1 fun xs H2=>rAppend x xs H2 (fun _ H3=>u D σ H3)
 refine zdi_ e1 ⟨.inl ⟨rfl,vs,.of hp⟩,?_⟩
 refine he σ (un F h) H _ (hL.froz ok.2.1) ok.thaw (zaQ_ (G:=F) ok _ (.inl rfl) fin fun a F' H' hra x v hv=>?_)
 obtain ⟨o,hs,ht⟩:=ok.back x
 rw [hra] at fin
 obtain ⟨hz,fin⟩:=zga_ (show Fin K (Mo.lim (xs.length+1) (k a)) E LS LB O F0 H0 D from fin)
 obtain ⟨p',vs',e1',hp',hr',mm⟩:=zer_ (hL.mono hs) hi o
 rw [e1] at e1'; cases e1'
 obtain ⟨h',a1,a2⟩:=mm (xs++[a]) (vs'++[v]) (hr'.append (.cons (hT ht hv) .nil))
 exact ⟨p,vs',v,rfl,rfl,hp',by rw [← hr'.len]; lia,hk a F0 H0 σ _ h' _ D a1 a2 fin⟩
theorem zfC_ {i:Nat}{xs:List α}{r:Mo (List α)}{k:List α→Mo (Out ρ B S)}(hi:L[i]?=some (.ow (owL T) xs)) (hT:Imm T) (he:EvF K e E L r (tyL T)) (hk:∀ a,EvS K u E (L.set i (.ow (owL T) (xs++a))) (k a) LS LB O) :
  EvS K (tSeq (tDrop (tBM K "list" rExtend (mVar i) (tCons e tNil))) u) E L (r.bind fun a=>.lim (xs.length+a.length) (k a)) LS LB O:=by
 intro F0 H0 σ F h H D hL ok fin
 obtain ⟨p,vs,e1,hp,hr,_⟩:=zer_ hL hi ok
 show mVar i σ H fun x H1=>tyV K "list" x H1∧tCons e tNil σ H1 fun xs H2=>rExtend x xs H2 (fun _ H3=>u D σ H3)
 refine zdi_ e1 ⟨.inl ⟨rfl,vs,.of hp⟩,?_⟩
 refine he σ (un F h) H _ (hL.froz ok.2.1) ok.thaw (zaQ_ (G:=F) ok _ (.inl rfl) fin fun a F' H' hra x v hq_=>?_)
 obtain ⟨p2,us,ev,hp2,hr2⟩:=hq_
 obtain ⟨o,hs,ht⟩:=ok.back x
 rw [hra] at fin
 subst ev
 obtain ⟨hz,fin⟩:=zga_ (show Fin K (Mo.lim (xs.length+a.length) (k a)) E LS LB O F0 H0 D from fin)
 obtain ⟨p',vs',e1',hp',hr',mm⟩:=zer_ (hL.mono hs) hi o
 rw [e1] at e1'; cases e1'
 obtain ⟨h',a1,a2⟩:=mm (xs++a) (vs'++us) (hr'.append (hr2.imm hT ht))
 exact ⟨p,p2,vs',us,rfl,rfl,hp',x.2.1 _ _ hp2,by rw [← hr'.len,← hr2.len]; exact hz,hk a F0 H0 σ _ h' _ D a1 a2 fin⟩
theorem zab_ {k:α→Mo (Out ρ B S)}(he:EvF K e E L r T) (hk:∀ a,EvS K u E L (k a) LS LB O):EvS K (tSeq (tDrop e) u) E L (r.bind k) LS LB O:=by
 intro F0 H0 σ F h H D hL ok fin
 refine he σ (un F h) H _ (hL.froz ok.2.1) ok.thaw (zaQ_ (G:=F) ok _ (.inl rfl) fin fun a F' H' hr x v hv=>?_)
 obtain ⟨o,hs,ht⟩:=ok.back x
 rw [hr] at fin
 exact hk a F0 H0 σ _ h H' D (hL.mono hs) o fin
theorem zmW_ {c:String}{ta:TA}{C:Cs γ}{n:Nat}{r:Mo γ}(hl:CsN C n) (h:EvA K ta E L r C) (hn:n≤100:=by decide):EvS K (tRaise (gA K c) E ta) E L (r.bind fun _=>.ex c) LS LB O:=by
 intro F0 H0 σ F hh H D hL ok fin
 refine h σ (un F hh) H _ (hL.froz ok.2.1) ok.thaw (zaQ_ (G:=F) ok _ (.inl rfl) fin fun a F' H' hr x vs hv=>?_)
 obtain ⟨o,hs,ht⟩:=ok.back x
 rw [hr] at fin
 exact ⟨by rw [hl hv]; exact hn,fin _ hh H' o⟩
def fnO (r:Mo (Out ρ Unit Unit)):Mo ρ:=r.bind fun o=>match o with | .rt a=>.ok a | _=>.no
inductive Args (F:Hp):List V→List Sl→Prop
 | nil:Args F [] []
 | cons {α:Type}{T:Ty α}{a:α}{v:V}{vs ss} (h:T.R a v F) (t:Args F vs ss):Args F (v::vs) (.fz T a::ss)
theorem Args.hold {vs:List V}{ss:List Sl}(a:Args F vs ss) (n:Nat):Hold (ss++List.replicate n .dead) (vs.map some++List.replicate n none) F (fun _=>none):=by
 induction a with
 | nil =>
  induction n with
  | zero=>trivial
  | succ n ih=>exact ⟨fun _=>none,fun _=>none,fun p=>.inl ⟨rfl,rfl⟩,trivial,ih⟩
 | cons hv t ih=>exact ⟨fun _=>none,fun _=>none,fun p=>.inl ⟨rfl,rfl⟩,⟨_,rfl,hv⟩,ih⟩
def CsS (C:Cs γ) (ss:γ→List Sl):Prop:=∀ {c vs F},C.R c vs F→Args F vs (ss c)
theorem zs_:CsS (csLast T) fun a=>[.fz T a]:=fun ⟨v,e,h⟩=>by rw [e]; exact .cons h .nil
theorem zX_ {C:Cs γ}{ss:γ→List Sl}(h:CsS C ss):CsS (csCons T C) fun c=>.fz T c.1::ss c.2:=fun ⟨v,us,e,q,z⟩=>by rw [e]; exact .cons q (h z)
theorem zgt_ (hs:Same F H):Okk F H F (fun _=>none) H:=by
 refine ⟨.refl hs,fun p=>.inr rfl,fun p o e=>?_,fun p e=>absurd rfl e,fun p xs e=>?_⟩
 ·cases e
 ·cases e
theorem zm9_ {t:XK→TS}{C:Cs γ}{ss:γ→List Sl}{f:γ→Mo (Out ρ Unit Unit)}{N:List Str}(n m:Nat) (hn:CsN C n) (hm:N.length-n=m) (hC:CsS C ss) (h:∀ c E,EvS K (t E) E (ss c++List.replicate m .dead) (f c) (fun _:Unit=>[]) (fun _:Unit=>[]) O) :
  ∀ vs H Q E,Ct K C (fun c=>fnO (f c)) O vs H Q E→t E { nx:=fun _ H'=>Q .non H',rt:=Q } (start N vs) H:=by
 rintro vs H Q E ⟨F,c,hs,hc,q⟩
 have hstart:start N vs=vs.map some++List.replicate m none:=by unfold start; rw [hn hc,hm]
 rw [hstart]
 refine h c E F H _ F (fun _=>none) H _ ((hC hc).hold m) (zgt_ hs) ?_
 have q:After K (fnO (f c)) E F H (OwnK O H Q):=q
 cases e:f c with
 | no=>rw [e] at q; exact q
 | ex cc=>rw [e] at q; exact fun F h H ok=>q F H ok.1
 | ok o =>
  rw [e] at q
  cases o with
  | nx s=>exact q.elim
  | bk s=>exact q.elim
  | ct s=>exact q.elim
  | rt a=>exact fun v F' h' H' ok hv=>q F' H' ok.1 v h' (fun p z=>ok.2.2.2.1 p z) ok.2.1 ok.2.2.1 hv
end
end L2
namespace L2
open PySem PySem.Spec PyProof.Rows
section
variable {K:Fgg}{E:XK}{α β γ ρ S S' B B':Type}{F0 H0 F h H:Hp}{L L':List Sl}{e e1 e2:TE}{T:Ty α}{r:Mo α}{O:Own ρ}{t u:TS}{LS:S→List Sl}{LS':S'→List Sl}{LB:B→List Sl}
def CDivG (i j:Int):Prop:=0<j∧Builtin.divisionGoesByPylong i j=false
instance (i j:Int):Decidable (CDivG i j):=inferInstanceAs (Decidable (_∧_))
instance (i j:Int):Decidable (IntMulOk i j):=inferInstanceAs (Decidable (¬ _))
abbrev mMulG:R2:=mI IntMulOk fun i j=>.int (i*j)
abbrev mDivG:R2:=mI CDivG fun i j=>.int (i / j)
theorem zl4_ {X:Cx}:OpR X (binaryOp .Mult) mMulG:=opM (opI fun _ _ _ _ _ _ _ hc q=>mul_int q hc)
theorem zcT_ {X:Cx}:OpR X (binaryOp .FloorDiv) mDivG:=opM (opI fun i j _ _ _ _ _ hc q=>by
 have h1:(0:Int)<j:=hc.1
 exact floordiv_int (by lia) (by rw [Int.fdiv_eq_ediv_of_nonneg i (by lia)]; exact q) (.inl hc.2))
theorem zbl_:Op2 K mDivG E tyInt tyInt (fun i j=>.grd (CDivG i j) (.ok (i / j))) tyInt:=op_i fun _ _ _=>rfl
theorem zlV_ {Pq:α→Prop}{a:α}{l:List α}(h:Pq a) (t:∀ q∈l,Pq q):∀ q∈a::l,Pq q:=List.forall_mem_cons.mpr ⟨h,t⟩
theorem zhH_:EvS K t E L (.no:Mo (Out ρ B S)) LS LB O:=fun _ _ _ _ _ _ _ _ _ fin=>fin.elim
theorem zbw_ {r:Mo (Out ρ B S)}(w:Sub L L') (hk:EvS K t E L' r LS LB O):EvS K t E L r LS LB O:=fun F0 H0 σ F h H D hL ok fin=>hk F0 H0 σ F h H D (w.hold hL) ok fin
theorem at_ {r:Mo (Out ρ B S)}(L:List Sl) (hk:EvS K t E L r LS LB O):EvS K t E L r LS LB O:=hk
theorem zhz_ (i:Nat) {xs:List α}(h:L[i]?=some (.ow (owL T) xs)):EvF K (mVar i) E L (.ok xs) (tyL T):=zin_ i h
theorem zdO_:EvT K tTrue E L (.ok true):=fun σ F H Q hL hs q=>q.ok hs
theorem dead1 {L:List Sl}:DeadAt (.dead::L) [0]:=fun i hi s e=>by
 cases (List.mem_singleton.mp hi); cases e; rfl
theorem dead2 {L:List Sl}:DeadAt (.dead::.dead::L) [0,1]:=fun i hi s e=>by
 rcases List.mem_cons.mp hi with rfl | hi
 ·cases e; rfl
 ·cases (List.mem_singleton.mp hi); cases e; rfl
theorem nn_l {a:List α}{v:V}{F:Hp}(h:(tyL T).R a v F):v≠.non:=by obtain ⟨p,vs,rfl,_⟩:=h; exact fun z=>V.noConfusion z
theorem zgO_ {C:Cs γ}{a:γ}{v:V}{F:Hp}(h:(tyTup C).R a v F):v≠.non:=by obtain ⟨p,vs,rfl,_⟩:=h; exact fun z=>V.noConfusion z
end
end L2
namespace L2
open PySem PySem.Spec PyProof.Rows
section
variable {α β γ ρ S S' B:Type}
@[simp] theorem Mo.okB (a:α) (f:α→Mo β):(Mo.ok a).bind f=f a:=of_eq_true (eq_self _)
@[simp] theorem Mo.exB (c:Xc) (f:α→Mo β):(Mo.ex c:Mo α).bind f=.ex c:=of_eq_true (eq_self _)
@[simp] theorem Mo.noB (f:α→Mo β):(Mo.no:Mo α).bind f=.no:=of_eq_true (eq_self _)
@[simp] theorem Mo.noexO (a:α):(Mo.ok a).noex=.ok a:=of_eq_true (eq_self _)
@[simp] theorem Mo.optS (a:α):Mo.opt (some a)=.ok a:=of_eq_true (eq_self _)
@[simp] theorem zcF_ (s:S) (k:S→Mo (Out ρ B S')):thenO (.ok (.nx s)) k=k s:=of_eq_true (eq_self _)
@[simp] theorem zlh_ (a:ρ) (k:S→Mo (Out ρ B S')):thenO (.ok (.rt a)) k=.ok (.rt a):=of_eq_true (eq_self _)
@[simp] theorem zkw_ (b:B) (k:S→Mo (Out ρ B S')):thenO (.ok (.bk b)) k=.ok (.bk b):=of_eq_true (eq_self _)
@[simp] theorem zkr_ (b:B) (k:S→Mo (Out ρ B S')):thenO (.ok (.ct b)) k=.ok (.ct b):=of_eq_true (eq_self _)
@[simp] theorem znm_ (a:ρ):fnO (.ok (.rt a))=.ok a:=of_eq_true (eq_self _)
@[simp] theorem zjU_ (step:S→α→Mo (Out ρ S S)) (s:S):forO (B:=B) step [] s=.ok (.nx s):=of_eq_true (eq_self _)
theorem zct_ (step:S→α→Mo (Out ρ S S)) (x:α) (xs:List α) (s:S):forO (B:=B) step (x::xs) s=(step s x).bind fun o=>match o with | .nx s'=>forO step xs s' | .ct s'=>forO step xs s' | .bk s'=>.ok (.nx s') | .rt a=>.ok (.rt a):=rfl
theorem zjz_ {step:S→α→Mo (Out ρ S S)}{x:α}{xs:List α}{s s':S}(h:step s x=.ok (.nx s')):forO (B:=B) step (x::xs) s=forO step xs s':=by rw [zct_,h]; rfl
theorem zhO_ {step:S→α→Mo (Out ρ S S)}(P:List α→S→Prop):∀ {xs:List α}(done:List α) {s:S},P done s→(∀ d x s,(∃ r,done++xs=d++x::r)→P d s→∃ s',step s x=.ok (.nx s')∧P (d++[x]) s')→∃ s',forO (B:=B) step xs s=.ok (.nx s')∧P (done++xs) s'
 | [],done,s,h0,_=>⟨s,rfl,by rw [List.append_nil]; exact h0⟩
 | x::xs,done,s,h0,h=>by
  obtain ⟨s1,e1,p1⟩:=h done x s ⟨xs,rfl⟩ h0
  obtain ⟨s2,e2,p2⟩:=zhO_ P (xs:=xs) (done++[x]) p1 fun d y s ⟨r,hr⟩ hp=>h d y s ⟨r,by rw [← hr]; simp⟩ hp
  exact ⟨s2,by rw [zjz_ e1,e2],by simpa using p2⟩
theorem zdM_ {step:Unit→α→Mo (Out ρ Unit Unit)}:∀ {xs:List α},(∀ x∈xs,step () x=.ok (.nx ()))→forO (B:=B) step xs ()=.ok (.nx ())
 | [],_=>rfl
 | x::xs,h=>by rw [zjz_ (h x List.mem_cons_self),zdM_ fun y hy=>h y (List.mem_cons_of_mem _ hy)]
open PySem PySem.Spec PyProof.Rows in
theorem zmS_ {a j:Int}(h0:0<j) (h:j.natAbs.log2<9000):CDivG a j:=by
 refine ⟨h0,?_⟩
 unfold Builtin.divisionGoesByPylong
 simp only
 rw [Bool.and_eq_false_iff]
 left
 rw [decide_eq_false_iff_not]
 split<;>lia
theorem log2_lt {n k:Nat}(h:n<2 ^ k):n.log2<k∨n=0:=by
 by_cases hz:n=0
 ·exact .inr hz
 ·exact .inl ((Nat.log2_lt hz).mpr h)
theorem zm2_ {a j:Int}(h0:0<j) (h:j<2 ^ 1000):CDivG a j:=by
 refine zmS_ h0 ?_
 have h1:j.natAbs<2 ^ 1000:=by
  have:((2:Int) ^ 1000)=((2 ^ 1000:Nat):Int):=by rw [Int.natCast_pow]; rfl
  rw [this] at h
  lia
 rcases log2_lt h1 with h | h
 ·lia
 ·rw [h]; decide
open PySem PySem.Spec PyProof.Rows in
theorem zhE_ {i j:Int}(h : -(2 ^ 64)<i∧i<2 ^ 64 ∨ -(2 ^ 64)<j∧j<2 ^ 64):IntMulOk i j:=CMul.ok h
@[simp] theorem zmX_ {a j:Int}{k:Mo α}(h0:0<j) (h1:j<1073741824):Mo.grd (CDivG a j) k=k:=Mo.grd_ok (zm2_ h0 (by lia))
@[simp] theorem grd_T {k:Mo α} [Decidable True]:Mo.grd True k=k:=Mo.grd_ok trivial
@[simp] theorem zmC_ {j:Int}{k:Mo α}(h0:0<j):Mo.grd (0<j) k=k:=Mo.grd_ok h0
open PySem PySem.Spec PyProof.Rows in
@[simp] theorem zia_ {i j:Int}{k:Mo α}(h0 : -18446744073709551616<i) (h1:i<18446744073709551616):Mo.grd (IntMulOk i j) k=k:=Mo.grd_ok (zhE_ (.inl ⟨by lia,by lia⟩))
theorem zln_ (lo:Int) (n:Nat):(rngI lo n).length=n:=by unfold rngI; rw [List.length_map,List.length_range]
theorem zla_ {lo x:Int}{n:Nat}:x∈rngI lo n↔lo≤x∧x<lo+n:=by
 unfold rngI
 simp only [List.mem_map,List.mem_range]
 constructor
 ·rintro ⟨a,h,rfl⟩; lia
 ·rintro ⟨h1,h2⟩; exact ⟨(x-lo).toNat,by lia,by lia⟩
theorem znp_ {xs:List α}{k:Int}(h0:0≤k):atI xs k=xs[k.toNat]?:=by
 unfold atI ixN
 rw [if_pos h0]
 split
 ·rfl
 ·rename_i h
  rw [List.getElem?_eq_none (by omega)]; rfl
theorem zfA_ {xs:List α}{k:Int}(h0:0≤k) (h1:k<xs.length):∃ x,atI xs k=some x∧x∈xs:=by
 rw [znp_ h0,List.getElem?_eq_getElem (show k.toNat<xs.length by lia)]
 exact ⟨_,rfl,List.getElem_mem _⟩
theorem zhM_ {q:α→α→Bool}(hq:∀ a,q a a=true):∀ xs:List α,eqL q xs xs=true
 | []=>rfl
 | x::xs=>by unfold eqL; rw [hq,zhM_ hq xs]; rfl
end
end L2
namespace L2
open PySem PySem.Spec PyProof.Rows
section
variable {K:Fgg}{E:XK}{α β γ ρ S S' B B':Type}{F0 H0 F h H:Hp}{L L':List Sl}{e e1 e2:TE}{T:Ty α}{r:Mo α}{O:Own ρ}{t u:TS}{LS:S→List Sl}{LS':S'→List Sl}{LB:B→List Sl}
theorem zlX_ {p:Addr}{o':HO}{h1' hr h':Hp}(ok:Okk F0 H0 F h H) (hp:h p≠none) (nt:∀ xs,o'≠.tup xs) (h':Hp) (hh:∀ q,h' q=if q=p then some o' else h q):Okk F0 H0 F h' (upd H p o'):=by
 obtain ⟨o1,o2,o3,o4,o5⟩:=ok
 have Fp:F p=none:=by
  rcases o2 p with z | z
  ·exact z
  ·exact absurd z hp
 have H0p:H0 p=none:=o4 p hp
 refine ⟨⟨o1.1,fun q o z=>?_,fun q o z=>?_,o1.2.2.2⟩,fun q=>?_,fun q o z=>?_,fun q z=>?_,fun q ys z=>?_⟩
 ·unfold upd; split
  ·rename_i w; rw [w,Fp] at z; cases z
  ·exact o1.2.1 _ _ z
 ·unfold upd; split
  ·rename_i w; rw [w,H0p] at z; cases z
  ·exact o1.2.2.1 _ _ z
 ·rw [hh]; split
  ·rename_i w; rw [w]; exact .inl Fp
  ·exact o2 q
 ·rw [hh] at z; unfold upd
  split at z
  ·rename_i w; rw [if_pos w]; exact z
  ·rename_i w; rw [if_neg w]; exact o3 _ _ z
 ·rw [hh] at z; split at z
  ·rename_i w; rw [w]; exact H0p
  ·exact o4 q z
 ·rw [hh] at z; split at z
  ·exact nt ys (by injection z)
  ·exact o5 q ys z
end
end L2
namespace L2
open PySem PySem.Spec PyProof.Rows
section
variable {K:Fgg}{E:XK}{α β γ ρ S S' B B':Type}{F0 H0 F h H:Hp}{L L':List Sl}{e e1 e2:TE}{T:Ty α}{r:Mo α}{O:Own ρ}{t u:TS}{LS:S→List Sl}{LS':S'→List Sl}{LB:B→List Sl}
@[irreducible] def fuelW:Nat:=100000
end
end L2
namespace L2
open PySem PySem.Spec PyProof.Rows
section
variable {α:Type}
theorem zcs_ {S B ρ:Type}{step:S→α→Mo (Out ρ S S)}{xs:List α}{s:S}{G:Mo (Out ρ B S)→Prop}(P:List α→S→Prop) (h0:P [] s) (hs:∀ d x s,(∃ r,xs=d++x::r)→P d s→∃ s',step s x=.ok (.nx s')∧P (d++[x]) s') (hk:∀ s',P xs s'→G (.ok (.nx s'))):G (forO step xs s):=by
 obtain ⟨s',e,p⟩:=zhO_ (B:=B) P (xs:=xs) [] h0 (fun d x s hr hp=>hs d x s hr hp)
 rw [e]
 exact hk s' p
end
abbrev Crd:=List Nat
def sg (c:Crd) (col:Int):Nat:=c.getD (col-1).toNat 0
def rk1 (x:Nat):Nat:=(SG.findIdx? (· == x)).getD 0 % 37
def rnk (c:Crd) (col:Int):Nat:=rk1 (sg c col)
def kv:List Int→Crd→Nat
 | [],_=>0
 | c::L,a=>rnk a c*37 ^ L.length+kv L a
end L2
namespace L2
open PySem PySem.Spec PyProof.Rows
end L2
namespace L2
open PySem PySem.Spec PyProof.Rows
open PySem.SeqAt
open PySem.AutoSeq1 (wpAny_loadPart')
open PySem.MeetsSeq PySem.MeetsSeq2 PySem.MeetsSeq3
end L2
namespace L2
open PySem PySem.Spec PyProof.Rows
section
variable {K:Fgg}{E:XK}{H:Hp}
end
end L2
namespace L2
open PySem PySem.Spec PyProof.Rows
section
variable {α:Type}
theorem zf7_ {n d:Nat}{i:Int}(h:0≤i):HT.sIx n d (some i)=min i.toNat n:=by
 unfold HT.sIx
 simp only
 split<;>lia
theorem zjN_ {xs:List α}{i:Int}(h:0≤i):cutG xs none (some i)=xs.take i.toNat:=by
 unfold cutG
 rw [zf7_ h,show HT.sIx xs.length 0 none=0 from rfl,List.drop_zero,Nat.sub_zero,← List.take_take,List.take_length]
theorem ziG_ {xs:List α}{i:Int}(h:0≤i):cutG xs (some i) none=xs.drop i.toNat:=by
 unfold cutG
 rw [zf7_ h,show HT.sIx xs.length xs.length none=xs.length from rfl]
 by_cases hl:i.toNat≤xs.length
 ·rw [Nat.min_eq_left hl,List.take_of_length_le (by rw [List.length_drop]; exact Nat.le_refl _)]
 ·rw [Nat.min_eq_right (by lia),List.drop_length,List.drop_eq_nil_of_le (by lia),List.take_nil]
theorem zgg_ {xs:List α}{q:Int×α}(h:q∈enumL xs):∃ i:Nat,i<xs.length∧q.1=i∧xs[i]?=some q.2:=by
 obtain ⟨i,hi,e⟩:=List.mem_iff_getElem.mp h
 rw [zc8_] at hi
 have:=zeF_ xs i
 rw [List.getElem?_eq_getElem (by rw [zc8_]; exact hi),e] at this
 refine ⟨i,hi,?_⟩
 cases e2:xs[i]? with
 | none=>rw [e2] at this; cases this
 | some x=>rw [e2] at this; injection this with this; rw [this]; exact ⟨rfl,rfl⟩
end
end L2
namespace L2
open PySem PySem.Spec PyProof.Rows
section
variable {K:Fgg}{E:XK}{α β γ ρ S S' B B':Type}{F0 H0 F h H:Hp}{L L':List Sl}{e e1 e2:TE}{T:Ty α}{r:Mo α}{O:Own ρ}{t u:TS}{LS:S→List Sl}{LS':S'→List Sl}{LB:B→List Sl}
theorem zz_ {C:Cs γ}{f:γ→Mo α}{ta:TA}{r:Mo γ}(h:EvA K ta E L r C):EvF K (tCall (Ct K C f (owF T)) [] E ta) E L (r.bind f) T:=(zlJ_ h).fr
theorem zp_ {C:Cs γ}{f:γ→Mo α}{ta:TA}{r:Mo γ}(h:EvA K ta E L r C):EvF K (tCall (Ct K C f (owF T)) [] E0 ta) E L (r.bind fun c=>(f c).noex) T:=(zaa_ h).fr
end
end L2
namespace L2
open PySem PySem.Spec PyProof.Rows
def repL {α:Type}(xs:List α) (n:Int):List α:=(List.replicate n.toNat xs).flatten
def CRep (m:Nat) (n:Int):Prop:=0≤n∧n≤100000∧m≤100000∧m*n.toNat≤100000
instance (m:Nat) (n:Int):Decidable (CRep m n):=inferInstanceAs (Decidable (_∧_))
def mMulX:R2:=fun x y H Q=>match x,y with
 | .int i,.int j=>IntMulOk i j∧Q (.int (i*j)) H
 | .str z,.int n=>CRep z.cps.toList.length n∧Q (tx (repL z.cps.toList n)) H
 | .ref l,.int k=>∃ xs,H l=some (.lst xs)∧CRep xs.length k∧∀ p,H p=none→Q (.ref p) (upd H p (.lst (repL xs k)))
 | _,_=>False
theorem zjL_ (z:Array Nat) (n:Nat):(List.foldl (fun x1 x2=>x1++x2) #[] (List.replicate n z)).toList=(List.replicate n z.toList).flatten:=by
 have:∀ (l:List (Array Nat)) (acc:Array Nat),(l.foldl (fun x1 x2=>x1++x2) acc).toList=acc.toList++(l.map Array.toList).flatten:=by
  intro l
  induction l with
  | nil=>intro acc; simp
  | cons a l ih=>intro acc; rw [List.foldl_cons,ih]; simp
 rw [this]
 simp
theorem zjM_ {X:Cx}:OpR X (binaryOp .Mult) mMulX:=by
 intro pins s σ H x y v u Q I rx ry h
 cases x<;>cases y<;>first
  | exact h.elim
  | exact zl4_ pins s σ H _ _ v u Q I rx ry h
  | (obtain ⟨xs,hl,⟨c1,c2,c3,c4⟩,q⟩:=h
     exact znl_ pins s σ H _ _ v u Q I rx ry ⟨_,_,xs,rfl,rfl,hl,by lia,by lia,zb7_ c4,q⟩)
  | (rename_i z n
     obtain ⟨⟨c1,c2,c3,c4⟩,q⟩:=h
     obtain ⟨t,rfl⟩:=rx
     obtain ⟨t',rfl⟩:=ry
     have hz:z.length=z.cps.toList.length:=by simp [Str.length]
     refine PySem.P.mul_str (by simp; lia) (fun h1 h2=>?_) (fun h1 h2=>?_) ?_
     ·rw [hz]
      have hn:0<n:=by lia
      have:(z.cps.toList.length:Int)*n≤2 ^ 63-1:=by
       have e:n=(n.toNat:Int):=by lia
       rw [e,← Int.natCast_mul]; lia
      have:=Int.le_ediv_of_mul_le hn this
      lia
     ·unfold Builtin.Str.tooLong
      rw [hz]
      have:=zb7_ c4
      exact decide_eq_false (by lia)
     ·by_cases h1:n<1
      ·rw [if_pos h1]
       have:n=0:=by lia
       subst this
       exact ⟨Nat.zero_le _,tx [],H,I.tok _,⟨_,rfl⟩,q⟩
      ·rw [if_neg h1]
       by_cases h2:(n == 1 || z.length == 0)=true
       ·rw [if_pos h2]
        have e:repL z.cps.toList n=z.cps.toList:=by
         unfold repL
         rw [Bool.or_eq_true] at h2
         rcases h2 with h2 | h2
         ·have:n=1:=by simpa using h2
          subst this; simp
         ·have:z.cps.toList=[]:=List.length_eq_zero_iff.mp (by rw [← hz]; simpa using h2)
          rw [this]; simp
        rw [e] at q
        refine ⟨tx z.cps.toList,H,I,⟨t,?_⟩,q⟩
        show Value.str z t=Value.str ⟨z.cps.toList.toArray⟩ t
        rw [← zdc_]
       ·rw [if_neg h2]
        refine ⟨?_,tx (repL z.cps.toList n),H,I.tok _,⟨s.toks,?_⟩,q⟩
        ·have e:(⟨List.foldl (fun x1 x2=>x1++x2) #[] (List.replicate n.toNat z.cps)⟩:Str).length=(List.replicate n.toNat z.cps.toList).flatten.length:=by
          rw [← zjL_]; simp [Str.length]
         rw [e,zjx_]
         exact zb7_ (by rw [Nat.mul_comm]; exact c4)
        show Value.str _ _=Value.str _ _
        congr 1
        unfold repL
        rw [← zjL_])
section
variable {K:Fgg}{E:XK}{α β γ ρ S S' B B':Type}{F0 H0 F h H:Hp}{L L':List Sl}{e e1 e2:TE}{T:Ty α}{r:Mo α}{O:Own ρ}{t u:TS}{LS:S→List Sl}{LB:B→List Sl}
theorem zk0_:Op2 K mMulX E tyInt tyInt (fun i j=>.grd (IntMulOk i j) (.ok (i*j))) tyInt:=by
 rintro a b x y F H Q hs rfl rfl k
 obtain ⟨c,k⟩:=k.grd
 exact ⟨c,k.ok hs _ rfl⟩
theorem zkZ_:Op2 K mMulX E tyStr tyInt (fun l n=>.grd (CRep l.length n) (.ok (repL l n))) tyStr:=by
 rintro a b x y F H Q hs rfl rfl k
 obtain ⟨c,k⟩:=k.grd
 exact ⟨c,k.ok hs _ rfl⟩
abbrev Pas:=Int×Option (List Nat)
def passR (c:Pas) (v:V) (H:Hp):Prop:=∃ p,v=.ref p∧H p=some (.tup (match c.2 with | none=>[tx [100,101,97,108],.int c.1] | some s=>[tx [112,105,99,107],.int c.1,tx s]))
abbrev tyPass:Ty Pas:=⟨passR,fun g ⟨p,e,h⟩=>⟨p,e,g _ _ h⟩⟩
theorem zh6_:Imm tyPass:=fun g ⟨p,e,h⟩=>⟨p,e,g _ _ h⟩
theorem zlL_ {r:Mo Int}{r2:Mo (List Nat)}(h:EvF K e E L r tyInt) (h2:EvF K e2 E L r2 tyStr):EvF K (tTup (tCons (tC (tx [112,105,99,107])) (tCons e (tCons e2 tNil)))) E L (r.bind fun c=>r2.bind fun s=>.ok (c,some s)) tyPass:=by
 intro σ F H Q hL hs q
 refine h σ F H _ hL hs (q.bind.imp fun c F1 H1 x1 k1 v hv=>?_)
 refine h2 σ F1 H1 _ (hL.mono x1.1) x1.2.1 (k1.bind.imp fun s F2 H2 x2 k2 v2 hv2=>⟨zb7_ (by show 3≤100000; decide),fun p hp=>?_⟩)
 cases hv; cases hv2
 exact k2 _ _ (Ext.new x2.2.1 hp) _ ⟨p,rfl,zD_⟩
def pTag (c:Pas):List Nat:=match c.2 with | none=>[100,101,97,108] | some _=>[112,105,99,107]
theorem zle_ {r:Mo Pas}(h:EvF K e E L r tyPass):EvF K (tOp (mIx K) e (tC (.int 0))) E L (r.bind fun c=>.ok (pTag c)) tyStr:=by
 intro σ F H Q hL hs q
 refine h σ F H _ hL hs (q.bind.imp fun c F1 H1 x1 k1 v hq_=>?_)
 obtain ⟨p,ev,hp⟩:=hq_
 subst ev
 refine ⟨_,.inr (.of (x1.2.1 _ _ hp)),?_⟩
 obtain ⟨c1,c2⟩:=c
 cases c2 with
 | none=>exact k1.ok x1.2.1 _ rfl
 | some s=>exact k1.ok x1.2.1 _ rfl
theorem zlg_ {r:Mo Pas}(h:EvF K e E L r tyPass):EvF K (tOp (mIx K) e (tC (.int 1))) E L (r.bind fun c=>.ok c.1) tyInt:=by
 intro σ F H Q hL hs q
 refine h σ F H _ hL hs (q.bind.imp fun c F1 H1 x1 k1 v hq_=>?_)
 obtain ⟨p,ev,hp⟩:=hq_
 subst ev
 refine ⟨_,.inr (.of (x1.2.1 _ _ hp)),?_⟩
 obtain ⟨c1,c2⟩:=c
 cases c2 with
 | none=>exact k1.ok x1.2.1 _ rfl
 | some s=>exact k1.ok x1.2.1 _ rfl
theorem zhD_ {r:Mo Pas}(h:EvF K e E L r tyPass):EvF K (tOp (mIx K) e (tC (.int 2))) E L (r.bind fun c=>.opt c.2) tyStr:=by
 intro σ F H Q hL hs q
 refine h σ F H _ hL hs (q.bind.imp fun c F1 H1 x1 k1 v hq_=>?_)
 obtain ⟨p,ev,hp⟩:=hq_
 subst ev
 obtain ⟨s,es,k1⟩:=k1.opt
 refine ⟨_,.inr (.of (x1.2.1 _ _ hp)),?_⟩
 obtain ⟨c1,c2⟩:=c
 cases (show c2=some s from es)
 exact k1.ok x1.2.1 _ rfl
end
end L2
namespace L2
open PySem PySem.Spec PyProof.Rows
structure KyT (κ:Type) where
 T:Ty κ
 key:κ→Key
 inj:∀ {a b},key a=key b→a=b
 of:∀ {a v H},T.R a v H→keyV v=some (key a)
abbrev kInt:KyT Int:=⟨tyInt,Sum.inl,fun h=>by injection h,fun h=>by cases h; rfl⟩
section
variable {K:Fgg}{E:XK}{α β γ ρ κ S S' B B':Type}{F0 H0 F h H:Hp}{L L':List Sl}{e e1 e2:TE}{T:Ty α}{r:Mo α}{O:Own ρ}{t u:TS}{LS:S→List Sl}{LB:B→List Sl}{KY:KyT κ}
abbrev DPr (KY:KyT κ) (T:Ty α) (H:Hp) (m:List (κ×α)) (kvs:List (Key×V)):Prop:=Paired (fun (q:κ×α) (w:Key×V)=>w.1=KY.key q.1∧T.R q.2 w.2 H) m kvs
theorem DPr.mono {m:List (κ×α)}{kvs:List (Key×V)}{H H':Hp}(g:Same H H') (h:DPr KY T H m kvs):DPr KY T H' m kvs:=zaS_ (fun _ _ r=>⟨r.1,T.mono g r.2⟩) h
theorem DPr.imm (i:Imm T) {m:List (κ×α)}{kvs:List (Key×V)}{H H':Hp}(g:Tups H H') (h:DPr KY T H m kvs):DPr KY T H' m kvs:=zaS_ (fun _ _ r=>⟨r.1,i g r.2⟩) h
abbrev tyD (KY:KyT κ) (T:Ty α):Ty (List (κ×α)):=⟨fun m v H=>∃ p kvs,v=.ref p∧H p=some (.dK kvs)∧DPr KY T H m kvs,fun g ⟨p,kvs,e,h,q⟩=>⟨p,kvs,e,g _ _ h,q.mono g⟩⟩
abbrev owD (KY:KyT κ) (T:Ty α):Own (List (κ×α)):=⟨fun m v F h=>∃ p kvs,v=.ref p∧h=one p (.dK kvs)∧DPr KY T F m kvs,tyD KY T,fun g ⟨p,vs,e,z,q⟩=>⟨p,vs,e,z,q.mono g⟩,
 fun d ⟨p,vs,e,z,q⟩=>⟨p,vs,e,zgG_ d _ _ (by rw [z]; exact zbq_),q.mono zcr_⟩,
 fun ⟨p,vs,e,z,q⟩ b xs y=>by rw [z] at y; unfold one at y; split at y<;>cases y⟩
theorem zm6_ (i:Imm T):ImmO (owD KY T):=fun g ⟨p,vs,e,z,q⟩=>⟨p,vs,e,z,q.imm i g⟩
variable [DecidableEq κ]
def getA (m:List (κ×α)) (k:κ):Option α:=(m.find? fun q=>decide (q.1=k)).map (·.2)
def putA (m:List (κ×α)) (k:κ) (v:α):List (κ×α):=if (m.any fun q=>decide (q.1=k))=true then m.map (fun q=>if q.1=k then (q.1,v) else q) else m++[(k,v)]
theorem zjs_ (a b:κ):decide (KY.key a=KY.key b)=decide (a=b):=by rw [decide_eq_decide]; exact ⟨KY.inj,fun h=>by rw [h]⟩
theorem zhp_ {m:List (κ×α)}{kvs:List (Key×V)}(h:DPr KY T H m kvs) (k:κ):(getA m k=none∧valV kvs (KY.key k)=none)∨∃ a v,getA m k=some a∧valV kvs (KY.key k)=some v∧T.R a v H:=by
 induction h with
 | nil=>exact .inl ⟨rfl,rfl⟩
 | cons r t ih =>
  rename_i q w m kvs
  unfold getA valV at ih ⊢
  rw [List.find?_cons,List.find?_cons,r.1,zjs_]
  by_cases e:q.1=k
  ·rw [decide_eq_true e]; exact .inr ⟨_,_,rfl,rfl,r.2⟩
  ·rw [decide_eq_false e]; exact ih
theorem zlA_ {m:List (κ×α)}{kvs:List (Key×V)}(h:DPr KY T H m kvs) (k:κ):(kvs.any fun w=>decide (w.1=KY.key k))=m.any fun q=>decide (q.1=k):=by
 induction h with
 | nil=>rfl
 | cons r t ih=>rw [List.any_cons,List.any_cons,ih,r.1,zjs_]
theorem zmu_ {m m':List (κ×α)}{kvs kvs':List (Key×V)}(h:DPr KY T H m kvs) (h':DPr KY T H m' kvs'):DPr KY T H (m++m') (kvs++kvs'):=by
 induction h with
 | nil=>exact h'
 | cons r t ih=>exact .cons r ih
theorem zlZ_ {m:List (κ×α)}{kvs:List (Key×V)}(h:DPr KY T H m kvs) (k:κ) {a:α}{v:V}(hv:T.R a v H):DPr KY T H (m.map fun q=>if q.1=k then (q.1,a) else q) (kvs.map fun w=>if w.1=KY.key k then (w.1,v) else w):=by
 induction h with
 | nil=>exact .nil
 | cons r t ih =>
  rename_i q w m kvs
  rw [List.map_cons,List.map_cons]
  refine .cons ?_ ih
  by_cases e:q.1=k
  ·rw [if_pos e,if_pos (by rw [r.1,e])]; exact ⟨r.1,hv⟩
  ·rw [if_neg e,if_neg (fun z=>e (KY.inj (by rw [← r.1,z])))]; exact r
theorem zjO_ {m:List (κ×α)}{kvs:List (Key×V)}(h:DPr KY T H m kvs) (k:κ) {a:α}{v:V}(hv:T.R a v H):DPr KY T H (putA m k a) (putK kvs (KY.key k) v):=by
 unfold putA putK
 rw [zlA_ h]
 split
 ·exact zlZ_ h k hv
 ·exact zmu_ h (.cons ⟨rfl,hv⟩ .nil)
theorem zjG_ (KY:KyT κ) (T:Ty α):EvO K tDNewK E L (.ok []) (owD KY T):=by
 intro σ F H Q hL hs q p hp
 have q':OwnK (owD KY T) H Q [] F (upd H p (.dK [])):=q F _ (.heap hs (zdn_ hp _))
 refine q' (.ref p) (one p (.dK [])) (fun b z=>?_) (fun b=>?_) (fun b o z=>?_) ⟨p,[],rfl,rfl,.nil⟩
 ·unfold one at z; split at z
  ·rename_i e; rw [e]; exact hp
  ·exact absurd rfl z
 ·unfold one; split
  ·rename_i e; rw [e]; exact .inl (hs.free hp)
  ·exact .inr rfl
 ·unfold one at z; split at z
  ·rename_i e; rw [e]; cases z; exact zD_
  ·cases z
theorem zhT_ (i:Nat) {m:List (κ×α)}(h:L[i]?=some (.ow (owD KY T) m)):EvF K (mVar i) E L (.ok m) (tyD KY T):=zin_ i h
theorem at_d {x y:V}{R:Addr→List (Key×V)→Key→Prop}{m:List (κ×α)}{k:κ}(hx:(tyD KY T).R m x F) (hy:KY.T.R k y F) (hs:Same F H) (hr:∀ p kvs,H p=some (.dK kvs)→DPr KY T F m kvs→R p kvs (KY.key k)):atD x y H R:=by
 obtain ⟨p,kvs,rfl,hp,hd⟩:=hx
 unfold atD
 simp only
 rw [KY.of hy]
 exact ⟨kvs,hs _ _ hp,hr p kvs (hs _ _ hp) hd⟩
theorem zmr_ {r1:Mo (List (κ×α))}{r2:Mo κ}(h1:EvF K e1 E L r1 (tyD KY T)) (h2:EvF K e2 E L r2 KY.T):EvF K (mDGet e1 e2) E L (r1.bind fun m=>r2.bind fun k=>.opt (getA m k)) T:=by
 intro σ F H Q hL hs q
 refine h1 σ F H _ hL hs (q.bind.imp fun m F1 H1 x1 k1 v1 hv1=>?_)
 refine h2 σ F1 H1 _ (hL.mono x1.1) x1.2.1 (k1.bind.imp fun k F2 H2 x2 k2 v2 hv2=>?_)
 refine at_d ((tyD KY T).mono x2.1 hv1) hv2 x2.2.1 fun p kvs hp hd=>?_
 obtain ⟨a,ea,k3⟩:=k2.opt
 rcases zhp_ hd k with ⟨z,_⟩ | ⟨a',v,z1,z2,z3⟩
 ·rw [z] at ea; cases ea
 ·rw [z1] at ea; cases ea
  exact ⟨v,z2,k3.ok x2.2.1 v z3⟩
theorem znU_ (neg:Bool) {r1:Mo (List (κ×α))}{r2:Mo κ}(h2:EvF K e2 E L r2 KY.T) (h1:EvF K e1 E L r1 (tyD KY T)):EvF K (mDIn neg e2 e1) E L (r2.bind fun k=>r1.bind fun m=>.ok (if neg then !(getA m k).isSome else (getA m k).isSome)) tyBl:=by
 intro σ F H Q hL hs q
 refine h2 σ F H _ hL hs (q.bind.imp fun k F1 H1 x1 k1 v1 hv1=>?_)
 refine h1 σ F1 H1 _ (hL.mono x1.1) x1.2.1 (k1.bind.imp fun m F2 H2 x2 k2 v2 hv2=>?_)
 refine at_d hv2 (KY.T.mono x2.1 hv1) x2.2.1 fun p kvs hp hd=>?_
 have e:(valV kvs (KY.key k)).isSome=(getA m k).isSome:=by
  rcases zhp_ hd k with ⟨z1,z2⟩ | ⟨a',v,z1,z2,z3⟩
  ·rw [z1,z2]; rfl
  ·rw [z1,z2]; rfl
 rw [e]
 exact k2.ok x2.2.1 _ rfl
theorem zc6_ {i:Nat}{σ:St}{m:List (κ×α)}(hL:Hold L σ F h) (hi:L[i]?=some (.ow (owD KY T) m)) (ok:Okk F0 H0 F h H) :
  ∃ p kvs,σ[i]?=some (some (.ref p))∧H p=some (.dK kvs)∧DPr KY T F m kvs∧∀ m' kvs',DPr KY T F m' kvs'→∃ h',Hold (L.set i (.ow (owD KY T) m')) σ F h'∧Okk F0 H0 F h' (upd H p (.dK kvs')):=by
 obtain ⟨o,h1,h2,e1,j,⟨v,e2,p,kvs,rfl,rfl,hr⟩,f⟩:=hL.at i hi
 subst e2
 have hp:h p=some (.dK kvs):=j.l _ _ zbq_
 have h2p:h2 p=none:=by
  rcases j.dj p with z | z
  ·rw [zbq_] at z; cases z
  ·exact z
 refine ⟨p,kvs,e1,ok.2.2.1 _ _ hp,hr,fun m' kvs' hr'=>?_⟩
 have d2:Dj (one p (.dK kvs')) h2:=fun q=>by
  unfold one; split
  ·rename_i z; rw [z]; exact .inr h2p
  ·exact .inl rfl
 have g:=f (.ow (owD KY T) m') (some (.ref p)) (one p (.dK kvs')) _ (zi2_ d2) ⟨_,rfl,p,kvs',rfl,rfl,hr'⟩
 rw [zbh_ e1] at g
 refine ⟨_,g,zlX_ (h1':=h) (hr:=h) (h':=h) ok (by rw [hp]; exact Option.some_ne_none _) (fun xs z=>by cases z) _ fun b=>?_⟩
 unfold un one
 by_cases z:b=p
 ·simp only [if_pos z]
 ·simp only [if_neg z]
  rcases j b with ⟨_,c⟩ | ⟨a,c⟩
  ·exact c.symm
  ·rw [c,a]; unfold one; rw [if_neg z]
theorem zng_ {i:Nat}{m:List (κ×α)}{r2:Mo κ}{k:α→κ→Mo (Out ρ B S)}(hi:L[i]?=some (.ow (owD KY T) m)) (hT:Imm T) (hKT:Imm KY.T) (he:EvF K e E L r T) (he2:EvF K e2 E L r2 KY.T) (hk:∀ a y,EvS K u E (L.set i (.ow (owD KY T) (putA m y a))) (k a y) LS LB O) :
  EvS K (tSeq (mDPut (mVar i) e2 e) u) E L (r.bind fun a=>r2.bind fun y=>.lim (m.length+1) (k a y)) LS LB O:=by
 intro F0 H0 σ F h H D hL ok fin
 show e σ H fun v H1=>mVar i σ H1 fun x H2=>e2 σ H2 fun y H3=>atD x y H3 fun a kvs k=>kvs.length<sizeLine∧u D σ (upd H3 a (.dK (putK kvs k v)))
 refine he σ (un F h) H _ (hL.froz ok.2.1) ok.thaw (zaQ_ (G:=F) ok _ (.inl rfl) fin fun a F1 H1 hra x1 v hv=>?_)
 obtain ⟨o,hs,ht⟩:=ok.back x1
 rw [hra] at fin
 have hL':=hL.mono hs
 have hv':=hT ht hv
 obtain ⟨p,kvs,e1,hp,hr,_⟩:=zc6_ hL' hi o
 refine zdi_ e1 ?_
 refine he2 σ (un _ h) H1 _ (hL'.froz o.2.1) o.thaw (zaQ_ (G:=F) o _ (.inl rfl) fin fun y F2 H2 hry x2 v2 hv2=>?_)
 obtain ⟨o',hs',ht'⟩:=o.back x2
 rw [hry] at fin
 obtain ⟨hz,fin⟩:=zga_ (show Fin K (Mo.lim (m.length+1) (k a y)) E LS LB O F0 H0 D from fin)
 obtain ⟨p',kvs',e1',hp',hr',mm⟩:=zc6_ (hL'.mono hs') hi o'
 rw [e1] at e1'; cases e1'
 obtain ⟨h',a1,a2⟩:=mm (putA m y a) (putK kvs' (KY.key y) v) (zjO_ hr' y (T.mono hs' hv'))
 unfold atD
 simp only
 rw [KY.of hv2]
 refine ⟨kvs',hp',?_,hk a y F0 H0 σ _ h' _ D a1 a2 fin⟩
 have:=Paired.length hr'
 lia
end
end L2
namespace L2
open PySem PySem.Spec PyProof.Rows
section
variable {α κ:Type} [DecidableEq κ]
end
section
variable {α:Type}
end
end L2
namespace L2
open PySem PySem.Spec PyProof.Rows
section
variable {K:Fgg}{E:XK}
end
end L2
namespace Att
open PySem PySem.W PySem.Calls PyProof.Rows
theorem zkD_ {ns:List Int}(h:WData.layableAll [WData.list (ns.map WData.int)]=true):∀ x∈ns,Builtin.Int.intBits x≤1048576:=by
 intro x hx
 have h1:=layableW_arg h _ (List.mem_singleton.mpr rfl)
 have h2:=layableW_item h1 (.int x) (List.mem_map.mpr ⟨x,hx,rfl⟩)
 exact PyData.bits_of_layable (layable_int h2)
theorem attach_callB {l:OpenLaw}{n:Nat}{q:Program}{loose:List Str}{XP:(Str→Option Value)→Heap→Prop}{YP:World→Heap→Prop}{d:DefRec}
  (hn:l.most=some n) (hdf:d.params.defaults=[])
  (call:∀ (w:World) (s₀ s₁:Shared) (mg mb:Str→Option Value) (fa:Addr) (o:Obj) (pm cd doc:Value) (a:Addr) (vs:List Value) (ns:List Int),
   (∀ x∈ns,Builtin.Int.intBits x≤1048576) →
   Ground q loose [] XP w s₀ mg mb s₁.heap→YP w s₁.heap →
   s₁.heap.get? fa=some o→o.data=.func (docDef d.name d.params d.body d.scope pm cd doc)→s₁.heap.CodeRec cd d.name→mg d.name=some (.ref fa) →
   s₁.heap.get? a=some { cls:=.type "list",data:=.seq vs.toArray }→IntsAre vs ns→ns.length≤n→s₁.gens=#[] →
   codeAny (model l.prog w) callerA (.call (.ref fa) ⟨[.ref a],[]⟩) (fun r s'=>r=.ok (.ret (.bool true))∧OldK s₁.heap s'.heap∧s'.os=s₁.os∧AllBare s'.gens) s₁) :
  WalkO q loose XP YP l.row.toRowW d [] (fun f vs=>PySem.call f vs):=by
 intro w s₀ s₁ mg mb G Y fa o pm cd doc dV kV ho hd hcd hD hmg hg args vals as hpre hlay hrd hwl hlo
 obtain rfl:dV=.none:=Dflts.none hD hdf
 obtain rfl:kV=.none:=Dflts.noKw hD
 obtain ⟨a,vs,ns,rfl,rfl,hobj,hints,hlen⟩:=zi9_ hn hpre hwl
 refine enter_call (codeAny_mono (call w s₀ s₁ mg mb fa o pm cd doc a vs ns (zkD_ hlay) G Y ho (fd_plain hd) hcd hmg hobj hints hlen hg) fun r s' hq=>?_)
 obtain ⟨rfl,h2,h3,h4⟩:=hq
 exact ⟨.inl ⟨.bool true,.bool true,[],rfl,fun _=>rfl,.bool true,ziV_ l _,fun _=>⟨List.Pairwise.nil,fun _ hm=>(nomatch hm)⟩⟩,h2,h3,h4⟩
end Att
namespace L2
open PySem PySem.Spec PyProof.Rows
theorem zkh_ {l:PySem.W.OpenLaw}{n k:Nat}{q:Program}{loose:List Str}{XP:(Str→Option Value)→Heap→Prop}{YP:World→Heap→Prop}{d:DefRec}{K:Params→Fgg}{CX:World→CXT}{sp:World→Sp}{x:Str}
  (hn:l.most=some n) (hn2:n≤sizeLine) (hdf:d.params.defaults=[]) (hr:Room k callerA)
  (hY:∀ (w:World) (h:Heap),YP w h→(K w.params).In h)
  (F:∀ (w:World) (mg:Str→Option Value) (fa:Addr) (h:Heap),(K w.params).In h→h.Ns mainGlobals mg→mg d.name=some (.ref fa) →
   ∃ fd:FuncData,(∀ (s:Shared) (u:Value),BindsTo s fd ⟨[u],[]⟩ [(x,u)]) ∧
    ∀ base:Heap,(K w.params).In base→base.Ns mainGlobals mg→FnOk l.prog w (K w.params) mg base (CX w) k fa fd [x] (sp w))
  (hsp:∀ (w:World) (H:Hp) (a:Addr) (ns:List Int),ns.length≤n→(∀ x∈ns,Builtin.Int.intBits x≤1048576)→Only H→SqL (K w.params) H a (ns.map V.int)→sp w [.ref a] H (fun v _=>v=.bl true) fun _ _ _=>False)
  (hCX:∀ (w:World) (H:Hp) (s:Shared) (e:Value) (s':Shared),CX w [] H s (fun _ _ _=>False) e s'→False) :
  PySem.W.WalkO q loose XP YP l.row.toRowW d [] (fun f vs=>PySem.call f vs):=by
 refine Att.attach_callB hn hdf fun w s₀ s₁ mg mb fa o pm cd doc a vs ns hbits G Y ho hd hcd hmg hobj hints hlen hg=>?_
 have KX:=hY w _ Y
 obtain ⟨fd,hb,hF⟩:=F w mg fa _ KX G.T.g hmg
 exact zk8_ KX G.T.g G.T.b G.T.builtins G.T.nolimit hg hobj hints (Nat.le_trans hlen hn2) hr hF hb (fun H hO hS=>hsp w H a ns hlen hbits hO hS) fun H e s'=>hCX w H s₁ e s'
abbrev BitsOk (ns:List Int):Prop:=∀ x∈ns,Builtin.Int.intBits x≤1048576
end L2
namespace L2
open PySem PySem.Spec PyProof.Rows PySem.W
section
variable {α β:Type}
def okT (lt:Nat→Nat→Bool) (n:Nat):KasT α→(α→Prop)→Prop
 | .ret a,P=>P a
 | .ask i j k,P=>i<n∧j<n∧okT lt n (k (lt i j)) P
variable {lt:Nat→Nat→Bool}{n:Nat}
theorem zcw_ {f:α→KasT β}{P:β→Prop}:∀ (t:KasT α),okT lt n t (fun a=>okT lt n (f a) P)→okT lt n (t.bind f) P
 | .ret _,h=>h
 | .ask i j k,h=>⟨h.1,h.2.1,zcw_ (k (lt i j)) h.2.2⟩
theorem za4_ {P Q:α→Prop}(hq:∀ a,P a→Q a):∀ (t:KasT α),okT lt n t P→okT lt n t Q
 | .ret _,h=>hq _ h
 | .ask i j k,h=>⟨h.1,h.2.1,za4_ hq (k (lt i j)) h.2.2⟩
theorem zlT_ {prog:Program}{w:World}{A:Around}{κ:SortKind}{vs:List Value}{s:Shared}{P:α→Prop}{Q:α→Shared→Prop}
  (cm:∀ i j (C:Bool→Shared→Prop),i<n→j<n→C (lt i j) s→kas_ask prog w A κ vs i j C s) (hq:∀ a,P a→Q a s):∀ t:KasT α,okT lt n t P→t.kasWp (kas_ask prog w A κ vs) Q s
 | .ret a,h=>hq a h
 | .ask i j k,h=>cm i j (fun b s'=>(k b).kasWp (kas_ask prog w A κ vs) Q s') h.1 h.2.1 (zlT_ cm hq (k (lt i j)) h.2.2)
structure WOr (lt:Nat→Nat→Bool):Prop where
 asym:∀ {a b},lt a b=true→lt b a=false
 tr:∀ {a b c},lt b a=false→lt c b=false→lt c a=false
abbrev le (lt:Nat→Nat→Bool) (a b:Nat):Prop:=lt b a=false
theorem WOr.refl (w:WOr lt) (a:Nat):le lt a a:=by
 cases h:lt a a with
 | false=>exact h
 | true=>exact w.asym h
abbrev Pm (p:Array Nat) (n:Nat):Prop:=p.toList.Perm (List.range n)
theorem zdB_ {p:Array Nat}(h:Pm p n):p.size=n:=by have:=h.length_eq; rwa [List.length_range,Array.length_toList] at this
theorem ziv_ {p:Array Nat}(h:Pm p n) {i:Nat}(hi:i<n):p.getD i 0<n:=by
 have hs:=zdB_ h
 have:p.getD i 0=p[i]'(by lia):=by simp [Array.getD,hs,hi]
 rw [this]
 exact List.mem_range.mp (h.mem_iff.mp (by simp))
theorem zbi_ {p q:Array Nat}{i j:Nat}(h:p[i]?=q[j]?):p.getD i 0=q.getD j 0:=by
 rw [Array.getD_eq_getD_getElem?,Array.getD_eq_getD_getElem?,h]
theorem zh9_ {p:Array Nat}(h:Pm p n) (i j:Nat):Pm (kas_rev p i j) n:=(Array.perm_iff_toList_perm.mp (mirror_perm p i j _)).trans h
theorem zeW_ {p:Array Nat}{i j:Nat}(hj:j≤p.size) (k:Nat):(kas_rev p i j).getD k 0=if i≤k∧k<j then p.getD (i+j-1-k) 0 else p.getD k 0:=by
 have:=getElem?_mirror_all (xs:=p) (i:=i) hj k
 split
 ·rename_i q; rw [if_pos q] at this; exact zbi_ this
 ·rename_i q; rw [if_neg q] at this; exact zbi_ this
def Asc (lt:Nat→Nat→Bool) (p:Array Nat) (k:Nat):Prop:=∀ i j,i≤j→j<k→le lt (p.getD i 0) (p.getD j 0)
def Dsc (lt:Nat→Nat→Bool) (p:Array Nat) (k:Nat):Prop:=∀ i j,i≤j→j<k→le lt (p.getD j 0) (p.getD i 0)
theorem Asc.one (w:WOr lt) (p:Array Nat):Asc lt p 1:=fun i j a b=>by
 obtain rfl:i=j:=by lia
 exact w.refl _
theorem zkm_ (w:WOr lt) {p:Array Nat}(hp:Pm p n):∀ (f m:Nat),1≤m→m+f≤n→Asc lt p m→okT lt n (kas_asc p f m) (fun r=>m≤r∧r≤m+f∧Asc lt p r∧(r<m+f→lt (p.getD r 0) (p.getD (r-1) 0)=true))
 | 0,m,h1,hm,ha=>⟨Nat.le_refl _,Nat.le_refl _,ha,fun h=>absurd h (Nat.lt_irrefl _)⟩
 | f+1,m,h1,hm,ha=>by
  refine ⟨ziv_ hp (by lia),ziv_ hp (by lia),?_⟩
  show okT lt n (if lt (p.getD m 0) (p.getD (m-1) 0)=true then KasT.ret m else kas_asc p f (m+1)) _
  cases h:lt (p.getD m 0) (p.getD (m-1) 0) with
  | true=>rw [if_pos rfl]; exact ⟨Nat.le_refl _,by lia,ha,fun _=>h⟩
  | false =>
   rw [if_neg (by decide)]
   refine za4_ (fun r q=>⟨by lia,by lia,q.2.2.1,fun z=>q.2.2.2 (by lia)⟩) _ (zkm_ w hp f (m+1) (by lia) (by lia) fun i j hij hj=>?_)
   by_cases e:j<m
   ·exact ha i j hij e
   ·obtain rfl:j=m:=by lia
    by_cases e2:i=j
    ·subst e2; exact w.refl _
    ·exact w.tr (ha i (j-1) (by lia) (by lia)) h
theorem zmA_ (w:WOr lt) {p:Array Nat}{m q:Nat}(hm:m≤p.size) (hq:q+1≤m) (hd:Dsc lt p m) (he:∀ i,m-(q+1)≤i→i<m→le lt (p.getD i 0) (p.getD (m-1) 0)):Dsc lt (kas_rev p (m-(q+1)) m) m:=by
 intro i j hij hj
 have r1:=zeW_ (p:=p) (i:=m-(q+1)) hm i
 have r2:=zeW_ (p:=p) (i:=m-(q+1)) hm j
 show lt _ _=false
 rw [r1,r2]
 by_cases a:m-(q+1)≤i
 ·rw [if_pos ⟨a,by omega⟩,if_pos ⟨by omega,hj⟩]
  exact w.tr (he _ (by omega) (by omega)) (hd _ (m-1) (by omega) (by omega))
 ·rw [if_neg (fun z=>a z.1)]
  by_cases b:m-(q+1)≤j
  ·rw [if_pos ⟨b,hj⟩]; exact hd _ _ (by omega) (by omega)
  ·rw [if_neg (fun z=>b z.1)]; exact hd _ _ hij hj
theorem zhy_ (w:WOr lt):∀ (f:Nat) (p:Array Nat) (m q:Nat),Pm p n→q+1≤m→m+f≤n→Dsc lt p m→(∀ i,m-(q+1)≤i→i<m→le lt (p.getD i 0) (p.getD (m-1) 0)) →
  okT lt n (kas_desc f p m q) (fun r=>Pm r.1 n∧r.2.2+1≤r.2.1∧r.2.1≤m+f∧Dsc lt r.1 r.2.1∧∀ i,r.2.1-(r.2.2+1)≤i→i<r.2.1→le lt (r.1.getD i 0) (r.1.getD (r.2.1-1) 0))
 | 0,p,m,q,hp,h1,hm,hd,he=>⟨hp,h1,Nat.le_refl _,hd,he⟩
 | f+1,p,m,q,hp,h1,hm,hd,he=>by
  have hsz:=zdB_ hp
  refine ⟨ziv_ hp (by lia),ziv_ hp (by lia),?_⟩
  cases h:lt (p.getD m 0) (p.getD (m-1) 0) with
  | true =>
   dsimp only
   rw [if_pos rfl]
   have fin:∀ p1:Array Nat,Pm p1 n→Dsc lt p1 m→p1.getD m 0=p.getD m 0→(∀ i,i<m→le lt (p.getD (m-1) 0) (p1.getD i 0))→okT lt n (kas_desc f p1 (m+1) 0) (fun r=>Pm r.1 n∧r.2.2+1≤r.2.1∧r.2.1≤m+(f+1)∧Dsc lt r.1 r.2.1∧∀ i,r.2.1-(r.2.2+1)≤i→i<r.2.1→le lt (r.1.getD i 0) (r.1.getD (r.2.1-1) 0)):=by
    intro p1 hp1 hd1 e1 hb
    refine za4_ (fun r q=>⟨q.1,q.2.1,by lia,q.2.2.2⟩) _ (zhy_ w f p1 (m+1) 0 hp1 (by lia) (by lia) (fun i j hij hj=>?_) fun i a b=>?_)
    ·by_cases e:j<m
     ·exact hd1 i j hij e
     ·obtain rfl:j=m:=by lia
      by_cases e2:i=j
      ·subst e2; exact w.refl _
      ·rw [e1]; exact w.tr (w.asym h) (hb i (by lia))
    ·obtain rfl:i=m:=by lia
     exact w.refl _
   by_cases hq:q > 0
   ·rw [if_pos hq]
    refine fin _ (zh9_ hp _ _) (zmA_ w (by lia) h1 hd he) ?_ fun i hi=>?_
    ·rw [zeW_ (by lia),if_neg (by lia)]
    ·rw [zeW_ (by lia)]
     split
     ·exact hd _ _ (by lia) (by lia)
     ·exact hd _ _ (by lia) (by lia)
   ·rw [if_neg hq]
    exact fin p hp hd rfl fun i hi=>hd _ _ (by lia) (by lia)
  | false =>
   dsimp only
   rw [if_neg (by decide)]
   refine ⟨ziv_ hp (by lia),ziv_ hp (by lia),?_⟩
   cases h2:lt (p.getD (m-1) 0) (p.getD m 0) with
   | true=>dsimp only; rw [if_pos rfl]; exact ⟨hp,h1,by show m≤m+(f+1); lia,hd,he⟩
   | false =>
    dsimp only
    rw [if_neg (by decide)]
    refine za4_ (fun r q=>⟨q.1,q.2.1,by lia,q.2.2.2⟩) _ (zhy_ w f p (m+1) (q+1) hp (by lia) (by lia) (fun i j hij hj=>?_) fun i a b=>?_)
    ·by_cases e:j<m
     ·exact hd i j hij e
     ·obtain rfl:j=m:=by lia
      by_cases e2:i=j
      ·subst e2; exact w.refl _
      ·exact w.tr h2 (hd i (j-1) (by lia) (by lia))
    ·show le lt (p.getD i 0) (p.getD m 0)
     by_cases e:i=m
     ·subst e; exact w.refl _
     ·exact w.tr (he i (by lia) (by lia)) h
abbrev Got (lt:Nat→Nat→Bool) (n:Nat) (r:Nat×Array Nat):Prop:=Pm r.2 n∧r.1≤n∧Asc lt r.2 r.1
theorem zie_ (w:WOr lt) {p:Array Nat}{m:Nat}(hp:Pm p n) (h1:1≤m) (hm:m≤n) (hd:Dsc lt p m):okT lt n (kas_tail3 m n p) (Got lt n):=by
 have hsz:=zdB_ hp
 refine zcw_ _ (za4_ (fun r q=>?_) _ (zkm_ w (zh9_ hp 0 m) (n-m) m h1 (by omega) fun i j hij hj=>?_))
 ·exact ⟨zh9_ hp 0 m,by show r≤n; omega,q.2.2.1⟩
 ·rw [zeW_ (by omega),zeW_ (by omega),if_pos (by omega),if_pos (by omega)]
  exact hd _ _ (by omega) (by omega)
theorem zeb_ (w:WOr lt) {p:Array Nat}{m:Nat}(hp:Pm p n) (hm:m+1≤n) (hd:Dsc lt p (m+1)):okT lt n (kas_descPart m n p) (Got lt n):=by
 refine zcw_ _ (za4_ (fun r q=>?_) _ (zhy_ w (n-(m+1)) p (m+1) 0 hp (by lia) (by lia) hd fun i a b=>?_))
 ·obtain ⟨q1,q2,q3,q4,q5⟩:=q
  have hsz:=zdB_ q1
  by_cases z:r.2.2 > 0
  ·rw [if_pos z]
   exact zie_ w (zh9_ q1 _ _) (by lia) (by lia) (zmA_ w (by lia) q2 q4 q5)
  ·rw [if_neg z]
   exact zie_ w q1 (by lia) (by lia) q4
 ·obtain rfl:i=m:=by lia
  exact w.refl _
theorem zld_ (w:WOr lt) {p:Array Nat}(hp:Pm p n) (hn:1≤n):okT lt n (kas_count n p) (Got lt n):=by
 have hsz:=zdB_ hp
 refine zcw_ _ (za4_ (fun m q=>?_) _ (zkm_ w hp (n-1) 1 (Nat.le_refl _) (by lia) (Asc.one w p)))
 obtain ⟨q1,q2,q3,q4⟩:=q
 by_cases e:m=n
 ·rw [if_pos (by simp [e])]; exact ⟨hp,by show m≤n; lia,q3⟩
 ·rw [if_neg (by simp [e])]
  have hl:=q4 (by lia)
  by_cases z:m > 1
  ·rw [if_pos z]
   refine ⟨ziv_ hp (by lia),ziv_ hp (by lia),?_⟩
   cases c:lt (p.getD 0 0) (p.getD (m-1) 0) with
   | true=>dsimp only; rw [if_pos rfl]; exact ⟨hp,by show m≤n; lia,q3⟩
   | false =>
    dsimp only
    rw [if_neg (by decide)]
    have hall:∀ a b,a<m→b<m→le lt (p.getD a 0) (p.getD b 0):=fun a b ha hb=>w.tr (w.tr (q3 a (m-1) (by lia) (by lia)) c) (q3 0 b (by lia) hb)
    refine zeb_ w (zh9_ hp 0 m) (by lia) fun i j hij hj=>?_
    rw [zeW_ (by lia),zeW_ (by lia)]
    by_cases a:j<m
    ·rw [if_pos (by lia),if_pos (by lia)]; exact hall _ _ (by lia) (by lia)
    ·obtain rfl:j=m:=by lia
     rw [if_neg (by lia)]
     by_cases b:i<j
     ·rw [if_pos (by lia)]; exact w.tr (w.asym hl) (hall _ _ (by lia) (by lia))
     ·obtain rfl:i=j:=by lia
      rw [if_neg (by lia)]; exact w.refl _
  ·rw [if_neg z]
   obtain rfl:m=1:=by lia
   refine zeb_ w hp (by lia) fun i j hij hj=>?_
   by_cases a:i=j
   ·subst a; exact w.refl _
   ·obtain rfl:i=0:=by lia
    obtain rfl:j=1:=by lia
    exact w.asym hl
theorem zfy_ (w:WOr lt) {p:Array Nat}{k:Nat}(hp:Pm p n) (hk:k<n) (ha:Asc lt p k):∀ (f l r:Nat),l≤r→r≤k→r-l≤f→(∀ i,i<l→le lt (p.getD i 0) (p.getD k 0))→(∀ i,r≤i→i<k→le lt (p.getD k 0) (p.getD i 0)) →
  okT lt n (kas_place p k f l r) (fun m=>m≤k∧(∀ i,i<m→le lt (p.getD i 0) (p.getD k 0))∧∀ i,m≤i→i<k→le lt (p.getD k 0) (p.getD i 0))
 | 0,l,r,h1,h2,h3,h4,h5=>⟨by show l≤k; omega,h4,fun i a b=>h5 i (by omega) b⟩
 | f+1,l,r,h1,h2,h3,h4,h5=>by
  unfold kas_place
  by_cases e:l ≥ r
  ·rw [if_pos e]; exact ⟨by show l≤k; omega,h4,fun i a b=>h5 i (by omega) b⟩
  ·rw [if_neg e]
   refine ⟨ziv_ hp hk,ziv_ hp (by omega),?_⟩
   cases c:lt (p.getD k 0) (p.getD ((l+r) / 2) 0) with
   | true =>
    dsimp only
    rw [if_pos rfl]
    refine zfy_ w hp hk ha f l ((l+r) / 2) (by omega) (by omega) (by omega) h4 fun i a b=>?_
    exact w.tr (w.asym c) (ha _ _ a b)
   | false =>
    dsimp only
    rw [if_neg (by decide)]
    refine zfy_ w hp hk ha f ((l+r) / 2+1) r (by omega) h2 (by omega) (fun i hi=>?_) h5
    exact w.tr (ha i ((l+r) / 2) (by omega) (by omega)) c
theorem zlK_ (w:WOr lt):∀ (f:Nat) (p:Array Nat) (k:Nat),Pm p n→k+f=n→Asc lt p k→okT lt n (kas_bin f p k) (fun r=>Pm r n∧Asc lt r n)
 | 0,p,k,hp,hk,ha=>⟨hp,(show k=n by lia) ▸ ha⟩
 | f+1,p,k,hp,hk,ha=>by
  have hsz:=zdB_ hp
  refine zcw_ _ (za4_ (fun l q=>?_) _ (zfy_ w hp (by lia) ha k 0 k (by lia) (Nat.le_refl _) (by lia) (fun i hi=>absurd hi (by lia)) fun i a b=>absurd b (by lia)))
  obtain ⟨q1,q2,q3⟩:=q
  have hb:∀ i,(bubble p k (k-l)).getD i 0=if i=l then p.getD k 0 else if l<i∧i≤k then p.getD (i-1) 0 else p.getD i 0:=fun i=>by
   have:=getElem?_bubble (xs:=p) (src:=k) (by lia) (k-l) (by lia) i
   rw [show k-(k-l)=l by lia] at this
   split
   ·rename_i z; rw [if_pos z] at this; exact zbi_ this
   ·rename_i z
    rw [if_neg z] at this
    split
    ·rename_i y; rw [if_pos y] at this; exact zbi_ this
    ·rename_i y; rw [if_neg y] at this; exact zbi_ this
  refine zlK_ w f _ (k+1) ((Array.perm_iff_toList_perm.mp (bubble_perm p k _)).trans hp) (by lia) fun i j hij hj=>?_
  rw [hb,hb]
  by_cases e1:i=l
  ·rw [if_pos e1]
   by_cases e2:j=l
   ·rw [if_pos e2]; exact w.refl _
   ·rw [if_neg e2,if_pos (by lia)]; exact q3 _ (by lia) (by lia)
  ·rw [if_neg e1]
   by_cases e2:j=l
   ·rw [if_pos e2,if_neg (by lia)]; exact q2 _ (by lia)
   ·rw [if_neg e2]
    by_cases e3:l<i
    ·rw [if_pos (by lia),if_pos (by lia)]; exact ha _ _ (by lia) (by lia)
    ·rw [if_neg (by lia)]
     by_cases e4:l<j
     ·rw [if_pos (by lia)]; exact ha _ _ (by lia) (by lia)
     ·rw [if_neg (by lia)]; exact ha _ _ hij (by lia)
theorem zly_ (w:WOr lt) (hn:1≤n):okT lt n (kas_sort n) (fun r=>Pm r n∧Asc lt r n):=by
 have h0:Pm (List.toArray (List.range n)) n:=by simp [Pm]
 refine zcw_ _ (za4_ (fun r q=>?_) _ (zld_ w h0 hn))
 obtain ⟨q1,q2,q3⟩:=q
 by_cases e:r.1<n
 ·rw [if_pos e]
  refine zlK_ w _ _ _ q1 (by lia) ?_
  by_cases e1:r.1=0
  ·rw [e1]; exact Asc.one w _
  ·rw [Nat.max_eq_left (by lia)]; exact q3
 ·rw [if_neg e]
  obtain e:r.1=n:=by lia
  rw [e] at q3
  exact ⟨q1,q3⟩
end
section
variable {prog:Program}{w:World}{A:Around}{E:Value→Shared→Prop}{s:Shared}{vs:List Value}{lt:Nat→Nat→Bool}
def CmpAt (prog:Program) (w:World) (vs:List Value) (lt:Nat→Nat→Bool) (s:Shared):Prop :=
 ∃ κ,(∀ (A:Around) (C:SortKind→Shared→Prop),C κ s→wpAny (model prog w) A (keyKind' vs.toArray) C (fun _ _=>False) s) ∧
  ∀ (A:Around) i j (C:Bool→Shared→Prop),i<vs.length→j<vs.length→C (lt i j) s→kas_ask prog w A κ vs i j C s
def Srtd (lt:Nat→Nat→Bool) (n:Nat) (p:List Nat):Prop:=p.Perm (List.range n)∧p.Pairwise (le lt)
theorem zmP_ {n:Nat}{p:Array Nat}(h:Pm p n∧Asc lt p n):Srtd lt n p.toList:=by
 refine ⟨h.1,List.pairwise_iff_getElem.mpr fun i j hi hj hij=>?_⟩
 have hs:=zdB_ h.1
 rw [Array.length_toList] at hi hj
 have:=h.2 i j (by lia) (by lia)
 have e:∀ k (hk:k<p.size),p.getD k 0=p.toList[k]'(by simpa using hk):=fun k hk=>by simp [Array.getD,hk]
 rwa [e i hi,e j hj] at this
def RunB (b:Nat):Prop:=b≤1000∧∀ {prog:Program}{w:World}{A:Around}{E:Value→Shared→Prop}{s:Shared}{vs:List Value}{lt:Nat→Nat→Bool}{κ:SortKind},2≤vs.length→vs.length<b→WOr lt →
 (∀ (A:Around) i j (C:Bool→Shared→Prop),i<vs.length→j<vs.length→C (lt i j) s→kas_ask prog w A κ vs i j C s) →
 wpAny (model prog w) A ((sortRuns').run (SortSt.mk' κ (vs.toArray.zip vs.toArray) #[] 7 none)) (fun r s'=>s'=s∧∃ p:List Nat,(arrOf r.2).map (·.2)=(p.map fun i=>vs.getD i Value.none).toArray∧failedOf r.2=none∧Srtd lt vs.length p) E s
theorem runB64:RunB 64:=by
 refine ⟨by decide,fun {prog w A E s vs lt κ} hn2 h64 wo k2=>?_⟩
 refine wpAny_mono (kat_run (Q:=fun st' s'=>s'=s∧∃ p:Array Nat,p.size=vs.length∧arrOf st'=p.map (kas_item (vs.toArray.zip vs.toArray))∧failedOf st'=none∧(Pm p vs.length∧Asc lt p vs.length)) (G:=fun p s'=>s'=s∧(Pm p vs.length∧Asc lt p vs.length))
   rfl hn2 h64 (fun p' st' s' a1 a2 a3 a4=>⟨a4.1,p',a1,a2,a3,a4.2⟩) (zlT_ (P:=fun r=>Pm r vs.length∧Asc lt r vs.length) (fun i j C hi hj hc=>k2 A i j C hi hj hc) (fun p hp=>⟨rfl,hp⟩) _ (zly_ wo (by lia)))) ?_ fun _ _ e=>e
 rintro ⟨⟨⟩,st'⟩ s' ⟨rfl,p,hp,har,hf,hpp⟩
 exact ⟨rfl,p.toList,kat_snds rfl har,hf,zmP_ hpp⟩
theorem zk6_ {b:Nat}(hB:RunB b) {a:Addr}{n:Nat}{P:PySem.Fin→Shared→Prop}(ho:s.heap.get? a=some (seqObj "list" vs.toArray n)) (h64:vs.length<b) (wo:WOr lt)
  (kk:2≤vs.length→∀ h':Heap,(∀ b o,b≠a→s.heap.get? b=some o→h'.get? b=some o)→CmpAt prog w vs lt { s with heap:=h' })
  (q:∀ (h':Heap) c (p:List Nat),(∀ b o,b≠a→s.heap.get? b=some o→h'.get? b=some o)→Srtd lt vs.length p→h'.get? a=some (seqObj "list" (p.map fun i=>vs.getD i Value.none).toArray c)→P (.done (.ret .none)) { s with heap:=h' }) :
  wpAny (model prog w) A (Builtin.«list.sort» ⟨[.ref a],[]⟩) P E s:=by
 have hB1:=hB.1
 have ha:a<s.heap.objs.size:=Heap.lt_size ho
 have s1:=Heap.SameBut.update s.heap a (Obj.mapSeq fun _=>(#[]:Array Value))
 obtain ⟨e1,ho1⟩:∃ e1,(s.heap.update a (Obj.mapSeq fun _=>(#[]:Array Value))).get? a=some (seqObj "list" #[] e1):=⟨_,get?_update_seq ho fun _=>#[]⟩
 have kp:∀ b o,b≠a→s.heap.get? b=some o→(((s.heap.update a (Obj.mapSeq fun _=>(#[]:Array Value))).push (seqObj "tuple" vs.toArray 0)).push (seqObj "list" #[] 0)).get? b=some o:=fun b o hb e =>
  Heap.get?_push_of_some _ (Heap.get?_push_of_some _ ((s1.2 b hb).trans e))
 have na:(((s.heap.update a (Obj.mapSeq fun _=>(#[]:Array Value))).push (seqObj "tuple" vs.toArray 0)).push (seqObj "list" #[] 0)).get? a=some (seqObj "list" #[] e1):=Heap.get?_push_of_some _ (Heap.get?_push_of_some _ ho1)
 rw [list_sort_plain]
 refine wpAny_bind (listItems_at ho rfl ?_)
 refine wpAny_bind (listUpdate_at ho rfl ?_ (by rw [List.size_toArray,sizeLine_eq]; lia) (Nat.zero_le _))
 refine wpAny_bind (seqEpoch_at ho1 rfl ?_)
 refine wpAny_bind (wpAny_newTuple ?_ (by show vs.length≤_; rw [sizeLine_eq]; lia))
 refine wpAny_bind (wpAny_newList ?_ (Nat.zero_le _))
 refine wpAny_holding ?_
 show wpAny (model prog w) A _ P E { s with heap:=((s.heap.update a (Obj.mapSeq fun _=>(#[]:Array Value))).push (seqObj "tuple" vs.toArray 0)).push (seqObj "list" #[] 0) }
 generalize hh:((s.heap.update a (Obj.mapSeq fun _=>(#[]:Array Value))).push (seqObj "tuple" vs.toArray 0)).push (seqObj "list" #[] 0)=h2 at kp na
 dsimp only
 have fin:∀ (st':SortSt) (p:List Nat),(arrOf st').map (·.2)=(p.map fun i=>vs.getD i Value.none).toArray→failedOf st'=none→Srtd lt vs.length p→wpAny (model prog w) A (do
   let touched:=(← seqEpoch a) != e1
   Builtin.List.listUpdate (.ref a) fun _=>(arrOf st').map (·.2)
   if let some e:=failedOf st' then rule "list.sort.comparison-raised"; throw e
   if touched then rule "list.sort.modified"; raiseError "ValueError" "list modified during sort"
   ret .none) P E { s with heap:=h2 }:=by
  intro st' p hout hf hp
  rw [hout,hf]
  have hsz:(List.toArray (p.map fun i=>vs.getD i Value.none)).size=vs.length:=by rw [List.size_toArray,List.length_map,hp.1.length_eq,List.length_range]
  have s2:=Heap.SameBut.update h2 a (Obj.mapSeq fun _=>List.toArray (p.map fun i=>vs.getD i Value.none))
  obtain ⟨c2,hc2⟩:∃ c2,(h2.update a (Obj.mapSeq fun _=>List.toArray (p.map fun i=>vs.getD i Value.none))).get? a=some (seqObj "list" (List.toArray (p.map fun i=>vs.getD i Value.none)) c2):=⟨_,get?_update_seq na fun _=>List.toArray (p.map fun i=>vs.getD i Value.none)⟩
  refine wpAny_bind (seqEpoch_at (s:={ s with heap:=h2 }) na rfl ?_)
  refine wpAny_bind (listUpdate_at (s:={ s with heap:=h2 }) na rfl ?_ (Nat.zero_le _) (Nat.le_trans (Nat.le_of_eq hsz) (by rw [sizeLine_eq]; lia)))
  simp only [bne_self_eq_false,Bool.false_eq_true,if_false]
  exact wpAny_pure (q _ c2 p (fun b o hb e=>(s2.2 b hb).trans (kp b o hb e)) hp hc2)
 by_cases hn2:2≤vs.length
 ·have hn2':¬ vs.toArray.size<2:=by rw [List.size_toArray]; lia
  rw [if_neg hn2',if_neg hn2']
  obtain ⟨κ,k1,k2⟩:=kk hn2 h2 kp
  refine wpAny_bind (wpAny_mono (k1 A (fun κ' s'=>κ'=κ∧s'={ s with heap:=h2 }) ⟨rfl,rfl⟩) (fun κ' s0 hk=>?_) fun _ _ x=>x.elim)
  obtain ⟨rfl,rfl⟩:=hk
  refine wpAny_bind (wpAny_mono (hB.2 hn2 h64 wo k2) ?_ fun _ _ e=>e)
  rintro ⟨⟨⟩,st'⟩ s' ⟨rfl,p,hout,hf,hpp⟩
  exact fin st' p hout hf hpp
 ·have hn2':vs.toArray.size<2:=by rw [List.size_toArray]; lia
  rw [if_pos hn2',if_pos hn2']
  refine wpAny_bind (wpAny_pure ?_)
  refine wpAny_bind (wpAny_pure ?_)
  refine fin _ (List.range vs.length) ?_ rfl ⟨List.Perm.refl _,?_⟩
  ·show ((vs.toArray.zip vs.toArray).map (·.2))=_
   apply Array.toList_inj.mp
   rw [Array.toList_map,Array.toList_zip]
   have e:∀ l:List Value,(l.zip l).map (·.2)=l:=fun l=>by
    induction l with
    | nil=>rfl
    | cons x l ih=>rw [List.zip_cons_cons,List.map_cons,ih]
   show (vs.zip vs).map (·.2)=(List.range vs.length).map fun i=>vs.getD i Value.none
   rw [e]
   apply List.ext_getElem?
   intro i
   by_cases hi:i<vs.length
   ·simp [hi]
   ·simp [List.getElem?_eq_none,hi,Nat.le_of_not_lt hi]
  ·rcases (show vs.length=0∨vs.length=1 by lia) with e | e
   ·rw [e]; exact .nil
   ·rw [e]; exact List.pairwise_singleton _ _
end
end L2
namespace L2
open PySem PySem.Spec PyProof.Rows PySem.W
def knd:V→Nat | .int _=>1 | .str _=>2 | _=>0
def ltF:V→V→Bool | .int a,.int b=>decide (a<b) | .str a,.str b=>decide (a.cps.toList<b.cps.toList) | _,_=>false
def eqF:V→V→Bool | .int a,.int b=>a == b | .str a,.str b=>decide (a=b) | _,_=>false
section
variable {prog:Program}{w:World}{A:Around}{E:Value→Shared→Prop}{s:Shared}{Q:Bool→Shared→Prop}
theorem zc7_ {x:V}(h:knd x≠0):(∃ i,x=.int i)∨∃ z,x=.str z:=by
 cases x<;>first | exact .inl ⟨_,rfl⟩ | exact .inr ⟨_,rfl⟩ | exact absurd rfl h
theorem zlC_ {x y:V}{u v:Value}{b:Bool}(hx:RelV x u) (hy:RelV y v) (hk:knd x=knd y) (h0:knd x≠0) (q:Q (ltF x y) s):wpAny (model prog w) A (oneLt' b u v) Q E s:=by
 rcases zc7_ h0 with ⟨i,rfl⟩ | ⟨z,rfl⟩
 ·rcases zc7_ (x:=y) (fun e=>h0 (hk.trans e)) with ⟨j,rfl⟩ | ⟨z,rfl⟩
  ·obtain ⟨t,rfl⟩:=hx
   obtain ⟨t',rfl⟩:=hy
   cases b with
   | true=>exact oneLt_int q
   | false=>exact kat_one _ _ (PyProof.Rows.lt_int q)
  ·cases hk
 ·rcases zc7_ (x:=y) (fun e=>h0 (hk.trans e)) with ⟨j,rfl⟩ | ⟨z',rfl⟩
  ·cases hk
  ·obtain ⟨t,rfl⟩:=hx
   obtain ⟨t',rfl⟩:=hy
   cases b with
   | true=>exact oneLt_str q
   | false=>exact kat_one _ _ (PyProof.Rows.lt_str q)
end
def tyK (k:Nat):Value:=if k=1 then .type "int" else .type "str"
theorem zlR_ {M:Model}{h:Heap}{x:V}{u:Value}{k:Nat}(r:RelV x u) (hk:knd x=k) (h0:k≠0):Looks M h (typeOf u) (tyK k):=by
 subst hk
 rcases zc7_ h0 with ⟨i,rfl⟩ | ⟨z,rfl⟩
 ·obtain ⟨t,rfl⟩:=r
  exact .now
 ·obtain ⟨t,rfl⟩:=r
  exact .now
theorem zns_ (k:Nat):(tyK k != Value.type "tuple")=true:=by unfold tyK; split<;>decide +kernel
theorem znX_ (k:Nat):(tyK k == tyK k)=true:=by unfold tyK; split<;>decide +kernel
theorem zc9_ {ys:List V}{us:List Value}(r:Vals ys us) {i:Nat}(h:i<us.length):∃ y,ys[i]?=some y∧RelV y (us.getD i Value.none)∧y∈ys:=by
 have hl:=Vals.length r
 have e:ys[i]?=some ys[i]:=List.getElem?_eq_getElem (by omega)
 obtain ⟨u,eu,ru⟩:=Vals.get r e
 refine ⟨_,e,?_,List.getElem_mem _⟩
 rw [List.getD_eq_getElem?_getD,eu]
 exact ru
theorem zh7_ {ys:List V}{us:List Value}(r:Vals ys us):∀ (idx:List Nat),(∀ i∈idx,i<us.length)→Vals (idx.map fun i=>ys.getD i .non) (idx.map fun i=>us.getD i Value.none)
 | [],_=>.nil
 | i::idx,h=>by
  obtain ⟨y,e,ry,_⟩:=zc9_ r (h i (List.mem_cons_self ..))
  refine .cons ?_ (zh7_ r idx fun j hj=>h j (List.mem_cons_of_mem _ hj))
  show RelV (ys.getD i V.non) _
  rw [List.getD_eq_getElem?_getD,e]
  exact ry
section
variable {X:Cx}
end
end L2
namespace L2
open PySem PySem.Spec PyProof.Rows PySem.W
section
variable {α β:Type}
structure LOr (lt:α→α→Bool):Prop where
 asym:∀ {a b},lt a b=true→lt b a=false
 tr:∀ {a b c},lt b a=false→lt c b=false→lt c a=false
 anti:∀ {a b},lt a b=false→lt b a=false→a=b
def srtL (lt:α→α→Bool) (xs:List α):List α:=xs.mergeSort (fun a b=>!lt b a)
theorem zjj_ (lt:α→α→Bool) (xs:List α):(srtL lt xs).Perm xs:=List.mergeSort_perm _ _
theorem zgI_ {lt:α→α→Bool}(o:LOr lt) (xs:List α):(srtL lt xs).Pairwise fun a b=>lt b a=false:=by
 have:=List.pairwise_mergeSort (le:=fun a b=>!lt b a) (fun a b c h1 h2=>by simp only [Bool.not_eq_true'] at *; exact o.tr h1 h2) (fun a b=>by
  cases h:lt b a with
  | false=>simp
  | true=>simp [o.asym h]) xs
 exact this.imp (fun h=>by simpa using h)
theorem zhe_ {lt:α→α→Bool}(o:LOr lt):∀ {ws ys:List α},ws.Perm ys→ws.Pairwise (fun a b=>lt b a=false)→ys.Pairwise (fun a b=>lt b a=false)→ws=ys
 | [],ys,hp,_,_=>by rw [List.Perm.nil_eq hp]
 | w::ws,[],hp,_,_=>by have:=hp.length_eq; simp at this
 | w::ws,y::ys,hp,h1,h2=>by
  obtain ⟨a1,a2⟩:=List.pairwise_cons.mp h1
  obtain ⟨b1,b2⟩:=List.pairwise_cons.mp h2
  have e:w=y:=by
   have m1:w∈y::ys:=hp.mem_iff.mp (List.mem_cons_self ..)
   have m2:y∈w::ws:=hp.mem_iff.mpr (List.mem_cons_self ..)
   rcases List.mem_cons.mp m1 with e | m1
   ·exact e
   ·rcases List.mem_cons.mp m2 with e | m2
    ·exact e.symm
    ·exact o.anti (b1 w m1) (a1 y m2)
  subst e
  rw [zhe_ o (List.Perm.cons_inv hp) a2 b2]
theorem zi7_ {lt:α→α→Bool}(o:LOr lt) {ws xs:List α}(hp:ws.Perm xs) (hs:ws.Pairwise fun a b=>lt b a=false):ws=srtL lt xs :=
 zhe_ o (hp.trans (zjj_ lt xs).symm) hs (zgI_ o xs)
def ltI (a b:Int):Bool:=decide (a<b)
theorem znA_:LOr ltI:=by
 unfold ltI
 refine ⟨fun h=>?_,fun h h'=>?_,fun h h'=>?_⟩<;>simp only [decide_eq_true_eq,decide_eq_false_iff_not] at*<;> lia
end
end L2
namespace L2
open PySem PySem.Spec PyProof.Rows PySem.W
section
variable {α β γ:Type}{K:Fgg}{E:XK}
def FlT (T:Ty α) (k:Nat) (lt:α→α→Bool):Prop:=k≠0∧∀ a v F,T.R a v F→knd v=k∧∀ b u F',T.R b u F'→ltF v u=lt a b∧(eqF v u=true↔a=b)
theorem znJ_:FlT tyInt 1 ltI:=by
 refine ⟨by decide,fun a v F h=>?_⟩
 subst h
 refine ⟨rfl,fun b u F' h'=>?_⟩
 subst h'
 exact ⟨rfl,by simp [eqF]⟩
theorem zg5_ {T:Ty α}{H:Hp}:∀ {xs:List α}{vs:List V},Prs T H xs vs→∀ (i:Nat) (v:V),vs[i]?=some v→∃ x,xs[i]?=some x∧T.R x v H
 | _,_,.nil,i,v,e=>by simp at e
 | _,_,.cons a t,0,v,e=>by simp at e; subst e; exact ⟨_,rfl,a⟩
 | _,_,.cons a t,i+1,v,e=>zg5_ t i v (by simpa using e)
theorem zju_ {T:Ty α}{H:Hp}{xs:List α}{vs:List V}(r:Prs T H xs vs) (d:α):∀ (idx:List Nat),(∀ i∈idx,i<vs.length)→Prs T H (idx.map fun i=>xs.getD i d) (idx.map fun i=>vs.getD i .non)
 | [],_=>.nil
 | i::idx,h=>by
  have hi:=h i (List.mem_cons_self ..)
  obtain ⟨x,e,rx⟩:=zg5_ r i vs[i] (List.getElem?_eq_getElem hi)
  refine .cons ?_ (zju_ r d idx fun j hj=>h j (List.mem_cons_of_mem _ hj))
  show T.R (xs.getD i d) (vs.getD i .non) H
  rw [List.getD_eq_getElem?_getD,List.getD_eq_getElem?_getD,e,List.getElem?_eq_getElem hi]
  exact rx
theorem zh0_ {lt:α→α→Bool}(o:LOr lt) {xs:List α}{d:α}{idx:List Nat}(h:Srtd (fun i j=>lt (xs.getD i d) (xs.getD j d)) xs.length idx):(idx.map fun i=>xs.getD i d)=srtL lt xs:=by
 refine zi7_ o ?_ ?_
 ·have e:(List.range xs.length).map (fun i=>xs.getD i d)=xs:=by
   apply List.ext_getElem?
   intro i
   by_cases hi:i<xs.length
   ·simp [hi]
   ·simp [List.getElem?_eq_none,hi,Nat.le_of_not_lt hi]
  have:=h.1.map (fun i=>xs.getD i d)
  rwa [e] at this
 ·exact List.pairwise_map.mpr (h.2.imp fun q=>q)
theorem znz_ {lt:α→α→Bool}(o:LOr lt) (f:Nat→α):WOr fun i j=>lt (f i) (f j):=⟨fun h=>o.asym h,fun h h'=>o.tr h h'⟩
end
end L2
universe u
namespace L2
open PySem PySem.Spec PyProof.Rows
section
variable {α γ:Type}{K:Fgg}{E:XK}{L:List Sl}{T:Ty α}{e:TE}
abbrev tyH {γ:Type}(C:Cs γ):Ty γ:=⟨fun c v H=>∃ p us,v=.ref p∧H p=some (.lst us)∧C.R c us H,fun g ⟨p,us,e,h,q⟩=>⟨p,us,e,g _ _ h,C.mono g q⟩⟩
theorem ev_hl {ta:TA}{C:Cs γ}{r:Mo γ}{n:Nat}(hl:CsN C n) (h:EvA K ta E L r C) (hn:n≤100:=by decide):EvF K (tLst ta) E L r (tyH C):=by
 intro σ F H Q hL hs q
 refine h σ F H _ hL hs (q.more.imp fun c F1 H1 x1 k1 vs hvs=>⟨zb7_ (by rw [hl hvs]; lia),fun p hp=>?_⟩)
 have x:=Ext.new (o:=.lst vs) x1.2.1 hp
 exact k1 _ _ x _ ⟨p,vs,rfl,zD_,C.mono x.1 hvs⟩
theorem zbm_ {C:Cs γ}{i:Nat}{pr:γ→α}{r:Mo γ}(ha:CsAt C i T pr) (h:EvF K e E L r (tyH C)):EvF K (tOp (mIx K) e (tC (.int i))) E L (r.bind fun c=>.ok (pr c)) T:=by
 intro σ F H Q hL hs q
 refine h σ F H _ hL hs (q.bind.imp fun c F1 H1 x1 k1 v1 hq_=>?_)
 obtain ⟨p,us,ev,hp,hc⟩:=hq_
 subst ev
 obtain ⟨w,e2,rw'⟩:=ha hc
 refine ⟨us,.inl (.of (x1.2.1 _ _ hp)),?_⟩
 have e3:atI us (i:Int)=some w:=by
  unfold atI
  rw [zk7_ (by lia) (by have:=(List.getElem?_eq_some_iff.mp e2).1; lia)]
  simpa using e2
 rw [e3]
 exact k1.ok x1.2.1 w rw'
end
abbrev owLp {α:Type}(p:Addr) (T:Ty α):Own (List α):=⟨fun xs v F h=>v=.ref p∧∃ vs,h=one p (.lst vs)∧Prs T F xs vs,tyL T,fun g ⟨e,vs,z,q⟩=>⟨e,vs,z,q.mono g⟩,
 fun d ⟨e,vs,z,q⟩=>⟨p,vs,e,zgG_ d _ _ (by rw [z]; exact zbq_),q.mono zcr_⟩,
 fun ⟨e,vs,z,q⟩ b xs y=>by rw [z] at y; unfold one at y; split at y<;>cases y⟩
section
variable {α:Type}{K:Fgg}{E:XK}{L:List Sl}{T:Ty α}{F h H F0 H0:Hp}{ρ B S:Type}{LS:S→List Sl}{LB:B→List Sl}{O:Own ρ}
theorem zgv_ {α:Type u}{l:List α}{i:Nat}{o:α}(h:l[i]?=some o):l.set i o=l:=by
 apply List.ext_getElem?
 intro j
 rw [List.getElem?_set]
 have hlt:=(List.getElem?_eq_some_iff.mp h).1
 by_cases e:i=j
 ·subst e; rw [if_pos rfl,if_pos hlt,h]
 ·rw [if_neg e]
theorem zki_ {i:Nat}{σ:St}{xs:List α}(hL:Hold L σ F h) (hi:L[i]?=some (.ow (owL T) xs)):∃ p,Hold (L.set i (.ow (owLp p T) xs)) σ F h:=by
 obtain ⟨o,h1,h2,e1,j,⟨v,e2,p,vs,rfl,z,hr⟩,f⟩:=hL.at i hi
 subst e2
 have g:=f (.ow (owLp p T) xs) (some (.ref p)) h1 _ j ⟨_,rfl,rfl,vs,z,hr⟩
 rw [zbh_ e1] at g
 exact ⟨p,g⟩
theorem zeQ_ {p:Addr}{i:Nat}{σ:St}{xs:List α}(hi:L[i]?=some (.ow (owL T) xs)) (hL:Hold (L.set i (.ow (owLp p T) xs)) σ F h):Hold L σ F h:=by
 have hlt:=(List.getElem?_eq_some_iff.mp hi).1
 obtain ⟨o,h1,h2,e1,j,⟨v,e2,rfl,vs,z,hr⟩,f⟩:=hL.at i (s:=.ow (owLp p T) xs) (by rw [List.getElem?_set_self hlt])
 subst e2
 have g:=f (.ow (owL T) xs) (some (.ref p)) h1 _ j ⟨_,rfl,p,vs,rfl,z,hr⟩
 rw [List.set_set,zbh_ e1,zgv_ hi] at g
 exact g
theorem zgU_ {p:Addr}{i:Nat}{σ:St}{xs:List α}(hi:L[i]?=some (.ow (owL T) xs)) (hL:Hold (L.set i (.ow (owLp p T) xs)) σ F h) (ok:Okk F0 H0 F h H):σ[i]?=some (some (.ref p))∧∃ vs,H p=some (.lst vs)∧Prs T F xs vs:=by
 have hlt:=(List.getElem?_eq_some_iff.mp hi).1
 obtain ⟨o,h1,h2,e1,j,⟨v,e2,rfl,vs,z,hr⟩,f⟩:=hL.at i (s:=.ow (owLp p T) xs) (by rw [List.getElem?_set_self hlt])
 subst e2
 exact ⟨e1,vs,ok.2.2.1 _ _ (j.l _ _ (by rw [z]; exact zbq_)),hr⟩
theorem znt_ {i0:Nat}{xs:List α}{g:TG}{tb:TS}{s0:S}{ss:α→List (Nat×Sl)}{step:S→α→Mo (Out ρ S S)}{LSp:Addr→S→List Sl}(h0:∀ s,(LS s)[i0]?=some (.ow (owL T) xs)) (hp:∀ p s,LSp p s=(LS s).set i0 (.ow (owLp p T) xs))
  (hg:TgR K g T ss) (hb:∀ p s a,EvS K tb E (setL (LSp p s) (ss a)) (step s a) (LSp p) (LSp p) O):EvS K (tFor (iAny K (mVar i0)) g tb) E (LS s0) (forO step xs s0) LS LB O:=by
 intro F0 H0 σ F h H D hL ok fin
 obtain ⟨p,hLp⟩:=zki_ hL (h0 s0)
 rw [← hp p s0] at hLp
 have look:∀ {s σ F h H F1},Hold (LSp p s) σ F h→Okk F1 H0 F h H→σ[i0]?=some (some (.ref p))∧∃ vs,H p=some (.lst vs)∧Prs T F xs vs:=fun {s σ F h H F1} a b=>zgU_ (h0 s) (by rw [← hp]; exact a) b
 obtain ⟨e1,vs,e2,e3⟩:=look hLp ok
 unfold tFor iAny
 refine zdi_ e1 ?_
 refine Or.inl ⟨⟨vs,.of e2⟩,?_⟩
 refine ⟨fun i m σ H=>m=xs.length-i∧i≤xs.length∧∃ s F h,Hold (LSp p s) σ F h∧Okk F0 H0 F h H∧Fin K (forO (B:=B) step (xs.drop i) s) E LS LB O F0 H0 D,⟨_,rfl,Nat.zero_le _,s0,F,h,hLp,ok,fin⟩,?_⟩
 rintro i m σ H ⟨rfl,hi,s,F,h,hL,ok,fin⟩
 obtain ⟨_,us,u1,u2⟩:=look hL ok
 by_cases hlt:i<xs.length
 ·right
  have hlu:=Paired.length u2
  obtain ⟨x,ex,rx⟩:=zg5_ u2 i us[i] (List.getElem?_eq_getElem (by omega))
  rw [List.getElem?_eq_getElem hlt] at ex
  injection ex with ex
  refine ⟨⟨us,us[i],.of u1,List.getElem?_eq_getElem (by omega)⟩,fun σ' H'=>i+1≤xs.length∧∃ s F h,Hold (LSp p s) σ' F h∧Okk F0 H0 F h H'∧Fin K (forO (B:=B) step (xs.drop (i+1)) s) E LS LB O F0 H0 D,fun σ' H' z=>⟨xs.length-(i+1),by omega,rfl,z⟩,fun v H2 hy=>?_⟩
  obtain ⟨rfl,z⟩:=hy
  have ev:=z us (.of u1)
  rw [List.getElem?_eq_getElem (by omega)] at ev
  injection ev with ev
  subst ev
  refine hg xs[i] _ σ F H2 _ ok.1.2.1 (by rw [ex]; exact rx) fun vs hpl=>?_
  refine hb p s xs[i] F0 H0 _ F h H2 _ (zeP_ hpl hL) ok ?_
  rw [List.drop_eq_getElem_cons hlt] at fin
  unfold forO at fin
  cases e:step s xs[i] with
  | no=>rw [e] at fin; exact fin
  | ex c=>rw [e] at fin; exact fin
  | ok o =>
   rw [e] at fin
   cases o with
   | nx s'=>exact fun σ' F' h' H' hL' ok'=>⟨hlt,s',F',h',hL',ok',fin⟩
   | ct s'=>exact fun σ' F' h' H' hL' ok'=>⟨hlt,s',F',h',hL',ok',fin⟩
   | bk s'=>exact fun σ' F' h' H' hL' ok'=>fin σ' F' h' H' (zeQ_ (h0 s') (by rw [← hp]; exact hL')) ok'
   | rt a=>exact fin
 ·left
  have e:i=xs.length:=by omega
  subst e
  rw [List.drop_length] at fin
  exact ⟨⟨us,.of u1,by rw [Paired.length u2]; exact Nat.le_refl _⟩,fin σ F h H (zeQ_ (h0 s) (by rw [← hp]; exact hL)) ok⟩
end
end L2
namespace L2
open PySem PySem.Spec PyProof.Rows PySem.W
section
variable {prog:Program}{w:World}{A:Around}{E:Value→Shared→Prop}{s:Shared}{T:String}{rr dd:Addr}{n:Nat}{PP:Nat→Value→Prop}{OK:Heap→Prop}
theorem zkv_ {R:List Value→Shared→Prop}(Kd:KdlSrc prog w T rr dd n PP OK) (hh:A.handled=none) (hok:OK s.heap) (hn:n≤sizeLine)
  (hR:∀ (h':Heap) (tk:Nat) (acc:Array Value),s.heap.objs.size<h'.objs.size→(∀ b o,s.heap.get? b=some o→h'.get? b=some o)→ItemsOf PP acc n→R acc.toList { s with heap:=h',toks:=tk }) :
  wpAny (model prog w) A (collect (.ref rr)) R E s:=by
 obtain ⟨lr,ld⟩:=Kd.there _ hok
 unfold collect; refine wpAny_bind (wpAny_runValue (codeAny_builtin entry_proto_collect' ?_)); rw [Around.under_plainId PySem.F.plain_proto_collect _]
 show wpAny _ A.in1 (newList []>>=fun l=>again (.builtin "list.__iadd__" ⟨[l,.ref rr],[]⟩)) _ _ s; refine wpAny_bind (wpAny_newObj_type ?_)
 refine wpAny_pure ⟨plainId_quiet PySem.F.plain_list_iadd _,codeAny_builtin entry_list_iadd' ?_⟩; rw [Around.under_plainId PySem.F.plain_list_iadd _]
 have h0:(s.heap.push { cls:=.type "list",data:=.seq ([]:List Value).toArray }).get? s.heap.objs.size=some { cls:=.type "list",data:=.seq #[] }:=Heap.get?_push_size _ rfl
 show wpAny _ A.in1 (Builtin.List.listExtendWith (.ref s.heap.objs.size) (.ref rr) (.ref s.heap.objs.size)) _ _ _
 have key:=kdl_extend (A:=A) (s:={ s with heap:=s.heap.push { cls:=.type "list",data:=.seq ([]:List Value).toArray } })
  (R:=fun (q:Result) (s':Shared)=>∃ (h':Heap) (tk:Nat) (acc:Array Value) (c:Nat),q=.ok (.ret (.ref s.heap.objs.size))∧s'={ s with heap:=h',toks:=tk }∧(∀ b o,s.heap.get? b=some o→h'.get? b=some o)∧h'.get? s.heap.objs.size=some { cls:=.type "list",dict:=none,data:=.seq acc c,slots:=#[] }∧ItemsOf PP acc n)
  Kd hh (Kd.keep _ _ hok fun b _ o e=>Heap.get?_push_of_some _ e) s.heap.objs.size (Nat.ne_of_gt lr) (Nat.ne_of_gt ld) (.ref s.heap.objs.size) 0 h0
  (fun h' tk acc c hk hS hacc=>⟨h',tk,acc,c,rfl,rfl,fun b o e=>hk b o (Nat.ne_of_lt (Heap.lt_size e)) (Heap.get?_push_of_some _ e),hS,hacc⟩) hn
 refine wpAny_mono key (fun fin s' x=>?_) fun e s' x=>?_
 ·cases fin with
  | done f =>
   obtain ⟨h',tk,acc,c,e,rfl,hk,hS,hacc⟩:=x
   cases e; show wpAny _ A (load s.heap.objs.size>>=_) _ _ _
   exact wpAny_bind (wpAny_load hS (wpAny_pure (hR h' tk acc (Heap.lt_size hS) hk hacc)))
  | again c1 =>
   refine ⟨x.1,codeAny_mono x.2 fun q s2 y=>?_⟩; obtain ⟨h',tk,acc,c,rfl,rfl,hk,hS,hacc⟩:=y
   show wpAny _ A (load s.heap.objs.size>>=_) _ _ _; exact wpAny_bind (wpAny_load hS (wpAny_pure (hR h' tk acc (Heap.lt_size hS) hk hacc)))
 ·obtain ⟨_,_,_,_,e',_⟩:=x; cases e'
end
section
variable {prog:Program}{w:World}{A:Around}{E:Value→Shared→Prop}{s:Shared}{lt:Nat→Nat→Bool}
theorem zjp_ {b:Nat}(hB:RunB b) {v:Value}{n:Nat}{PV:List Value→Prop}{Q:Value→Shared→Prop}(h64:n<b) (wo:WOr lt) (hlen:∀ vs,PV vs→vs.length=n)
  (col:∀ R:List Value→Shared→Prop,(∀ (vs:List Value) (h':Heap) (tk:Nat),PV vs→s.heap.objs.size≤h'.objs.size→(∀ b o,s.heap.get? b=some o→h'.get? b=some o)→R vs { s with heap:=h',toks:=tk })→wpAny (model prog w) A.in1 (collect v) R E s)
  (kk:∀ (vs:List Value),PV vs→2≤vs.length→∀ (h':Heap) (tk:Nat),(∀ b o,s.heap.get? b=some o→h'.get? b=some o)→CmpAt prog w vs lt { s with heap:=h',toks:=tk })
  (q:∀ (vs:List Value) (l:Addr) (h':Heap) (tk:Nat) c (p:List Nat),PV vs→s.heap.objs.size≤l→(∀ b o,s.heap.get? b=some o→h'.get? b=some o)→Srtd lt vs.length p→h'.get? l=some (seqObj "list" (p.map fun i=>vs.getD i Value.none).toArray c)→Q (.ref l) { s with heap:=h',toks:=tk }) :
  wpAny (model prog w) A (call (.builtin "sorted") [v]) Q E s:=by
 have hB1:=hB.1
 refine Calls.call_function_entry kind_sorted plain_sorted entry_sorted (args_sorted1 _) ?_
 unfold Builtin.«sorted»
 refine wpAny_bind (m:=checkCount "sorted" 1 1 _) (wpAny_pure ?_)
 refine wpAny_bind (col _ fun vs h1 tk pv hle k1=>?_)
 have hn:=hlen vs pv
 refine wpAny_bind (wpAny_newList ?_ (by rw [sizeLine_eq]; lia))
 have hoL:(h1.push (seqObj "list" vs.toArray 0)).get? h1.objs.size=some (seqObj "list" vs.toArray 0):=Heap.get?_push_size _ rfl
 have keep:∀ b o,s.heap.get? b=some o→(h1.push (seqObj "list" vs.toArray 0)).get? b=some o:=fun b o e=>Heap.get?_push_of_some _ (k1 b o e)
 show wpAny _ _ _ _ _ { s with heap:=h1.push (seqObj "list" vs.toArray 0),toks:=tk }
 have keep2:∀ (h':Heap),(∀ b o,b≠h1.objs.size→(h1.push (seqObj "list" vs.toArray 0)).get? b=some o→h'.get? b=some o)→∀ b o,s.heap.get? b=some o→h'.get? b=some o:=fun h' hk b o e =>
  hk b o (Nat.ne_of_lt (Heap.lt_size (k1 b o e))) (keep b o e)
 refine wpAny_bind (wpAny_holding (wpAny_call_entry slot_list_sort ⟨_,hoL,rfl⟩ entry_list_sort ?body (args_list_sort _)))
 case body =>
  refine zk6_ hB (s:={ s with heap:=h1.push (seqObj "list" vs.toArray 0),toks:=tk }) hoL (by lia) wo (fun h2 h' hk=>kk vs pv h2 h' tk (keep2 h' hk)) fun h' c p hk hp ho'=>?_
  exact ⟨_,rfl,wpAny_pure ⟨_,rfl,q vs _ h' tk c p pv hle (keep2 h' hk) hp ho'⟩⟩
end
section
variable {X:Cx}
theorem zlr_ {ys:List V}{its:List Value}{lt:Nat→Nat→Bool}{k:Nat}{s:Shared}(r':Vals ys its) (hk:k≠0) (hall:∀ y∈ys,knd y=k) (hlt:∀ i j x y,ys[i]?=some x→ys[j]?=some y→lt i j=ltF x y) (h2:2≤its.length) :
  CmpAt X.prog X.w its lt s:=by
 refine ⟨oneType',fun A C hC=>?_,fun A i j C hi hj hC=>?_⟩
 ·refine kas_kind h2 (T:=tyK k) (fun v hv=>?_) (zns_ k) (znX_ k) hC
  obtain ⟨i,hi⟩:=List.mem_iff_getElem?.mp hv
  obtain ⟨hi',_⟩:=List.getElem?_eq_some_iff.mp hi
  obtain ⟨y,_,ry,hy⟩:=zc9_ r' hi'
  rw [List.getD_eq_getElem?_getD,hi] at ry
  exact zlR_ ry (hall y hy) hk
 ·obtain ⟨x,ex,rx,hx⟩:=zc9_ r' hi
  obtain ⟨y,ey,ry,hy⟩:=zc9_ r' hj
  rw [hlt i j x y ex ey] at hC
  unfold kas_ask
  rw [keyLt'_oneType]
  exact zlC_ rx ry (by rw [hall x hx,hall y hy]) (by rw [hall x hx]; exact hk) hC
theorem is_kV {P:Program}{w:World}{k:Key}{u:Value}(h:(mixKind P w).is k u=true):RelV (kV k) u:=by
 rw [zho_] at h
 rcases zL_ h with ⟨i,t,rfl,rfl⟩ | ⟨x,t,rfl,rfl⟩<;>exact ⟨_,rfl⟩
end
section
variable {α β γ κ:Type}{K:Fgg}{E:XK}
theorem znO_ (x:Int) (F:Hp):(kInt).T.R x (kV (kInt.key x)) F:=rfl
end
end L2
namespace L2
open PySem PySem.Spec PyProof.Rows PySem.W
structure ZpAp (z ti to i j:Addr) (f g:List Addr):Prop where
 a1:ti≠z
 a2:to≠z
 a3:i≠z
 a4:j≠z
 a5:ti≠to
 a6:ti≠i
 a7:ti≠j
 a8:to≠i
 a9:to≠j
 b1:i≠j
 b2:z∉f
 b3:z∉g
 b4:to∉f
 b5:to∉g
 b6:j∉f
 b7:i∉g
section
variable {prog:Program}{w:World}{A:Around}{E:Value→Shared→Prop}{s:Shared}{z ti to i j:Addr}{f g:List Addr}{n1 n2 k:Nat}{P1 P2:Nat→Value→Prop}{S1 S2:Nat→Heap→Prop}{a b:Value}
theorem zkp_ {Q:Value→Shared→Prop}(D1:Draws prog w A i f n1 P1 S1) (D2:Draws prog w A j g n2 P2 S2) (ap:ZpAp z ti to i j f g)
  (hz:IsZip s.heap z ti to .none) (hti:IsPair s.heap ti (.ref i) (.ref j)) (hto:IsPair s.heap to a b) (st1:S1 k s.heap) (st2:S2 k s.heap) (l1:k<n1) (l2:k<n2)
  (hQ:∀ x y h' tk,P1 k x→P2 k y→IsZip h' z ti to (rawInt s.heap.objs.size)→IsPair h' to x y→S1 (k+1) h'→S2 (k+1) h'→IsPair h' s.heap.objs.size x y→h'.objs.size=s.heap.objs.size+1 →
   (∀ c o,c≠z→c≠to→c≠i→c≠j→s.heap.get? c=some o→h'.get? c=some o)→Q (.ref s.heap.objs.size) { s with heap:=h',toks:=tk }) :
  wpAny (model prog w) A (Builtin.«zip.__next__» ⟨[.ref z],[]⟩) (fun fin s'=>∃ v,fin=.done (.ret v)∧Q v s') E s:=by
 obtain ⟨hp,gn,dd,tk0,os⟩:=s
 show wpAny _ _ (field (.ref z) 2>>=_) _ _ _; refine wpAny_bind (wpAny_field hz rfl (x:=.bool false) rfl ?_)
 show wpAny _ _ (field (.ref z) 3>>=_) _ _ _; refine wpAny_bind (wpAny_field hz rfl (x:=.ref ti) rfl ?_)
 refine wpAny_bind (wpAny_seqItems hti rfl ?_); show wpAny _ _ (Builtin.SmallTypes.ownedTupleIsFree (.ref z)>>=_) _ _ _
 refine wpAny_bind ?_; unfold Builtin.SmallTypes.ownedTupleIsFree
 refine wpAny_bind (wpAny_field hz rfl (x:=.none) rfl (wpAny_pure ?_)); simp only [if_true]
 refine wpAny_bind (wpAny_rule ?_); refine wpAny_bind (wpAny_field hz rfl (x:=.ref to) rfl ?_)
 refine wpAny_bind (wpAny_setField_rec hz (by simp) fun q1 (z1:IsZip q1 z ti to .ellipsis) e1=>?_)
 have e1':Heap.ExtBut z hp q1:=e1.extBut
 refine wpAny_bind ?_; simp only [List.zipIdx_cons,List.zipIdx_nil,List.forIn_cons,List.forIn_nil]
 refine wpAny_bind (wpAny_bind (wpAny_onRaise ?_)); show wpAny _ _ (Builtin.SmallTypes.nextOf (.ref i)>>=_) _ _ _
 refine wpAny_bind (D1.item k _ _ _ l1 (D1.frame k _ _ st1 fun c hc o e=>e1' c o (fun q=>ap.b2 (q ▸ hc)) e) fun x q2 t2 px s2 e2=>wpAny_pure ?_)
 have e2':Heap.ExtBut i q1 q2:=e2.extBut
 have to2:IsPair q2 to a b:=e2' _ _ ap.a8 (e1' _ _ ap.a2 hto)
 refine wpAny_bind (wpAny_seqItems (s:=⟨q2,gn,dd,t2,os⟩) to2 rfl ?_); refine wpAny_bind (wpAny_updateSeq_pair (s:=⟨q2,gn,dd,t2,os⟩) to2 fun q3 (to3:IsPair q3 to x b) e3=>?_)
 have e3':Heap.ExtBut to q2 q3:=e3.extBut
 refine wpAny_bind (wpAny_letGo (wpAny_pure ?_)); refine wpAny_bind (wpAny_bind (wpAny_onRaise ?_)); show wpAny _ _ (Builtin.SmallTypes.nextOf (.ref j)>>=_) _ _ _
 refine wpAny_bind (D2.item k ⟨q3,gn,dd,t2,os⟩ _ _ l2 (D2.frame k _ _ st2 fun c hc o e=>e3' c o (fun q=>ap.b5 (q ▸ hc)) (e2' c o (fun q=>ap.b7 (q ▸ hc)) (e1' c o (fun q=>ap.b3 (q ▸ hc)) e))) fun y q4 t4 py s4 e4=>wpAny_pure ?_)
 have e4':Heap.ExtBut j q3 q4:=e4.extBut
 have to4:IsPair q4 to x b:=e4' _ _ ap.a9 to3
 refine wpAny_bind (wpAny_seqItems (s:=⟨q4,gn,dd,t4,os⟩) to4 rfl ?_); refine wpAny_bind (wpAny_updateSeq_pair (s:=⟨q4,gn,dd,t4,os⟩) to4 fun q5 (to5:IsPair q5 to x y) e5=>?_)
 have e5':Heap.ExtBut to q4 q5:=e5.extBut
 refine wpAny_bind (wpAny_letGo (wpAny_pure (wpAny_pure ?_))); refine wpAny_bind (wpAny_seqItems (s:=⟨q5,gn,dd,t4,os⟩) to5 rfl ?_)
 refine wpAny_bind (wpAny_newTuple ?_)
 have sz:q5.objs.size=hp.objs.size:=by rw [e5.1,e4.1,e3.1,e2.1,e1.1]
 have z5:IsZip q5 z ti to .ellipsis:=e5' _ _ ap.a2.symm (e4' _ _ ap.a4.symm (e3' _ _ ap.a2.symm (e2' _ _ ap.a3.symm z1)))
 have kp:∀ c o,c≠z→c≠to→c≠i→c≠j→hp.get? c=some o→q5.get? c=some o:=fun c o c1 c2 c3 c4 e =>
  e5' c o c2 (e4' c o c4 (e3' c o c2 (e2' c o c3 (e1' c o c1 e))))
 have zl:z<q5.objs.size:=Heap.lt_size z5
 show wpAny _ _ (Builtin.SmallTypes.ownedTupleHandOut (.ref z) (.ref q5.objs.size)>>=_) _ _ ⟨q5.push _,gn,dd,t4,os⟩
 refine wpAny_bind ?_; unfold Builtin.SmallTypes.ownedTupleHandOut
 have z6:IsZip (q5.push { cls:=.type "tuple",data:=.seq #[x,y] }) z ti to .ellipsis:=Heap.get?_push_of_some _ z5
 refine wpAny_bind (wpAny_setField_rec (s:=⟨q5.push _,gn,dd,t4,os⟩) z6 (by simp) fun q7 (z7:IsZip q7 z ti to (rawInt q5.objs.size)) e7=>?_)
 refine wpAny_setField_rec (s:=⟨q7,gn,dd,t4,os⟩) z7 (by simp) fun q8 (z8:IsZip q8 z ti to (rawInt q5.objs.size)) e8=>?_
 have up:∀ c o,c≠z→(q5.push { cls:=.type "tuple",data:=.seq #[x,y] }).get? c=some o→q8.get? c=some o:=fun c o c1 e=>e8.extBut _ _ c1 (e7.extBut _ _ c1 e)
 have up5:∀ c o,c≠z→q5.get? c=some o→q8.get? c=some o:=fun c o c1 e=>up c o c1 (Heap.get?_push_of_some _ e)
 have t8:IsPair q8 q5.objs.size x y:=up _ _ (Nat.ne_of_gt zl) (Heap.get?_push_size _ rfl)
 have sz8:q8.objs.size=q5.objs.size+1:=by rw [e8.1,e7.1]; exact Heap.size_push ..
 rw [sz] at z8 t8 sz8
 refine wpAny_pure ⟨_,rfl,?_⟩
 show Q (.ref q5.objs.size) ⟨q8,gn,dd,t4,os⟩
 rw [sz]
 refine hQ x y q8 t4 px py z8 (up5 _ _ ap.a2 to5) (D1.frame _ _ _ s2 fun c hc o e=>?_) (D2.frame _ _ _ s4 fun c hc o e=>?_) t8 sz8 fun c o c1 c2 c3 c4 e=>up5 c o c1 (kp c o c1 c2 c3 c4 e)
 ·exact up5 c o (fun q=>ap.b2 (q ▸ hc)) (e5' c o (fun q=>ap.b4 (q ▸ hc)) (e4' c o (fun q=>ap.b6 (q ▸ hc)) (e3' c o (fun q=>ap.b4 (q ▸ hc)) e)))
 ·exact up5 c o (fun q=>ap.b3 (q ▸ hc)) (e5' c o (fun q=>ap.b5 (q ▸ hc)) e)
theorem zm5_ {Q:PySem.Fin→Shared→Prop}(D1:Draws prog w A i f n1 P1 S1) (D2:Draws prog w A j g n2 P2 S2) (ap:ZpAp z ti to i j f g)
  (hz:IsZip s.heap z ti to .none) (hti:IsPair s.heap ti (.ref i) (.ref j)) (hto:IsPair s.heap to a b) (st1:S1 k s.heap) (st2:S2 k s.heap) (l1:k=n1∨k<n1∧k=n2)
  (hE:∀ h' e tk,(∀ c o,c≠z→c≠to→c≠i→c≠j→s.heap.get? c=some o→h'.get? c=some o)→(∃ o,h'.get? e=some o∧o.cls=.type "StopIteration")→E (.ref e) { s with heap:=h',toks:=tk }) :
  wpAny (model prog w) A (Builtin.«zip.__next__» ⟨[.ref z],[]⟩) Q E s:=by
 obtain ⟨hp,gn,dd,tk0,os⟩:=s
 show wpAny _ _ (field (.ref z) 2>>=_) _ _ _; refine wpAny_bind (wpAny_field hz rfl (x:=.bool false) rfl ?_)
 show wpAny _ _ (field (.ref z) 3>>=_) _ _ _; refine wpAny_bind (wpAny_field hz rfl (x:=.ref ti) rfl ?_)
 refine wpAny_bind (wpAny_seqItems hti rfl ?_); show wpAny _ _ (Builtin.SmallTypes.ownedTupleIsFree (.ref z)>>=_) _ _ _
 refine wpAny_bind ?_; unfold Builtin.SmallTypes.ownedTupleIsFree
 refine wpAny_bind (wpAny_field hz rfl (x:=.none) rfl (wpAny_pure ?_)); simp only [if_true]
 refine wpAny_bind (wpAny_rule ?_); refine wpAny_bind (wpAny_field hz rfl (x:=.ref to) rfl ?_)
 refine wpAny_bind (wpAny_setField_rec hz (by simp) fun q1 (z1:IsZip q1 z ti to .ellipsis) e1=>?_)
 have e1':Heap.ExtBut z hp q1:=e1.extBut
 refine wpAny_bind ?_; simp only [List.zipIdx_cons,List.zipIdx_nil,List.forIn_cons,List.forIn_nil]
 refine wpAny_bind (wpAny_bind (wpAny_onRaise ?_)); show wpAny _ _ (Builtin.SmallTypes.nextOf (.ref i)>>=_) _ _ _
 have f1:S1 k q1:=D1.frame k _ _ st1 fun c hc o e=>e1' c o (fun q=>ap.b2 (q ▸ hc)) e
 rcases l1 with rfl | ⟨l1,rfl⟩
 ·refine wpAny_bind (D1.done _ _ _ f1 fun q2 e e2 he=>?_)
  obtain ⟨oe,hoe,hce⟩:=he
  have e2':Heap.ExtBut i q1 q2:=e2
  have z2:IsZip q2 z ti to .ellipsis:=e2' _ _ ap.a3.symm z1
  have ez:e≠z:=fun x=>by subst x; have hoe':q2.get? e=some oe:=hoe; rw [z2] at hoe'; cases hoe'; simp at hce
  exact wpAny_setField_rec (s:=⟨q2,gn,dd,tk0,os⟩) z2 (by simp) fun q3 _ e3=>hE q3 e tk0 (fun c o c1 _ c3 _ x=>e3.extBut _ _ c1 (e2' c o c3 (e1' c o c1 x))) ⟨oe,e3.extBut _ _ ez hoe,hce⟩
 ·refine wpAny_bind (D1.item k _ _ _ l1 f1 fun x q2 t2 px s2 e2=>wpAny_pure ?_)
  have e2':Heap.ExtBut i q1 q2:=e2.extBut
  have to2:IsPair q2 to a b:=e2' _ _ ap.a8 (e1' _ _ ap.a2 hto)
  refine wpAny_bind (wpAny_seqItems (s:=⟨q2,gn,dd,t2,os⟩) to2 rfl ?_); refine wpAny_bind (wpAny_updateSeq_pair (s:=⟨q2,gn,dd,t2,os⟩) to2 fun q3 (to3:IsPair q3 to x b) e3=>?_)
  have e3':Heap.ExtBut to q2 q3:=e3.extBut
  refine wpAny_bind (wpAny_letGo (wpAny_pure ?_)); refine wpAny_bind (wpAny_bind (wpAny_onRaise ?_)); show wpAny _ _ (Builtin.SmallTypes.nextOf (.ref j)>>=_) _ _ _
  refine wpAny_bind (D2.done ⟨q3,gn,dd,t2,os⟩ _ _ (D2.frame k _ _ st2 fun c hc o e=>e3' c o (fun q=>ap.b5 (q ▸ hc)) (e2' c o (fun q=>ap.b7 (q ▸ hc)) (e1' c o (fun q=>ap.b3 (q ▸ hc)) e))) fun q4 e e4 he=>?_)
  obtain ⟨oe,hoe,hce⟩:=he
  have e4':Heap.ExtBut j q3 q4:=e4
  have z4:IsZip q4 z ti to .ellipsis:=e4' _ _ ap.a4.symm (e3' _ _ ap.a2.symm (e2' _ _ ap.a3.symm z1))
  have ez:e≠z:=fun x=>by subst x; have hoe':q4.get? e=some oe:=hoe; rw [z4] at hoe'; cases hoe'; simp at hce
  exact wpAny_setField_rec (s:=⟨q4,gn,dd,t2,os⟩) z4 (by simp) fun q5 _ e5=>hE q5 e t2 (fun c o c1 c2 c3 c4 x=>e5.extBut _ _ c1 (e4' c o c4 (e3' c o c2 (e2' c o c3 (e1' c o c1 x))))) ⟨oe,e5.extBut _ _ ez hoe,hce⟩
theorem zls_ {Q:Option Value→Shared→Prop}(D1:Draws prog w A.in1 i f n1 P1 S1) (D2:Draws prog w A.in1 j g n2 P2 S2) (ap:ZpAp z ti to i j f g)
  (hz:IsZip s.heap z ti to .none) (hti:IsPair s.heap ti (.ref i) (.ref j)) (hto:IsPair s.heap to a b) (st1:S1 k s.heap) (st2:S2 k s.heap) (l1:k<n1) (l2:k<n2)
  (hQ:∀ x y h' tk,P1 k x→P2 k y→IsZip h' z ti to (rawInt s.heap.objs.size)→IsPair h' to x y→S1 (k+1) h'→S2 (k+1) h'→IsPair h' s.heap.objs.size x y→h'.objs.size=s.heap.objs.size+1 →
   (∀ c o,c≠z→c≠to→c≠i→c≠j→s.heap.get? c=some o→h'.get? c=some o)→Q (some (.ref s.heap.objs.size)) { s with heap:=h',toks:=tk }) :
  wpAny (model prog w) A (pyNext (.ref z)) Q E s:=by
 have hT:s.TypeIs (.ref z) "zip" := ⟨_,hz,rfl⟩
 unfold pyNext; refine wpAny_bind (wpAny_attempt (wpAny_callSpecial?_slot (name:=Str.ofString "__next__") hT F.slot_zip_next (wpAny_call_entry F.slot_zip_next hT F.entry_zip_next ?_ (F.args_zip_next_1 _))))
 exact zkp_ D1 D2 ap hz hti hto st1 st2 l1 l2 fun x y h' tk p1 p2 q1 q2 q3 q4 q5 q6 q7=>wpAny_pure (hQ x y h' tk p1 p2 q1 q2 q3 q4 q5 q6 q7)
theorem zlP_ {Q:Option Value→Shared→Prop}(D1:Draws prog w A.in1 i f n1 P1 S1) (D2:Draws prog w A.in1 j g n2 P2 S2) (ap:ZpAp z ti to i j f g)
  (hz:IsZip s.heap z ti to .none) (hti:IsPair s.heap ti (.ref i) (.ref j)) (hto:IsPair s.heap to a b) (st1:S1 k s.heap) (st2:S2 k s.heap) (l1:k=n1∨k<n1∧k=n2)
  (hQ:∀ h' tk,(∀ c o,c≠z→c≠to→c≠i→c≠j→s.heap.get? c=some o→h'.get? c=some o)→Q none { s with heap:=h',toks:=tk }):wpAny (model prog w) A (pyNext (.ref z)) Q E s:=by
 have hT:s.TypeIs (.ref z) "zip" := ⟨_,hz,rfl⟩
 unfold pyNext; refine wpAny_bind (wpAny_attempt (wpAny_callSpecial?_slot (name:=Str.ofString "__next__") hT F.slot_zip_next (wpAny_call_entry F.slot_zip_next hT F.entry_zip_next ?_ (F.args_zip_next_1 _))))
 refine zm5_ D1 D2 ap hz hti hto st1 st2 l1 fun h' e tk hk he=>?_
 obtain ⟨o,ho,hc⟩:=he
 exact wpAny_bind (wpAny_isInstance (s:={ s with heap:=h',toks:=tk }) (T := "StopIteration") (b:=true) ⟨o,ho,hc⟩ isSubtype_stop (wpAny_pure (hQ _ _ hk)))
end
end L2
namespace L2
open PySem PySem.Spec PyProof.Rows PySem.W
def strIt (x:Str) (t:Tok):Obj:={ cls:=.type (strIterType x),data:=.fields #[.str x t,.int 0 0] }
theorem zhn_ {prog:Program}{w:World}{A:Around}{E:Value→Shared→Prop}{s:Shared}{x:Str}{t:Tok}{Q:Value→Shared→Prop}(h:Q (.ref s.heap.objs.size) { s with heap:=s.heap.push (strIt x t) }):wpAny (model prog w) A (pyIter (.str x t)) Q E s:=by
 unfold strIt at h
 cases ha:x.cps.all (·<128)
 ·rw [show strIterType x = "str_iterator" by simp [strIterType,ha]] at h; exact wpAny_pyIter_wide ha h
 ·rw [show strIterType x = "str_ascii_iterator" by simp [strIterType,ha]] at h; exact wpAny_pyIter_ascii ha h
abbrev zp1 (h:Heap) (l:Addr):Heap:=h.push { cls:=.type "list_iterator",data:=.fields #[.ref l,.int 0 0] }
abbrev zp2 (h:Heap) (l:Addr) (x:Str) (t:Tok):Heap:=(zp1 h l).push (strIt x t)
abbrev zp3 (h:Heap) (l:Addr) (x:Str) (t:Tok):Heap:=(zp2 h l x t).push { cls:=.type "tuple",data:=.seq #[.ref h.objs.size,.ref (zp1 h l).objs.size] }
abbrev zp4 (h:Heap) (l:Addr) (x:Str) (t:Tok):Heap:=(zp3 h l x t).push { cls:=.type "tuple",data:=.seq #[.none,.none] }
abbrev zp5 (h:Heap) (l:Addr) (x:Str) (t:Tok):Heap:=(zp4 h l x t).push { cls:=.type "zip",data:=.fields #[.none,.bool false,.bool false,.ref (zp2 h l x t).objs.size,.ref (zp3 h l x t).objs.size] }
theorem mt_zp (l:Addr) (x:Str) (t:Tok) (xs:Array Value) :
  Meets (Builtin.«zip.__new__» ⟨[.type "zip",.ref l,.str x t],[]⟩) (fun _ R s=>s.heap.IsList l xs∧R (.ok (.ret (.ref (zp4 s.heap l x t).objs.size))) { s with heap:=zp5 s.heap l x t }) :=
 .of_wp fun prog w A R s h=>by
  obtain ⟨hp,g,d,tk,os⟩:=s; obtain ⟨hl1,h⟩:=h
  have hsub:=sub_zip
  have h1:Heap.IsList (Shared.heap ⟨hp,g,d,tk,os⟩) l xs:=hl1
  wp_walk using wpAny_pyIter_list h1,zhn_
  exact ⟨_,rfl,h⟩
section
variable {prog:Program}{w:World}{A:Around}{E:Value→Shared→Prop}{s:Shared}
theorem zlF_ {l:Addr}{x:Str}{t:Tok}{xs:Array Value}{Q:Value→Shared→Prop}(hl:s.heap.IsList l xs)
  (h:∀ h',IsZip h' (s.heap.objs.size+4) (s.heap.objs.size+2) (s.heap.objs.size+3) .none→IsPair h' (s.heap.objs.size+2) (.ref s.heap.objs.size) (.ref (s.heap.objs.size+1)) →
   IsPair h' (s.heap.objs.size+3) .none .none→h'.IsListIter s.heap.objs.size l 0→h'.IsStrIter (s.heap.objs.size+1) (strIterType x) x t 0 →
   (∀ c o,s.heap.get? c=some o→h'.get? c=some o)→Q (.ref (s.heap.objs.size+4)) { s with heap:=h' }) :
  wpAny (model prog w) A (call (.type "zip") [.ref l,.str x t]) Q E s:=by
 refine callType_new F.called_zip (by decide) (F.typeCall_zip_2 _ _) (F.newCall_zip_2 _ _) (fun obj=>F.args_object_init_3 obj _ _) F.entry_zip_new (mt_zp l x t xs) ⟨hl,?_⟩
 have n1:(zp1 s.heap l).objs.size=s.heap.objs.size+1:=Heap.size_push ..
 have n2:(zp2 s.heap l x t).objs.size=s.heap.objs.size+2:=by rw [Heap.size_push,n1]
 have n3:(zp3 s.heap l x t).objs.size=s.heap.objs.size+3:=by rw [Heap.size_push,n2]
 have n4:(zp4 s.heap l x t).objs.size=s.heap.objs.size+4:=by rw [Heap.size_push,n3]
 have up:∀ c o,(zp2 s.heap l x t).get? c=some o→(zp5 s.heap l x t).get? c=some o:=fun c o e=>Heap.get?_push_of_some _ (Heap.get?_push_of_some _ (Heap.get?_push_of_some _ e))
 have g5:(zp5 s.heap l x t).get? (zp4 s.heap l x t).objs.size=some _:=Heap.get?_push_size _ rfl
 have g4:(zp5 s.heap l x t).get? (zp3 s.heap l x t).objs.size=some _:=Heap.get?_push_of_some _ (Heap.get?_push_size _ rfl)
 have g3:(zp5 s.heap l x t).get? (zp2 s.heap l x t).objs.size=some _:=Heap.get?_push_of_some _ (Heap.get?_push_of_some _ (Heap.get?_push_size _ rfl))
 have g2:(zp5 s.heap l x t).get? (zp1 s.heap l).objs.size=some _:=up _ _ (Heap.get?_push_size _ rfl)
 have g1:(zp5 s.heap l x t).get? s.heap.objs.size=some _:=up _ _ (Heap.get?_push_of_some _ (Heap.get?_push_size _ rfl))
 show _∧_
 rw [n2,n3,n4] at g5; rw [n1,n2] at g3; rw [n3] at g4; rw [n1] at g2; rw [n4]
 exact ⟨⟨_,g5,rfl⟩,h _ g5 g3 g4 ⟨_,g1,rfl,rfl⟩ ⟨_,g2,rfl,rfl⟩ fun c o e=>up c o (Heap.get?_push_of_some _ (Heap.get?_push_of_some _ e))⟩
end
def ItzS (K:Fgg) (l:Addr) (n:Nat) (f:Nat→V):It :=
 ⟨fun i H=>∃ xs x,SqL K H l xs∧xs[i]?=some x∧i<n,
  fun i H v H'=>∃ p x,(∀ xs,SqL K H l xs→xs[i]?=some x)∧H p=none∧v=.ref p∧H'=upd H p (.tup [x,f i]),
  fun i H=>∃ xs,SqL K H l xs∧(i=xs.length∨i<xs.length∧i=n)⟩
theorem ziD_ {P:Program}{w:World}{K:Fgg}{elts:List Expr}{kk:Nat}{pos:Pos}(z ti to i1 i2 l:Addr) (t0:Str) (t:Tok) (D:ZpAp z ti to i1 i2 [i1,l] [i2]) (hl1:l≠i1) :
  Turn P w K (.Tuple elts kk pos) (ItzS K l t0.cps.size (sgn t0)) [z,ti,to,i1,i2] z (fun i h=>IsZip h z ti to .none∧IsPair h ti (.ref i1) (.ref i2)∧(∃ a b,IsPair h to a b)∧h.IsListIter i1 l i∧h.IsStrIter i2 (strIterType t0) t0 t i) where
 mem:=by simp
 obj:=fun i h st b hb=>by
  obtain ⟨hz,hTI,⟨a,c,hTO⟩,⟨o1,ho1,c1,d1⟩,⟨o2,ho2,c2,d2⟩⟩:=st
  rcases List.mem_cons.mp hb with rfl | hb
  ·exact ⟨_,hz,fun v z=>by cases z⟩
  rcases List.mem_cons.mp hb with rfl | hb
  ·exact ⟨_,hTI,fun v z=>by cases z⟩
  rcases List.mem_cons.mp hb with rfl | hb
  ·exact ⟨_,hTO,fun v z=>by cases z⟩
  rcases List.mem_cons.mp hb with rfl | hb
  ·exact ⟨o1,ho1,fun v z=>by rw [d1] at z; cases z⟩
  ·have e:b=i2:=by simpa using hb
   subst e
   exact ⟨o2,ho2,fun v z=>by rw [d2] at z; cases z⟩
 keep:=fun i h h' st k=>by
  obtain ⟨hz,hTI,⟨a,c,hTO⟩,h1,o2,ho2,r2⟩:=st
  exact ⟨k z (by simp) _ hz,k ti (by simp) _ hTI,⟨a,c,k to (by simp) _ hTO⟩,h1.at fun o q=>k i1 (by simp) o q,o2,k i2 (by simp) o2 ho2,r2⟩
 item:=by
  intro X hP hw hK hc i pins s σ H E I hf st hg
  subst hP hw hK
  obtain ⟨xs,x,hq,hx,hin⟩:=hg
  obtain ⟨its,rv,p,hz0⟩:=I.list hq
  obtain ⟨u,hu,ru⟩:=rv.get hx
  obtain ⟨hz,hTI,⟨a,c,hTO⟩,h1,h2⟩:=st
  have lt:∀ {c o},s.heap.get? c=some o→c<s.heap.objs.size:=fun e=>Heap.lt_size e
  have lz:=lt hz
  have lTI:=lt hTI
  have lTO:=lt hTO
  have l1:i1<s.heap.objs.size:=by obtain ⟨o,e,_⟩:=id h1; exact lt e
  have l2:i2<s.heap.objs.size:=by obtain ⟨o,e,_⟩:=id h2; exact lt e
  have hil:i<its.toArray.size:=by have:=(List.getElem?_eq_some_iff.mp hu).1; simpa using this
  refine zls_ (Draws.list (A:=X.A.in1) (show X.A.in1.handled=none from I.ok.hd hc) i1 l hl1 its.toArray) (zgb_ (t:=t) X.A.in1 (I.ok.hd hc)) D hz hTI hTO ⟨h1,p.isList⟩ h2 hil hin fun u' v h3 tk pu pv z3 TO3 it13 it23 pr3 sz3 hk3=>?_
  obtain rfl:u'=u:=by
   have e:its.toArray[i]?=some u':=pu
   rw [List.getElem?_toArray,hu] at e
   exact (Option.some.inj e).symm
  have rw':RelV (sgn t0 i) v:=zeX_ pv
  refine ⟨_,rfl,?_⟩
  refine wpAny_letOwnedTupleGo_zip (s:={ s with heap:=h3,toks:=tk }) z3 fun h4 z4 hs4=>?_
  replace hs4:Heap.SameBut z h3 h4:=hs4
  have hp:H s.heap.objs.size=none:=I.hok.fresh (Nat.le_refl _)
  have I1:Inv X pins σ (upd H s.heap.objs.size (.tup [x,sgn t0 i])) { s with heap:=s.heap.push { cls:=.type "tuple",data:=.seq #[u',v] },toks:=tk }:=by
   refine I.laid (fun b u q=>Heap.get?_push_of_some _ q) (Nat.le_refl _) ⟨?_,[u',v],.cons ru (.cons rw' .nil),⟨_,Heap.get?_push_size _ rfl,rfl,_,rfl⟩⟩
   show 2≤sizeLine
   decide
  have hlt:∀ b∈[z,ti,to,i1,i2],b<s.heap.objs.size:=fun b hb=>by
   simp only [List.mem_cons,List.not_mem_nil,or_false] at hb
   rcases hb with rfl | rfl | rfl | rfl | rfl
   ·exact lz
   ·exact lTI
   ·exact lTO
   ·exact l1
   ·exact l2
  have hf1:∀ b∈[z,ti,to,i1,i2],FpOk X pins (upd H s.heap.objs.size (.tup [x,sgn t0 i])) b:=fun b hb=>by
   obtain ⟨f0,r⟩:=hf b hb
   refine ⟨?_,r⟩
   rw [z4_ (Nat.ne_of_lt (hlt b hb))]
   exact f0
  have I2:Inv X pins σ (upd H s.heap.objs.size (.tup [x,sgn t0 i])) { s with heap:=h4,toks:=tk }:=by
   refine Inv.turnedL (s:={ s with heap:=s.heap.push { cls:=.type "tuple",data:=.seq #[u',v] },toks:=tk }) (ch:=[z,ti,to,i1,i2]) I1 (fun b o hb q=>?_) hf1
   have n1:b≠z:=fun e=>hb (by simp [e])
   have n2:b≠to:=fun e=>hb (by simp [e])
   have n3:b≠i1:=fun e=>hb (by simp [e])
   have n4:b≠i2:=fun e=>hb (by simp [e])
   refine (hs4.2 b n1).trans ?_
   rcases Heap.get?_push_cases q with ⟨rfl,rfl⟩ | q'
   ·exact pr3
   ·exact hk3 b o n1 n2 n3 n4 q'
  refine ⟨.ref s.heap.objs.size,_,I2,rfl,⟨s.heap.objs.size,x,fun zs hy'=>by rw [I.list_inj hy' hq]; exact hx,hp,rfl,rfl⟩,⟨z4,?_,⟨u',v,?_⟩,?_,?_⟩,fun b hb=>(hf1 b hb).1⟩
  ·exact (hs4.2 ti D.a1).trans (hk3 ti _ D.a1 D.a5 D.a6 D.a7 hTI)
  ·exact (hs4.2 to D.a2).trans TO3
  ·exact it13.1.extBut hs4.extBut D.a3
  ·exact it23.extBut hs4.extBut D.a4
 done:=by
  intro X hP hw hK hc i pins s σ H E I hf st hg
  subst hP hw hK
  obtain ⟨xs,hq,hx⟩:=hg
  obtain ⟨its,rv,p,hz0⟩:=I.list hq
  obtain ⟨hz,hTI,⟨a,c,hTO⟩,h1,h2⟩:=st
  have hl:=rv.length
  refine zlP_ (Draws.list (A:=X.A.in1) (show X.A.in1.handled=none from I.ok.hd hc) i1 l hl1 its.toArray) (zgb_ (t:=t) X.A.in1 (I.ok.hd hc)) D hz hTI hTO ⟨h1,p.isList⟩ h2 (by rw [hl] at hx; simpa using hx) fun h' tk eb=>⟨rfl,?_⟩
  exact Inv.turnedL (s:=s) (t':=tk) (ch:=[z,ti,to,i1,i2]) I (fun b o hb q=>eb b o (fun e=>hb (by simp [e])) (fun e=>hb (by simp [e])) (fun e=>hb (by simp [e])) (fun e=>hb (by simp [e])) q) hf
 self:=fun _ _ _ _ _ st h=>wpAny_pyIter_zip st.1 h
theorem zke_ {N l:Nat}(hl:l<N):ZpAp (N+4) (N+2) (N+3) N (N+1) [N,l] [N+1]:=by
 have q:∀ {a b:Nat},a≠b→(a:Addr)≠(b:Addr):=fun h=>h
 have m1:∀ {a b:Nat},a≠b→(a:Addr)∉([b]:List Addr):=fun h e=>h (List.mem_singleton.mp e)
 have m2:∀ {a b c:Nat},a≠b→a≠c→(a:Addr)∉([b,c]:List Addr):=fun h1 h2 e=>by
  rcases List.mem_cons.mp e with e | e
  ·exact h1 e
  ·exact h2 (List.mem_singleton.mp e)
 exact ⟨q (by lia),q (by lia),q (by lia),q (by lia),q (by lia),q (by lia),q (by lia),q (by lia),q (by lia),q (by lia),m2 (by lia) (by lia),m1 (by lia),m2 (by lia) (by lia),m1 (by lia),m2 (by lia) (by lia),m1 (by lia)⟩
section
variable {X:Cx}{elts:List Expr}{kk:Nat}{tpos:Pos}
def iZipX (K:Fgg) (ta:TA):TI:=fun σ H R=>ta σ H fun vs H1=>match vs with
 | [.ref a,.ref b]=>(∃ xs,SqL K H1 a xs)∧(∃ ys,SqL K H1 b ys)∧R (Itz K a b) H1
 | [.ref a,.str x]=>(∃ xs,SqL K H1 a xs)∧R (ItzS K a x.cps.size (sgn x)) H1
 | _=>False
theorem zmy_ {a b:Expr}{ta:TA}{p pos:Pos}(hm:Gb X.mg "zip") (ha:PA X [a,b] ta) (hg:Gl X "zip" := by rfl) (hs:starEach [a,b] X.env=[(false,eval a X.env),(false,eval b X.env)]:=by rfl) (hs2:starEach [b] X.env=[(false,eval b X.env)]:=by rfl) :
  PI X (.Tuple elts kk tpos) (.Call (.Name "zip" p) [a,b] [] pos) (iZipX X.K ta):=by
 intro pins s σ H R I h
 refine Call_ (zgy_ I hg hm (u:=.type "zip") (by rfl) (PyProof.Rows.callWith_type1 (thn (ha pos pins s σ H _ I h) fun us s1 hq_=>?_) (by rw [hs,hs2]) (by rw [hs2]; rfl)))
 obtain ⟨vs,H1,I1,r1,q1⟩:=hq_
 try dsimp only at q1
 have lo:∀ b∈[s1.heap.objs.size+4,s1.heap.objs.size+2,s1.heap.objs.size+3,s1.heap.objs.size,s1.heap.objs.size+1],s1.heap.objs.size≤b:=fun b hb=>by
  simp only [List.mem_cons,List.not_mem_nil,or_false] at hb
  rcases hb with rfl | rfl | rfl | rfl | rfl<;>first | exact Nat.le_add_right _ _ | exact Nat.le_refl _
 split at q1
 ·rename_i l m
  obtain ⟨⟨xs,hq⟩,⟨ys,hq2⟩,q⟩:=q1
  obtain ⟨w1,w2,rfl,r,r'⟩:=vals2 r1
  cases r
  cases r'
  obtain ⟨its,rv,p1,hz⟩:=I1.list hq
  obtain ⟨its2,rv2,p2,hz2⟩:=I1.list hq2
  refine call_zip_2 p1.isList p2.isList fun h' hz' hTI hTO h1 h2 hsz hk=>?_
  refine wpAny_pyIter_zip (s:={ s1 with heap:=h' }) hz' ?_
  have I2:Inv X pins σ H1 { s1 with heap:=h' }:=I1.kept (t':=s1.toks) hk
  have la:l<s1.heap.objs.size:=by obtain ⟨o,e,_⟩:=p1.isList; exact Heap.lt_size e
  have lb:m<s1.heap.objs.size:=by obtain ⟨o,e,_⟩:=p2.isList; exact Heap.lt_size e
  refine ⟨s1.heap.objs.size+4,[s1.heap.objs.size+4,s1.heap.objs.size+2,s1.heap.objs.size+3,s1.heap.objs.size,s1.heap.objs.size+1],_,_,H1,rfl,I2,zk3_ _ _ _ _ _ l m (ziO_ la lb),⟨hz',hTI,⟨_,_,hTO⟩,h1,h2⟩,fun b hb=>?_,q⟩
  exact I1.fpOk (lo b hb) (I1.hok.fresh (lo b hb))
 ·rename_i l x
  obtain ⟨⟨xs,hq⟩,q⟩:=q1
  obtain ⟨w1,w2,rfl,r,r'⟩:=vals2 r1
  cases r
  obtain ⟨t,rfl⟩:=r'
  obtain ⟨its,rv,p1,hz⟩:=I1.list hq
  refine zlF_ p1.isList fun h' hz' hTI hTO h1 h2 hk=>?_
  refine wpAny_pyIter_zip (s:={ s1 with heap:=h' }) hz' ?_
  have I2:Inv X pins σ H1 { s1 with heap:=h' }:=I1.kept (t':=s1.toks) hk
  have la:l<s1.heap.objs.size:=by obtain ⟨o,e,_⟩:=p1.isList; exact Heap.lt_size e
  refine ⟨s1.heap.objs.size+4,[s1.heap.objs.size+4,s1.heap.objs.size+2,s1.heap.objs.size+3,s1.heap.objs.size,s1.heap.objs.size+1],_,_,H1,rfl,I2,ziD_ _ _ _ _ _ l x t (zke_ la) (Nat.ne_of_lt la),⟨hz',hTI,⟨_,_,hTO⟩,h1,h2⟩,fun b hb=>?_,q⟩
  exact I1.fpOk (lo b hb) (I1.hok.fresh (lo b hb))
 ·exact q1.elim
end
section
variable {K:Fgg}{E:XK}{α β:Type}{L:List Sl}{T:Ty α}
theorem zkL_ {r:Mo (List α×List Nat)}{ta:TA}(h:EvA K ta E L r (csCons (tyL T) (csLast tyStr))):EvI K (iZipX K ta) E L (r.bind fun c=>.ok (c.1.zip (c.2.map fun c=>[c]))) (tyTup (csCons T (csLast tyStr))):=by
 intro σ F H R hL hs q
 refine h σ F H _ hL hs (q.bind.imp fun l F1 H1 x1 k1 vs hv=>?_)
 obtain ⟨v,ws,rfl,⟨p,us,rfl,hp,hr⟩,v2,rfl,rfl⟩:=hv
 refine ⟨⟨us,.of (x1.2.1 _ _ hp)⟩,k1.ok x1.2.1 _ ⟨fun i H x hH hx=>?_,fun H hH=>?_⟩⟩
 ·obtain ⟨hx1,hx2⟩:=List.getElem?_zip_eq_some.mp (show (l.1.zip (l.2.map fun c=>[c]))[i]?=some (x.1,x.2) from hx)
  rcases hr.get i with ⟨a,_⟩ | ⟨y,u,a,b,c⟩
  ·rw [a] at hx1; cases hx1
  rw [a] at hx1
  injection hx1 with hx1
  rw [List.getElem?_map] at hx2
  cases e2:l.2[i]? with
  | none=>rw [e2] at hx2; cases hx2
  | some c2 =>
   rw [e2] at hx2
   injection hx2 with hx2
   have hi:=(List.getElem?_eq_some_iff.mp e2).1
   refine ⟨⟨us,u,.of (hH _ _ hp),b,hi⟩,?_⟩
   rintro v H' ⟨p3,w,z,hp3,rfl,rfl⟩ F hF hF'
   have e:=z us (.of (hH _ _ hp))
   rw [b] at e; cases e
   have x':=Ext.new (o:=.tup [u,L2.sgn ⟨l.2.toArray⟩ i]) hF' hp3
   refine ⟨_,x',p3,_,rfl,zD_,_,_,rfl,?_,_,rfl,?_⟩
   ·rw [← hx1]; exact T.mono (hF.trans x'.1) c
   ·rw [← hx2]
    have e3:(l.2.toArray).getD i 0=c2:=by rw [Array.getD_eq_getD_getElem?,List.getElem?_toArray,e2]; rfl
    show V.str ⟨#[(l.2.toArray).getD i 0]⟩=tx [c2]
    rw [e3]
 ·refine ⟨us,.of (hH _ _ hp),?_⟩
  rw [List.length_zip,hr.len,List.length_map]
  show min us.length l.2.length=us.length∨min us.length l.2.length<us.length∧min us.length l.2.length=l.2.length
  lia
end
end L2
namespace L2
open PySem PySem.Spec PyProof.Rows
section
variable {K:Fgg}{E:XK}{α β γ ρ S B:Type}{F0 H0 F h H:Hp}{L:List Sl}{e:TE}{T:Ty α}{r:Mo α}{O:Own ρ}{u:TS}{LS:S→List Sl}{LB:B→List Sl}
theorem Hold.atM:∀ {L:List Sl}{σ:St}{F h:Hp}(i:Nat) {s:Sl},Hold L σ F h→L[i]?=some s →
  ∃ o h1 h2,σ[i]?=some o∧Jn h1 h2 h∧s.P o F h1∧∀ F' s' o' h1' h',Same F F'→Jn h1' h2 h'→s'.P o' F' h1'→Hold (L.set i s') (σ.set i o') F' h'
 | [],_,_,_,_,_,_,e=>by cases e
 | s::L,[],_,_,_,_,q,_=>q.elim
 | s::L,o::σ,F,h,0,t,⟨h1,h2,j,p,r⟩,e=>by
  cases e
  exact ⟨o,h1,h2,rfl,j,p,fun F' s' o' h1' h' g j' p'=>⟨h1',h2,j',p',r.mono g⟩⟩
 | s::L,o::σ,F,h,i+1,t,⟨h1,h2,j,p,r⟩,e=>by
  obtain ⟨o1,k1,k2,e1,j1,p1,f⟩:=Hold.atM i r (by simpa using e)
  have d1:Dj h1 k1:=fun p=>by
   rcases j.dj p with a | a
   ·exact .inl a
   ·exact .inr (j1.l.free a)
  have d2:Dj h1 k2:=fun p=>by
   rcases j.dj p with a | a
   ·exact .inl a
   ·exact .inr (j1.r.free a)
  refine ⟨o1,k1,un h1 k2,by simpa using e1,fun p=>?_,p1,fun F' s' o' k1' h' g j' p'=>?_⟩
  ·rcases j p with ⟨a,b⟩ | ⟨a,b⟩
   ·rcases j1 p with ⟨c,d⟩ | ⟨c,d⟩
    ·refine .inl ⟨c,?_⟩; unfold un; rw [a,b,d]
    ·refine .inr ⟨?_,by rw [b,d]⟩; unfold un; rw [a,c]
   ·refine .inl ⟨j1.l.free a,?_⟩
    have:k2 p=none:=j1.r.free a
    unfold un; rw [b]
    cases h1 p with
    | none=>rw [this]
    | some u=>rfl
  ·have dd:Dj k1' k2:=fun p=>by
    rcases j' p with ⟨a,b⟩ | ⟨a,b⟩
    ·exact .inl a
    ·right; unfold un at a
     cases z:h1 p with
     | none=>rw [z] at a; exact a
     | some u=>rw [z] at a; cases a
   refine ⟨h1,un k1' k2,fun p=>?_,p.mono g,f F' s' o' k1' _ g (zi2_ dd) p'⟩
   rcases j' p with ⟨a,b⟩ | ⟨a,b⟩
   ·unfold un at b ⊢
    cases z:h1 p with
    | none=>rw [z] at b; exact .inl ⟨rfl,by rw [b,a]⟩
    | some u =>
     rw [z] at b
     refine .inr ⟨?_,b⟩
     rw [a]
     rcases d2 p with y | y
     ·rw [y] at z; cases z
     ·exact y
   ·unfold un at a
    cases z:h1 p with
    | some u=>rw [z] at a; cases a
    | none =>
     rw [z] at a
     refine .inl ⟨rfl,?_⟩
     unfold un; rw [b]
     cases k1' p with
     | none=>exact a.symm
     | some u=>rfl
structure PutC (F2 H2 h H0 k k' F3 H3:Hp):Prop where
 ff:Same F2 F3
 fh:Same F3 H3
 ol:Same (less H2 k) H3
 nw:∀ q,F2 q=none→F3 q≠none→H2 q=none∨k q≠none
 kh:Same k' H3
 dj:Dj F3 k'
 fr:∀ q,k q=none→k' q≠none→h q=none∧H0 q=none
theorem zik_ {O1:Own α}{i:Nat}{σ:St}{x:α}(hL:Hold L σ F h) (hi:L[i]?=some (.ow O1 x)) (ok:Okk F0 H0 F h H) :
  ∃ v k,σ[i]?=some (some v)∧O1.O x v F k∧Same k H∧Same k h∧Dj F k∧∀ {β:Type}(O2:Own β) (x':β) (v':V) (k' F3 H3:Hp),PutC F H h H0 k k' F3 H3→O2.O x' v' F3 k' →
   ∃ h',Hold (L.set i (.ow O2 x')) (σ.set i (some v')) F3 h'∧Okk F0 H0 F3 h' H3:=by
 obtain ⟨o,k,hr,e1,j,⟨v,e2,ho⟩,f⟩:=hL.atM i hi
 subst e2
 obtain ⟨o1,o2,o3,o4,o5⟩:=ok
 have kh:Same k h:=j.l
 have rh:Same hr h:=j.r
 have kne:∀ q,k q≠none→h q≠none:=fun q z w=>z (kh.free w)
 refine ⟨v,k,e1,ho,kh.trans o3,kh,fun q=>?_,?_⟩
 ·rcases o2 q with z | z
  ·exact .inl z
  ·exact .inr (kh.free z)
 intro β O2 x' v' k' F3 H3 P hv'
 have rk:∀ {q o},hr q=some o→k q=none:=fun {q o} z=>by
  rcases j.dj q with y | y
  ·exact y
  ·rw [y] at z; cases z
 have dj:Dj k' hr:=fun q=>by
  by_cases w:k' q=none
  ·exact .inl w
  ·right
   by_cases w2:k q=none
   ·exact rh.free (P.fr q w2 w).1
   ·rcases j.dj q with y | y
    ·exact absurd y w2
    ·exact y
 have rH:∀ {q o},hr q=some o→H3 q=some o:=fun {q o} z=>P.ol q o (by rw [zbA_ (rk z)]; exact o3 _ _ (rh _ _ z))
 refine ⟨un k' hr,f F3 (.ow O2 x') (some v') k' _ P.ff (zi2_ dj) ⟨_,rfl,hv'⟩,⟨o1.1.trans P.ff,P.fh,fun q o z=>?_,fun q a b=>?_⟩,fun q=>?_,fun q o z=>?_,fun q z=>?_,fun q xs z=>?_⟩
 ·have hq:h q=none:=by
   cases w:h q with
   | none=>rfl
   | some s=>have:=o4 q (by rw [w]; exact Option.some_ne_none _); rw [this] at z; cases z
  exact P.ol q o (by rw [zbA_ (kh.free hq)]; exact o1.2.2.1 _ _ z)
 ·by_cases w:F q=none
  ·rcases P.nw q w b with y | y
   ·exact o1.2.2.1.free y
   ·exact o4 q (kne q y)
  ·exact o1.2.2.2 q a w
 ·unfold un
  cases w:k' q with
  | some s =>
   left
   rcases P.dj q with y | y
   ·exact y
   ·rw [y] at w; cases w
  | none =>
   cases y:hr q with
   | none=>exact .inr rfl
   | some s =>
    left
    have hq:h q=some s:=rh _ _ y
    have Fq:F q=none:=by
     rcases o2 q with d | d
     ·exact d
     ·rw [d] at hq; cases hq
    by_cases w3:F3 q=none
    ·exact w3
    ·rcases P.nw q Fq w3 with d | d
     ·rw [o3 _ _ hq] at d; cases d
     ·exact absurd (rk y) d
 ·unfold un at z
  cases w:k' q with
  | some s=>rw [w] at z; rw [P.kh q s w]; exact z
  | none=>rw [w] at z; exact rH z
 ·unfold un at z
  cases w:k' q with
  | some s =>
   by_cases y:k q=none
   ·exact (P.fr q y (by rw [w]; exact Option.some_ne_none _)).2
   ·exact o4 q (kne q y)
  | none =>
   rw [w] at z
   exact o4 q fun y=>z (rh.free y)
 ·unfold un at z
  cases w:k' q with
  | some s=>rw [w] at z; refine O2.notup hv' q xs ?_; rw [w]; exact z
  | none=>rw [w] at z; exact o5 q xs (rh _ _ z)
theorem PutC.same {k k':Hp}{H3:Hp}(ok:Okk F0 H0 F h H) (kh:Same k h) (a:Same k' H3) (b:∀ q,k q=none→k' q=none→H3 q=H q) (c:∀ q,k q=none→k' q≠none→F q=none∧h q=none∧H0 q=none∧H q=k' q):PutC F H h H0 k k' F H3:=by
 have dj:Dj F k':=fun q=>by
  by_cases w:k' q=none
  ·exact .inr w
  ·left
   by_cases y:k q=none
   ·exact (c q y w).1
   ·rcases ok.2.1 q with d | d
    ·exact d
    ·exact absurd (kh.free d) y
 have ol:∀ q o,k q=none→H q=some o→H3 q=some o:=fun q o y z=>by
  by_cases w:k' q=none
  ·rw [b q y w]; exact z
  ·obtain ⟨_,_,_,e⟩:=c q y w
   rw [z] at e
   exact a _ _ e.symm
 refine ⟨Same.refl _,fun q o z=>?_,fun q o z=>?_,fun q y z=>absurd y z,a,dj,fun q y z=>⟨(c q y z).2.1,(c q y z).2.2.1⟩⟩
 ·have y:k q=none:=by
   rcases ok.2.1 q with d | d
   ·rw [d] at z; cases z
   ·exact kh.free d
  exact ol q o y (ok.1.2.1 _ _ z)
 ·unfold less at z
  split at z
  ·rename_i y; exact ol q o y z
  ·cases z
end
section
variable {K:Fgg}{E:XK}{α β γ ρ S B:Type}{F0 H0 F h H:Hp}{L:List Sl}{e:TE}{T:Ty α}{r:Mo α}{O:Own ρ}{u:TS}{LS:S→List Sl}{LB:B→List Sl}{p:Addr}{vs:List V}
end
end L2
namespace L2
open PySem PySem.Spec PyProof.Rows
section
variable {α β γ:Type}
variable {O:Own α}
theorem zf9_ {F h1 h:Hp}(d:Dj F h) (s:Same h1 h):Same (un F h1) (un F h):=fun p o e=>by
 unfold un at e ⊢
 cases z:F p with
 | some w=>rw [z] at e; exact e
 | none=>rw [z] at e; exact s _ _ e
theorem znY_ {h1 h2 h:Hp}(j:Jn h1 h2 h):Jn h2 h1 h:=fun p=>by
 rcases j p with ⟨a,b⟩ | ⟨a,b⟩
 ·exact .inr ⟨a,b⟩
 ·exact .inl ⟨a,b⟩
end
section
variable {K:Fgg}{E:XK}{α β γ ρ S B:Type}{F0 H0 F h H:Hp}{L:List Sl}{e te ei:TE}{T:Ty α}{r:Mo α}{Or:Own ρ}{u:TS}{LS:S→List Sl}{LB:B→List Sl}{σ:St}
end
end L2
namespace L2
open PySem PySem.Spec PyProof.Rows
def mFld (C:Addr) (te:TE) (f:Str):TE:=fun σ H Q=>te σ H fun x H1=>match x with
 | .ref a=>∃ dx fs v,H1 a=some (.ins C dx fs)∧fs.lookup f=some v∧Q v H1
 | _=>False
def mSFld (C:Addr) (te tv:TE) (f:Str):TS:=fun D σ H=>tv σ H fun y H1=>te σ H1 fun x H2=>match x with
 | .ref a=>∃ dx fs,H2 a=some (.ins C dx fs)∧fs.length<1000∧D.nx σ (upd H2 a (.ins C dx (putF f y fs)))
 | _=>False
section
variable {X:Cx}{e value o:Expr}{es:List Expr}{f m x:Str}{p pos pos' apos:Pos}{ta tv:TE}{t:TA}{C:Addr}{k:Nat}{ps:List Str}{sp:Sp}
theorem zA_ (c:Cls X.K C) (n:NoAttr X.K C f) (he:PE X e ta) (hb:attributeBase e f X.env (eval e X.env)=eval e X.env:=by rfl):PE X (.Attribute e f pos) (mFld C ta f):=by
 intro pins s σ H Q I h
 refine zmv_ hb (thn (he pins s σ H _ I h) fun u s1 hq_=>?_)
 obtain ⟨x,H1,I1,rx,q1⟩:=hq_
 cases x with
 | ref a =>
  obtain ⟨dx,fs,v,ea,l,q⟩:=q1
  obtain rfl:u=Value.ref a:=rx
  exact zhG_ I1 ea c n l fun u' s2 I2 ru=>⟨v,H1,I2,ru,q⟩
 | _=>exact q1.elim
theorem zcq_ (c:Cls X.K C) (n:NoAttr X.K C f) (ha:PE X o ta) (hv:PE X value tv) (hs:swapsWith value (some (.Attribute o f pos')) pos.line X.env=pure false:=by rfl):PS X (.Assign [.Attribute o f pos'] value pos) (mSFld C ta tv f):=by
 intro pins s σ H D I h
 refine plainObj_wpAny_Assign_Attribute (thn (hv pins s σ H _ I h) fun u s1 ⟨y,H1,I1,ry,q⟩=>thn (ha pins s1 σ H1 _ I1 q) fun ov s2 hq_=>?_) hs
 obtain ⟨x,H2,I2,rx,q2⟩:=hq_
 cases x with
 | ref a =>
  obtain ⟨dx,fs,ea,l,q3⟩:=q2
  obtain rfl:ov=Value.ref a:=rx
  exact zhk_ I2 ea c n l ry fun s3 I3=>⟨σ,_,I3,q3⟩
 | _=>exact q2.elim
end
theorem zfi_:∀ {ns:List Str}{vs:List V}{i:Nat}{f:Str}{v:V},ns.Nodup→ns[i]?=some f→vs[i]?=some v→(ns.zip vs).lookup f=some v
 | [],_,_,_,_,_,h,_=>by simp at h
 | n::ns,[],_,_,_,_,_,h=>by simp at h
 | n::ns,w::vs,0,f,v,_,h,h'=>by
  simp at h h'; subst h h'
  rw [List.zip_cons_cons,List.lookup_cons,beq_self_eq_true]
 | n::ns,w::vs,i+1,f,v,nd,h,h'=>by
  obtain ⟨h1,h2⟩:=List.nodup_cons.mp nd
  have hf:ns[i]?=some f:=by simpa using h
  have hne:(f == n)=false:=beq_eq_false_iff_ne.mpr fun z=>h1 (z ▸ List.mem_of_getElem? hf)
  rw [List.zip_cons_cons,List.lookup_cons,hne]
  exact zfi_ h2 hf (by simpa using h')
theorem zfM_:∀ {ns:List Str}{vs:List V}{f:Str}(v:V),f∉ns→vs.length=ns.length→putF f v (ns.zip vs)=(ns++[f]).zip (vs++[v])
 | [],[],f,v,_,_=>rfl
 | [],_::_,_,_,_,h=>by simp at h
 | _::_,[],_,_,_,h=>by simp at h
 | n::ns,w::vs,f,v,h,hl=>by
  have hne:¬ n=f:=fun z=>h (z ▸ List.mem_cons_self ..)
  rw [List.zip_cons_cons,putF,if_neg hne,zfM_ v (fun z=>h (List.mem_cons_of_mem _ z)) (by simpa using hl)]; rfl
structure Ps (γ:Type) where
 P:γ→List V→Hp→Hp→Prop
 fr:Cs γ
 mono:∀ {c vs F F' h},Same F F'→P c vs F h→P c vs F' h
 frz:∀ {c vs F h},Dj F h→P c vs F h→fr.R c vs (un F h)
 notup:∀ {c vs F h},P c vs F h→∀ p xs,h p≠some (.tup xs)
section
variable {α β γ:Type}
theorem dj_l {F h1 h2 h:Hp}(d:Dj F h) (j:Jn h1 h2 h):Dj F h1:=fun p=>by
 rcases d p with z | z
 ·exact .inl z
 ·exact .inr (j.l.free z)
theorem dj_r {F h1 h2 h:Hp}(d:Dj F h) (j:Jn h1 h2 h):Dj F h2:=fun p=>by
 rcases d p with z | z
 ·exact .inl z
 ·exact .inr (j.r.free z)
abbrev psNil:Ps Unit:=⟨fun _ vs _ h=>vs=[]∧∀ p,h p=none,csNil,fun _ q=>q,fun _ q=>q.1,fun q p xs z=>by rw [q.2 p] at z; cases z⟩
abbrev psO (O:Own α) (P:Ps γ):Ps (α×γ):=⟨fun c vs F h=>∃ v us h1 h2,vs=v::us∧Jn h1 h2 h∧O.O c.1 v F h1∧P.P c.2 us F h2,csCons O.fr P.fr,
 fun g ⟨v,us,h1,h2,e,j,a,b⟩=>⟨v,us,h1,h2,e,j,O.mono g a,P.mono g b⟩,
 fun d ⟨v,us,h1,h2,e,j,a,b⟩=>⟨v,us,e,O.fr.mono (zf9_ d j.l) (O.frz (dj_l d j) a),P.fr.mono (zf9_ d j.r) (P.frz (dj_r d j) b)⟩,
 fun ⟨v,us,h1,h2,e,j,a,b⟩ p xs z=>by
  rcases j p with ⟨_,y⟩ | ⟨_,y⟩
  ·rw [y] at z; exact P.notup b p xs z
  ·rw [y] at z; exact O.notup a p xs z⟩
def two (p dx:Addr) (o:HO):Hp:=fun q=>if q=p then some o else if q=dx then some (.own p) else none
theorem zk9_ {p dx:Addr}{o:HO}:two p dx o p=some o:=if_pos rfl
theorem zkK_ {p dx:Addr}{o:HO}(h:dx≠p):two p dx o dx=some (.own p):=by unfold two; rw [if_neg h,if_pos rfl]
theorem zmd_ {p dx q:Addr}{o:HO}(h:two p dx o q=none):q≠p∧q≠dx:=by
 refine ⟨fun e=>?_,fun e=>?_⟩
 ·rw [e,zk9_] at h; cases h
 ·unfold two at h; split at h
  ·cases h
  ·first | cases h | (rw [if_pos e] at h; cases h)
abbrev tyI (C:Addr) (ns:List Str) (Q:Cs γ):Ty γ:=⟨fun c v H=>∃ p dx vs,v=.ref p∧H p=some (.ins C dx (ns.zip vs))∧vs.length=ns.length∧Q.R c vs H,fun g ⟨p,dx,vs,e,h,l,q⟩=>⟨p,dx,vs,e,g _ _ h,l,Q.mono g q⟩⟩
abbrev owI (C:Addr) (ns:List Str) (P:Ps γ):Own γ:=⟨fun c v F h=>∃ p dx vs k,v=.ref p∧dx≠p∧Jn (two p dx (.ins C dx (ns.zip vs))) k h∧vs.length=ns.length∧P.P c vs F k,tyI C ns P.fr,
 fun g ⟨p,dx,vs,k,e,n,j,l,q⟩=>⟨p,dx,vs,k,e,n,j,l,P.mono g q⟩,
 fun d ⟨p,dx,vs,k,e,n,j,l,q⟩=>⟨p,dx,vs,e,zgG_ d _ _ (j.l _ _ zk9_),l,P.fr.mono (zf9_ d j.r) (P.frz (dj_r d j) q)⟩,
 fun ⟨p,dx,vs,k,e,n,j,l,q⟩ b xs y=>by
  rcases j b with ⟨_,z⟩ | ⟨_,z⟩
  ·rw [z] at y; exact P.notup q b xs y
  ·rw [z] at y; unfold two at y; split at y
   ·cases y
   ·split at y<;>cases y⟩
abbrev owAt (u:V) (O:Own α):Own α:=⟨fun a v F h=>v=u∧O.O a v F h,O.fr,fun g q=>⟨q.1,O.mono g q.2⟩,fun d q=>O.frz d q.2,fun q=>O.notup q.2⟩
def PsAt (P:Ps γ) (n:Nat) (O:Own β) (pr:γ→β) (st:γ→β→γ):Prop:=∀ {c vs F h},P.P c vs F h→∃ v h1 h2,vs[n]?=some v∧Jn h1 h2 h∧O.O (pr c) v F h1∧∀ z' h1' h' F3,Same F F3→O.O z' v F3 h1'→Jn h1' h2 h'→P.P (st c z') vs F3 h'
theorem pat_0 {O:Own β}{P:Ps γ}:PsAt (psO O P) 0 O (fun c=>c.1) (fun c z=>(z,c.2)):=fun ⟨v,us,h1,h2,e,j,a,b⟩=>by
 subst e
 exact ⟨v,h1,h2,rfl,j,a,fun z' h1' h' F3 g o' j'=>⟨v,us,h1',h2,rfl,j',o',P.mono g b⟩⟩
theorem jn_re {b t m a h:Hp}(jm:Jn b t m) (j:Jn a m h):Jn t (un a b) h:=fun q=>by
 rcases j q with ⟨x,y⟩ | ⟨x,y⟩
 ·rcases jm q with ⟨c,e⟩ | ⟨c,e⟩
  ·right
   refine ⟨by unfold un; rw [x,c],by rw [y,e]⟩
  ·left
   refine ⟨c,by unfold un; rw [x,y,e]⟩
 ·left
  refine ⟨jm.r.free x,?_⟩
  unfold un
  rw [y]
  cases z:a q with
  | none=>exact (jm.l.free x).symm ▸ rfl
  | some w=>rfl
theorem dj_of {a b t m h:Hp}(jm:Jn b t m) (j:Jn a m h):Dj a b:=fun q=>by
 rcases j.dj q with z | z
 ·exact .inl z
 ·exact .inr (jm.l.free z)
def PsAdd (P:Ps γ) (O:Own β) {δ:Type}(P':Ps δ) (ad:γ→β→δ):Prop:=∀ {c vs F h},P.P c vs F h→∀ z v' h1' h' F3,Same F F3→O.O z v' F3 h1'→Jn h1' h h'→P'.P (ad c z) (vs++[v']) F3 h'
theorem zeK_ {O:Own β}:PsAdd psNil O (psO O psNil) (fun _ z=>(z,())):=fun q z v' h1' h' F3 g o' j'=>by
 rw [q.1]
 exact ⟨v',[],h1',_,rfl,j',o',rfl,q.2⟩
theorem zO_ {O:Own α}{O':Own β}{P:Ps γ}{δ:Type}{P':Ps δ}{ad:γ→β→δ}(h:PsAdd P O' P' ad):PsAdd (psO O P) O' (psO O P') (fun c z=>(c.1,ad c.2 z)):=fun ⟨v,us,h1,h2,e,j,a,b⟩ z v' k1' h' F3 g o' j'=>by
 subst e
 have jm:Jn h2 h1 _:=znY_ j
 exact ⟨v,us++[v'],h1,un k1' h2,rfl,jn_re jm j',O.mono g a,h b z v' k1' _ F3 g o' (zi2_ (dj_of jm j'))⟩
end
section
variable {K:Fgg}{E:XK}{α β γ δ ρ S B:Type}{F0 H0 F h H:Hp}{L:List Sl}{e te ei:TE}{T:Ty α}{r:Mo α}{Or:Own ρ}{u:TS}{LS:S→List Sl}{LB:B→List Sl}{σ:St}{C:Addr}{ns:List Str}{f:Str}{i n:Nat}
theorem zZ_ {Q:Cs γ}{pr:γ→α}{r:Mo γ}(nd:ns.Nodup) (hf:ns[n]?=some f) (ha:CsAt Q n T pr) (he:EvF K te E L r (tyI C ns Q)):EvF K (mFld C te f) E L (r.bind fun c=>.ok (pr c)) T:=by
 intro σ F H R hL hs q
 refine he σ F H _ hL hs (q.bind.imp fun c F1 H1 x1 k1 v hq_=>?_)
 obtain ⟨p,dx,vs,e,hp,hl,hc⟩:=hq_
 subst e
 obtain ⟨w,ew,rw'⟩:=ha hc
 exact ⟨dx,_,w,x1.2.1 _ _ hp,zfi_ nd hf ew,k1.ok x1.2.1 w rw'⟩
theorem zjB_ {p dx:Addr}{o o':HO}{m h2 hn:Hp}{k:Hp}(ok:Okk F0 H0 F h H) (kh:Same k h) (ndx:dx≠p) (jn:Jn (two p dx o) m k) (h2m:Same h2 m) (fresh:∀ q,hn q≠none→F q=none∧h q=none∧H0 q=none) (hs:Same hn H) (dn:Dj hn h2) :
  Jn (two p dx o') (un hn h2) (un (two p dx o') (un hn h2))∧PutC F H h H0 k (un (two p dx o') (un hn h2)) F (upd H p o'):=by
 have hnk:∀ q,hn q≠none→k q=none:=fun q z=>kh.free (fresh q z).2.1
 have kp:k p=some o:=jn.l _ _ zk9_
 have kdx:k dx=some (.own p):=jn.l _ _ (zkK_ ndx)
 have m0:∀ q,two p dx o q≠none→m q=none:=fun q z=>by
  rcases jn.dj q with y | y
  ·exact absurd y z
  ·exact y
 have two_ne:∀ {o:HO}{q},two p dx o q≠none→q=p∨q=dx:=fun {o q} z=>by
  by_cases a:q=p
  ·exact .inl a
  ·by_cases b:q=dx
   ·exact .inr b
   ·exact absurd (by unfold two; rw [if_neg a,if_neg b]) z
 have dj:Dj (two p dx o') (un hn h2):=fun q=>by
  by_cases z:two p dx o' q=none
  ·exact .inl z
  ·right
   have kq:k q≠none:=by
    rcases two_ne z with e | e
    ·rw [e,kp]; exact Option.some_ne_none _
    ·rw [e,kdx]; exact Option.some_ne_none _
   have hq:hn q=none:=by
    by_cases y:hn q=none
    ·exact y
    ·exact absurd (hnk q y) kq
   have mq:m q=none:=m0 q (by
    rcases two_ne z with e | e
    ·rw [e,zk9_]; exact Option.some_ne_none _
    ·rw [e,zkK_ ndx]; exact Option.some_ne_none _)
   unfold un; rw [hq]; exact h2m.free mq
 refine ⟨zi2_ dj,PutC.same ok kh (fun q s z=>?_) (fun q z1 z2=>z4_ fun e=>?_) fun q z1 z2=>?_⟩
 ·unfold un at z
  cases y:two p dx o' q with
  | some w =>
   rw [y] at z
   by_cases e:q=p
   ·rw [e,zk9_] at y; rw [e,zD_,y]; exact z
   ·rw [z4_ e]
    have e2:q=dx:=by
     rcases two_ne (o:=o') (q:=q) (by rw [y]; exact Option.some_ne_none _) with a | a
     ·exact absurd a e
     ·exact a
    rw [e2,zkK_ ndx] at y
    rw [← z,← y,e2]; exact ok.2.2.1 _ _ (kh _ _ kdx)
  | none =>
   rw [y] at z
   have e:=(zmd_ y).1
   rw [z4_ e]
   cases x:hn q with
   | some w=>rw [x] at z; rw [← z]; exact hs _ _ x
   | none=>rw [x] at z; exact ok.2.2.1 _ _ (kh _ _ (jn.r _ _ (h2m _ _ z)))
 ·rw [e,kp] at z1; cases z1
 ·have e1:two p dx o' q=none:=by
   by_cases y:two p dx o' q=none
   ·exact y
   ·rcases two_ne y with e | e
    ·rw [e,kp] at z1; cases z1
    ·rw [e,kdx] at z1; cases z1
  have e2:h2 q=none:=h2m.free (jn.r.free z1)
  have eu:un (two p dx o') (un hn h2) q=hn q:=by
   unfold un; rw [e1]
   cases x:hn q with
   | some w=>rfl
   | none=>exact e2
  rw [eu] at z2 ⊢
  obtain ⟨a,b,c⟩:=fresh q z2
  refine ⟨a,b,c,?_⟩
  cases x:hn q with
  | none=>exact absurd x z2
  | some w=>exact hs _ _ x
theorem znG_ {P:Ps γ}{P':Ps δ}{ad:γ→α→δ}{x:γ}{w:V}{k:δ→Mo (Out ρ B S)}(hi:L[i]?=some (.ow (owAt w (owI C ns P)) x)) (hf:f∉ns) (hsm:ns.length<900) (pp:PsAdd P (owF T) P' ad) (hT:Imm T) (he:EvF K e E L r T) (hk:∀ x',EvS K u E (L.set i (.ow (owAt w (owI C (ns++[f]) P')) x')) (k x') LS LB Or) :
  EvS K (tSeq (mSFld C (mVar i) e f) u) E L (r.bind fun a=>k (ad x a)) LS LB Or:=by
 intro F0 H0 σ F h H D hL ok fin
 refine he σ (un F h) H _ (hL.froz ok.2.1) ok.thaw (zaQ_ (G:=F) ok _ (.inl rfl) fin fun a F' H' hra x1 v hv=>?_)
 obtain ⟨o,hs,ht⟩:=ok.back x1
 rw [hra] at fin
 obtain ⟨v0,k0,e1,⟨ew,p,dx,vs,m,rfl,ndx,jn,hl,ps⟩,kH,kh,_,g⟩:=zik_ (hL.mono hs) hi o
 have hp1:H' p=some (.ins C dx (ns.zip vs)):=kH _ _ (jn.l _ _ zk9_)
 refine zdi_ e1 ⟨dx,_,hp1,by rw [List.length_zip]; omega,?_⟩
 rw [zfM_ v hf hl]
 have nul:∀ q,(fun _:Addr=>(none:Option HO)) q≠none→less F' h q=none∧h q=none∧H0 q=none:=fun q z=>absurd rfl z
 obtain ⟨j',PC⟩:=zjB_ (o':=.ins C dx ((ns++[f]).zip (vs++[v]))) (hn:=fun _=>none) o kh ndx jn (Same.refl m) nul (fun q o z=>by cases z) (fun q=>.inl rfl)
 have eu:un (fun _=>none) m=m:=by funext q; rfl
 rw [eu] at j' PC
 obtain ⟨h',a1,a2⟩:=g (owAt w (owI C (ns++[f]) P')) (ad x a) (.ref p) _ _ _ PC ⟨ew,p,dx,vs++[v],m,rfl,ndx,j',by rw [List.length_append,List.length_append,hl]; rfl,pp ps a v (fun _=>none) m _ (Same.refl _) ⟨fun _=>rfl,hT ht hv⟩ (fun q=>.inl ⟨rfl,rfl⟩)⟩
 rw [zbh_ e1] at a1
 exact hk _ F0 H0 σ _ h' _ D a1 a2 fin
end
end L2
namespace L2
open PySem PySem.Spec PyProof.Rows
section
variable {K:Fgg}{E:XK}{α β γ δ ρ ρ' S B:Type}{F0 H0 F h H:Hp}{L:List Sl}{e te ei:TE}{T:Ty α}{r:Mo α}{Or:Own ρ}{t u:TS}{LS:S→List Sl}{LB:B→List Sl}{σ:St}{C:Addr}{ns:List Str}{f m:Str}{i n:Nat}
def FinM (K:Fgg) (r:Mo ρ) (E:XK) (F0 H0:Hp) (kk:ρ→Hp→Hp→Hp→Prop):Prop:=match r with
 | .ok a=>∀ F h H,Okk F0 H0 F h H→kk a F h H
 | .ex c=>∀ F h H,Okk F0 H0 F h H→Tell K E c H0 F H
 | .no=>False
abbrev owRM (w:V) (O2:Own β) (Or:Own ρ):Own (ρ×β):=⟨fun r v F h=>∃ h1 h2,Jn h1 h2 h∧Or.O r.1 v F h1∧O2.O r.2 w F h2,⟨fun r v H=>Or.fr.R r.1 v H,fun g q=>Or.fr.mono g q⟩,
 fun g ⟨h1,h2,j,a,b⟩=>⟨h1,h2,j,Or.mono g a,O2.mono g b⟩,
 fun d ⟨h1,h2,j,a,b⟩=>Or.fr.mono (zf9_ d j.l) (Or.frz (dj_l d j) a),
 fun ⟨h1,h2,j,a,b⟩ p xs z=>by
  rcases j p with ⟨_,y⟩ | ⟨_,y⟩
  ·rw [y] at z; exact O2.notup b p xs z
  ·rw [y] at z; exact Or.notup a p xs z⟩
def CtM (K:Fgg) (O:Own α) (O2:Own β) (Q:Cs γ) (g:α→γ→Mo (ρ×β)) (Or:Own ρ):Sp:=fun vs H R E=>∃ F h x c w ws,vs=w::ws∧Same F H∧Dj F h∧Same h H∧O.O x w F h∧Q.R c ws F ∧
 FinM K (g x c) E F (less H h) fun r F' h' H'=>∀ v,(owRM w O2 Or).O r v F' h'→R v H'
theorem zlB_ {k:Hp}(ok:Okk F0 H0 F h H) (s:Same k h):Okk F0 H0 F k H:=by
 refine ⟨ok.1,fun p=>?_,s.trans ok.2.2.1,fun p z=>ok.2.2.2.1 p fun y=>z (s.free y),fun p xs z=>ok.2.2.2.2 p xs (s _ _ z)⟩
 rcases ok.2.1 p with z | z
 ·exact .inl z
 ·exact .inr (s.free z)
theorem zgx_ {h:Hp}(p:Addr) (z:h p≠none):less H h p=none:=by
 unfold less
 cases y:h p with
 | none=>exact absurd y z
 | some w=>rfl
theorem zjD_:Same (less H h) H:=fun p o z=>by
 unfold less at z
 split at z
 ·exact z
 ·cases z
theorem zjX_ (hs:Same F H) (dj:Dj F h) (hh:Same h H) (nt:∀ p xs,h p≠some (.tup xs)):Okk F (less H h) F h H:=by
 refine ⟨⟨Same.refl _,hs,zjD_,fun p a b=>absurd a b⟩,dj,hh,fun p z=>zgx_ p z,nt⟩
def fnMU (r:Mo (Out (Unit×β) Unit β)):Mo (Unit×β):=r.bind fun o=>match o with | .rt a=>.ok a | .nx x=>.ok ((),x) | _=>.no
theorem zhh_ {O:Own α}{Q:Cs γ}{ss:γ→List Sl}{x:α}{c:γ}{w:V}{ws:List V}(m:Nat) (hC:CsS Q ss) (hO:O.O x w F h) (hc:Q.R c ws F):Hold (.ow (owAt w O) x::(ss c++List.replicate m .dead)) (some w::(ws.map some++List.replicate m none)) F h :=
 ⟨h,fun _=>none,fun _=>.inr ⟨rfl,rfl⟩,⟨w,rfl,rfl,hO⟩,(hC hc).hold m⟩
theorem zl8_ {t:XK→TS}{O:Own α}{O2:Own β}{Q:Cs γ}{ss:γ→List Sl}{g:α→γ→Mo (Out (Unit×β) Unit β)}{N:List Str}{LS:V→β→List Sl}(n m:Nat) (hn:CsN Q n) (hm:N.length-(n+1)=m) (hC:CsS Q ss) (hLS:∀ w x,(LS w x)[0]?=some (.ow (owAt w O2) x))
  (hb:∀ w x c E,EvS K (t E) E (.ow (owAt w O) x::(ss c++List.replicate m .dead)) (g x c) (LS w) (fun _:Unit=>[]) (owRM w O2 (owF tyNon))) :
  ∀ vs H R E,CtM K O O2 Q (fun x c=>fnMU (g x c)) (owF tyNon) vs H R E→t E { nx:=fun _ H'=>R .non H',rt:=R } (start N vs) H:=by
 rintro vs H R E ⟨F,h,x,c,w,ws,rfl,hs,dj,hh,hO,hc,q⟩
 have hstart:start N (w::ws)=some w::(ws.map some++List.replicate m none):=by
  unfold start
  rw [List.length_cons,hn hc,hm]; rfl
 rw [hstart]
 refine hb w x c E F (less H h) _ F h H _ (zhh_ m hC hO hc) (zjX_ hs dj hh (O.notup hO)) ?_
 cases e:g x c with
 | no=>simp only [fnMU,e] at q; exact q
 | ex cc=>simp only [fnMU,e] at q; exact q
 | ok o =>
  simp only [fnMU,e] at q
  cases o with
  | nx s =>
   intro σ F' h' H' hL ok
   obtain ⟨o,k,hr,e1,j,⟨v,e2,e3,ho⟩,_⟩:=hL.at 0 (hLS w s)
   subst e3
   exact q F' k H' (zlB_ ok j.l) .non ⟨fun _=>none,k,fun _=>.inl ⟨rfl,rfl⟩,⟨fun _=>rfl,rfl⟩,ho⟩
  | bk s=>exact q.elim
  | ct s=>exact q.elim
  | rt a=>exact fun v F' h' H' ok hv=>q F' h' H' ok v hv
end
end L2
namespace L2
open PySem PySem.Spec PyProof.Rows
section
variable {K:Fgg}{E:XK}{α β γ δ ρ ρ' S B:Type}{F0 H0 F h H:Hp}{L:List Sl}{e te ei:TE}{T:Ty α}{r:Mo α}{Or:Own ρ}{t u:TS}{LS:S→List Sl}{LB:B→List Sl}{σ:St}{C:Addr}{ns:List Str}{f m:Str}{i n:Nat}
theorem zgp_ {P:Ps γ}{P':Ps δ}{ad:γ→α→δ}{x:γ}{w:V}{k:δ→Mo (Out ρ B S)}(hi:L[i]?=some (.ow (owAt w (owI C ns P)) x)) (hf:f∉ns) (hsm:ns.length<900) (pp:PsAdd P (owF T) P' ad) (hT:Imm T) (he:EvF K e E L r T) (hk:∀ x',EvS K u E (L.set i (.ow (owAt w (owI C (ns++[f]) P')) x')) (k x') LS LB Or) :
  EvS K (tSeq (mSFld C (mVar i) e f) u) E L (r.bind fun a=>(Mo.ok (ad x a)).bind k) LS LB Or:=znG_ hi hf hsm pp hT he hk
end
end L2
namespace L2
open PySem PySem.Spec PyProof.Rows
section
variable {K:Fgg}{E:XK}{γ:Type}{L:List Sl}{C:Addr}{ns:List Str}
theorem zk5_ (i:Nat) {P:Ps γ}{x:γ}{w:V}(h:L[i]?=some (.ow (owAt w (owI C ns P)) x)):EvF K (mVar i) E L (.ok x) (tyI C ns P.fr):=zin_ i h
end
end L2
namespace L2
open PySem PySem.Spec PyProof.Rows
end L2
namespace L2
open PySem PySem.Spec PyProof.Rows
section
variable {X:Cx}
def mTrL (K:Fgg) (t:TE):TT:=fun σ H Q=>t σ H fun x H'=>match x with
 | .bl k=>Q k H'
 | .ref a=>∃ xs,SqL K H' a xs∧Q (!xs.isEmpty) H'
 | _=>False
theorem ziA_ {e:Expr}{t:TE}(h:PE X e t) (he:∀ whole,isTrue e X.env whole=(do let v ← whole; standAt e.pos; holding [v] (truthy v)):=by intro _; rfl):PT X e (mTrL X.K t):=by
 intro pins s σ H Q I hw
 refine isTrue_plain (thn (h pins s σ H _ I hw) fun v s1 hq_=>?_) (he _)
 obtain ⟨x,H1,I1,r1,q1⟩:=hq_
 cases x with
 | bl c=>cases r1; exact wpAny_truthy_bool ⟨H1,I1,q1⟩
 | ref a =>
  cases r1
  obtain ⟨xs,hq,q⟩:=q1
  obtain ⟨its,rv,p,hz⟩:=I1.list hq
  have hl:=rv.length
  refine wpAny_truthy_list p.isList (by rw [List.size_toArray,← hl]; rw [sizeLine_eq] at hz; lia) ?_
  have e:its.isEmpty=xs.isEmpty:=by cases rv<;>rfl
  refine ⟨H1,I1.tok _,?_⟩
  simpa [e] using q
 | _=>exact q1.elim
end
section
variable {K:Fgg}{E:XK}{α β:Type}{L:List Sl}{e:TE}{T:Ty α}
theorem zkf_ {b:Mo Bool}(h:EvF K e E L b tyBl):EvT K (mTrL K e) E L b:=by
 intro σ F H Q hL hs q
 refine h σ F H _ hL hs (q.imp fun a F1 H1 x k v hv=>?_)
 cases hv
 exact k
theorem zoa_ {r:Mo (List α)}(h:EvF K e E L r (tyL T)):EvT K (mTrL K e) E L (r.bind fun l=>.ok (!l.isEmpty)):=by
 intro σ F H Q hL hs q
 refine h σ F H _ hL hs (q.bind.imp fun a F1 H1 x k v hv=>?_)
 obtain ⟨p,us,rfl,hp,hr⟩:=hv
 refine ⟨us,.of (x.2.1 _ _ hp),?_⟩
 have e:a.isEmpty=us.isEmpty:=by cases hr<;>rfl
 have:=k.ok x.2.1
 rwa [e] at this
theorem zmx_:Bl K (mAll K) E (csLast (tyL tyBl)) (fun l=>.ok (l.all id)) tyBl:=by
 rintro c vs F H Q hs ⟨v,rfl,p,us,rfl,h,r⟩ q
 refine ⟨c,?_,q.ok hs _ rfl⟩
 have e:us=c.map V.bl:=by
  clear h q
  induction r with
  | nil=>rfl
  | cons a t ih=>rw [List.map_cons,← ih]; exact congrArg (·::_) a
 rw [← e]
 exact .of (hs _ _ h)
theorem zay_ {r:Mo (Option α)}(h:EvF K e E L r (tyOpt T)):EvF K e E L (r.bind fun o=>Mo.opt o) T:=by
 intro σ F H Q hL hs q
 refine h σ F H _ hL hs (q.bind.imp fun o F1 H1 x k v hv=>?_)
 cases o with
 | none=>exact k.elim
 | some a=>exact k.ok x.2.1 v hv.1
end
end L2
namespace L2
open PySem PySem.Spec PyProof.Rows
end L2
namespace L2
open PySem PySem.Spec PyProof.Rows
section
variable {prog:Program}{w:World}{A:Around}{E:Value→Shared→Prop}{s:Shared}
end
section
variable {X:Cx}
end
section
variable {K:Fgg}{E:XK}{α β γ ρ S B:Type}{F H:Hp}{L:List Sl}{e:TE}{T:Ty α}
end
end L2
namespace L2
open PySem PySem.Spec PyProof.Rows
section
variable {α β γ:Type}
end
section
variable {K:Fgg}{E:XK}{α β γ δ ρ ρ' S B:Type}{F0 H0 F h H:Hp}{L:List Sl}{e te ei:TE}{T:Ty α}{r:Mo α}{Or:Own ρ}{t u:TS}{LS:S→List Sl}{LB:B→List Sl}{σ:St}{C:Addr}{ns:List Str}{f m:Str}{i n w:Nat}
end
end L2
namespace L2
open PySem PySem.Spec PyProof.Rows
section
variable {K:Fgg}{E:XK}{α β γ δ ρ ρ' S B:Type}{F0 H0 F h H:Hp}{L:List Sl}{e te ei tc:TE}{T:Ty α}{r:Mo α}{Or:Own ρ}{Or':Own ρ'}{t u:TS}{LS:S→List Sl}{LB:B→List Sl}{σ:St}{C:Addr}{ns:List Str}{f m:Str}{i n w j:Nat}
end
end L2
namespace L2
open PySem PySem.Spec PyProof.Rows
section
variable {K:Fgg}{E:XK}{α β γ δ ρ ρ' S B:Type}{F0 H0 F h H:Hp}{L:List Sl}{e te ei tc:TE}{T:Ty α}{r:Mo α}{Or:Own ρ}{Or':Own ρ'}{t u:TS}{LS:S→List Sl}{LB:B→List Sl}{σ:St}{C:Addr}{ns:List Str}{f m:Str}{i n w j:Nat}
section
open PySem PySem.Spec PyProof.Rows PySem.W
variable {κ:Type}
def mSortDk (b:Nat) (_:Fgg):List V→Hp→VK→Prop:=fun xs H Q=>match xs with
 | [.ref p]=>∃ (kvs:List (Key×V)) (k:Nat) (lt:Nat→Nat→Bool),H p=some (.dK kvs)∧kvs.length<b∧WOr lt∧k≠0∧(∀ q∈kvs,knd (kV q.1)=k)∧(∀ i j x y,(kvs.map fun q:Key×V=>kV q.1)[i]?=some x→(kvs.map fun q=>kV q.1)[j]?=some y→lt i j=ltF x y) ∧
   ∀ idx,Srtd lt kvs.length idx→∀ l,H l=none→Q (.ref l) (upd H l (.lst (idx.map fun i=>(kvs.map fun q=>kV q.1).getD i .non)))
 | _=>False
theorem zfo_ {b:Nat}(hB:RunB b) {X:Cx}(hc:X.calm=true):CallR X (.builtin "sorted") (mSortDk b X.K):=by
 have hB1:=hB.1
 intro pins s σ H xs us Q I r h
 have hv:∃ p,xs=[.ref p]:=by
  rcases xs with _ | ⟨y,_ | ⟨z,t⟩⟩
  ·exact False.elim h
  ·cases y with
   | ref p=>exact ⟨p,rfl⟩
   | _=>exact False.elim h
  ·cases y<;>exact False.elim h
 obtain ⟨p,rfl⟩:=hv
 ·
  ·
   obtain ⟨kvs,k,lt,hp,h64,wo,hk,hall,hlt,q⟩:=h
   obtain ⟨u,rfl,rx⟩:=vals1 r
   cases rx
   obtain ⟨z,hd,vs,rel,dd⟩:=zlt_ I.hok (.inl hp)
   obtain ⟨ep,hat⟩:=dd.dictAt
   have hln:kvs.length=vs.length:=rel.length
   have hpv:∀ us:List Value,Vals (kvs.map fun q=>kV q.1) us→us.length=kvs.length:=fun us hv=>by rw [← Vals.length hv,List.length_map]
   refine zjp_ hB (n:=kvs.length) (PV:=fun us=>Vals (kvs.map fun q=>kV q.1) us) h64 wo hpv (fun R hR=>?_) (fun us hv h2 h' tk _=>?_) fun us l h' tk c idx hv hl kp hi ho=>?_
   ·refine zkv_ (kdl_dict (knd:=mixKind X.prog X.w) (kvs:=vs) (ep:=ep) hd) ?_ hat (by rw [← hln,sizeLine_eq]; lia) fun h' tk acc hsz hkp hacc=>hR _ h' tk ?_ (Nat.le_of_lt hsz) hkp
    ·exact I.ok.hd hc
    ·have hl:acc.toList.length=kvs.length:=by rw [Array.length_toList,hln]; exact hacc.1
     have e:∀ (ks:List (Key×V)) (us:List Value),ks.length=us.length→(∀ (i:Nat) (q:Key×V) (u:Value),ks[i]?=some q→us[i]?=some u→RelV (kV q.1) u)→Vals (ks.map fun q=>kV q.1) us:=by
      intro ks
      induction ks with
      | nil=>intro us hl _; cases us with | nil=>exact .nil | cons _ _=>simp at hl
      | cons q ks ih =>
       intro us hl hh
       cases us with
       | nil=>simp at hl
       | cons u us=>exact .cons (hh 0 q u rfl rfl) (ih us (by simpa using hl) fun i q' u' e1 e2=>hh (i+1) q' u' (by simpa using e1) (by simpa using e2))
     refine e kvs acc.toList hl.symm fun i q u e1 e2=>?_
     obtain ⟨k',x,ek,hk'⟩:=hacc.2 i u (by rw [← Array.getElem?_toList]; exact e2)
     have:∀ (a:List (Key×V)) (b:List (Key×Value)) (i:Nat) q k' x,KV a b→a[i]?=some q→b[i]?=some (k',x)→q.1=k':=by
      intro a b i q k' x hab
      unfold KV at hab
      induction hab generalizing i with
      | nil=>intro e; simp at e
      | cons r t ih =>
       intro e1 e2
       cases i with
       | zero=>simp at e1 e2; subst e1; have:=r.1; rw [e2] at this; exact this
       | succ i=>exact ih i (by simpa using e1) (by simpa using e2)
     rw [this kvs vs i q k' x rel e1 ek]
     exact is_kV hk'
   ·refine zlr_ hv hk (fun y hy=>?_) hlt h2
    obtain ⟨q,hq,rfl⟩:=List.mem_map.mp hy
    exact hall q hq
   ·have hlu:=hpv us hv
    refine ⟨.ref l,_,I.laid (o:=.lst (idx.map fun i=>(kvs.map fun q=>kV q.1).getD i .non)) (t':=tk) kp hl ?_,rfl,q idx (by rwa [← hlu]) _ (I.hok.fresh hl)⟩
    have hi1:∀ i∈idx,i<us.length:=fun i hi'=>List.mem_range.mp (hi.1.mem_iff.mp hi')
    refine ⟨?_,_,c,zh7_ hv idx hi1,ho⟩
    rw [List.length_map,hi.1.length_eq,List.length_range,sizeLine_eq]
    lia
theorem zgX_ {b:Nat} [DecidableEq κ] {KY:KyT κ}{T:Ty α}{k:Nat}{lt:κ→κ→Bool}(f:FlT KY.T k lt) (o:LOr lt) (hk:∀ x F,KY.T.R x (kV (KY.key x)) F) (b0:0<b:=by decide) :
  BlO K (mSortDk b K) E (csLast (tyD KY T)) (fun m=>.grd (m.length<b) (.ok (srtL lt (m.map (·.1))))) (owL KY.T):=by
 rintro m vs F H Q hs ⟨v,rfl,p,kvs,rfl,h,r⟩ q
 have hl:m.length=kvs.length:=Paired.length r
 have pr:Prs KY.T F (m.map (·.1)) (kvs.map fun q=>kV q.1):=by
  clear h hl q
  induction r with
  | nil=>exact .nil
  | cons a t ih=>rename_i q w m kvs; rw [List.map_cons,List.map_cons,a.1]; exact .cons (hk _ _) ih
 obtain ⟨h64,q⟩:=q.grd
 have all:∀ q∈kvs,knd (kV q.1)=k:=fun q hq=>by
  obtain ⟨i,e⟩:=List.mem_iff_getElem?.mp (List.mem_map_of_mem (f:=fun q:Key×V=>kV q.1) hq)
  obtain ⟨x,_,rx⟩:=zg5_ pr i _ e
  exact (f.2 x _ F rx).1
 cases m with
 | nil =>
  cases r
  refine ⟨[],1,fun _ _=>false,hs _ _ h,b0,⟨(fun h=>by cases h),(fun _ _=>rfl)⟩,by decide,(fun y hy=>by cases hy),(fun i j x y e=>by simp at e),fun idx hi l hl=>?_⟩
  have:idx=[]:=by have:=hi.1.length_eq; simpa using this
  subst this
  rw [show srtL lt (([]:List (κ×α)).map (·.1))=[] by simp [srtL]] at q
  exact zbJ_ hs hl (xs:=[]) .nil q
 | cons x xs =>
  refine ⟨kvs,k,fun i j=>lt (((x::xs).map (·.1)).getD i x.1) (((x::xs).map (·.1)).getD j x.1),hs _ _ h,by lia,znz_ o _,f.1,all,fun i j a b ea eb=>?_,fun idx hi l hl2=>?_⟩
  ·obtain ⟨a',ea',ra⟩:=zg5_ pr i a ea
   obtain ⟨b',eb',rb⟩:=zg5_ pr j b eb
   show lt (((x::xs).map (·.1)).getD i x.1) (((x::xs).map (·.1)).getD j x.1)=_
   rw [List.getD_eq_getElem?_getD,List.getD_eq_getElem?_getD,ea',eb']
   exact ((f.2 a' a F ra).2 b' b F rb).1.symm
  ·rw [← hl,← List.length_map (f:=(·.1))] at hi
   have e:=zh0_ o hi
   rw [← e] at q
   refine zbJ_ hs hl2 (zju_ pr x.1 idx fun i hi'=>?_) q
   have:=List.mem_range.mp (hi.1.mem_iff.mp hi')
   rw [List.length_map] at this ⊢
   lia
end
theorem zhS_ {r:Mo (List α)}{ta:TA}(h:EvA K ta E L r (csLast (tyL T))):EvI K (iEnumL K ta) E L (r.bind fun l=>.ok (enumL l)) (tyTup (csCons tyInt (csLast T))):=by
 intro σ F H R hL hs q
 refine h σ F H _ hL hs (q.bind.imp fun l F1 H1 x1 k1 vs hv=>?_)
 obtain ⟨v,rfl,p,us,rfl,hp,hr⟩:=hv
 refine ⟨p,rfl,⟨us,.of (x1.2.1 _ _ hp)⟩,k1.ok x1.2.1 _ ⟨fun i H x hH hx=>?_,fun H hH=>?_⟩⟩
 ·rw [zeF_] at hx
  rcases hr.get i with ⟨a,_⟩ | ⟨y,u,a,b,c⟩
  ·rw [a] at hx; cases hx
  ·rw [a] at hx; cases hx
   refine ⟨⟨us,u,.of (hH _ _ hp),b⟩,?_⟩
   rintro v H' ⟨p2,w,z,hp2,rfl,rfl⟩ F hF hF'
   have e:=z us (.of (hH _ _ hp))
   rw [b] at e; cases e
   have x:=Ext.new (o:=.tup [.int i,u]) hF' hp2
   exact ⟨_,x,p2,_,rfl,zD_,_,_,rfl,rfl,u,rfl,T.mono (hF.trans x.1) c⟩
 ·exact ⟨us,.of (hH _ _ hp),by rw [zc8_,hr.len]; exact Nat.le_refl _⟩
theorem za6_ {α:Type}{us:List α}{n:Nat}(h:us.length=n+1):∃ a t,us=a::t∧t.length=n:=by
 cases us with
 | nil=>cases h
 | cons a t=>exact ⟨a,t,rfl,Nat.succ.inj h⟩
theorem Fun.binds1 {x qual:Str}{st:Stmt}{f:Addr}{fd:FuncData}{ps:List Str}(hp:ps.length=1) (F:Fun K x qual st f fd) (h:∀ (kV doc pm:Value) (an:Option Addr) (cdv ct:Value) (ua:Value),bindArgs (PySem.W.fnOf x qual (defArgs st) (defBody st) (defScope st) .none kV doc pm an cdv ct) ⟨[ua],[]⟩=pure (ps.zip [ua])):Binds K fd ps []:=by
 refine F.binds fun kV doc pm an cdv ct us hl=>?_
 have h0:=hl.trans hp
 obtain ⟨ua,t1,rfl,h1⟩:=za6_ h0
 cases List.length_eq_zero_iff.mp h1
 exact h kV doc pm an cdv ct ua
theorem Fun.binds2 {x qual:Str}{st:Stmt}{f:Addr}{fd:FuncData}{ps:List Str}(hp:ps.length=2) (F:Fun K x qual st f fd) (h:∀ (kV doc pm:Value) (an:Option Addr) (cdv ct:Value) (ua ub:Value),bindArgs (PySem.W.fnOf x qual (defArgs st) (defBody st) (defScope st) .none kV doc pm an cdv ct) ⟨[ua,ub],[]⟩=pure (ps.zip [ua,ub])):Binds K fd ps []:=by
 refine F.binds fun kV doc pm an cdv ct us hl=>?_
 have h0:=hl.trans hp
 obtain ⟨ua,t1,rfl,h1⟩:=za6_ h0
 obtain ⟨ub,t2,rfl,h2⟩:=za6_ h1
 cases List.length_eq_zero_iff.mp h2
 exact h kV doc pm an cdv ct ua ub
theorem zfa_ {P:Ps γ}{P':Ps δ}{O1:Own α}{ad:γ→α→δ}{x:γ}{w:V}{k:δ→Mo (Out ρ B S)}(hi:L[i]?=some (.ow (owAt w (owI C ns P)) x)) (hf:f∉ns) (hsm:ns.length<900) (pp:PsAdd P O1 P' ad) (hO:ImmO O1) (he:EvO K e E L r O1) (hk:∀ x',EvS K u E (L.set i (.ow (owAt w (owI C (ns++[f]) P')) x')) (k x') LS LB Or) :
  EvS K (tSeq (mSFld C (mVar i) e f) u) E L (r.bind fun a=>(Mo.ok (ad x a)).bind k) LS LB Or:=by
 intro F0 H0 σ F h H D hL ok fin
 refine he σ (un F h) H _ (hL.froz ok.2.1) ok.thaw (zaQ_ (G:=F) ok _ (.inl rfl) fin fun a F' H' hra x1 v hn fresh dj hsn hv=>?_)
 obtain ⟨o,hs,ht⟩:=ok.back x1
 rw [hra] at fin
 obtain ⟨v0,k0,e1,⟨ew,p,dx,vs,m,rfl,ndx,jn,hl,ps⟩,kH,kh,_,g⟩:=zik_ (hL.mono hs) hi o
 have hp1:H' p=some (.ins C dx (ns.zip vs)):=kH _ _ (jn.l _ _ zk9_)
 refine zdi_ e1 ⟨dx,_,hp1,by rw [List.length_zip]; lia,?_⟩
 rw [zfM_ v hf hl]
 have fr:∀ q,hn q≠none→less F' h q=none∧h q=none∧H0 q=none:=fun q z=>⟨by
  rcases dj q with y | y
  ·exact zjD_.free y
  ·exact absurd y z,ok.2.2.1.free (fresh q z),ok.1.2.2.1.free (fresh q z)⟩
 have dn:Dj hn m:=fun q=>by
  by_cases z:hn q=none
  ·exact .inl z
  ·exact .inr (jn.r.free (kh.free (fr q z).2.1))
 obtain ⟨j',PC⟩:=zjB_ (o':=.ins C dx ((ns++[f]).zip (vs++[v]))) (hn:=hn) o kh ndx jn (Same.refl m) fr hsn dn
 obtain ⟨h',a1,a2⟩:=g (owAt w (owI C (ns++[f]) P')) (ad x a) (.ref p) _ _ _ PC ⟨ew,p,dx,vs++[v],un hn m,rfl,ndx,j',by rw [List.length_append,List.length_append,hl]; rfl,pp ps a v hn _ _ (Same.refl _) (hO ht hv) (zi2_ dn)⟩
 rw [zbh_ e1] at a1
 exact hk _ F0 H0 σ _ h' _ D a1 a2 fin
end
end L2
namespace L2
open PySem PySem.Spec PyProof.Rows
section
variable {K:Fgg}{E:XK}{L:List Sl}
end
section
variable {K:Fgg}{E:XK}{α β ρ B:Type}{F0 H0 F h H:Hp}{L:List Sl}{te:TE}{Or:Own ρ}{tb:TS}{LB:B→List Sl}{i w:Nat}
end
end L2
namespace L2
open PySem PySem.Spec PyProof.Rows
section
variable {K:Fgg}{E:XK}{α β γ δ ρ ρ' S B:Type}{F0 H0 F h H:Hp}{L:List Sl}{e te ei tc:TE}{ta:TA}{T:Ty α}{r:Mo α}{Or:Own ρ}{Or':Own ρ'}{t u:TS}{LS:S→List Sl}{LB:B→List Sl}{σ:St}{C:Addr}{ns:List Str}{f m:Str}{i n w j:Nat}
end
end L2
namespace L2
open PySem PySem.Spec PyProof.Rows
section
variable {K:Fgg}{E:XK}{α κ:Type} [DecidableEq κ] {KY:KyT κ}{L:List Sl}{e1 e2 e3:TE}{T:Ty α}
end
section
variable {K:Fgg}{E:XK}{α β ρ ρ' B:Type}{L:List Sl}{te:TE}{Or:Own ρ}{Or':Own ρ'}{LB:B→List Sl}{C:Addr}{ns:List Str}{m:Str}{i w:Nat}
end
end L2
namespace L2
open PySem PySem.Spec PyProof.Rows
section
variable {K:Fgg}{E:XK}{α β γ δ ρ ρ' S B:Type}{F0 H0 F h H:Hp}{L:List Sl}{e te te2 tc:TE}{ta:TA}{T:Ty α}{r:Mo α}{Or:Own ρ}{Or':Own ρ'}{t u:TS}{LS:S→List Sl}{LB:B→List Sl}{σ:St}{C:Addr}{ns:List Str}{f m:Str}{i n w j:Nat}
end
theorem atF {K:Fgg}{E:XK}{α:Type}{e:TE}{r:Mo α}{T:Ty α}(L:List Sl) (h:EvF K e E L r T):EvF K e E L r T:=h
end L2
namespace L2
open PySem PySem.Spec PyProof.Rows
section
variable {X:Cx}{tg:Expr}
end
section
variable {K:Fgg}{E:XK}{α β:Type}{L:List Sl}{T:Ty α}
end
def mSetD (td ty tz:TE):TE:=fun σ H Q=>td σ H fun x H1=>(match x with | .ref a=>∃ kvs,H1 a=some (.dK kvs) | _=>False)∧ty σ H1 fun y H2=>tz σ H2 fun z H3=>atD x y H3 fun a kvs k =>
 match valV kvs k with | some v=>Q v H3 | none=>kvs.length<sizeLine∧Q z (upd H3 a (.dK (putK kvs k z)))
section
variable {X:Cx}{o e f:Expr}{apos cpos:Pos}{td ty tz:TE}
theorem zj1_ (hu:X.A.units+60<cLine) (ho:PE X o td) (he:PE X e ty) (hf:PE X f tz) (m:M2 X o "setdefault" apos e f cpos:=by exact ⟨rfl,rfl,rfl,rfl⟩):PE X (.Call (.Attribute o "setdefault" apos) [e,f] [] cpos) (mSetD td ty tz):=by
 intro pins s σ H Q I h
 refine wpAny_Call_method m.base m.few m.line PySem.F.plainAttrs_dict PySem.F.slot_dict_setdefault PySem.F.type_dict_setdefault (thn (ho pins s σ H _ I h) fun u s1 hq_=>?_)
 obtain ⟨x,H1,I1,rx,hx,q1⟩:=hq_
 cases x with
 | ref a =>
  obtain ⟨kvs0,hd0⟩:=hx
  obtain rfl:u=Value.ref a:=rx
  obtain ⟨t1,t2,_⟩:=zob_ I1 (.inl ⟨kvs0,.inl hd0⟩)
  refine ⟨t1,t2,?_⟩
  rw [m.trees]
  refine Calls.callWith_builtin rfl (Calls.evalArgs_plain (Calls.spliced_cons (thn (he pins s1 σ H1 _ I1 q1) fun iv s2 ⟨y,H2,I2,ry,q2⟩ =>
   Calls.spliced_cons (thn (hf pins s2 σ H2 _ I2 q2) fun fv s3 ⟨z,H3,I3,rz,q3⟩=>Calls.spliced_nil ?_))))
  obtain ⟨a',kvs,k,ea,rfl,hd,q⟩:=zjd_ q3
  cases ea
  obtain ⟨hz,hsys,vs,rel,dd⟩:=dk_of I3.hok hd
  have hzv:vs.length≤sizeLine:=by rw [← rel.length]; exact hz
  have rk:=rel.val k
  refine call_meetsIn PySem.F.slot_dict_setdefault dd.typeIs PySem.F.entry_dict_setdefault (PySem.F.args_dict_setdefault_3 _ _ _) (kt_meets_setdefault (mixKind X.prog X.w) a (zmq_ ry) hsys fv) ⟨vs,dd,hzv,fun v hv=>?_,fun hn h' dd' hs=>?_⟩
  ·rw [hv] at rk
   cases g:valV kvs k with
   | none=>rw [g] at rk; exact rk.elim
   | some v0=>rw [g] at rk q; exact ⟨v0,H3,I3.tok _,rk,q⟩
  ·rw [hn] at rk
   cases g:valV kvs k with
   | some v0=>rw [g] at rk; exact rk.elim
   | none =>
    rw [g] at q
    have hl:(putK kvs k z).length≤sizeLine:=by have:=zcB_ kvs k z; have:=q.1; lia
    have hq:∃ q,h'.get? a=some q:=let ⟨q,_,_,hq,_⟩:=dd'; ⟨q,hq⟩
    exact ⟨z,_,zhu_ I3 (by rw [hd]; exact True.intro) hs hq (zmt_ hl hsys (rel.put k rz) dd'),rz,q.2⟩
 | _=>exact hx.elim
end
section
variable {K:Fgg}{E:XK}{α β γ ρ κ S B:Type}{F0 H0 F h H:Hp}{L:List Sl}{T:Ty α}{O:Own ρ}{t u:TS}{LS:S→List Sl}{LB:B→List Sl}{KY:KyT κ} [DecidableEq κ]
def sdA (m:List (κ×α)) (k:κ) (d:α):α×List (κ×α):=match getA m k with | some a=>(a,m) | none=>(d,putA m k d)
theorem zne_ {i:Nat}{m:List (κ×α)}{rk:Mo κ}{rv:Mo α}{rc:α×List (κ×α)→Mo α}{ek ev ec:TE}{R:R2}{g:α→α→Mo Bool}{r1 r2:α×List (κ×α)→Mo (Out ρ B S)}
  (hi:L[i]?=some (.ow (owD KY T) m)) (hT:Imm T) (hKT:Imm KY.T) (hk:EvF K ek E L rk KY.T) (hv:EvF K ev E L rv T) (hop:Op2 K R E T T g tyBl)
  (hc:∀ q:α×List (κ×α),EvF K ec E (L.set i (.ow (owD KY T) q.2)) (rc q) T) (h1:∀ q:α×List (κ×α),EvS K t E (L.set i (.ow (owD KY T) q.2)) (r1 q) LS LB O) (h2:∀ q:α×List (κ×α),EvS K u E (L.set i (.ow (owD KY T) q.2)) (r2 q) LS LB O) :
  EvS K (mIfS (mTest (tOp R (mSetD (mVar i) ek ev) ec)) t u) E L (rk.bind fun k=>rv.bind fun d=>.lim (m.length+1) ((Mo.ok (sdA m k d)).bind fun q=>(rc q).bind fun c=>(g q.1 c).bind fun b=>if b then r1 q else r2 q)) LS LB O:=by
 intro F0 H0 σ F h H D hL ok fin
 obtain ⟨p,kvs,e1,hp,hr,_⟩:=zc6_ hL hi ok
 show mVar i σ H fun x H1=>(match x with | .ref a=>∃ kvs,H1 a=some (.dK kvs) | _=>False)∧ek σ H1 fun y H2=>ev σ H2 fun z H3=>atD x y H3 fun a kvs k =>
  match valV kvs k with
  | some v=>ec σ H3 fun w H4=>R v w H4 fun x H5=>match x with | .bl k=>br k (t D σ H5) (u D σ H5) | _=>False
  | none=>kvs.length<sizeLine∧ec σ (upd H3 a (.dK (putK kvs k z))) fun w H4=>R z w H4 fun x H5=>match x with | .bl k=>br k (t D σ H5) (u D σ H5) | _=>False
 refine zdi_ e1 ⟨⟨kvs,hp⟩,?_⟩
 refine hk σ (un F h) H _ (hL.froz ok.2.1) ok.thaw (zaQ_ (G:=F) ok _ (.inl rfl) fin fun y F1 H1 hry x1 v1 hv1=>?_)
 obtain ⟨o,hs,ht⟩:=ok.back x1
 rw [hry] at fin
 have hL':=hL.mono hs
 have hv1':=hKT ht hv1
 refine hv σ (un _ h) H1 _ (hL'.froz o.2.1) o.thaw (zaQ_ (G:=F) o _ (.inl rfl) fin fun d F2 H2 hrd x2 v2 hv2=>?_)
 obtain ⟨o',hs',ht'⟩:=o.back x2
 rw [hrd] at fin
 obtain ⟨hz,fin⟩:=zga_ (show Fin K (Mo.lim (m.length+1) ((Mo.ok (sdA m y d)).bind fun q=>(rc q).bind fun c=>(g q.1 c).bind fun b=>if b then r1 q else r2 q)) E LS LB O F0 H0 D from fin)
 have hL2:=hL'.mono hs'
 obtain ⟨p',kvs',e1',hp',hr',mm⟩:=zc6_ hL2 hi o'
 rw [e1] at e1'; cases e1'
 have hv2':=hT ht' hv2
 have tail:∀ (q:α×List (κ×α)) (va:V) (h' H':Hp),sdA m y d=q→Hold (L.set i (.ow (owD KY T) q.2)) σ (less F2 h) h'→Okk F0 H0 (less F2 h) h' H'→T.R q.1 va (less F2 h) →
   ec σ H' fun w H3=>R va w H3 fun x H4=>match x with | .bl k=>br k (t D σ H4) (u D σ H4) | _=>False:=by
  intro q va h' H' hq hLq okq hva
  have fq:Fin K ((rc q).bind fun c=>(g q.1 c).bind fun b=>if b then r1 q else r2 q) E LS LB O F0 H0 D:=by rw [← hq]; exact fin
  refine hc q σ (un _ h') H' _ (hLq.froz okq.2.1) okq.thaw (zaQ_ (G:=F) okq _ (.inl rfl) fq fun c F3 H3 hrc x3 w hw=>?_)
  obtain ⟨o3,hs3,ht3⟩:=okq.back x3
  rw [hrc] at fq
  have fq':Fin K ((g q.1 c).bind fun b=>if b then r1 q else r2 q) E LS LB O F0 H0 D:=fq
  refine hop q.1 c va w _ H3 _ o3.1.2.1 (T.mono hs3 hva) (hT ht3 hw) (zaQ_ (G:=F) o3 _ (.inr rfl) fq' fun b F4 H4 hrb x4 v4 hv4=>?_)
  cases hv4
  rw [hrb] at fq'
  have f4:Fin K (if b then r1 q else r2 q) E LS LB O F0 H0 D:=fq'
  have L4:=(hLq.mono hs3).mono x4.1
  have o4:=o3.cold x4
  refine ⟨fun z=>?_,fun z=>?_⟩
  ·rw [if_pos z] at f4; exact h1 q F0 H0 σ _ h' H4 D L4 o4 f4
  ·rw [if_neg (by rw [z]; decide)] at f4; exact h2 q F0 H0 σ _ h' H4 D L4 o4 f4
 unfold atD
 simp only
 rw [KY.of (KY.T.mono hs' hv1')]
 refine ⟨kvs',hp',?_⟩
 rcases zhp_ hr' y with ⟨g1,g2⟩ | ⟨a,va,g1,g2,g3⟩
 ·rw [g2]
  obtain ⟨h',a1,a2⟩:=mm (putA m y d) (putK kvs' (KY.key y) v2) (zjO_ hr' y hv2')
  refine ⟨?_,tail (d,putA m y d) v2 h' _ (by unfold sdA; rw [g1]) a1 a2 hv2'⟩
  have:=Paired.length hr'
  lia
 ·rw [g2]
  refine tail (a,m) va h H2 (by unfold sdA; rw [g1]) ?_ o' g3
  show Hold (L.set i (.ow (owD KY T) m)) σ (less F2 h) h
  rw [zgv_ hi]; exact hL2
end
end L2
namespace L2
open PySem PySem.Spec PyProof.Rows
section
variable {X:Cx}{pins:Pnn}{σ:St}{H:Hp}{s:Shared}{d:Addr}{o:Obj}{kvs:List (Key×V)}
end
section
variable {X:Cx}{e:Expr}{te:TE}{apos cpos pos tpos:Pos}{elts:List Expr}{kk:Nat}
end
section
variable {F0 H0 F1 H1 F h H:Hp}{d:Addr}{o:Obj}{u:HO}
end
section
variable {K:Fgg}{E:XK}{α β γ ρ κ S B:Type}{L Li:List Sl}{T:Ty α}{O:Own ρ}{LB:B→List Sl}{KY:KyT κ}
theorem zmO_ [DecidableEq κ] {a:List (κ×α)}{v:V}{F:Hp}(h:(tyD KY T).R a v F):v≠.non:=by obtain ⟨p,vs,rfl,_⟩:=h; exact fun z=>V.noConfusion z
end
end L2
namespace L2
open PySem PySem.Spec PyProof.Rows
section
variable {K:Fgg}{E:XK}{α β γ ρ κ S B:Type}{F0 H0 F h H:Hp}{L:List Sl}{T:Ty α}{O:Own ρ}{t u:TS}{e e1 e2:TE}{LS:S→List Sl}{LB:B→List Sl}{KY:KyT κ}
variable [DecidableEq κ]
end
section
variable {K:Fgg}{E:XK}{α κ:Type}{T:Ty α}{KY:KyT κ} [DecidableEq κ]
end
end L2
namespace L2
open PySem PySem.Spec PyProof.Rows
section
variable {X:Cx}{pins:Pnn}{σ:St}{H:Hp}{s:Shared}{A:Around}{p q:Addr}{ka kb:List (Key×V)}
end
section
variable {K:Fgg}{E:XK}
end
end L2
namespace L2
open PySem PySem.Spec PyProof.Rows
section
variable {K:Fgg}{E:XK}{L:List Sl}{e:TE}
end
end L2
namespace L2
open PySem PySem.Spec PyProof.Rows
section
variable {K:Fgg}{E:XK}{α β γ ρ ρ' S B:Type}{F0 H0 F h H:Hp}{L:List Sl}{T:Ty α}{Or:Own ρ}{t u:TS}{e e1 e2 te:TE}{LS:S→List Sl}{LB:B→List Sl}{i j:Nat}{σ:St}
end
section
variable {K:Fgg}{E:XK}{α β γ ρ κ S B:Type}{T:Ty α}{O:Own ρ}{LB:B→List Sl}{KY:KyT κ}
end
end L2
namespace L2
open PySem PySem.Spec PyProof.Rows
section
variable {K:Fgg}{E E0:XK}{α β γ ρ ρ' S B:Type}{F0 H0 F h H:Hp}{L:List Sl}{T:Ty α}{Or:Own ρ}{t u:TS}{e te:TE}{LS:S→List Sl}{LB:B→List Sl}{i j n:Nat}{σ:St}
variable {tc te2:TE}{w:Nat}
end
end L2
namespace L2
open PySem PySem.Spec PyProof.Rows
def Fi (K:Fgg) (x q:Str) (st:Stmt) (f:Addr):Prop:=∃ (oc:Value) (od:Option Addr) (kV doc pm:Value) (an:Option Addr) (cdv ct:Value) (osl:Array (Option Value)),
 K.lookup f=some ⟨oc,od,.func (PySem.W.fnOf x q (defArgs st) (defBody st) (defScope st) .none kV doc pm an cdv ct),osl⟩∧PySem.W.codeIn K cdv q=true∧PySem.W.keepIn K (.ref f)=true
def Fg (K:Fgg) (x:Str) (st:Stmt):Prop:=∃ f,PySem.W.nsIn K mainGlobals x=some (some (.ref f))∧Fi K x x st f
def Fm (K:Fgg) (c m q:Str) (st:Stmt):Prop:=∃ cw f,PySem.W.nsIn K mainGlobals c=some (some (.ref cw))∧PySem.W.findIn K (.ref cw) m=some (some (.ref f))∧PySem.W.isFn K (.ref f)=true∧Fi K m q st f
def Fc (K:Fgg) (c:Str):Prop:=∃ cw,PySem.W.nsIn K mainGlobals c=some (some (.ref cw))∧PySem.W.plainGet K cw Str.empty=true∧PySem.W.hasDictIn K cw=true∧PySem.W.plainOver K cw=true ∧
 PySem.W.findIn K (.ref cw) "__setattr__" = some (some (.builtin "object.__setattr__"))∧PySem.W.makesIn K cw=true∧PySem.W.keepIn K (.ref cw)=true
def Fa (K:Fgg) (c a:Str):Prop:=∃ cw,PySem.W.nsIn K mainGlobals c=some (some (.ref cw))∧PySem.W.findIn K (.ref cw) a=some none
def Fb (K:Fgg) (x:Str):Prop:=PySem.W.nsIn K mainGlobals x=some none
def Fv (K:Fgg) (x:Str) (v:V):Prop:=∃ u,PySem.W.nsIn K mainGlobals x=some (some u)∧RelV v u
def Fk (K:Fgg) (x:Str):Prop:=∃ c,PySem.W.nsIn K mainGlobals x=some (some (.ref c))
def Mgo (K:Fgg) (mg:Str→Option Value):Prop:=∃ h:Heap,K.In h∧h.Ns mainGlobals mg
section
variable {P:Program}{w:World}{K:Fgg}{mg:Str→Option Value}{base:Heap}{CX:CXT}{x q c m a:Str}{st:Stmt}{f:Addr}{fd:FuncData}{N ps:List Str}{k j:Nat}{sp:Sp}{A:Around}{v:V}
theorem Fg.mk_ {oc:Value}{od:Option Addr}{kV doc pm:Value}{an:Option Addr}{cdv ct:Value}{osl:Array (Option Value)}(h:PySem.W.nsIn K mainGlobals x=some (some (.ref f))) (l:K.lookup f=some ⟨oc,od,.func (PySem.W.fnOf x x (defArgs st) (defBody st) (defScope st) .none kV doc pm an cdv ct),osl⟩) (c:PySem.W.codeIn K cdv x=true) (k:PySem.W.keepIn K (.ref f)=true):Fg K x st:=⟨f,h,oc,od,kV,doc,pm,an,cdv,ct,osl,l,c,k⟩
theorem Fm.mk_ {cw:Addr}{oc:Value}{od:Option Addr}{kV doc pm:Value}{an:Option Addr}{cdv ct:Value}{osl:Array (Option Value)}(h:PySem.W.nsIn K mainGlobals c=some (some (.ref cw))) (h1:PySem.W.findIn K (.ref cw) m=some (some (.ref f))) (h2:PySem.W.isFn K (.ref f)=true) (l:K.lookup f=some ⟨oc,od,.func (PySem.W.fnOf m q (defArgs st) (defBody st) (defScope st) .none kV doc pm an cdv ct),osl⟩) (h3:PySem.W.codeIn K cdv q=true) (k:PySem.W.keepIn K (.ref f)=true):Fm K c m q st:=⟨cw,f,h,h1,h2,oc,od,kV,doc,pm,an,cdv,ct,osl,l,h3,k⟩
theorem Fc.mk_ {cw:Addr}(h:PySem.W.nsIn K mainGlobals c=some (some (.ref cw))) (h1:PySem.W.plainGet K cw Str.empty=true) (h2:PySem.W.hasDictIn K cw=true) (h3:PySem.W.plainOver K cw=true) (h4:PySem.W.findIn K (.ref cw) "__setattr__" = some (some (.builtin "object.__setattr__"))) (h5:PySem.W.makesIn K cw=true) (h6:PySem.W.keepIn K (.ref cw)=true):Fc K c:=⟨cw,h,h1,h2,h3,h4,h5,h6⟩
theorem Fa.mk_ {cw:Addr}(h:PySem.W.nsIn K mainGlobals c=some (some (.ref cw))) (h1:PySem.W.findIn K (.ref cw) a=some none):Fa K c a:=⟨cw,h,h1⟩
theorem Fv.mk_ {u:Value}(h:PySem.W.nsIn K mainGlobals x=some (some u)) (h1:RelV v u):Fv K x v:=⟨u,h,h1⟩
theorem Fk.mk_ {cw:Addr}(h:PySem.W.nsIn K mainGlobals x=some (some (.ref cw))):Fk K x:=⟨cw,h⟩
theorem Fi.fun_ (h:Fi K x q st f):∃ fd,Fun K x q st f fd:=by
 obtain ⟨oc,od,kV,doc,pm,an,cdv,ct,osl,l,c,k⟩:=h
 exact ⟨_,zl5_ l c k⟩
theorem Mgo.gb (M:Mgo K mg) (h:Fb K x):Gb mg x:=by
 obtain ⟨_,X,G⟩:=M
 exact PySem.W.mg_none_of X G h
theorem Mgo.gv (M:Mgo K mg) (h:Fv K x v):Gc mg x v:=by
 obtain ⟨_,X,G⟩:=M; obtain ⟨u,e,r⟩:=h
 exact ⟨u,PySem.W.mg_of X G e,r⟩
theorem Mgo.gk (M:Mgo K mg) (h:Fk K x):mg x=some (.ref (gA K x)):=by
 obtain ⟨_,X,G⟩:=M; obtain ⟨u,e⟩:=h
 rw [zjC_ e]; exact PySem.W.mg_of X G e
theorem Mgo.gkc (M:Mgo K mg) (h:Fk K x):Gc mg x (.ref (gA K x)):=⟨_,M.gk h,rfl⟩
theorem Fc.cls (h:Fc K c):Cls K (gA K c):=by
 obtain ⟨cw,e,h1,h2,h3,h4,_⟩:=h
 rw [zjC_ e]; exact ⟨h1,h2,h3,h4⟩
theorem Fa.no (h:Fa K c a):NoAttr K (gA K c) a:=by
 obtain ⟨cw,e,h⟩:=h
 rw [zjC_ e]; exact h
abbrev OkF (P:Program) (w:World) (K:Fgg) (mg:Str→Option Value) (base:Heap) (CX:CXT) (k:Nat) (x q:Str) (st:Stmt) (ps:List Str) (sp:Sp):Prop:=∀ f fd,Fun K x q st f fd→FnOk P w K mg base CX k f fd ps sp∧Binds K fd ps []
theorem zbz_ (M:Mgo K mg) (F:Fg K x st) (h:OkF P w K mg base CX k x x st ps sp):Gd P w K mg base CX k x ps sp:=by
 obtain ⟨_,X,G⟩:=M; obtain ⟨f,e,i⟩:=F; obtain ⟨fd,F⟩:=i.fun_
 exact ⟨f,fd,(h f fd F).1,PySem.W.mg_of X G e,F.kp,(h f fd F).2⟩
theorem gn_of (M:Mgo K mg) (F:Fg K x st) (h:∀ f fd,Fun K x x st f fd→FnOkN P w K mg base k f fd ps sp∧Binds K fd ps []):GdN P w K mg base k x ps sp:=by
 obtain ⟨_,X,G⟩:=M; obtain ⟨f,e,i⟩:=F; obtain ⟨fd,F⟩:=i.fun_
 exact ⟨f,fd,(h f fd F).1,PySem.W.mg_of X G e,F.kp,(h f fd F).2⟩
theorem hm (hr:Room k A) (h:j≤k:=by decide):Room j A:=hr.mono h
theorem hmN (hr:RoomN k A) (h:j≤k:=by decide):RoomN j A:=hr.mono h
end
section
variable {P:Program}{w:World}{K:Fgg}{mg:Str→Option Value}{base:Heap}{x q:Str}{st:Stmt}{N ps:List Str}{k:Nat}{α β γ ρ:Type}
abbrev Tm (P:Program) (w:World) (K:Fgg) (mg:Str→Option Value) (base:Heap) (k:Nat) (N:List Str) (q:Str) (st:Stmt) (t:XK→TS):Prop :=
 ∀ (cdv:Value) (A:Around) (outer:List Env) (s:Shared) (H:Hp) (f:Addr) (E:XK),N.Nodup→Room k (A.deeper (envOfC q (defScope st) s.heap.objs.size f cdv))→PSs (cxOf CX0 P w K mg base N q (defScope st) f cdv A outer s H E).nox (defBody st) (t E)
abbrev TmX (P:Program) (w:World) (K:Fgg) (mg:Str→Option Value) (base:Heap) (k:Nat) (N:List Str) (q:Str) (st:Stmt) (t:XK→TS):Prop :=
 ∀ (cdv:Value) (A:Around) (outer:List Env) (s:Shared) (H:Hp) (f:Addr) (E:XK),N.Nodup→Room k (A.deeper (envOfC q (defScope st) s.heap.objs.size f cdv))→PSs (cxOf (CXx P w) P w K mg base N q (defScope st) f cdv A outer s H E) (defBody st) (t E)
abbrev TmN (P:Program) (w:World) (K:Fgg) (mg:Str→Option Value) (base:Heap) (k:Nat) (N:List Str) (q:Str) (st:Stmt) (t:XK→TS):Prop :=
 ∀ (cdv:Value) (A:Around) (outer:List Env) (s:Shared) (H:Hp) (f:Addr) (E:XK),N.Nodup→RoomN k (A.deeper (envOfC q (defScope st) s.heap.objs.size f cdv))→PSs (cxN P w K mg base N q (defScope st) f cdv A outer s H) (defBody st) (t E)
abbrev Bnd (K:Fgg) (x q:Str) (st:Stmt) (ps:List Str):Prop:=∀ f fd,Fun K x q st f fd→Binds K fd ps []
theorem okC {C:Cs γ}{O:Own ρ}{ss:γ→List Sl}{g:γ→Mo (Out ρ Unit Unit)}{t:XK→TS}(n m:Nat) (hC:CsS C ss) (tm:Tm P w K mg base k N q st t)
  (ev:∀ c E,EvS K (t E) E (ss c++List.replicate m .dead) (g c) (fun _:Unit=>[]) (fun _:Unit=>[]) O) (hn:CsN C n:=by repeat first | exact zr_ | exact csn_nil | refine zm_ ?_) (S:FnScope N ps (defScope st):=by exact ⟨rfl,rfl,rfl,by decide +kernel,rfl,by decide +kernel,by decide +kernel⟩) (b:Bnd K x q st ps:=by first | exact fun _ _ F=>Fun.binds1 rfl F fun _ _ _ _ _ _ _=>rfl | exact fun _ _ F=>Fun.binds2 rfl F fun _ _ _ _ _ _ _ _=>rfl | exact fun _ _ F=>Fun.binds3 rfl F fun _ _ _ _ _ _ _ _ _=>rfl | exact fun _ _ F=>Fun.binds4 rfl F fun _ _ _ _ _ _ _ _ _ _=>rfl | exact fun _ _ F=>Fun.binds5 rfl F fun _ _ _ _ _ _ _ _ _ _ _=>rfl | exact fun _ _ F=>Fun.binds6 rfl F fun _ _ _ _ _ _ _ _ _ _ _ _=>rfl | exact fun _ _ F=>Fun.binds7 rfl F fun _ _ _ _ _ _ _ _ _ _ _ _ _=>rfl) (hp:ps.length=n:=by rfl) (hm:N.length-n=m:=by rfl):OkF P w K mg base CX0 (k+1) x q st ps (Ct K C (fun c=>fnO (g c)) O):=fun f fd F =>
 ⟨F.ok S (fun vs H Q E h=>by obtain ⟨F,c,_,hc,_⟩:=h; exact (hn hc).trans hp.symm) fun cdv A outer s H vs Q E hr h=>⟨t E,tm cdv A outer s H f E S.nd hr,zm9_ (N:=N) (t:=t) n m hn hm hC ev vs H Q E h⟩,b f fd F⟩
theorem okX {C:Cs γ}{O:Own ρ}{ss:γ→List Sl}{g:γ→Mo (Out ρ Unit Unit)}{t:XK→TS}(n m:Nat) (hC:CsS C ss) (tm:TmX P w K mg base k N q st t)
  (ev:∀ c E,EvS K (t E) E (ss c++List.replicate m .dead) (g c) (fun _:Unit=>[]) (fun _:Unit=>[]) O) (hn:CsN C n:=by repeat first | exact zr_ | exact csn_nil | refine zm_ ?_) (S:FnScope N ps (defScope st):=by exact ⟨rfl,rfl,rfl,by decide +kernel,rfl,by decide +kernel,by decide +kernel⟩) (b:Bnd K x q st ps:=by first | exact fun _ _ F=>Fun.binds1 rfl F fun _ _ _ _ _ _ _=>rfl | exact fun _ _ F=>Fun.binds2 rfl F fun _ _ _ _ _ _ _ _=>rfl | exact fun _ _ F=>Fun.binds3 rfl F fun _ _ _ _ _ _ _ _ _=>rfl | exact fun _ _ F=>Fun.binds4 rfl F fun _ _ _ _ _ _ _ _ _ _=>rfl | exact fun _ _ F=>Fun.binds5 rfl F fun _ _ _ _ _ _ _ _ _ _ _=>rfl | exact fun _ _ F=>Fun.binds6 rfl F fun _ _ _ _ _ _ _ _ _ _ _ _=>rfl | exact fun _ _ F=>Fun.binds7 rfl F fun _ _ _ _ _ _ _ _ _ _ _ _ _=>rfl) (hp:ps.length=n:=by rfl) (hm:N.length-n=m:=by rfl):OkF P w K mg base (CXx P w) (k+1) x q st ps (Ct K C (fun c=>fnO (g c)) O):=fun f fd F =>
 ⟨F.okX S (fun vs H Q E h=>by obtain ⟨F,c,_,hc,_⟩:=h; exact (hn hc).trans hp.symm) fun cdv A outer s H vs Q E hr h=>⟨t E,tm cdv A outer s H f E S.nd hr,zm9_ (N:=N) (t:=t) n m hn hm hC ev vs H Q E h⟩,b f fd F⟩
theorem okN {C:Cs γ}{O:Own ρ}{ss:γ→List Sl}{g:γ→Mo (Out ρ Unit Unit)}{t:XK→TS}(n m:Nat) (hC:CsS C ss) (tm:TmN P w K mg base k N q st t)
  (ev:∀ c E,EvS K (t E) E (ss c++List.replicate m .dead) (g c) (fun _:Unit=>[]) (fun _:Unit=>[]) O) (hn:CsN C n:=by repeat first | exact zr_ | exact csn_nil | refine zm_ ?_) (S:FnScope N ps (defScope st):=by exact ⟨rfl,rfl,rfl,by decide +kernel,rfl,by decide +kernel,by decide +kernel⟩) (b:Bnd K x q st ps:=by first | exact fun _ _ F=>Fun.binds1 rfl F fun _ _ _ _ _ _ _=>rfl | exact fun _ _ F=>Fun.binds2 rfl F fun _ _ _ _ _ _ _ _=>rfl | exact fun _ _ F=>Fun.binds3 rfl F fun _ _ _ _ _ _ _ _ _=>rfl | exact fun _ _ F=>Fun.binds4 rfl F fun _ _ _ _ _ _ _ _ _ _=>rfl | exact fun _ _ F=>Fun.binds5 rfl F fun _ _ _ _ _ _ _ _ _ _ _=>rfl | exact fun _ _ F=>Fun.binds6 rfl F fun _ _ _ _ _ _ _ _ _ _ _ _=>rfl | exact fun _ _ F=>Fun.binds7 rfl F fun _ _ _ _ _ _ _ _ _ _ _ _ _=>rfl) (hp:ps.length=n:=by rfl) (hm:N.length-n=m:=by rfl):∀ f fd,Fun K x q st f fd→FnOkN P w K mg base (k+1) f fd ps (Ct K C (fun c=>fnO (g c)) O)∧Binds K fd ps []:=fun f fd F =>
 ⟨F.okN S (fun vs H Q E h=>by obtain ⟨F,c,_,hc,_⟩:=h; exact (hn hc).trans hp.symm) fun cdv A outer s H vs Q E hr h=>⟨t E,tm cdv A outer s H f E S.nd hr,zm9_ (N:=N) (t:=t) n m hn hm hC ev vs H Q E h⟩,b f fd F⟩
end
section
variable {l:PySem.W.OpenLaw}{w:World}{K:Fgg}{mg:Str→Option Value}{st:Stmt}{x:Str}{k:Nat}{sp:Sp}{fa:Addr}
theorem okLaw (M:Mgo K mg) (F:Fg K "law" st) (hfa:mg "law" = some (.ref fa)) (hb:∀ (kV doc pm:Value) (an:Option Addr) (cdv ct:Value) (s:Shared) (v:Value),bindArgs (PySem.W.fnOf "law" "law" (defArgs st) (defBody st) (defScope st) .none kV doc pm an cdv ct) ⟨[v],[]⟩=pure [(x,v)])
  (h:∀ (base:Heap) (f:Addr) (fd:FuncData),Fun K "law" "law" st f fd→FnOk l.prog w K mg base CX0 k f fd [x] sp) :
  ∃ fd:FuncData,(∀ (s:Shared) (v:Value),BindsTo s fd ⟨[v],[]⟩ [(x,v)])∧∀ base:Heap,K.In base→base.Ns mainGlobals mg→FnOk l.prog w K mg base CX0 k fa fd [x] sp:=by
 obtain ⟨_,X,G⟩:=M
 obtain ⟨f,e,oc,od,kV,doc,pm,an,cdv,ct,osl,l',c,kk⟩:=F
 cases hfa.symm.trans (PySem.W.mg_of X G e)
 exact ⟨_,fun s v=>.of_eq (hb kV doc pm an cdv ct s v),fun base _ _=>h base _ _ (zl5_ l' c kk)⟩
def spL (K:Fgg):Sp:=fun vs H Q _=>∃ (a:Addr) (ns:List Int),vs=[.ref a]∧SqL K H a (ns.map V.int)∧ns.length≤63∧BitsOk ns∧∀ H',Q (.bl true) H'
theorem okL {base:Heap}{N:List Str}{g:List Int→Mo (Out Bool Unit Unit)}{t:XK→TS}(m:Nat) (tm:Tm l.prog w K mg base k N "law" st t)
  (hf:∀ ns:List Int,ns.length≤63→BitsOk ns→fnO (g ns)=.ok true)
  (ev:∀ c E,EvS K (t E) E (.fz (tySc K) c::List.replicate m .dead) (g c) (fun _:Unit=>[]) (fun _:Unit=>[]) (owF tyBl)) (f:Addr) (fd:FuncData) (F:Fun K "law" "law" st f fd) (S:FnScope N [x] (defScope st):=by exact ⟨rfl,rfl,rfl,by decide +kernel,rfl,by decide +kernel,by decide +kernel⟩) (hm:N.length-1=m:=by rfl):FnOk l.prog w K mg base CX0 (k+1) f fd [x] (spL K) :=
 F.ok S (fun vs H Q E h=>by obtain ⟨a,ns,rfl,_⟩:=h; rfl) fun cdv A outer s H vs Q E hr h=>⟨t E,tm cdv A outer s H f E S.nd hr,by
  obtain ⟨a,ns,rfl,hS,hl,hb,q⟩:=h
  refine zm9_ (K:=K) (N:=N) (C:=csLast (tySc K)) (O:=owF tyBl) (t:=t) (ss:=fun c=>[.fz (tySc K) c]) (f:=g) 1 m zr_ hm zs_ ev _ H Q E ⟨H,ns,Same.refl _,⟨_,rfl,a,rfl,hS⟩,?_⟩
  show After K (fnO (g ns)) E H H _
  rw [hf ns hl hb]
  rintro F' H' x v h _ _ _ ⟨_,rfl⟩
  exact q H'⟩
end
section
variable {X:Cx}{x:Str}{pos pos':Pos}{e:Expr}{te:TE}
abbrev FrP (X:Cx) (scope:Scope) (q:Str×Nat):Prop:=X.N[q.2]?=some q.1∧(q.1,NameKind.free)∈scope.names∧(X.env.kindOf q.1=some .cell∨X.env.kindOf q.1=some .free)∧((relabel scope X.env).names.lookup q.1=some .cell∨(relabel scope X.env).names.lookup q.1=some .free)
theorem pgn (i:Nat) (hN:X.N.Nodup:=by assumption) (hi:X.N[i]?=some x:=by rfl) (hx:Loc X.env.scope x:=by first | exact Or.inl rfl | exact Or.inr rfl) (hf:X.fn x=true∨X.env.scope.names.lookup x=some .local:=by first | exact .inl rfl | exact .inr rfl | assumption):PG X (.Name x pos) (gName i):=zjF_ hN hi hx hf
theorem pst (i:Nat) (he:PE X e te) (hN:X.N.Nodup:=by assumption) (hi:X.N[i]?=some x:=by rfl) (hx:Loc X.env.scope x:=by first | exact Or.inl rfl | exact Or.inr rfl) (hs:swapsWith e (some (.Name x pos')) pos.line X.env=pure false:=by rfl) (hf:X.fn x=true∨X.env.scope.names.lookup x=some .local:=by first | exact .inl rfl | exact .inr rfl | assumption) :
  PS X (.Assign [.Name x pos'] e pos) (tAsg te (gName i)):=znZ_ hN hi hx he hs hf
theorem csm {scope:Scope}{cl:List (Str×Addr)}{lv:List Str}{fr:List (Str×Nat)}(h:closeL X.env.cells scope.names []=some cl) (f:∀ q∈fr,FrP X scope q) (h2:∀ y∈scope.names,y.2≠.cell:=by decide +kernel) (h3:scope.kind=.function:=by rfl) (h4:∀ z∈scope.names,z.2=.local→scope.names.lookup z.1=some .local:=by decide +kernel):CScope X scope cl lv fr:=⟨h,h2,h3,h4,f⟩
theorem frc {scope:Scope}{q:Str×Nat}{fr:List (Str×Nat)}(t:∀ q∈fr,FrP X scope q) (h:FrP X scope q:=by refine ⟨rfl,by decide +kernel,?_,?_⟩<;>first | exact Or.inl rfl | exact Or.inr rfl):∀ z∈q::fr,FrP X scope z:=zlV_ h t
theorem fr0 {scope:Scope}:∀ q∈([]:List (Str×Nat)),FrP X scope q:=fun _ h=>by cases h
theorem pgc {scope:Scope}{cl:List (Str×Addr)}{C:Addr}{lv:List Str}{fr:List (Str×Nat)}{fp:List Addr}{s2:Shared}{H2:Hp}(i:Nat) (hN:(cN lv fr).Nodup:=by decide +kernel) (hi:(cN lv fr)[i]?=some x:=by rfl) (hx:Loc (cxComp X scope cl C (cN lv fr) fp s2 H2).env.scope x:=by exact Or.inl rfl) (hf:(cxComp X scope cl C (cN lv fr) fp s2 H2).fn x=true∨(cxComp X scope cl C (cN lv fr) fp s2 H2).env.scope.names.lookup x=some .local:=by first | exact .inl rfl | exact .inr rfl | assumption):PG (cxComp X scope cl C (cN lv fr) fp s2 H2) (.Name x pos) (gName i):=zjF_ hN hi hx hf
end
abbrev zbK_:=@PySem.F.plainAttrs_list
abbrev zI_:=@PySem.F.slot_list_append
abbrev zJ_:=@PySem.F.type_list_append
abbrev za0_:=@PySem.F.slot_list_extend
abbrev zaZ_:=@PySem.F.type_list_extend
end L2
namespace L2
open PySem PySem.Spec PyProof.Rows PySem.W
def gallop':Bool→Keyed→Array Keyed→Nat→Nat→Nat→StateT SortSt Sem (Option Nat):=sortPriv% PySem.Builtin.gallop
section
variable {prog:Program}{w:World}{A:Around}{E:Value→Shared→Prop}{s:Shared}{κ:SortKind}{it:Nat→Keyed}{lt:Nat→Nat→Bool}{n:Nat}{st:SortSt}
end
section
variable {lt:Nat→Nat→Bool}{X Y O:List Nat}{ja jb k:Nat}
end
section
variable {prog:Program}{w:World}{A:Around}{E:Value→Shared→Prop}{s:Shared}{κ:SortKind}{it:Nat→Keyed}{lt:Nat→Nat→Bool}{n:Nat}{st st1 st2:SortSt}{X Y:List Nat}
abbrev T7:Type:=Option (Array Keyed)×Array Keyed×Nat×Nat×Nat×Nat×Nat
abbrev T6:Type:=Option (Array Keyed)×Array Keyed×Nat×Nat×Nat×Nat
abbrev T5:Type:=Option (Array Keyed)×Array Keyed×Nat×Nat×Nat
variable {O:List Nat}{ja jb mg ac bc x:Nat}
end
section
variable {lt:Nat→Nat→Bool}{X Y O R:List Nat}{na nb i k q:Nat}
abbrev op (lt:Nat→Nat→Bool):Nat→Nat→Bool:=fun a b=>lt b a
end
section
variable {prog:Program}{w:World}{A:Around}{E:Value→Shared→Prop}{s:Shared}{κ:SortKind}{it:Nat→Keyed}{lt:Nat→Nat→Bool}{n:Nat}{st st1 st2:SortSt}{X Y:List Nat}
abbrev U7:Type:=Option (Array Keyed)×Nat×Nat×Array Keyed×Nat×Nat×Nat
def hi3 (a b:Array Keyed) (na nb:Nat) (ou:Array Keyed) (mg ac bc:Nat):StateT SortSt Sem (ForInStep U7):=do
 let e ← elem' a (na-1)
 if na-1 == 0 then pure (.done (some (a.extract 0 (na-1)++b.extract 0 nb++(ou.push e).reverse),na-1,nb,ou.push e,mg,ac,bc))
 else if ac<7 && bc<7 then pure (.done (none,na-1,nb,ou.push e,mg,ac,bc)) else pure (.yield (none,na-1,nb,ou.push e,mg,ac,bc))
def hi2b (a b:Array Keyed) (na nb q:Nat) (ou:Array Keyed) (mg ac:Nat):StateT SortSt Sem (ForInStep U7) :=
 if nb-q > 0 then
  if q == 1 then pure (.done (some (b.extract 0 q++a.extract 0 na++(ou++(b.extract q nb).reverse).reverse),na,q,ou++(b.extract q nb).reverse,mg,ac,nb-q))
  else if q == 0 then pure (.done (some (a.extract 0 na++b.extract 0 q++(ou++(b.extract q nb).reverse).reverse),na,q,ou++(b.extract q nb).reverse,mg,ac,nb-q))
  else hi3 a b na q (ou++(b.extract q nb).reverse) mg ac (nb-q)
 else hi3 a b na nb ou mg ac (nb-q)
def hi2 (a b:Array Keyed) (na nb:Nat) (ou:Array Keyed) (mg ac bc:Nat):StateT SortSt Sem (ForInStep U7):=do
 let e ← elem' b (nb-1)
 if nb-1 == 1 then pure (.done (some (b.extract 0 (nb-1)++a.extract 0 na++(ou.push e).reverse),na,nb-1,ou.push e,mg,ac,bc))
 else
  let f ← elem' a (na-1)
  let r ← gallop' true f b 0 (nb-1) (nb-1-1)
  match r with
  | some q=>hi2b a b na (nb-1) q (ou.push e) mg ac
  | _=>pure (.done (some (a.extract 0 na++b.extract 0 (nb-1)++(ou.push e).reverse),na,nb-1,ou.push e,mg,ac,bc))
def hi1 (a b:Array Keyed) (na nb q:Nat) (ou:Array Keyed) (mg bc:Nat):StateT SortSt Sem (ForInStep U7) :=
 if na-q > 0 then
  if q == 0 then pure (.done (some (a.extract 0 q++b.extract 0 nb++(ou++(a.extract q na).reverse).reverse),q,nb,ou++(a.extract q na).reverse,mg,na-q,bc))
  else hi2 a b q nb (ou++(a.extract q na).reverse) mg (na-q) bc
 else hi2 a b na nb ou mg (na-q) bc
variable {O:List Nat}{na nb mg ac bc x:Nat}
end
end L2
namespace L2
open PySem PySem.Spec PyProof.Rows PySem.W
section
variable {prog:Program}{w:World}{A:Around}{E:Value→Shared→Prop}{s:Shared}{κ:SortKind}{it:Nat→Keyed}{lt:Nat→Nat→Bool}{n:Nat}{st st1 st2:SortSt}
end
section
variable {prog:Program}{w:World}{A:Around}{E:Value→Shared→Prop}{s:Shared}{κ:SortKind}{it:Nat→Keyed}{lt:Nat→Nat→Bool}{n lo:Nat}{st st1 st2:SortSt}{p:Array Nat}{pd:Array (Nat×Nat×Nat)}
end
end L2
namespace L2
open PySem PySem.Spec PyProof.Rows PySem.W
section
variable {lt:Nat→Nat→Bool}
end
section
variable {prog:Program}{w:World}{A:Around}{E:Value→Shared→Prop}{s:Shared}{κ:SortKind}{it:Nat→Keyed}{lt:Nat→Nat→Bool}{n lo c:Nat}{st:SortSt}{T:List Nat}
end
section
variable {prog:Program}{w:World}{A:Around}{E:Value→Shared→Prop}{s:Shared}{vs:List Value}{lt:Nat→Nat→Bool}
end
end L2
namespace L2
open PySem PySem.Spec PyProof.Rows
section
variable {K:Fgg}{E:XK}{α β γ ρ S S' B B':Type}{F0 H0 F h H:Hp}{L L':List Sl}{e e1 e2:TE}{T:Ty α}{O:Own ρ}{t u:TS}{LS:S→List Sl}{LS':S'→List Sl}{LB:B→List Sl}
abbrev tyRng:Ty (Int×Int):=⟨fun a v F=>∃ p,v=.ref p∧F p=some (.rng a.1 a.2),fun g ⟨p,e,h⟩=>⟨p,e,g _ _ h⟩⟩
theorem zjb_:Bl K mRange E (csCons tyInt (csLast tyInt)) (fun c=>.ok c) tyRng:=by
 rintro c vs F H Q hs ⟨v,us,rfl,rfl,w,rfl,rfl⟩ q p hp
 have x:=Ext.new (o:=.rng c.1 c.2) hs hp
 exact q _ _ x _ ⟨p,rfl,zD_⟩
theorem zhl_:BlO K (mList K) E (csLast tyRng) (fun c=>.grd (-50000≤c.1∧c.1≤50000 ∧ -50000≤c.2∧c.2≤50000) (.ok (rngI c.1 (c.2-c.1).toNat))) (owL tyInt):=by
 rintro c vs F H Q hs ⟨v,rfl,p,rfl,h⟩ q
 obtain ⟨z,q⟩:=q.grd
 refine .inr ⟨_,_,hs _ _ h,z,fun l hl=>zbJ_ hs hl ?_ q⟩
 have e:intsV c.1 c.2=(rngI c.1 (c.2-c.1).toNat).map V.int:=by unfold intsV rngI; rw [List.map_map]; rfl
 rw [e]; exact zid_
def fnU (r:Mo (Out Unit Unit Unit)):Mo Unit:=r.bind fun o=>match o with | .rt a=>.ok a | .nx _=>.ok () | _=>.no
theorem zn5_ {t:XK→TS}{C:Cs γ}{ss:γ→List Sl}{f:γ→Mo (Out Unit Unit Unit)}{LS:Unit→List Sl}{N:List Str}(n m:Nat) (hn:CsN C n) (hm:N.length-n=m) (hC:CsS C ss) (h:∀ c E,EvS K (t E) E (ss c++List.replicate m .dead) (f c) LS (fun _:Unit=>[]) (owF tyNon)) :
  ∀ vs H Q E,Ct K C (fun c=>fnU (f c)) (owF tyNon) vs H Q E→t E { nx:=fun _ H'=>Q .non H',rt:=Q } (start N vs) H:=by
 rintro vs H Q E ⟨F,c,hs,hc,q⟩
 have hstart:start N vs=vs.map some++List.replicate m none:=by unfold start; rw [hn hc,hm]
 rw [hstart]
 refine h c E F H _ F (fun _=>none) H _ ((hC hc).hold m) (zgt_ hs) ?_
 have q:After K (fnU (f c)) E F H (OwnK (owF tyNon) H Q):=q
 cases e:f c with
 | no=>rw [e] at q; exact q
 | ex cc=>rw [e] at q; exact fun F h H ok=>q F H ok.1
 | ok o =>
  rw [e] at q
  cases o with
  | nx s=>exact fun σ F' h' H' _ ok=>q F' H' ok.1 .non (fun _=>none) (fun p z=>absurd rfl z) (fun p=>.inr rfl) (fun p o z=>by cases z) ⟨fun _=>rfl,rfl⟩
  | bk s=>exact q.elim
  | ct s=>exact q.elim
  | rt a=>exact fun v F' h' H' ok hv=>q F' H' ok.1 v h' (fun p z=>ok.2.2.2.1 p z) ok.2.1 ok.2.2.1 hv
end
section
variable {P:Program}{w:World}{K:Fgg}{mg:Str→Option Value}{base:Heap}{x q:Str}{st:Stmt}{N ps:List Str}{k:Nat}{α β γ ρ:Type}
theorem okXU {C:Cs γ}{ss:γ→List Sl}{g:γ→Mo (Out Unit Unit Unit)}{LS:Unit→List Sl}{t:XK→TS}(n m:Nat) (hC:CsS C ss) (tm:TmX P w K mg base k N q st t)
  (ev:∀ c E,EvS K (t E) E (ss c++List.replicate m .dead) (g c) LS (fun _:Unit=>[]) (owF tyNon)) (hn:CsN C n:=by repeat first | exact zr_ | exact csn_nil | refine zm_ ?_) (S:FnScope N ps (defScope st):=by exact ⟨rfl,rfl,rfl,by decide +kernel,rfl,by decide +kernel,by decide +kernel⟩) (b:Bnd K x q st ps:=by first | exact fun _ _ F=>Fun.binds1 rfl F fun _ _ _ _ _ _ _=>rfl | exact fun _ _ F=>Fun.binds2 rfl F fun _ _ _ _ _ _ _ _=>rfl | exact fun _ _ F=>Fun.binds3 rfl F fun _ _ _ _ _ _ _ _ _=>rfl | exact fun _ _ F=>Fun.binds4 rfl F fun _ _ _ _ _ _ _ _ _ _=>rfl | exact fun _ _ F=>Fun.binds5 rfl F fun _ _ _ _ _ _ _ _ _ _ _=>rfl | exact fun _ _ F=>Fun.binds6 rfl F fun _ _ _ _ _ _ _ _ _ _ _ _=>rfl | exact fun _ _ F=>Fun.binds7 rfl F fun _ _ _ _ _ _ _ _ _ _ _ _ _=>rfl) (hp:ps.length=n:=by rfl) (hm:N.length-n=m:=by rfl):OkF P w K mg base (CXx P w) (k+1) x q st ps (Ct K C (fun c=>fnU (g c)) (owF tyNon)):=fun f fd F =>
 ⟨F.okX S (fun vs H Q E h=>by obtain ⟨F,c,_,hc,_⟩:=h; exact (hn hc).trans hp.symm) fun cdv A outer s H vs Q E hr h=>⟨t E,tm cdv A outer s H f E S.nd hr,zn5_ (N:=N) (t:=t) n m hn hm hC ev vs H Q E h⟩,b f fd F⟩
end
def Fe1 (K:Fgg) (a:Str) (P:Addr→Prop):Prop:=∃ v,PySem.W.nsIn K mainGlobals a=some (some (.ref v))∧P v
theorem Fe1.mk_ {K:Fgg}{a:Str}{P:Addr→Prop}{v:Addr}(h:PySem.W.nsIn K mainGlobals a=some (some (.ref v))) (p:P v):Fe1 K a P:=⟨v,h,p⟩
theorem Fe1.g {K:Fgg}{a:Str}{P:Addr→Prop}(h:Fe1 K a P):P (gA K a):=by
 obtain ⟨v,h,p⟩:=h
 rw [zjC_ h]; exact p
def Fe2 (K:Fgg) (a b:Str) (P:Addr→Addr→Prop):Prop:=∃ v w,PySem.W.nsIn K mainGlobals a=some (some (.ref v))∧PySem.W.nsIn K mainGlobals b=some (some (.ref w))∧P v w
theorem Fe2.mk_ {K:Fgg}{a b:Str}{P:Addr→Addr→Prop}{v w:Addr}(h:PySem.W.nsIn K mainGlobals a=some (some (.ref v))) (h2:PySem.W.nsIn K mainGlobals b=some (some (.ref w))) (p:P v w):Fe2 K a b P:=⟨v,w,h,h2,p⟩
theorem Fe2.g {K:Fgg}{a b:Str}{P:Addr→Addr→Prop}(h:Fe2 K a b P):P (gA K a) (gA K b):=by
 obtain ⟨v,w,h,h2,p⟩:=h
 rw [zjC_ h,zjC_ h2]; exact p
end L2
namespace L2
open PySem PySem.Spec PyProof.Rows
section
variable {K:Fgg}{E:XK}{L:List Sl}{e:TE}{α γ δ:Type}{T:Ty α}{C:Cs γ}{C':Cs δ}{f:γ→δ}{n m:Nat}
def CsTk (n:Nat) (C:Cs γ) (C':Cs δ) (f:γ→δ):Prop:=∀ {c vs F},C.R c vs F→C'.R (f c) (vs.take n) F∧n<vs.length
theorem tk_1 (h:CsN C (m+1)):CsTk 1 (csCons T C) (csLast T) Prod.fst:=fun {c vs F} ⟨v,us,e,q,z⟩=>by
 have:=h z
 subst e
 exact ⟨⟨v,rfl,q⟩,by rw [List.length_cons,this]; lia⟩
theorem tk_s (h:CsTk n C C' f):CsTk (n+1) (csCons T C) (csCons T C') (fun c=>(c.1,f c.2)):=fun {c vs F} ⟨v,us,e,q,z⟩=>by
 subst e
 exact ⟨⟨v,us.take n,rfl,q,(h z).1⟩,by rw [List.length_cons]; exact Nat.succ_lt_succ (h z).2⟩
def CsDp (n:Nat) (C:Cs γ) (C':Cs δ) (f:γ→δ):Prop:=∀ {c vs F},C.R c vs F→C'.R (f c) (vs.drop n) F∧0<n∧0<vs.length
theorem dp_1:CsDp 1 (csCons T C) C Prod.snd:=fun {c vs F} ⟨v,us,e,q,z⟩=>by
 subst e
 exact ⟨z,by lia,by simp⟩
theorem dp_s (h:CsDp n C C' f):CsDp (n+1) (csCons T C) C' (fun c=>f c.2):=fun {c vs F} ⟨v,us,e,q,z⟩=>by
 subst e
 exact ⟨(h z).1,by lia,by simp⟩
theorem ev_slTk {r:Mo γ}{i:Int}(hc:CsTk n C C' f) (h:EvF K e E L r (tyTup C)) (hi:i=(n:Int):=by rfl):EvF K (tSl (rSlT K) e tNoPart (mPart (tC (.int i)))) E L (r.bind fun c=>.ok (f c)) (tyTup C'):=by
 subst hi
 intro σ F H Q hL hs q
 refine h σ F H _ hL hs (q.bind.imp fun c F1 H1 x1 k1 v hq_=>?_)
 obtain ⟨p,vs,ev,hp,hr⟩:=hq_
 subst ev
 obtain ⟨h1,h2⟩:=hc hr
 refine ⟨p,vs,rfl,.of (x1.2.1 _ _ hp),fun z=>?_,fun q hq=>?_⟩
 ·have:=z.2
  rw [zf7_ (by lia)] at this
  lia
 ·have e:cutV vs none (some (n:Int))=vs.take n:=by
   unfold cutV
   rw [zf7_ (by lia),show HT.sIx vs.length 0 none=0 from rfl,List.drop_zero,Nat.sub_zero,show ((n:Int)).toNat=n from rfl,Nat.min_eq_left (by lia)]
  rw [e]
  have x:=Ext.new (o:=.tup (vs.take n)) x1.2.1 hq
  exact k1 _ _ x _ ⟨q,_,rfl,zD_,C'.mono x.1 h1⟩
theorem zmf_ {r:Mo γ}{i:Int}(hc:CsDp n C C' f) (h:EvF K e E L r (tyTup C)) (hi:i=(n:Int):=by rfl):EvF K (tSl (rSlT K) e (mPart (tC (.int i))) tNoPart) E L (r.bind fun c=>.ok (f c)) (tyTup C'):=by
 subst hi
 intro σ F H Q hL hs q
 refine h σ F H _ hL hs (q.bind.imp fun c F1 H1 x1 k1 v hq_=>?_)
 obtain ⟨p,vs,ev,hp,hr⟩:=hq_
 subst ev
 obtain ⟨h1,h2,h3⟩:=hc hr
 refine ⟨p,vs,rfl,.of (x1.2.1 _ _ hp),fun z=>?_,fun q hq=>?_⟩
 ·have:=z.1
  rw [zf7_ (by lia)] at this
  lia
 ·have e:cutV vs (some (n:Int)) none=vs.drop n:=by
   unfold cutV
   rw [zf7_ (by lia),show HT.sIx vs.length vs.length none=vs.length from rfl,show ((n:Int)).toNat=n from rfl]
   by_cases hl:n≤vs.length
   ·rw [Nat.min_eq_left hl,List.take_of_length_le (by rw [List.length_drop]; exact Nat.le_refl _)]
   ·rw [Nat.min_eq_right (by lia),List.drop_length,List.drop_eq_nil_of_le (by lia),List.take_nil]
  rw [e]
  have x:=Ext.new (o:=.tup (vs.drop n)) x1.2.1 hq
  exact k1 _ _ x _ ⟨q,_,rfl,zD_,C'.mono x.1 h1⟩
end
end L2
namespace L2
open PySem PySem.Spec PyProof.Rows
section
variable {K:Fgg}{E:XK}{α β γ ρ ρ' S B:Type}{F0 H0 F h H:Hp}{L:List Sl}{T:Ty α}{Or:Own ρ}{t u:TS}{e e1 e2 te:TE}{LS:S→List Sl}{LB:B→List Sl}{i j:Nat}{σ:St}
end
end L2
namespace L2
open PySem PySem.Spec PyProof.Rows
section
variable {K:Fgg}{E:XK}{α β γ ρ ρ' S B:Type}{F0 H0 F h H:Hp}{L:List Sl}{T:Ty α}{Or:Own ρ}{t u:TS}{e e1 e2 te:TE}{LS:S→List Sl}{LB:B→List Sl}{i j:Nat}{σ:St}
end
end L2
namespace L2
open PySem PySem.Spec PyProof.Rows
section
variable {K:Fgg}{E:XK}{α β γ ρ ρ' S B:Type}{F0 H0 F h H:Hp}{L:List Sl}{T:Ty α}{Or:Own ρ}{t u:TS}{e e1 e2 te:TE}{LS:S→List Sl}{LB:B→List Sl}{i j:Nat}{σ:St}
end
section
variable {X:Cx}
end
section
variable {K:Fgg}{E:XK}
end
end L2
namespace L2
open PySem PySem.Spec PyProof.Rows
section
variable {K:Fgg}{E:XK}{α β γ δ ρ ρ' S B:Type}{F0 H0 F h H:Hp}{L:List Sl}{e te ei tc:TE}{T:Ty α}{r:Mo α}{Or:Own ρ}{Or':Own ρ'}{t u:TS}{LS:S→List Sl}{LB:B→List Sl}{σ:St}{C:Addr}{ns:List Str}{f m:Str}{i n w j:Nat}
end
end L2
namespace L2
open PySem PySem.Spec PyProof.Rows
open PySem.SeqAt
open PySem.AutoSeq1 (wpAny_loadPart')
open PySem.MeetsSeq PySem.MeetsSeq2 PySem.MeetsSeq3
end L2
namespace L2
open PySem PySem.Spec PyProof.Rows
section
variable {K:Fgg}{E:XK}{H:Hp}
end
end L2
namespace L2
open PySem PySem.Spec PyProof.Rows
section
variable {α:Type}{O:Own α}
end
section
variable {K:Fgg}{E:XK}{α β γ δ ρ ρ' S B:Type}{F0 H0 F h H:Hp}{L:List Sl}{e te ei tc:TE}{T:Ty α}{r:Mo α}{Or:Own ρ}{Or':Own ρ'}{t u:TS}{LS:S→List Sl}{LB:B→List Sl}{σ:St}{C:Addr}{ns:List Str}{f m:Str}{i n w j:Nat}
end
end L2
namespace L2
open PySem PySem.Spec PyProof.Rows
section
variable {X:Cx}
end
section
variable {K:Fgg}{E:XK}{L:List Sl}{ta:TA}
end
end L2
namespace L2
open PySem PySem.Spec PyProof.Rows
section
variable {K:Fgg}{E E0:XK}{α β γ ρ ρ' S B:Type}{F0 H0 F h H:Hp}{L:List Sl}{T:Ty α}{Or:Own ρ}{t u:TS}{e te:TE}{LS:S→List Sl}{LB:B→List Sl}{i j n:Nat}{σ:St}
end
end L2
namespace L2
open PySem PySem.Spec PyProof.Rows
section
variable {K:Fgg}{E:XK}{α β γ δ ρ ρ' S B:Type}{F0 H0 F h H:Hp}{L:List Sl}{e te te2 ei tc:TE}{T:Ty α}{Or:Own ρ}{Or':Own ρ'}{t u:TS}{LS:S→List Sl}{LB:B→List Sl}{σ:St}{i n w j:Nat}
end
end L2
namespace L2
end L2
namespace L2
open PySem PySem.Spec PyProof.Rows
section
variable {X:Cx}{e:Expr}{es:List Expr}{m x:Str}{p pos apos:Pos}{t:TA}{k:Nat}{ps:List Str}{sp:Sp}
end
def Fs (K:Fgg) (c m q:Str) (st:Stmt):Prop:=∃ cw f,PySem.W.nsIn K mainGlobals c=some (some (.ref cw))∧PySem.W.specialIn K (.ref cw) "__getattribute__" = some (some (.builtin "type.__getattribute__"))∧PySem.W.readsIn K cw (.type "type")=true∧PySem.W.findCls K (.ref cw) (.type "type") m=some (.val (.ref f))∧Fi K m q st f
section
variable {P:Program}{w:World}{K:Fgg}{mg:Str→Option Value}{base:Heap}{CX:CXT}{x q c m a:Str}{st:Stmt}{f:Addr}{fd:FuncData}{N ps:List Str}{k j:Nat}{sp:Sp}
theorem Fs.mk_ {cw:Addr}{oc:Value}{od:Option Addr}{kV doc pm:Value}{an:Option Addr}{cdv ct:Value}{osl:Array (Option Value)}(h:PySem.W.nsIn K mainGlobals c=some (some (.ref cw))) (h1:PySem.W.specialIn K (.ref cw) "__getattribute__" = some (some (.builtin "type.__getattribute__"))) (h2:PySem.W.readsIn K cw (.type "type")=true) (h3:PySem.W.findCls K (.ref cw) (.type "type") m=some (.val (.ref f)))
  (l:K.lookup f=some ⟨oc,od,.func (PySem.W.fnOf m q (defArgs st) (defBody st) (defScope st) .none kV doc pm an cdv ct),osl⟩) (hc:PySem.W.codeIn K cdv q=true) (hk:PySem.W.keepIn K (.ref f)=true):Fs K c m q st:=⟨cw,f,h,h1,h2,h3,oc,od,kV,doc,pm,an,cdv,ct,osl,l,hc,hk⟩
end
section
variable {K:Fgg}{E:XK}{α β γ δ ρ ρ' S B κ:Type}{F0 H0 F h H:Hp}{L:List Sl}{e te ei tc:TE}{T:Ty α}{r:Mo α}{Or:Own ρ}{Or':Own ρ'}{t u:TS}{ta:TA}{LS:S→List Sl}{LB:B→List Sl}{σ:St}{C s:Addr}{ns:List Str}{f m:Str}{i n w j:Nat}
section
variable [DecidableEq κ] {KY:KyT κ}
end
theorem znM_:EvS K tRetN E L ((Mo.ok ()).bind fun a=>.ok (.rt a)) LS LB (owF tyNon):=zb4_ (zal_ zmM_) (EvF.ow zeI_)
variable {te2:TE}
end
end L2
namespace L2
open PySem PySem.Spec PyProof.Rows
section
variable {K:Fgg}{E:XK}{α β γ δ ρ ρ' S B κ:Type}{F0 H0 F h H:Hp}{L:List Sl}{e te te1 tc:TE}{T:Ty α}{r:Mo α}{Or:Own ρ}{Or':Own ρ'}{t u:TS}{ta:TA}{LS:S→List Sl}{LB:B→List Sl}{σ:St}{C s:Addr}{ns:List Str}{f m:Str}{i n w j:Nat}
end
section
variable {prog:Program}{w:World}{A:Around}{E:Value→Shared→Prop}{s:Shared}
end
section
variable {X:Cx}
end
section
variable {K:Fgg}{E:XK}{α:Type}{L:List Sl}{e:TE}{T:Ty α}
end
end L2
namespace L2
open PySem PySem.Spec PyProof.Rows
section
variable {K:Fgg}{E:XK}{α β γ δ ρ ρ' S B κ:Type}{F0 H0 F h H:Hp}{L:List Sl}{e te te1 tc e1 e2:TE}{T:Ty α}{r:Mo α}{Or:Own ρ}{Or':Own ρ'}{t u:TS}{ta:TA}{LS:S→List Sl}{LB:B→List Sl}{σ:St}{C s:Addr}{ns:List Str}{f m:Str}{i n w j:Nat}
end
end L2
namespace L2
open PySem PySem.Spec PyProof.Rows
section
variable {prog:Program}{w:World}{A:Around}{E:Value→Shared→Prop}{h:Heap}{g:Array GenState}{d:Drawn}{t:Nat}{os:OsState}{nm q:Str}{C N:Addr}{bs bm:List Value}{hd:Bool}{sn:List Str}{sub:List Value}{ab:Bool}{col:Option Bool}{dd:Option Addr}{k0 k1 k2 k3 k5:Option Value}
end
section
variable {M:Model}{A:Around}{E:Value→Shared→Prop}{env:Env}{nm q:Str}{C N:Addr}{bs bm:List Value}{hd:Bool}{sn:List Str}{sub:List Value}{ab:Bool}{col:Option Bool}{dd:Option Addr}{k0 k1 k2 k3 k5:Option Value}{ni:String}
end
section
variable {prog:Program}{w:World}{A:Around}{E:Value→Shared→Prop}{h:Heap}{g:Array GenState}{d:Drawn}{t:Nat}{os:OsState}{nm q:Str}{C N a:Addr}{bs bm:List Value}{sn:List Str}{sub:List Value}{ab:Bool}{col:Option Bool}{dd:Option Addr}{k0 k1 k2 k3 k5:Option Value}{ni:String}{K:Fgg}{mA:Str→Option Value}{name:Str}{v:Value}
end
section
variable {prog:Program}{w:World}{A:Around}{E:Value→Shared→Prop}{s:Shared}{K:Fgg}{C a dx:Addr}{name:Str}{v:Value}{mA:Str→Option Value}{o:Obj}{vs:Array Value}
end
end L2
namespace L2
open PySem PySem.Spec PyProof.Rows
section
variable {prog:Program}{w:World}{A:Around}{E:Value→Shared→Prop}{s:Shared}{K:Fgg}{C a dx:Addr}{name:Str}{v:Value}{mA:Str→Option Value}{vs:Array Value}{sl:Array (Option Value)}
end
section
variable {X:Cx}{pins:Pnn}{σ:St}{H:Hp}{s:Shared}{a C dx:Addr}{d:Option Addr}{fs:List (Str×V)}{f:Str}{y v:V}{u:Value}{A:Around}{E:Value→Shared→Prop}{φ:Heap→Prop}
end
section
variable {X:Cx}{e value o:Expr}{es:List Expr}{f x:Str}{p pos pos' apos:Pos}{ta tv te:TE}{t:TA}{C B:Addr}{k:Nat}{ps:List Str}{sp:Sp}
end
end L2
namespace L2
open PySem PySem.Spec PyProof.Rows
section
variable {X:Cx}{E:XK}{C:Addr}{x:Str}{e:Expr}{es:List Expr}{t:TA}{np cpos pos:Pos}{k:Nat}{ps:List Str}{sp:Sp}
end
section
variable {K:Fgg}{E:XK}{α β γ ρ S B:Type}{F0 H0 F h H:Hp}{L:List Sl}{O:Own ρ}{LS:S→List Sl}{LB:B→List Sl}{C:Addr}
end
end L2
namespace L2
open PySem PySem.Spec PyProof.Rows
def Xc.c:Xc→String
 | .pl c=>c
 | .at c _=>c
def XAtt (x:Xc) (d:Option Addr) (H:Hp):Prop:=match x with
 | .pl _=>d=none
 | .at _ as=>∃ dx fs,d=some dx∧H dx=some (XDO dx fs)∧AtR as fs H
theorem XAtt.mono {x:Xc}{d:Option Addr}{H H':Hp}(g:Same H H') (h:XAtt x d H):XAtt x d H':=by
 cases x with
 | pl c=>exact h
 | «at» c as=>obtain ⟨dx,fs,e,q,r⟩:=h; exact ⟨dx,fs,e,g _ _ q,r.imm g.tups⟩
abbrev tyXc (K:Fgg):Ty Xc:=⟨fun x v H=>∃ p d,v=.ref p∧H p=some (XO p (gA K x.c) d)∧XAtt x d H,fun g ⟨p,d,e,q,r⟩=>⟨p,d,e,g _ _ q,r.mono g⟩⟩
def Mo.tr {α β:Type}(r:Mo α) (k:α→Mo β) (hd:Xc→Mo β):Mo β:=match r with | .ok a=>k a | .ex x=>hd x | .no=>.no
def Mo.cat {β:Type}(t:List (String×Bool)) (c:String) (k1 k2:Mo β):Mo β:=match t.lookup c with | some true=>k1 | some false=>k2 | none=>.no
def CatT (K:Fgg) (S:String) (t:List (String×Bool)):Prop:=∀ p∈t,(if p.2 then catK K (gA K p.1) (gA K S) else catN K (gA K p.1) (gA K S))=true
def IsaT (K:Fgg) (v:Value) (t:List (String×Bool)):Prop:=∀ p∈t,isaK K (gA K p.1) v=some p.2
theorem zch_ {β:Type}{c:String}{b:β}:∀ {t:List (String×β)},t.lookup c=some b→(c,b)∈t
 | [],h=>by cases h
 | (d,x)::t,h=>by
  rw [List.lookup_cons] at h
  split at h
  ·rename_i e; cases h; rw [eq_of_beq e]; exact List.mem_cons_self
  ·exact List.mem_cons_of_mem _ (zch_ h)
theorem zk4_ {K:Fgg}{S:String}:CatT K S []:=fun _ h=>nomatch h
theorem znd_ {K:Fgg}{S c:String}{t:List (String×Bool)}(h:catK K (gA K c) (gA K S)=true) (r:CatT K S t):CatT K S ((c,true)::t):=fun p hp=>by
 rcases List.mem_cons.mp hp with rfl | hp
 ·exact h
 ·exact r p hp
theorem zaL_ {K:Fgg}{v:Value}:IsaT K v []:=fun _ h=>nomatch h
theorem zdX_ {K:Fgg}{v:Value}{c:String}{b:Bool}{t:List (String×Bool)}(h:isaK K (gA K c) v=some b) (r:IsaT K v t):IsaT K v ((c,b)::t):=fun p hp=>by
 rcases List.mem_cons.mp hp with rfl | hp
 ·exact h
 ·exact r p hp
theorem zkl_ {K:Fgg}{C S:Addr}(h:catN K C S=true):¬ catK K C S=true:=fun h2=>by
 unfold catN at h; unfold catK at h2
 simp only [Bool.and_eq_true,beq_iff_eq] at h h2
 have:=h.2.symm.trans h2.2
 cases this
section
variable {K:Fgg}{E:XK}{α β γ δ ρ S B:Type}{F0 H0 F h H:Hp}{L:List Sl}{O:Own ρ}{LS:S→List Sl}{LB:B→List Sl}{i:Nat}{x:Xc}{ts:TS}{rest th:TH}{e:TE}{r:Mo α}{T:Ty α}
def EvH (K:Fgg) (th:TH) (E:XK) (L:List Sl) (x:Xc) (r:Mo (Out ρ B S)) (LS:S→List Sl) (LB:B→List Sl) (O:Own ρ):Prop :=
 ∀ F0 H0 σ F h H d (D:Ends),Hold L σ F h→Okk F0 H0 F h H→XAtt x d F→Fin K r E LS LB O F0 H0 D→th (gA K x.c) d D σ H
theorem eh_0:EvH K tH0 E L x .no LS LB O:=fun _ _ _ _ _ _ _ _ _ _ _ fin=>fin
theorem zet_:∀ {L:List Sl}{σ:St}{F h:Hp}{i:Nat}{o:Option V},L[i]?=some .dead→Hold L σ F h→Hold L (σ.set i o) F h
 | [],_,_,_,_,_,e,_=>by simp at e
 | s::L,[],_,_,_,_,_,q=>q.elim
 | s::L,a::σ,F,h,0,o,e,⟨h1,h2,j,p,q⟩=>by
  cases (show s=.dead by simpa using e)
  exact ⟨h1,h2,j,trivial,q⟩
 | s::L,a::σ,F,h,i+1,o,e,⟨h1,h2,j,p,q⟩=>⟨h1,h2,j,p,zet_ (by simpa using e) q⟩
theorem zeT_ {L:List Sl}{σ:St}{F h:Hp}{i:Nat}{o:Option V}(e:L[i]?=some .dead∨L=[]) (q:Hold L σ F h):Hold L (σ.set i o) F h:=by
 rcases e with e | rfl
 ·exact zet_ e q
 ·cases σ with
  | nil=>exact q
  | cons a σ=>exact q.elim
theorem zlq_ {D:Ends}{r:Mo (Out ρ B S)}(hd:∀ s,(LS s)[i]?=some .dead) (hb:∀ b,(LB b)[i]?=some .dead∨LB b=[]) (fin:Fin K r E LS LB O F0 H0 D):Fin K r E LS LB O F0 H0 (gone i D):=by
 cases r with
 | no=>exact fin
 | ex c=>exact fin
 | ok o =>
  cases o with
  | nx s=>exact fun σ F h H q ok=>fin _ F h H (zet_ (hd s) q) ok
  | bk s=>exact fun σ F h H q ok=>fin _ F h H (zeT_ (hb s) q) ok
  | ct s=>exact fun σ F h H q ok=>fin _ F h H (zeT_ (hb s) q) ok
  | rt a=>exact fin
theorem eh_as {c:String}{t:List (String×Bool)}{r1 r2:Mo (Out ρ B S)}(hT:CatT K c t) (hi:L[i]?=some .dead) (hd:∀ s,(LS s)[i]?=some .dead)
  (h1:EvS K ts E (L.set i (.fz (tyXc K) x)) r1 LS LB O) (h2:EvH K rest E L x r2 LS LB O) (hb:∀ b,(LB b)[i]?=some .dead∨LB b=[]:=by first | exact fun _=>.inl rfl | exact fun _=>.inr rfl):EvH K (tHAs K (gA K c) i ts rest) E L x (Mo.cat t x.c r1 r2) LS LB O:=by
 intro F0 H0 σ F h H d D hL ok hx fin
 unfold Mo.cat at fin
 split at fin
 case h_1 e =>
  have z:catK K (gA K x.c) (gA K c)=true:=hT _ (zch_ e)
  unfold tHAs
  rw [if_pos z]
  intro p hp
  have y:=Ext.new (o:=XO p (gA K x.c) d) ok.1.2.1 hp
  exact h1 F0 H0 _ (upd F p (XO p (gA K x.c) d)) h _ (gone i D) (zcp_ hi (hL.mono y.1) ⟨p,d,rfl,zD_,hx.mono y.1⟩) (ok.cold y) (zlq_ hd hb fin)
 case h_2 e =>
  have z:catN K (gA K x.c) (gA K c)=true:=hT _ (zch_ e)
  unfold tHAs
  rw [if_neg (zkl_ z)]
  exact ⟨z,h2 F0 H0 σ F h H d D hL ok hx fin⟩
 case h_3=>exact fin.elim
def isaQ (t:List (String×Bool)) (c:String):Option Bool:=t.lookup c
theorem zbR_ {t:List (String×Bool)}{v:V}{u:Value}{re:Mo Xc}(hT:IsaT K u t) (hv:clsV v=some u) (h:EvF K e E L re (tyXc K)):EvF K (tCB (mIsaX K) (tCons e (tCons (tC v) tNil))) E L (re.bind fun x=>Mo.opt (isaQ t x.c)) tyBl:=by
 intro σ F H R hL hs q
 refine h σ F H _ hL hs (q.bind.imp fun x F1 H1 x1 k1 w hq_=>?_)
 obtain ⟨p,d,e,hp,_⟩:=hq_
 subst e
 obtain ⟨b,e,k2⟩:=k1.opt
 have z:(x.c,b)∈t:=zch_ (show t.lookup x.c=some b from e)
 have z2:isaK K (gA K x.c) u=some b:=hT (x.c,b) z
 have z3:H1 p=some (XO p (gA K x.c) d):=x1.2.1 _ _ hp
 have z4:R (.bl b) H1:=k2.ok x1.2.1 _ rfl
 generalize gA K x.c=D at z2 z3
 show ∃ D d v' b,H1 p=some (XO p D d)∧clsV v=some v'∧isaK K D v'=some b∧R (.bl b) H1
 exact ⟨D,d,u,b,z3,hv,z2,z4⟩
theorem znT_:Flt tyBl (fun a b=>decide (a=b)):=⟨fun h=>by cases h; rfl,fun h h'=>by cases h; cases h'; unfold eqV; exact rfl⟩
end
section
variable {P:Program}{w:World}{K:Fgg}{mg:Str→Option Value}{base:Heap}{x q c:Str}{st:Stmt}{N ps:List Str}{k:Nat}{α β:Type}{sp:Sp}
end
end L2
namespace L2
open PySem PySem.Spec PyProof.Rows
section
variable {X:Cx}{e o:Expr}{es:List Expr}{m:Str}{p pos pos' apos:Pos}{ta:TE}{t:TA}{C:Addr}{k:Nat}{ps:List Str}{sp:Sp}{E:XK}
end
section
variable {K:Fgg}{E:XK}{α β γ δ ρ ρ' S B:Type}{F0 H0 F h H:Hp}{L:List Sl}{e te:TE}{T:Ty α}{r:Mo α}{O:Own ρ}{t u:TS}{LS:S→List Sl}{LB:B→List Sl}{σ:St}{C:Addr}{ns:List Str}{m:Str}{i n:Nat}{th:TH}
end
section
variable {P:Program}{w:World}{K:Fgg}{mg:Str→Option Value}{base:Heap}{x q:Str}{st:Stmt}{N ps:List Str}{k:Nat}{α β γ ρ:Type}
end
section
variable {K:Fgg}{E:XK}{α β γ δ ρ ρ' S B:Type}{F0 H0 F h H:Hp}{L:List Sl}{te:TE}{Or:Own ρ}{LS:S→List Sl}{LB:B→List Sl}{C:Addr}{ns:List Str}{m:Str}{i:Nat}{th:TH}
end
end L2
namespace L2
open PySem PySem.Spec PyProof.Rows
section
variable {K:Fgg}{E:XK}{α β γ δ ρ ρ' S B:Type}{F0 H0 F h H:Hp}{L:List Sl}{e te ei:TE}{T:Ty α}{r:Mo α}{Or:Own ρ}{t u:TS}{LS:S→List Sl}{LB:B→List Sl}{σ:St}{C:Addr}{ns:List Str}{f m:Str}{i n:Nat}
end
section
variable {P:Program}{w:World}{K:Fgg}{mg:Str→Option Value}{base:Heap}{x q:Str}{st:Stmt}{N ps:List Str}{k:Nat}{α β γ ρ:Type}
end
section
variable {X:Cx}{e:Expr}{es:List Expr}{x:Str}{p pos:Pos}{t:TA}{C:Addr}{k:Nat}{ps:List Str}{sp:Sp}{E:XK}
end
end L2
namespace L2
open PySem PySem.Spec PyProof.Rows
section
variable {prog:Program}{w:World}{A:Around}{E:Value→Shared→Prop}{s:Shared}
end
section
variable {X:Cx}{tg:Expr}{p:Addr}
end
section
variable {X:Cx}{ts:Addr→TS}{S:Addr}{sx n:Str}{i:Nat}{b₀:Stmt}{suite:List Stmt}{np hpos pos:Pos}{rest:TH}{hs:List ExceptHandler}
end
section
variable {K:Fgg}{E:XK}{ρ S B:Type}{L:List Sl}{O:Own ρ}{LS:S→List Sl}{LB:B→List Sl}{i:Nat}{x:Xc}{rest:TH}
end
section
variable {P:Program}{w:World}{K:Fgg}{mg:Str→Option Value}{base:Heap}
end
section
variable {X:Cx}{k:Nat}{x:Str}{ps:List Str}{p pos:Pos}{e:Expr}{es:List Expr}{t:TA}
end
section
variable {K:Fgg}{E:XK}{α:Type}{L:List Sl}{e:TE}{T:Ty α}{p:Addr}{x:Xc}{i:Nat}
end
section
variable {P:Program}{w:World}{K:Fgg}{mg:Str→Option Value}{base:Heap}{x:Str}{st:Stmt}{ps:List Str}{k:Nat}{sp:Addr→Sp}
end
section
variable {P:Program}{w:World}{K:Fgg}{mg:Str→Option Value}{base:Heap}{x q:Str}{st:Stmt}{N ps:List Str}{k:Nat}{α β γ ρ:Type}
end
end L2
namespace L2
open PySem PySem.Spec PyProof.Rows
section
variable {K:Fgg}{E:XK}{α β γ:Type}{L:List Sl}{T:Ty α}{T':Ty β}{e:TE}
abbrev tyU (T:Ty α) (T':Ty β):Ty (α ⊕ β):=⟨fun d v H=>match d with | .inl a=>T.R a v H | .inr b=>T'.R b v H,fun {d v H H'} g h=>by cases d with | inl a=>exact T.mono g h | inr b=>exact T'.mono g h⟩
theorem znE_ (i:Imm T) (i':Imm T'):Imm (tyU T T'):=fun {d v H H'} g h=>by cases d with | inl a=>exact i g h | inr b=>exact i' g h
theorem zn2_ {r:Mo α}(h:EvF K e E L r T):EvF K e E L (r.bind fun a=>.ok (.inl a)) (tyU T T'):=by
 intro σ F H Q hL hs q
 exact h σ F H _ hL hs (q.bind.imp fun a F1 H1 x1 k1 v hv=>k1.ok x1.2.1 v hv)
theorem zmg_ {r:Mo β}(h:EvF K e E L r T'):EvF K e E L (r.bind fun a=>.ok (.inr a)) (tyU T T'):=by
 intro σ F H Q hL hs q
 exact h σ F H _ hL hs (q.bind.imp fun a F1 H1 x1 k1 v hv=>k1.ok x1.2.1 v hv)
theorem zjS_ {r:Mo (α ⊕ β)}(h:EvF K e E L r (tyU T T')):EvF K e E L (r.bind fun d=>Mo.opt d.getLeft?) T:=by
 intro σ F H Q hL hs q
 refine h σ F H _ hL hs (q.bind.imp fun d F1 H1 x1 k1 v hv=>?_)
 cases d with
 | inl a=>exact k1.ok x1.2.1 v hv
 | inr b=>exact k1.elim
theorem zhj_ {r:Mo (α ⊕ β)}(h:EvF K e E L r (tyU T T')):EvF K e E L (r.bind fun d=>Mo.opt d.getRight?) T':=by
 intro σ F H Q hL hs q
 refine h σ F H _ hL hs (q.bind.imp fun d F1 H1 x1 k1 v hv=>?_)
 cases d with
 | inr a=>exact k1.ok x1.2.1 v hv
 | inl b=>exact k1.elim
end
end L2
namespace L2
open PySem PySem.Spec PyProof.Rows
section
variable {X:Cx}{st:Stmt}{rest body orelse:List Stmt}{t u:TX}{tb:TX}{th:TH}{te:TS}{k i:Nat}{x n:Str}{ps:List Str}{sp:Sp}{p pos pos' ps':Pos}{e:Expr}{es:List Expr}{ta:TA}{hs:List ExceptHandler}
theorem zkE_:PH X hs tH0:=fun _ _ _ _ _ _ _ _ _ _ _ _ h=>h.elim
def tTryHE (tb:TX) (te:TS) (th:TH):TS:=fun D σ H=>tb { D with nx:=fun σ' H'=>te D σ' H' } (fun σ' c d H'=>∃ C,c=.ref C∧th C d D σ' H') σ H
theorem zj8_ {h₀:ExceptHandler}(hst:X.stack=X.env::X.outer) (hfr:X.env.frame=some X.env.locals) (hb:PSsx X body tb) (hl:PSs X orelse te) (hh:PH X (h₀::hs) th):PS X (.Try body (h₀::hs) orelse [] pos) (tTryHE tb te th):=by
 intro pins s σ H D I h
 refine wpAny_Try_except (wpAny_mono (hb pins s σ H _ _ I h) (fun f s1 q=>?_) fun e s1 q=>?_)
 ·cases f with
  | next=>obtain ⟨σ',H',I',q⟩:=q; exact hl pins s1 σ' H' D I' q
  | ret v=>exact q
  | brk=>exact q
  | cont=>exact q
 ·obtain ⟨σ',Hb,sb,Ib,x,T,C,d,H',rfl,os,bare,un,ok,fly,C',hC',q⟩:=q
  cases hC'
  have I1:Inv X pins σ' H' s1:=Ib.call' (ch:=[]) os un ok bare (fun b z=>absurd z (by simp))
  obtain ⟨oe,vs,a0,oT,ts',he,hcl,hd,h1,hTe,hT,hdT,h3⟩:=fly.obj
  have land:∀ h',ziw_ X s1 x T |>.StaysIn h'→h'.FunFrames (ziw_ X s1 x T) X.stack→h'.TracedW (ziw_ X s1 x T) x (.ref C) a0→s1.heap.UpToSlots h'→Dc x d h'→Inv X pins σ' (upd H' x (XO x C d)) { s1 with heap:=h' }:=fun h' a b c up dd=>landed Ib os bare un ok fly ⟨a,PySem.W.hideAll_none _ (List.mem_append_right _ List.mem_cons_self),b,c⟩ up dd
  have tr:s1.heap.TracedW (ziw_ X s1 x T) x (.ref C) a0:=⟨oe,vs,T,oT,ts',he,hcl,hd,h1,PySem.W.hideAll_none _ (List.mem_append_right _ (List.mem_cons_of_mem _ List.mem_cons_self)),hTe,hT,hdT,h3⟩
  have fr1:s1.heap.FunFrames (ziw_ X s1 x T) X.stack:=PySem.W.funFrames_hide I1.stack zjg_
  rw [hst] at fr1
  refine zih_ (outer:=X.outer) (I1.ok.frames.trans (congrArg some hst)) fr1 hfr tr (fun b o q=>PySem.W.of_hideAll _ q) (PySem.W.hideAll_none _ (List.mem_append_right _ List.mem_cons_self)) fly.dc fun h4 n4 d4=>?_
  refine fl_d n4.1 n4.2.1 n4.2.2.1 d4 fun h5 a5 b5 c5 u5 d5=>?_
  have u4:s1.heap.UpToSlots h4:=n4.2.2.2
  rw [← hst] at b5
  refine hh pins σ' H' D _ x C d _ (land h5 a5 b5 c5 (u4.trans u5) d5) fly.hx (fun A' Q' E' kk=>?_) q
  exact fl_d a5 b5 c5.at d5 fun h6 a6 b6 c6 u6 d6=>kk h6 (land h6 a6 b6 c6 ((u4.trans u5).trans u6) d6)
end
section
variable {K:Fgg}{E:XK}{α β γ δ ρ S B:Type}{F0 H0 F h H:Hp}{L:List Sl}{O:Own ρ}{LS:S→List Sl}{LB:B→List Sl}{i:Nat}{x:Xc}{ts te:TS}{rest th:TH}{e:TE}{T:Ty α}{T':Ty β}
end
end L2
namespace L2
open PySem PySem.Spec PyProof.Rows
abbrev oP2 {α β:Type}(x:Mo α) (y:Mo β):Mo (α×β):=x.bind fun a=>y.bind fun c=>.ok (a,c)
abbrev oMd (x y:Mo Int):Mo Int:=x.bind fun a=>y.bind fun b=>.grd (0<b) (.ok (a % b))
abbrev oDv (x y:Mo Int):Mo Int:=x.bind fun a=>y.bind fun b=>.grd (CDivG a b) (.ok (a / b))
abbrev oMu (x y:Mo Int):Mo Int:=x.bind fun a=>y.bind fun b=>.grd (IntMulOk a b) (.ok (a*b))
abbrev oAd (x y:Mo Int):Mo Int:=x.bind fun a=>y.bind fun b=>.ok (a+b)
abbrev oSu (x y:Mo Int):Mo Int:=x.bind fun a=>y.bind fun b=>.ok (a-b)
abbrev oEI (x y:Mo Int):Mo Bool:=x.bind fun a=>y.bind fun b=>.ok (decide (a=b))
abbrev oNI (x y:Mo Int):Mo Bool:=x.bind fun a=>y.bind fun b=>.ok (!decide (a=b))
abbrev oES (x y:Mo (List Nat)):Mo Bool:=x.bind fun a=>y.bind fun b=>.ok (decide (a=b))
abbrev oLI (x y:Mo Int):Mo Bool:=x.bind fun a=>y.bind fun b=>.ok (decide (a<b))
abbrev oLE (x y:Mo Int):Mo Bool:=x.bind fun a=>y.bind fun b=>.ok (decide (a≤b))
abbrev oGI (x y:Mo Int):Mo Bool:=x.bind fun a=>y.bind fun b=>.ok (decide (b<a))
abbrev oGE (x y:Mo Int):Mo Bool:=x.bind fun a=>y.bind fun b=>.ok (decide (b≤a))
abbrev oAt {α:Type}(x:Mo (List α)) (y:Mo Int):Mo α:=x.bind fun a=>y.bind fun b=>.opt (atI a b)
abbrev oAp {α:Type}(x y:Mo (List α)):Mo (List α):=x.bind fun a=>y.bind fun b=>.lim (a.length+b.length) (.ok (a++b))
abbrev oRt {ρ B S:Type}(x:Mo ρ):Mo (Out ρ B S):=x.bind fun r=>.ok (.rt r)
abbrev oSm (x:Mo Int):Mo (Option Int):=x.bind fun i=>.ok (some i)
abbrev oNt (x:Mo Bool):Mo Bool:=x.bind fun a=>.ok (!a)
end L2
namespace L2
open PySem PySem.Spec PyProof.Rows
structure FunD (K:Fgg) (T:Addr) (x qual:Str) (st:Stmt) (f:Addr) (fd:FuncData):Prop where
 ex:∃ (oc:Value) (od:Option Addr) (kV doc pm:Value) (an:Option Addr) (cdv ct:Value) (osl:Array (Option Value)),
  fd=PySem.W.fnOf x qual (defArgs st) (defBody st) (defScope st) (.ref T) kV doc pm an cdv ct∧K.lookup f=some ⟨oc,od,.func fd,osl⟩∧PySem.W.codeIn K cdv qual=true
 kp:PySem.W.keepIn K (.ref f)=true
section
variable {P:Program}{w:World}{K:Fgg}{mg:Str→Option Value}{base:Heap}
theorem FunD.okX {T:Addr}{x qual:Str}{st:Stmt}{f:Addr}{fd:FuncData}{N ps:List Str}{k:Nat}{sp:Sp}(F:FunD K T x qual st f fd) (S:FnScope N ps (defScope st)) (len:∀ vs H Q E,sp vs H Q E→vs.length=ps.length)
  (hbody:∀ (cdv:Value) (A:Around) (outer:List Env) (s:Shared) (H:Hp) (vs:List V) (Q:VK) (E:XK),Room k (A.deeper (envOfC qual (defScope st) s.heap.objs.size f cdv))→sp vs H Q E →
   ∃ t,PSs (cxOf (CXx P w) P w K mg base N qual (defScope st) f cdv A outer s H E) (defBody st) t∧t { nx:=fun _ H'=>Q .non H',rt:=Q } (start N vs) H):FnOk P w K mg base (CXx P w) (k+1) f fd ps sp:=by
 obtain ⟨oc,od,kV,doc,pm,an,cdv,ct,osl,rfl,lk,hcd⟩:=F.ex
 exact znS_ lk hcd S len fun A outer s H vs Q E hr hsp=>hbody cdv A outer s H vs Q E hr hsp
end
def relB:V→Value→Bool
 | .non,.none=>true
 | .int i,.int j _=>i == j
 | .bl a,.bool b=>a == b
 | _,_=>false
def relsB:List V→List Value→Bool
 | [],[]=>true
 | x::xs,v::vs=>relB x v && relsB xs vs
 | _,_=>false
theorem zlw_ {x:V}{v:Value}(h:relB x v=true):RelV x v:=by
 unfold relB at h
 split at h
 ·rfl
 ·exact ⟨_,by rw [eq_of_beq h]⟩
 ·rw [eq_of_beq h]; rfl
 ·cases h
theorem zht_:∀ {xs:List V}{vs:List Value},relsB xs vs=true→Vals xs vs
 | [],[],_=>.nil
 | x::xs,v::vs,h=>by
  unfold relsB at h
  obtain ⟨a,b⟩:=Bool.and_eq_true_iff.mp h
  exact .cons (zlw_ a) (zht_ b)
 | [],_::_,h=>by cases h
 | _::_,[],h=>by cases h
def FmD (K:Fgg) (c m q:Str) (st:Stmt) (dvs:List V):Prop:=∃ cw f T fd arr n oc od osl,PySem.W.nsIn K mainGlobals c=some (some (.ref cw))∧PySem.W.findIn K (.ref cw) m=some (some (.ref f))∧PySem.W.isFn K (.ref f)=true∧FunD K T m q st f fd ∧
 K.lookup T=some ⟨oc,od,.seq arr n,osl⟩∧Vals dvs arr.toList
section
variable {P:Program}{w:World}{K:Fgg}{mg:Str→Option Value}{base:Heap}{CX:CXT}{x q c m a:Str}{st:Stmt}{f:Addr}{fd:FuncData}{N ps:List Str}{k j:Nat}{sp:Sp}{A:Around}{v:V}
theorem FmD.mk_ {cw T:Addr}{oc oc2:Value}{od od2:Option Addr}{kV doc pm:Value}{an:Option Addr}{cdv ct:Value}{osl osl2:Array (Option Value)}{arr:Array Value}{n:Nat}{dvs:List V}(h:PySem.W.nsIn K mainGlobals c=some (some (.ref cw))) (h1:PySem.W.findIn K (.ref cw) m=some (some (.ref f))) (h2:PySem.W.isFn K (.ref f)=true)
  (l:K.lookup f=some ⟨oc,od,.func (PySem.W.fnOf m q (defArgs st) (defBody st) (defScope st) (.ref T) kV doc pm an cdv ct),osl⟩) (c1:PySem.W.codeIn K cdv q=true) (k1:PySem.W.keepIn K (.ref f)=true) (lT:K.lookup T=some ⟨oc2,od2,.seq arr n,osl2⟩) (hv:relsB dvs arr.toList=true):FmD K c m q st dvs :=
 ⟨cw,f,T,_,arr,n,oc2,od2,osl2,h,h1,h2,⟨⟨oc,od,kV,doc,pm,an,cdv,ct,osl,rfl,l,c1⟩,k1⟩,lT,zht_ hv⟩
def GkD (P:Program) (w:World) (K:Fgg) (mg:Str→Option Value) (base:Heap) (CX:CXT) (k:Nat) (x:Str) (C:Addr) (ps:List Str) (dvs:List V) (sp:Sp):Prop :=
 ∃ f fd ds,FnOk P w K mg base CX k f fd ps sp∧Mk K C f∧mg x=some (.ref C)∧Vals dvs ds∧Binds K fd ps ds
abbrev OkFD (P:Program) (w:World) (K:Fgg) (mg:Str→Option Value) (base:Heap) (CX:CXT) (k:Nat) (x q:Str) (st:Stmt) (ps:List Str) (sp:Sp):Prop:=∀ T f fd,FunD K T x q st f fd→FnOk P w K mg base CX k f fd ps sp
theorem zjY_ {ps:List Str}{T:Addr}{oc:Value}{od:Option Addr}{osl:Array (Option Value)}{d0 d1 d2 d3 d4:Value}{n:Nat}(hp:ps.length=10) (F:FunD K T x q st f fd) (lT:K.lookup T=some ⟨oc,od,.seq #[d0,d1,d2,d3,d4] n,osl⟩)
  (h:∀ (kV doc pm:Value) (an:Option Addr) (cdv ct:Value) (u0 u1 u2 u3 u4 u5:Value) (s:Shared),(∃ o,s.heap.get? T=some o∧o.data=.seq #[d0,d1,d2,d3,d4] n)→BindsTo s (PySem.W.fnOf x q (defArgs st) (defBody st) (defScope st) (.ref T) kV doc pm an cdv ct) ⟨[u0,u1,u2,u3,u4,u5],[]⟩ (ps.zip [u0,u1,u2,u3,u4,u5,d1,d2,d3,d4])) :
  Binds K fd ps [d1,d2,d3,d4]:=by
 obtain ⟨oc,od,kV,doc,pm,an,cdv,ct,osl,rfl,lk,hcd⟩:=F.ex
 intro s us hK hl
 rw [hp,List.length_append] at hl
 have hl:us.length=6:=by simpa using hl
 obtain ⟨u0,t1,rfl,h1⟩:=za6_ hl
 obtain ⟨u1,t2,rfl,h2⟩:=za6_ h1
 obtain ⟨u2,t3,rfl,h3⟩:=za6_ h2
 obtain ⟨u3,t4,rfl,h4⟩:=za6_ h3
 obtain ⟨u4,t5,rfl,h5⟩:=za6_ h4
 obtain ⟨u5,t6,rfl,h6⟩:=za6_ h5
 cases List.length_eq_zero_iff.mp h6
 exact h kV doc pm an cdv ct u0 u1 u2 u3 u4 u5 s ⟨_,hK _ _ lT,rfl⟩
end
section
variable {K:Fgg}{E:XK}{α β γ γ' δ ρ S B:Type}{F0 H0 F h H:Hp}{L:List Sl}{T:Ty α}{C0:Cs γ}{C1:Cs γ'}{Qt:Cs δ}{dvs:List V}{f:γ→γ'}{ta:TA}{ra:Mo γ}{C:Addr}{ns:List Str}{O:Own ρ}{LS:S→List Sl}{LB:B→List Sl}{th:TH}
def CsD (Q:Cs γ) (dvs:List V) (Q':Cs γ') (f:γ→γ'):Prop:=∀ {c vs F},Q.R c vs F→Q'.R (f c) (vs++dvs) F
theorem zlk_ {ct:δ}(h:∀ F,Qt.R ct dvs F):CsD (csLast T) dvs (csCons T Qt) (fun a=>(a,ct)):=by
 rintro c vs F ⟨v,rfl,h1⟩
 exact ⟨v,dvs,rfl,h1,h F⟩
theorem zeL_ (h:CsD C0 dvs C1 f):CsD (csCons T C0) dvs (csCons T C1) (fun c=>(c.1,f c.2)):=by
 rintro c vs F ⟨v,us,rfl,h1,h2⟩
 exact ⟨v,us++dvs,rfl,h1,h h2⟩
def taD (ta:TA) (dvs:List V):TA:=fun σ H Q=>ta σ H fun vs H1=>Q (vs++dvs) H1
theorem ea_D (h:EvA K ta E L ra C0) (hD:CsD C0 dvs C1 f):EvA K (taD ta dvs) E L (ra.bind fun c=>.ok (f c)) C1:=by
 intro σ F H R hL hs q
 exact h σ F H _ hL hs (q.bind.imp fun c F1 H1 x1 k1 vs hvs=>k1.ok x1.2.1 _ (hD hvs))
def tDropK (C:Addr) (sp:Sp) (dvs:List V) (t:TA):TX:=fun D W σ H=>t σ H fun vs H1=>∀ x dx,H1 x=none→H1 dx=none→dx≠x →
 sp (.ref x::(vs++dvs)) (upd (upd H1 dx (.own x)) x (.ins C dx [])) (fun v H2=>v=.non∧D.nx σ H2) (W σ)
theorem zlb_ {sp:Sp}:tDropK C sp dvs ta=tDropK C sp [] (taD ta dvs):=by
 funext D W σ H
 unfold tDropK taD
 simp only [List.append_nil]
theorem znu_ {P:Ps δ}{g:Unit→γ→Mo (Unit×δ)}{rn:Mo (Out ρ B S)}{hand:Xc→Mo (Out ρ B S)}(ha:EvA K ta E L ra C0) (hn:EvS K tNext E L rn LS LB O) (hh:∀ x,EvH K th E L x (hand x) LS LB O) :
  EvS K (tTryH (tDropK C (CtM K (owI C [] psNil) (owI C ns P) C0 g (owF tyNon)) [] ta) th) E L (ra.bind fun c=>Mo.tr (g () c) (fun _=>rn) hand) LS LB O:=by
 intro F0 H0 σ F h H D hL ok fin
 refine ha σ (un F h) H _ (hL.froz ok.2.1) ok.thaw (zaQ_ (G:=F) ok _ (.inl rfl) fin fun c F1 H1 hr x1 vs hvs x dx hx hdx ndx=>?_)
 rw [hr] at fin
 have fin:Fin K (Mo.tr (g () c) (fun _=>rn) hand) E LS LB O F0 H0 D:=fin
 rw [List.append_nil]
 have new:∀ b,two x dx (.ins C dx []) b≠none→H1 b=none:=fun b z=>by
  unfold two at z
  split at z
  ·rename_i e; rw [e]; exact hx
  ·split at z
   ·rename_i e; rw [e]; exact hdx
   ·exact absurd rfl z
 have at1:∀ b,two x dx (.ins C dx []) b=none→upd (upd H1 dx (.own x)) x (.ins C dx []) b=H1 b:=fun b z=>by
  obtain ⟨a1,a2⟩:=zmd_ z
  rw [z4_ a1,z4_ a2]
 have at2:Same (two x dx (.ins C dx [])) (upd (upd H1 dx (.own x)) x (.ins C dx [])):=fun b o z=>by
  unfold two at z
  split at z
  ·rename_i e; rw [e,zD_]; exact z
  ·rename_i e0
   split at z
   ·rename_i e; rw [z4_ e0,e,zD_]; exact z
   ·cases z
 have dj:Dj F1 (two x dx (.ins C dx [])):=fun b=>by
  by_cases z:two x dx (.ins C dx []) b=none
  ·exact .inr z
  ·exact .inl (x1.2.1.free (new b z))
 have sF:Same F1 (upd (upd H1 dx (.own x)) x (.ins C dx [])):=fun b o z=>by
  have hb:=x1.2.1 _ _ z
  rw [at1 b ?_]
  ·exact hb
  ·cases y:two x dx (.ins C dx []) b with
   | none=>rfl
   | some s=>rw [new b (by rw [y]; exact Option.some_ne_none _)] at hb; cases hb
 have eH:∀ b,less (upd (upd H1 dx (.own x)) x (.ins C dx [])) (two x dx (.ins C dx [])) b=H1 b:=fun b=>by
  by_cases z:two x dx (.ins C dx []) b=none
  ·rw [zbA_ z,at1 b z]
  ·rw [zgx_ b z,new b z]
 refine ⟨F1,two x dx (.ins C dx []),(),c,.ref x,vs,rfl,sF,dj,at2,⟨x,dx,[],fun _=>none,rfl,ndx,fun _=>.inr ⟨rfl,rfl⟩,rfl,rfl,fun _=>rfl⟩,hvs,?_⟩
 cases e:g () c with
 | no=>rw [e] at fin; exact fin
 | ok q0 =>
  rw [e] at fin
  rintro F' h' H' okc v ⟨hr,hs',j,⟨_,hv⟩,hO2⟩
  have xx:Ext F1 H1 F' H':=⟨okc.1.1,okc.1.2.1,fun b o z=>okc.1.2.2.1 b o (by rw [eH]; exact z),fun b a1 a2=>by rw [← eH b]; exact okc.1.2.2.2 b a1 a2⟩
  obtain ⟨o,hs,ht⟩:=ok.back (x1.trans xx)
  exact ⟨hv,hn F0 H0 σ _ h H' D (hL.mono hs) o fin⟩
 | ex cc =>
  rw [e] at fin
  have fin:Fin K (hand cc) E LS LB O F0 H0 D:=fin
  intro F' h' H' okc
  have xx:Ext F1 H1 F' H':=⟨okc.1.1,okc.1.2.1,fun b o z=>okc.1.2.2.1 b o (by rw [eH]; exact z),fun b a1 a2=>by rw [← eH b]; exact okc.1.2.2.2 b a1 a2⟩
  obtain ⟨o,hs,ht⟩:=ok.back (x1.trans xx)
  cases cc with
  | pl c'=>exact ⟨_,rfl,hh (.pl c') F0 H0 σ _ h H' none D (hL.mono hs) o rfl fin⟩
  | «at» c' as =>
   intro dx' fs e1 e2 e3
   have e1':H1 dx'=none:=by rw [← eH dx']; exact e1
   refine ⟨_,rfl,hh (.at c' as) F0 H0 σ _ h H' (some dx') D (hL.mono hs) o ⟨dx',fs,rfl,?_,e3.imm ht⟩ fin⟩
   rw [zbA_ (ok.2.2.1.free (x1.2.2.1.free e1'))]; exact e2
theorem zmk_ {P:Ps δ}{g:Unit→γ'→Mo (Unit×δ)}{rn:Mo (Out ρ B S)}{hand:Xc→Mo (Out ρ B S)}(hD:CsD C0 dvs C1 f) (ha:EvA K ta E L ra C0) (hn:EvS K tNext E L rn LS LB O) (hh:∀ x,EvH K th E L x (hand x) LS LB O) :
  EvS K (tTryH (tDropK C (CtM K (owI C [] psNil) (owI C ns P) C1 g (owF tyNon)) dvs ta) th) E L ((ra.bind fun c=>.ok (f c)).bind fun c=>Mo.tr (g () c) (fun _=>rn) hand) LS LB O:=by
 rw [zlb_]
 exact znu_ (ea_D ha hD) hn hh
end
section
variable {X:Cx}{e:Expr}{es:List Expr}{x:Str}{p pos pos':Pos}{t:TA}{C:Addr}{k:Nat}{ps:List Str}{sp:Sp}{E:XK}{CX:CXT}{dvs:List V}
theorem zkO_ (G:GkD X.prog X.w X.K X.mg X.base (CXx X.prog X.w) k x C ps dvs sp) (hr:Room (k+1) X.A) (ha:PA X.nox (e::es) t) (hg:Gl X x:=by rfl) (hdb:(x == ("__debug__" : Str))=false:=by decide)
  (he:starEach (e::es) X.env=(false,eval e X.env)::starEach es X.env:=by rfl) (hpl:(backTo pos (starEach es X.env)).any (·.1)=false:=by rfl)
  (hs:swapsWith (.Call (.Name x p) (e::es) [] pos) none pos'.line X.env=pure false:=by rfl):PSx X (.Expr (.Call (.Name x p) (e::es) [] pos) pos') (tDropK C sp dvs t):=by
 obtain ⟨f,fd,ds,F,M,hm,hd,hb⟩:=G
 intro pins s σ H D W I h
 refine wpAny_Expr_any (thn (Q:=EP X pins σ fun _ H3=>D.nx σ H3) ?_ fun v s1 ⟨y,H1,I1,r1,q1⟩=>⟨σ,H1,I1,q1⟩) I.quiet hs
 refine wpAny_Call_Name_kw (zee_ I hg hm ?_ hdb)
 refine PySem.W.callWith_K (h₀:=X.base) I.ok.mod.kin M.kp (thn ((PA.nox (X:=X.wish (XP X pins W)) ha) pos pins s σ H _ (I.wish _) h) fun us s1 ⟨vs,H1,I1,r,q⟩=>⟨I1.unwish.kIn,?_⟩) he hpl
 have I1:=I1.unwish
 have hq:=q (s1.heap.objs.size+1) s1.heap.objs.size (I1.hok.fresh (Nat.le_succ _)) (I1.hok.fresh (Nat.le_refl _)) (Nat.ne_of_lt (Nat.lt_succ_self _))
 have I2:=Inv.made (C:=C) I1
 have r2:Vals (V.ref (s1.heap.objs.size+1)::(vs++dvs)) (Value.ref (s1.heap.objs.size+1)::(us++ds)):=.cons rfl (r.append hd)
 have hl:(Value.ref (s1.heap.objs.size+1)::us++ds).length=ps.length:=by
  have e:=r2.length
  rw [F.len _ _ _ _ hq] at e
  exact e.symm
 refine wpAny_call (zkW_ (f:=f) I1.kIn M.makes M.init (beq_iff_eq.mp M.fn) (codeAny_mono (F.run _ X.stack _ _ ⟨Value.ref (s1.heap.objs.size+1)::us,[]⟩ (Value.ref (s1.heap.objs.size+1)::(us++ds)) _ _ (W σ) (hr.make C us [])
  (I2.env0.make C us []) (hb _ (Value.ref (s1.heap.objs.size+1)::us) I2.kIn hl) r2 hq) fun r s' hq'=>?_))
 cases r with
 | error e=>exact ⟨σ,_,_,I2,hq'⟩
 | ok fl =>
  cases fl with
  | ret u =>
   obtain ⟨v,H',I3,rv,ev,q3⟩:=I2.after hq'
   subst ev
   exact ⟨rv,⟨V.ref (s1.heap.objs.size+1),H',I3,rfl,q3⟩⟩
  | next=>exact False.elim hq'
  | brk=>exact False.elim hq'
  | cont=>exact False.elim hq'
end
end L2
namespace L2
open PySem PySem.Spec PyProof.Rows
section
variable {P:Program}{w:World}{K:Fgg}{mg:Str→Option Value}{base:Heap}{x q c:Str}{st:Stmt}{N ps:List Str}{k:Nat}{α β γ ρ:Type}
theorem okUXD {O:Own α}{O2:Own β}{C:Cs γ}{ss:γ→List Sl}{g:α→γ→Mo (Out (Unit×β) Unit β)}{t:XK→TS}{LS:V→β→List Sl}(n m:Nat) (hC:CsS C ss) (tm:TmX P w K mg base k N q st t)
  (ev:∀ w x c E,EvS K (t E) E (.ow (owAt w O) x::(ss c++List.replicate m .dead)) (g x c) (LS w) (fun _:Unit=>[]) (owRM w O2 (owF tyNon))) (hn:CsN C n:=by repeat first | exact zr_ | exact csn_nil | refine zm_ ?_) (S:FnScope N ps (defScope st):=by exact ⟨rfl,rfl,rfl,by decide +kernel,rfl,by decide +kernel,by decide +kernel⟩) (hp:ps.length=n+1:=by rfl) (hm:N.length-(n+1)=m:=by rfl) (hLS:∀ w x,(LS w x)[0]?=some (.ow (owAt w O2) x):=by exact fun _ _=>rfl):OkFD P w K mg base (CXx P w) (k+1) x q st ps (CtM K O O2 C (fun x c=>fnMU (g x c)) (owF tyNon)):=fun T f fd F =>
 F.okX S (fun vs H Q E h=>by obtain ⟨F,h,x,c,w,ws,rfl,_,_,_,_,hc,_⟩:=h; rw [List.length_cons,hn hc,hp]) fun cdv A outer s H vs Q E hr h=>⟨t E,tm cdv A outer s H f E S.nd hr,zl8_ (N:=N) (t:=t) n m hn hm hC hLS ev vs H Q E h⟩
theorem znN_ {CX:CXT}{sp:Sp}{dvs:List V}(j:Nat) (M:Mgo K mg) (C:Fc K c) (F:FmD K c "__init__" q st dvs) (hb:∀ T f fd arr n oc od osl,FunD K T "__init__" q st f fd→K.lookup T=some ⟨oc,od,.seq arr n,osl⟩→arr.toList.length=dvs.length→Binds K fd ps (arr.toList.drop j))
  (h:OkFD P w K mg base CX k "__init__" q st ps sp):GkD P w K mg base CX k c (gA K c) ps (dvs.drop j) sp:=by
 obtain ⟨cw,f,T,fd,arr,n,oc,od,osl,e,e2,e3,F,lT,hv⟩:=F
 obtain ⟨cw',e',_,_,_,_,h5,h6⟩:=C
 cases e.symm.trans e'
 have hd:∀ {xs:List V}{vs:List Value}(j:Nat),Vals xs vs→Vals (xs.drop j) (vs.drop j):=fun {xs vs} j r=>by
  induction j generalizing xs vs with
  | zero=>exact r
  | succ j ih=>cases r with | nil=>exact .nil | cons a t=>exact ih t
 exact ⟨f,fd,arr.toList.drop j,h T f fd F,by rw [zjC_ e]; exact ⟨h5,e2,e3,h6⟩,M.gk ⟨_,e⟩,hd j hv,hb T f fd arr n oc od osl F lT hv.length.symm⟩
theorem arr5 {arr:Array Value}(h:arr.toList.length=5):∃ d0 d1 d2 d3 d4,arr=#[d0,d1,d2,d3,d4]:=by
 obtain ⟨l⟩:=arr
 match l,h with
 | [d0,d1,d2,d3,d4],_=>exact ⟨d0,d1,d2,d3,d4,rfl⟩
end
def strsB:List (List Nat)→List Value→Bool
 | [],[]=>true
 | x::xs,.str z _::vs=>z == ⟨x.toArray⟩ && strsB xs vs
 | _,_=>false
theorem zio_:∀ {xs:List (List Nat)}{vs:List Value},strsB xs vs=true→Vals (xs.map tx) vs
 | [],[],_=>.nil
 | x::xs,v::vs,h=>by
  unfold strsB at h
  split at h
  ·rename_i e1 _; cases e1
  ·rename_i e1 e2
   cases e1; cases e2
   obtain ⟨a,b⟩:=Bool.and_eq_true_iff.mp h
   exact .cons ⟨_,by rw [eq_of_beq a]⟩ (zio_ b)
  ·cases h
 | [],_::_,h=>by cases h
 | _::_,[],h=>by cases h
def FtT (K:Fgg) (x:Str) (xs:List (List Nat)):Prop:=∀ H:Hp,SqT K H (gA K x) (xs.map tx)
theorem FtT.mk_ {K:Fgg}{x:Str}{xs:List (List Nat)}{a:Addr}{od:Option Addr}{its:Array Value}{n:Nat}{osl:Array (Option Value)}(h:PySem.W.nsIn K mainGlobals x=some (some (.ref a))) (l:K.lookup a=some ⟨.type "tuple",od,.seq its n,osl⟩) (hv:strsB xs its.toList=true) (hs:its.toList.length≤1000):FtT K x xs:=fun H=>by
 rw [zjC_ h]
 exact .inr ⟨_,its,n,l,rfl,rfl,by rw [Array.length_toList] at hs; exact Nat.le_trans hs (by rw [sizeLine_eq]; decide),zio_ hv⟩
section
variable {K:Fgg}{E:XK}{α β γ γ':Type}{L:List Sl}{T:Ty α}{T':Ty β}{C1:Cs γ}{C2:Cs γ'}{e:TE}
theorem zmG_ {x:Str}{xs:List (List Nat)}{r:Mo (List Nat)}(F:FtT K x xs) (h:EvF K e E L r tyStr):EvF K (tOp (mIn K false) e (tC (.ref (gA K x)))) E L (r.bind fun a=>.ok (xs.any fun y=>decide (y=a))) tyBl:=by
 intro σ F' H Q hL hs q
 refine h σ F' H _ hL hs (q.bind.imp fun a F1 H1 x1 k1 v hv=>?_)
 cases hv
 have key:∀ ys:List (List Nat),(ys.map tx).all flatV=true∧inV (tx a) (ys.map tx)=ys.any fun y=>decide (y=a):=fun ys=>by
  have pr:Prs tyStr F1 ys (ys.map tx):=by
   induction ys with
   | nil=>exact .nil
   | cons y ys ih=>exact .cons rfl ih
  exact zjI_ (T:=tyStr) zmY_ (a:=a) rfl pr
 refine ⟨xs.map tx,.inr (F H1),rfl,(key xs).1,?_⟩
 rw [(key xs).2]
 exact k1.ok x1.2.1 _ rfl
theorem zkY_ {i:Nat}{p1:γ→α}{p2:γ'→α}{r:Mo (γ ⊕ γ')}(a1:CsAt C1 i T p1) (a2:CsAt C2 i T p2) (h:EvF K e E L r (tyU (tyTup C1) (tyTup C2))):EvF K (tOp (mIx K) e (tC (.int i))) E L (r.bind fun d=>.ok (d.elim p1 p2)) T:=by
 intro σ F H Q hL hs q
 refine h σ F H _ hL hs (q.bind.imp fun d F1 H1 x1 k1 v1 hv=>?_)
 have fin:∀ (us:List V) (w:V) (p:Addr) (z:α),F1 p=some (.tup us)→us[i]?=some w→T.R z w F1→After K (.ok z) E F1 H1 (fun c F' H'=>∀ v,T.R c v F'→Q v H')→(mIx K) (.ref p) (.int i) H1 Q:=fun us w p z hp e2 rw' k=>by
  refine ⟨us,.inr (.of (x1.2.1 _ _ hp)),?_⟩
  have e3:atI us (i:Int)=some w:=by
   unfold atI
   rw [zk7_ (by lia) (by have:=(List.getElem?_eq_some_iff.mp e2).1; lia)]
   simpa using e2
  rw [e3]
  exact k.ok x1.2.1 w rw'
 cases d with
 | inl c =>
  obtain ⟨p,us,rfl,hp,hc⟩:=hv
  obtain ⟨w,e2,rw'⟩:=a1 hc
  exact fin us w p _ hp e2 rw' k1
 | inr c =>
  obtain ⟨p,us,rfl,hp,hc⟩:=hv
  obtain ⟨w,e2,rw'⟩:=a2 hc
  exact fin us w p _ hp e2 rw' k1
theorem zlW_ {n1 n2:Nat}(h1:CsN C1 n1) (h2:CsN C2 n2):Bl K (mLen K) E (csLast (tyU (tyTup C1) (tyTup C2))) (fun d=>.ok (d.elim (fun _=>(n1:Int)) fun _=>(n2:Int))) tyInt:=by
 rintro d vs F H Q hs ⟨v,rfl,hv⟩ q
 cases d with
 | inl c=>obtain ⟨p,us,rfl,h,r⟩:=hv; exact ⟨us,.inr (.of (hs _ _ h)),q.ok hs _ (by rw [h1 r]; rfl)⟩
 | inr c=>obtain ⟨p,us,rfl,h,r⟩:=hv; exact ⟨us,.inr (.of (hs _ _ h)),q.ok hs _ (by rw [h2 r]; rfl)⟩
theorem zlI_:Op2 K mIsNot E tyBl tyBl (fun a b=>.ok (!decide (a=b))) tyBl:=by
 rintro a b x y F H Q hs rfl rfl k
 exact k.ok hs _ rfl
end
end L2
namespace L2
open PySem PySem.Spec PyProof.Rows
section
variable {K:Fgg}{E:XK}{α β γ γ' γ'' δ ρ S B:Type}{L:List Sl}{T:Ty α}{T':Ty β}{C:Cs γ}{C':Cs γ'}{C'':Cs γ''}{e e1 e2:TE}{O:Own ρ}{LS:S→List Sl}{LB:B→List Sl}{th:TH}{t rest:TS}
theorem zlQ_ {r:Mo (Out ρ B S)}(h:EvS K (tSeq t rest) E L r LS LB O):EvS K (tSeq (tTryHE (fun D _ σ H=>t D σ H) tNext th) rest) E L r LS LB O:=h
theorem zkF_ {f:γ→List α}(hf:CsL C T f):BlO K (mList K) E (csLast (tyTup C)) (fun c=>.ok (f c)) (owL T):=by
 rintro c vs F H Q hs ⟨v,rfl,p,us,rfl,h,r⟩ q
 exact .inl ⟨us,.inr (.of (hs _ _ h)),fun l hl=>zbJ_ hs hl (hf r) q⟩
theorem nn_u {a:α ⊕ β}{v:V}{F:Hp}(h1:∀ a v F,T.R a v F→v≠.non) (h2:∀ a v F,T'.R a v F→v≠.non) (h:(tyU T T').R a v F):v≠.non:=by
 cases a with
 | inl a=>exact h1 _ _ _ h
 | inr a=>exact h2 _ _ _ h
theorem zmR_ {n:Nat}{f:γ→γ'}{r:Mo γ}{i:Int}(hc:CsTk n C C' f) (h:EvF K e E L r (tyH C)) (hi:i=(n:Int):=by rfl):EvF K (tSl (mSl K) e tNoPart (mPart (tC (.int i)))) E L (r.bind fun c=>.ok (f c)) (tyH C'):=by
 subst hi
 intro σ F H Q hL hs q
 refine h σ F H _ hL hs (q.bind.imp fun c F1 H1 x1 k1 v hq_=>?_)
 obtain ⟨p,vs,ev,hp,hr⟩:=hq_
 subst ev
 obtain ⟨h1,h2⟩:=hc hr
 refine ⟨vs,.of (x1.2.1 _ _ hp),fun q hq=>?_⟩
 have e:cutV vs none (some (n:Int))=vs.take n:=by
  unfold cutV
  rw [zf7_ (by lia),show HT.sIx vs.length 0 none=0 from rfl,List.drop_zero,Nat.sub_zero,show ((n:Int)).toNat=n from rfl,Nat.min_eq_left (by lia)]
 rw [e]
 have x:=Ext.new (o:=.lst (vs.take n)) x1.2.1 hq
 exact k1 _ _ x _ ⟨q,_,rfl,zD_,C'.mono x.1 h1⟩
def CsCat (C:Cs γ) (C':Cs γ') (C'':Cs γ'') (f:γ→γ'→γ''):Prop:=∀ {c d vs us F},C.R c vs F→C'.R d us F→C''.R (f c d) (vs++us) F
theorem zj3_:CsCat (csLast T) C (csCons T C) (fun a c=>(a,c)):=by
 rintro c d vs us F ⟨v,rfl,h⟩ h2
 exact ⟨v,us,rfl,h,h2⟩
theorem zfW_ {f:γ→γ'→γ''}(h:CsCat C C' C'' f):CsCat (csCons T C) C' (csCons T C'') (fun c d=>(c.1,f c.2 d)):=by
 rintro c d vs us F ⟨v,ws,rfl,h1,h2⟩ h3
 exact ⟨v,ws++us,rfl,h1,h h2 h3⟩
theorem zmo_ {n m:Nat}{f:γ→γ'→γ''}(hf:CsCat C C' C'' f) (h1:CsN C n) (h2:CsN C' m) (hn:n+m≤100:=by decide):Op2 K mAdd E (tyH C) (tyH C') (fun c d=>.ok (f c d)) (tyH C''):=by
 rintro c d x y F H Q hs ⟨p,vs,rfl,hp,r1⟩ ⟨p2,us,rfl,hp2,r2⟩ k
 refine ⟨vs,us,hs _ _ hp,hs _ _ hp2,?_,fun p hp=>?_⟩
 ·rw [h1 r1,h2 r2,sizeLine_eq]; lia
 ·have x:=Ext.new (o:=.lst (vs++us)) hs hp
  exact k _ _ x _ ⟨p,_,rfl,zD_,C''.mono x.1 (hf r1 r2)⟩
end
end L2
namespace K42
open PySem PySem.Spec PyProof.Rows L2
open Mo renaming bind→Mb,ok→Mq
open Sl renaming fz→Zf,dead→Zd,ow→Zo
theorem S4 {a b c d:Sl}{L L':List Sl}(h:Sub L L'):Sub (a::b::c::d::L) (a::b::c::d::L'):=.same (.same (.same (.same h)))
abbrev Qn0:List Str:=["deck", "picks", "middle", "order", "works", "breaks", "sums", "figures", "board"]
abbrev Qn1:List Str:=["asking"]
abbrev Qq0:=(tyTup (csCons tyInt (csLast tyInt)))
abbrev Qq1:=(csCons (tyL Qq0) (csCons (tyL (tyTup (csCons Qq0 (csCons Qq0 (csCons tyStr (csLast Qq0)))))) (csCons tyInt (csCons (tyL Qq0) (csCons tyInt (csCons (tyL Qq0) csNil))))))
abbrev Qq2:=(tyTup (csCons tyStr (csCons tyStr (csCons Qq0 (csLast Qq0)))))
abbrev Qq3:=((List Nat)×((List ((Int×Int)×(List Nat)))×((Option (((List Nat)×(Int×Int)) ⊕ ((List Nat)×((List Nat)×((Int×Int)×(Int×Int))))))×((List (Int×Int))×((List ((Int×Int)×((Int×Int)×((List Nat)×(Int×Int)))))×(Int×((List (Int×Int))×(Int×((List (Int×Int))×Unit)))))))))
abbrev Qq4:=(tyTup (csCons Qq0 (csCons Qq0 (csCons tyStr (csLast Qq0)))))
abbrev Qq5:=(tyTup (csCons Qq0 (csLast tyStr)))
abbrev Qq6:=(tyTup (csCons tyStr (csLast Qq0)))
abbrev Qq7:=(csCons (tyL Qq0) (csLast (tyL Qq4)))
abbrev Qq8:=(List ((Int×Int)×((Int×Int)×((List Nat)×(Int×Int)))))
abbrev Qq9:=((List Nat)×((List ((Int×Int)×(List Nat)))×((Option (((List Nat)×(Int×Int)) ⊕ ((List Nat)×((List Nat)×((Int×Int)×(Int×Int))))))×((List (Int×Int))×Qq8))))
abbrev Qq10:=(psO (owL Qq0) (psO (owL Qq4) (psO (owF tyInt) (psO (owL Qq0) (psO (owF tyInt) (psO (owL Qq0) psNil))))))
def zbs_ (p_script:(List Int)) (p_k:Int):Mo (Out Int Unit Unit) :=
 (thenO (S:=Unit) (Mb (Mb (Mq p_k) fun a_2=>Mb (Mb (Mq p_script) fun c_1=>Mq (c_1.length:Int)) fun b_3=>Mq (decide (a_2<b_3))) fun c_4=>if c_4 then (oRt (oAt (Mq p_script) (Mq p_k))) else (Mq (.nx ()))) fun _=>(oRt (Mq (0:Int))))
def zaF_ (p_script:(List Int)) (p_k:Int):Mo Int:=fnO (zbs_ p_script p_k)
def zcG_ (p_number:Int):Mo (Out (Int×Int) Unit Unit) :=
 (Mb (oAd (Mq (1:Int)) (oMd (Mq p_number) (Mq (36:Int)))) fun v1'=>(oRt (oP2 (Mq v1') (Mb (oP2 (Mq (36:Int)) (oAd (Mq v1') (oMd (oDv (Mq p_number) (Mq (36:Int))) (Mq (3:Int))))) fun c14=>Mq (min c14.1 c14.2)))))
def zao_ (p_number:Int):Mo (Int×Int):=fnO (zcG_ p_number)
def zcy_ (p_script:(List Int)):Mo (Out Qq9 Unit Unit) :=
 (Mb (Mq ([116,114,97,121]:List Nat)) fun y1'=>(Mb (Mb (oP2 (Mq p_script) (Mq (0:Int))) fun c_5=>Mo.noex (zaF_ c_5.1 c_5.2)) fun v2'=>(Mb (oP2 (oAd (Mq (1:Int)) (oMd (oDv (Mq v2') (Mq (4:Int))) (Mq (35:Int)))) (oAd (oAd (Mq (1:Int)) (oMd (oDv (Mq v2') (Mq (4:Int))) (Mq (35:Int)))) (oMd (oDv (Mq v2') (Mq (140:Int))) (Mq (2:Int))))) fun u6'=>(Mb (oSu (Mb (Mq u6') fun a28=>Mq a28.2) (Mb (Mq u6') fun a29=>Mq a29.1)) fun w27=>(Mb (Mb (oP2 (Mq (none:(Option (((List Nat)×(Int×Int)) ⊕ ((List Nat)×((List Nat)×((Int×Int)×(Int×Int)))))))) (oP2 (Mb (Mb (oP2 (Mq ([102,105,114,115,116]:List Nat)) (Mq u6')) fun a35=>Mq (Sum.inl a35:(((List Nat)×(Int×Int)) ⊕ ((List Nat)×((List Nat)×((Int×Int)×(Int×Int))))))) fun a36=>Mq (some a36)) (Mb (Mb (oP2 (Mq ([109,97,116,101,115]:List Nat)) (oP2 (Mq ([98,111,120]:List Nat)) (oP2 (Mq u6') (oP2 (Mq (30:Int)) (oAd (Mq (30:Int)) (Mq w27)))))) fun a47=>Mq (Sum.inr a47:(((List Nat)×(Int×Int)) ⊕ ((List Nat)×((List Nat)×((Int×Int)×(Int×Int))))))) fun a48=>Mq (some a48)))) fun c53=>Mq [c53.1,c53.2.1,c53.2.2]) fun m32=>(Mb (Mb (Mb (oP2 (Mq ([119,105,116,104,111,117,116]:List Nat)) (oP2 (Mq ([98]:List Nat)) (oP2 (Mq u6') (oP2 (Mq (1:Int)) (oAd (Mq (1:Int)) (Mq w27)))))) fun a75=>Mq (Sum.inr a75:(((List Nat)×(Int×Int)) ⊕ ((List Nat)×((List Nat)×((Int×Int)×(Int×Int))))))) fun a76=>Mq (some a76)) fun a64=>Mo.lim (m32.length+1) (Mb (Mq ([]:List ((Int×Int)×(List Nat)))) fun p77=>(Mb (Mq ([]:List (Int×Int))) fun o78=>(Mb (Mq ([]:List ((Int×Int)×((Int×Int)×((List Nat)×(Int×Int)))))) fun w79=>(thenO (S:=((Int×Int)×((List ((Int×Int)×(List Nat)))×((List (Int×Int))×Qq8)))) (Mb (Mb (Mq p_script) fun a82=>Mb (Mq none) fun b83=>Mb (oSm (Mq (63:Int))) fun d84=>Mq (cutG a82 b83 d84)) fun x169=>forO (fun (s80:((Int×Int)×((List ((Int×Int)×(List Nat)))×((List (Int×Int))×Qq8)))) x85=>(Mb (oMd (oMu (oMd (Mq x85) (Mq (2147483647:Int))) (Mq (48271:Int))) (Mq (2147483629:Int))) fun n86=>(Mb (Mb (oDv (Mq n86) (Mq (4:Int))) fun c96=>Mo.noex (zao_ c96)) fun f93=>(thenO (S:=(List ((Int×Int)×(List Nat)))) (Mb (Mb (Mb (oMd (Mq n86) (Mq (8:Int))) fun a99=>Mb (Mq (1:Int)) fun b100=>Mq (decide (a99=b100))) fun c104=>if c104 then (Mb (Mb (Mq s80.2.1) fun c101=>Mq (c101.length:Int)) fun a102=>Mb (Mq (2:Int)) fun b103=>Mq (decide (a102<b103))) else Mq false) fun c105=>if c105 then (Mb (oP2 (Mq f93) (Mb (Mq ([65]:List Nat)) fun a113=>Mb (oAd (oSu (Mb (Mq f93) fun a107=>Mq a107.2) (Mb (Mq f93) fun a108=>Mq a108.1)) (Mq (1:Int))) fun b114=>Mo.grd (CRep a113.length b114) (Mq (repL a113 b114)))) fun a117=>Mo.lim (s80.2.1.length+1) (Mq (.nx (s80.2.1++[a117])))) else (Mq (.nx s80.2.1))) fun s106=>(thenO (S:=(List (Int×Int))) (Mb (Mb (Mb (oMd (Mq n86) (Mq (8:Int))) fun a120=>Mb (Mq (5:Int)) fun b121=>Mq (decide (a120=b121))) fun c125=>if c125 then (Mb (Mb (Mq s80.2.2.1) fun c122=>Mq (c122.length:Int)) fun a123=>Mb (Mq (2:Int)) fun b124=>Mq (decide (a123<b124))) else Mq false) fun c126=>if c126 then (Mb (Mq f93) fun a128=>Mo.lim (s80.2.2.1.length+1) (Mq (.nx (s80.2.2.1++[a128])))) else (Mq (.nx s80.2.2.1))) fun s127=>(thenO (S:=Qq8) (Mb (Mb (oGI (oMd (Mq n86) (Mq (4:Int))) (Mq (1:Int))) fun c140=>if c140 then (Mb (Mb (Mq s80.2.2.2) fun c133=>Mq (c133.length:Int)) fun a138=>Mb (oAd (Mq (1:Int)) (oMd (Mq v2') (Mq (4:Int)))) fun b139=>Mq (decide (a138<b139))) else Mq false) fun c141=>if c141 then (Mb (Mb (oDv (Mq n86) (Mq (433:Int))) fun c146=>Mo.noex (zao_ c146)) fun o143=>(Mb (Mb (oDv (Mq n86) (Mq (50000:Int))) fun c150=>Mo.noex (zao_ c150)) fun o147=>(Mb (oP2 (Mq f93) (oP2 (Mq o143) (oP2 (oAt (Mb (oP2 (Mq ([112,108,117,115]:List Nat)) (oP2 (Mq ([108,101,115,115]:List Nat)) (Mq ([116,105,109,101,115]:List Nat)))) fun c155=>Mq [c155.1,c155.2.1,c155.2.2]) (oMd (oDv (Mq n86) (Mq (7:Int))) (Mq (3:Int)))) (Mq o147)))) fun a168=>Mo.lim (s80.2.2.2.length+1) (Mq (.nx (s80.2.2.2++[a168])))))) else (Mq (.nx s80.2.2.2))) fun s142=>(Mq (.nx (f93,s106,s127,s142))))))))) x169 (u6',p77,o78,w79)) fun s80=>(oRt (oP2 (Mq y1') (oP2 (Mq s80.2.1) (oP2 (oAt (Mq (m32++[a64])) (oMd (Mq v2') (Mq (4:Int)))) (oP2 (Mq s80.2.2.1) (Mq s80.2.2.2))))))))))))))))
def zbC_ (p_script:(List Int)):Mo Qq9:=fnO (zcy_ p_script)
def zcJ_ (p_one:(Int×Int)) (p_other:(Int×Int)):Mo (Out Bool Unit Unit) :=
 (oRt (Mb (oLE (Mb (Mq p_one) fun a_1=>Mq a_1.1) (Mb (Mq p_other) fun a_2=>Mq a_2.2)) fun z9=>if z9 then (oLE (Mb (Mq p_other) fun w5=>Mq w5.1) (Mb (Mq p_one) fun w6=>Mq w6.2)) else Mq false))
def zaq_ (p_one:(Int×Int)) (p_other:(Int×Int)):Mo Bool:=fnO (zcJ_ p_one p_other)
def zdx_ (p_parts_here:Qq9):Mo (Out Bool Unit Unit) :=
 (Mb (oAp (Mb (Mb (Mq p_parts_here) fun a_2=>Mq a_2.2.1) fun v4'=>compM (fun x_3=>cond1 (Mq true) (Mq x_3.1)) v4' []) (Mb (Mq p_parts_here) fun w5=>Mq w5.2.2.2.1)) fun w1'=>(thenO (S:=(List (Int×Int))) (Mb (Mb (Mb (Mb (Mq p_parts_here) fun v8=>Mq v8.2.2.1) fun w9=>Mb (Mq ()) fun v10=>Mq w9.isSome) fun c16=>if c16 then (Mb (Mb (Mb (Mb (Mq p_parts_here) fun a11=>Mq a11.2.2.1) fun a12=>Mo.opt a12) fun a13=>Mq (a13.elim (fun c=>c.1) (fun c=>c.1))) fun a14=>Mb (Mq ([102,105,114,115,116]:List Nat)) fun b15=>Mq (decide (a14=b15))) else Mq false) fun c17=>if c17 then (Mb (Mb (Mb (Mb (Mb (Mq p_parts_here) fun a19=>Mq a19.2.2.1) fun a20=>Mo.opt a20) fun a21=>Mo.opt a21.getLeft?) fun a22=>Mq a22.2) fun a23=>Mo.lim (w1'.length+1) (Mq (.nx (w1'++[a23])))) else (thenO (S:=(List (Int×Int))) (Mb (Mb (Mb (Mq p_parts_here) fun a24=>Mq a24.2.2.1) fun a25=>Mb (Mq ()) fun b26=>Mq a25.isSome) fun c27=>if c27 then (Mb (Mb (Mb (Mb (Mb (Mq p_parts_here) fun a29=>Mq a29.2.2.1) fun a30=>Mo.opt a30) fun a31=>Mo.opt a31.getRight?) fun a32=>Mq a32.2.2.1) fun a33=>Mo.lim (w1'.length+1) (Mq (.nx (w1'++[a33])))) else (Mq (.nx w1'))) fun s28=>(Mq (.nx s28)))) fun s18=>(Mb (Mb (Mq p_parts_here) fun a36=>Mq a36.2.2.2.2) fun w34=>(thenO (S:=Unit) (Mb (Mb (Mb (Mq w34) fun c38=>Mq (c38.length:Int)) fun c39=>Mo.grd (-(2 ^ 62)≤c39∧c39<2 ^ 62) (Mq (rngI 0 c39.toNat))) fun x95=>forO (fun (_:Unit) x40=>(thenO (S:=Unit) (forO (fun (_:Unit) x43=>(Mb (Mb (oP2 (Mb (oAt (Mq w34) (Mq x40)) fun a46=>Mq a46.1) (Mq x43)) fun c49=>Mo.noex (zaq_ c49.1 c49.2)) fun c50=>if c50 then (oRt (Mq false)) else (Mq (.nx ())))) s18 ()) fun _=>(thenO (S:=Unit) (Mb (Mb (Mb (Mq w34) fun c53=>Mq (c53.length:Int)) fun c54=>Mo.grd (-(2 ^ 62)≤c54∧c54<2 ^ 62) (Mq (rngI 0 c54.toNat))) fun x94=>forO (fun (_:Unit) x55=>(thenO (S:=Unit) (Mb (Mb (Mb (Mq x55) fun a56=>Mb (Mq x40) fun b57=>Mq (!decide (a56=b57))) fun c67=>if c67 then (Mb (oP2 (Mb (oAt (Mq w34) (Mq x40)) fun a60=>Mq a60.1) (Mb (oAt (Mq w34) (Mq x55)) fun a63=>Mq a63.1)) fun c66=>Mo.noex (zaq_ c66.1 c66.2)) else Mq false) fun c68=>if c68 then (oRt (Mq false)) else (Mq (.nx ()))) fun _=>(thenO (S:=Unit) (Mb (Mb (oP2 (Mb (oAt (Mq w34) (Mq x55)) fun a74=>Mq a74.2.1) (Mb (oAt (Mq w34) (Mq x55)) fun a77=>Mq a77.2.2.2)) fun c80=>Mq [c80.1,c80.2]) fun x93=>forO (fun (_:Unit) x81=>(Mb (Mb (oLE (Mq x55) (Mq x40)) fun c90=>if c90 then (Mb (oP2 (Mb (oAt (Mq w34) (Mq x40)) fun a86=>Mq a86.1) (Mq x81)) fun c89=>Mo.noex (zaq_ c89.1 c89.2)) else Mq false) fun c91=>if c91 then (oRt (Mq false)) else (Mq (.nx ())))) x93 ()) fun _=>(Mq (.nx ()))))) x94 ()) fun _=>(Mq (.nx ()))))) x95 ()) fun _=>(oRt (Mq true))))))
def zbu_ (p_parts_here:Qq9):Mo Bool:=fnO (zdx_ p_parts_here)
def zbN_ (p_values:(Option Qq8)):Mo (Out Qq8 Unit Unit) :=
 (Mb (Mb (Mb (Mq p_values) fun a_1=>Mb (Mq ()) fun b_2=>Mq a_1.isNone) fun c_5=>if c_5 then (Mq ([]:List ((Int×Int)×((Int×Int)×((List Nat)×(Int×Int)))))) else (Mb (Mb (Mq p_values) fun a_3=>Mo.opt a_3) fun c_4=>Mq c_4)) fun r_6=>Mq (.rt r_6))
def zbQ_ (p_values:(Option Qq8)):Mo Qq8:=fnO (zbN_ p_values)
def zbP_ (p_values:(Option (List (Int×Int)))):Mo (Out (List (Int×Int)) Unit Unit) :=
 (Mb (Mb (Mb (Mq p_values) fun a_1=>Mb (Mq ()) fun b_2=>Mq a_1.isNone) fun c_5=>if c_5 then (Mq ([]:List (Int×Int))) else (Mb (Mb (Mq p_values) fun a_3=>Mo.opt a_3) fun c_4=>Mq c_4)) fun r_6=>Mq (.rt r_6))
def zaK_ (p_values:(Option (List (Int×Int)))):Mo (List (Int×Int)):=fnO (zbP_ p_values)
def zgd_ (p_holds:Bool) (p_words:(List Nat)):Mo (Out Unit Unit Unit) :=
 (Mb (Mb (Mq p_holds) fun a_1=>Mq (!a_1)) fun c_2=>if c_2 then (Mb (Mq p_words) fun _=>Mo.ex (Xc.pl "NoAsking")) else (Mq (.nx ())))
def zw_ (p_holds:Bool) (p_words:(List Nat)):Mo Unit:=fnU (zgd_ p_holds p_words)
def zaJ_ (p_asking:Qq3):Mo (Out Unit Unit Unit) :=
 (Mb (Mb (oP2 (oLE (Mb (Mb (Mq p_asking) fun a_1=>Mq a_1.2.1) fun c_2=>Mq (c_2.length:Int)) (Mq (8:Int))) (Mq ([97,110,32,97,115,107,105,110,103,32,104,97,115,32,56,32,112,105,99,107,115,32,97,116,32,109,111,115,116]:List Nat))) fun y7=>zw_ y7.1 y7.2) fun v8=>(Mb (Mb (oP2 (oLE (Mb (Mb (Mq p_asking) fun w9=>Mq w9.2.2.2.1) fun w10=>Mq (w10.length:Int)) (Mq (6:Int))) (Mq ([97,110,32,97,115,107,105,110,103,32,104,97,115,32,54,32,107,101,121,115,32,97,116,32,109,111,115,116]:List Nat))) fun c15=>zw_ c15.1 c15.2) fun a16=>(Mb (Mb (oP2 (oLE (Mb (Mb (Mq p_asking) fun a17=>Mq a17.2.2.2.2.1) fun c18=>Mq (c18.length:Int)) (Mq (4:Int))) (Mq ([97,110,32,97,115,107,105,110,103,32,104,97,115,32,52,32,119,111,114,107,115,32,97,116,32,109,111,115,116]:List Nat))) fun c23=>zw_ c23.1 c23.2) fun a24=>(Mb (Mb (oP2 (oLE (Mb (Mb (Mq p_asking) fun a25=>Mq a25.2.2.2.2.2.2.1) fun c26=>Mq (c26.length:Int)) (Mq (4:Int))) (Mq ([97,110,32,97,115,107,105,110,103,32,104,97,115,32,52,32,115,117,109,115,32,97,116,32,109,111,115,116]:List Nat))) fun c31=>zw_ c31.1 c31.2) fun a32=>(Mq (.nx ()))))))
def zac_ (p_asking:Qq3):Mo Unit:=fnU (zaJ_ p_asking)
def zff_ (p_asking:Qq3):Mo (Out Bool Unit Unit) :=
 (oRt (Mb (Mb (Mb (Mq p_asking) fun a_1=>Mq a_1.2.2.1) fun a_2=>Mb (Mq ()) fun b_3=>Mq a_2.isSome) fun y8=>if y8 then (Mb (Mb (Mb (Mb (Mq p_asking) fun w4=>Mq w4.2.2.1) fun w5=>Mo.opt w5) fun w6=>Mq (w6.elim (fun c=>c.1) (fun c=>c.1))) fun v7=>Mq (([[109,97,116,101,115],[119,105,116,104,111,117,116]]:List (List Nat)).any fun y=>decide (y=v7))) else Mq false))
def zbe_ (p_asking:Qq3):Mo Bool:=fnO (zff_ p_asking)
def zaD_ (p_asking:Qq3):Mo (Out Unit Unit Unit) :=
 (thenO (S:=Unit) (Mb (Mb (Mb (Mq p_asking) fun a_1=>Mq a_1.2.2.1) fun a_2=>Mb (Mq ()) fun b_3=>Mq a_2.isNone) fun c_4=>if c_4 then (Mb (Mq ()) fun r_6=>Mq (.rt r_6)) else (Mq (.nx ()))) fun _=>(Mb (Mb (Mb (Mb (Mq p_asking) fun v8=>Mq v8.2.2.1) fun w9=>Mo.opt w9) fun a10=>Mq (a10.elim (fun _=>(2:Int)) fun _=>(4:Int))) fun m7=>(Mb (Mb (oP2 (Mb (oGI (Mq m7) (Mq (0:Int))) fun c20=>if c20 then (Mb (Mb (Mq p_asking) fun c13=>Mo.noex (zbe_ c13)) fun c19=>if c19 then Mq true else (Mb (Mb (Mb (Mb (Mq p_asking) fun a14=>Mq a14.2.2.1) fun a15=>Mo.opt a15) fun a16=>Mq (a16.elim (fun c=>c.1) (fun c=>c.1))) fun a17=>Mb (Mq ([102,105,114,115,116]:List Nat)) fun b18=>Mq (decide (a17=b18)))) else Mq false) (Mq ([97,32,109,105,100,100,108,101,32,104,97,115,32,111,110,101,32,111,102,32,116,104,114,101,101,32,119,111,114,100,115]:List Nat))) fun c23=>zw_ c23.1 c23.2) fun a24=>(Mb (Mb (oP2 (Mb (Mq m7) fun a27=>Mb (Mb (Mb (Mq p_asking) fun c25=>Mo.noex (zbe_ c25)) fun c26=>if c26 then (Mq (4:Int)) else (Mq (2:Int))) fun b28=>Mq (decide (a27=b28))) (Mq ([97,32,109,105,100,100,108,101,32,104,97,115,32,119,104,97,116,32,105,116,115,32,119,111,114,100,32,119,97,110,116,115]:List Nat))) fun c31=>zw_ c31.1 c31.2) fun a32=>(Mq (.nx ()))))))
def z7_ (p_asking:Qq3):Mo Unit:=fnU (zaD_ p_asking)
def zfl_ (p_asking:Qq3):Mo (Out (List (List Nat)) Unit Unit) :=
 (Mb (Mb (Mb (Mq p_asking) fun c_1=>Mo.noex (zbe_ c_1)) fun c12=>if c12 then (Mb (oP2 (Mb (Mq p_asking) fun a_2=>Mq a_2.1) (Mb (Mb (Mb (Mb (Mq p_asking) fun a_3=>Mq a_3.2.2.1) fun w4=>Mo.opt w4) fun w5=>Mo.opt w5.getRight?) fun w6=>Mq w6.2.1)) fun z9=>Mq [z9.1,z9.2]) else (Mb (Mb (Mq p_asking) fun a10=>Mq a10.1) fun c11=>Mq [c11])) fun r13=>Mq (.rt r13))
def zdK_ (p_asking:Qq3):Mo (List (List Nat)):=fnO (zfl_ p_asking)
def zce_ (p_text:(List Nat)):Mo (Out Bool Unit Unit) :=
 (oRt (Mb (Mb (Mq (1:Int)) fun v_2=>Mb (Mb (Mq p_text) fun c_1=>Mo.lim c_1.length (Mq (c_1.length:Int))) fun v_3=>Mb (Mq (decide (v_2≤v_3))) fun c_5=>if c_5 then Mb (Mq (8:Int)) fun v_4=>Mq (decide (v_3≤v_4)) else Mq false) fun c13=>if c13 then (Mb (Mb (Mb (Mq p_text) fun v7=>Mq (v7.map fun c=>[c])) fun v11=>compM (fun x_8=>cond1 (Mq true) (Mb (Mq x_8) fun w9=>Mb (Mq ([97,98,99,100,101,102,103,104,105,106,107,108,109,110,111,112,113,114,115,116,117,118,119,120,121,122]:List Nat)) fun v10=>Mq (inS w9 v10))) v11 []) fun c12=>Mq (c12.all id)) else Mq false))
def zam_ (p_text:(List Nat)):Mo Bool:=fnO (zce_ p_text)
def zbj_ (p_asking:Qq3):Mo (Out Unit Unit Unit) :=
 (Mb (Mb (Mq p_asking) fun c_2=>Mo.noex (zdK_ c_2)) fun z1'=>(thenO (S:=Unit) (Mb (Mq z1') fun y10=>forO (fun (_:Unit) x_4=>(Mb (Mb (oP2 (Mb (Mq x_4) fun c_5=>Mo.noex (zam_ c_5)) (Mq ([97,32,110,97,109,101,32,104,97,115,32,111,110,101,32,116,111,32,101,105,103,104,116,32,115,109,97,108,108,32,108,101,116,116,101,114,115]:List Nat))) fun y8=>zw_ y8.1 y8.2) fun w9=>(Mq (.nx ())))) y10 ()) fun _=>(Mb (Mb (oP2 (Mb (Mb (oAt (Mq z1') (Mq (0:Int))) fun a16=>Mb (oAt (Mq z1') (Mb (Mq (1:Int)) fun a13=>Mq (-a13))) fun b17=>Mq (!decide (a16=b17))) fun c21=>if c21 then Mq true else (Mb (Mb (Mq z1') fun c18=>Mq (c18.length:Int)) fun a19=>Mb (Mq (1:Int)) fun b20=>Mq (decide (a19=b20)))) (Mq ([116,104,101,32,116,119,111,32,110,97,109,101,115,32,97,114,101,32,117,110,108,105,107,101]:List Nat))) fun c24=>zw_ c24.1 c24.2) fun a25=>(Mq (.nx ())))))
def zag_ (p_asking:Qq3):Mo Unit:=fnU (zbj_ p_asking)
def zbM_ (p_asking:Qq3):Mo (Out (List (Int×Int)) Unit Unit) :=
 (thenO (S:=Unit) (Mb (Mb (Mb (Mq p_asking) fun a_1=>Mq a_1.2.2.1) fun a_2=>Mb (Mq ()) fun b_3=>Mq a_2.isNone) fun c_4=>if c_4 then (Mb (Mq ([]:List (Int×Int))) fun r_6=>Mq (.rt r_6)) else (Mq (.nx ()))) fun _=>(Mb (Mb (Mb (Mq p_asking) fun y7=>Mo.noex (zbe_ y7)) fun c18=>if c18 then (Mb (Mb (Mb (Mb (Mb (Mq p_asking) fun v8=>Mq v8.2.2.1) fun w9=>Mo.opt w9) fun a10=>Mo.opt a10.getRight?) fun c11=>Mq c11.2.2) fun c12=>Mq [c12.1,c12.2]) else (Mb (Mb (Mb (Mb (Mb (Mq p_asking) fun a13=>Mq a13.2.2.1) fun a14=>Mo.opt a14) fun a15=>Mo.opt a15.getLeft?) fun a16=>Mq a16.2) fun c17=>Mq [c17])) fun r19=>Mq (.rt r19)))
def z0_ (p_asking:Qq3):Mo (List (Int×Int)):=fnO (zbM_ p_asking)
def zb1_ (p_asking:Qq3):Mo (Out (List (Int×Int)) Unit Unit) :=
 (Mb (oAp (oAp (oAp (Mb (Mb (Mq p_asking) fun a_2=>Mq a_2.2.1) fun u5'=>compM (fun x_3=>cond1 (Mq true) (Mb (Mq x_3) fun w4=>Mq w4.1)) u5' []) (Mb (Mq p_asking) fun c_6=>Mo.noex (z0_ c_6))) (Mb (Mq p_asking) fun w9=>Mq w9.2.2.2.1)) (Mb (Mq p_asking) fun a12=>Mq a12.2.2.2.2.2.2.1)) fun u1'=>(thenO (S:=(List (Int×Int))) (Mb (Mb (Mq p_asking) fun a16=>Mq a16.2.2.2.2.1) fun x27=>forO (fun (s15:(List (Int×Int))) x17=>(Mb (Mb (oP2 (Mb (Mq x17) fun a18=>Mq a18.1) (oP2 (Mb (Mq x17) fun a19=>Mq a19.2.1) (Mb (Mq x17) fun a20=>Mq a20.2.2.2))) fun c25=>Mq [c25.1,c25.2.1,c25.2.2]) fun a26=>Mo.lim (s15.length+a26.length) (Mq (.nx (s15++a26))))) x27 u1') fun s15=>(Mq (.rt s15))))
def za3_ (p_asking:Qq3):Mo (List (Int×Int)):=fnO (zb1_ p_asking)
def zcC_ (p_text:(List Nat)):Mo (Out Bool Unit Unit) :=
 (oRt (Mb (Mb (Mb (Mq p_text) fun a_1=>Mq (a_1.map fun c=>[c])) fun u5'=>compM (fun x_2=>cond1 (Mq true) (Mb (Mq x_2) fun a_3=>Mb (Mq (SG:List Nat)) fun y4=>Mq (inS a_3 y4))) u5' []) fun c_6=>Mq (c_6.all id)))
def zbE_ (p_text:(List Nat)):Mo Bool:=fnO (zcC_ p_text)
def za5_ (p_row:(List Pas)):Mo (Out (Option (List (Int×(List Nat)))) Unit Unit) :=
 (Mb (Mq ([]:(List (Int×(List Nat))))) fun s1'=>(thenO (S:=(List (Int×(List Nat)))) (Mb (Mq p_row) fun v18=>forO (fun (s_2:(List (Int×(List Nat)))) x_3=>(thenO (S:=(List (Int×(List Nat)))) (Mb (Mb (Mb (Mq x_3) fun w4=>Mq (pTag w4)) fun w5=>Mb (Mq ([112,105,99,107]:List Nat)) fun y6=>Mq (decide (w5=y6))) fun y7=>if y7 then (Mb (Mb (Mq x_3) fun a14=>Mq a14.1) fun x9=>Mb (Mb (Mq x_3) fun a15=>Mo.opt a15.2) fun d10=>Mo.lim (s_2.length+1) (Mb (Mq (sdA s_2 x9 d10)) fun q11=>Mb (Mb (Mq x_3) fun a16=>Mo.opt a16.2) fun c12=>Mb (Mq (!decide (q11.1=c12))) fun b13=>if b13 then (oRt (Mq (none:(Option (List (Int×(List Nat))))))) else (Mq (.nx q11.2)))) else (Mq (.nx s_2))) fun s_8=>(Mq (.nx s_8)))) v18 s1') fun s_2=>(oRt (Mb (Mq s_2) fun a19=>Mq (some a19)))))
def zak_ (p_row:(List Pas)):Mo (Option (List (Int×(List Nat)))):=fnO (za5_ p_row)
def zfc_ (p_field:(Int×Int)):Mo (Out Int Unit Unit) :=
 (oRt (oAd (oSu (Mb (Mq p_field) fun a_1=>Mq a_1.2) (Mb (Mq p_field) fun a_2=>Mq a_2.1)) (Mq (1:Int))))
def zbg_ (p_field:(Int×Int)):Mo Int:=fnO (zfc_ p_field)
def zb0_ (p_field:(Int×Int)):Mo (Out (List Int) Unit Unit) :=
 (Mb (Mb (Mb (oP2 (Mb (Mq p_field) fun a_1=>Mq a_1.1) (oAd (Mb (Mq p_field) fun a_2=>Mq a_2.2) (Mq (1:Int)))) fun y7=>Mq y7) fun y7=>Mo.grd (-50000≤y7.1∧y7.1≤50000 ∧ -50000≤y7.2∧y7.2≤50000) (Mq (rngI y7.1 (y7.2-y7.1).toNat))) fun x8=>Mq (.rt x8))
def zaX_ (p_field:(Int×Int)):Mo (List Int):=fnO (zb0_ p_field)
def zbv_ (p_asking:Qq3):Mo (Out (List Pas) Unit Unit) :=
 (Mb (Mq ([]:List Pas)) fun r1'=>(thenO (S:=(List Pas)) (Mb (Mb (Mq p_asking) fun a_3=>Mq a_3.2.1) fun v16=>forO (fun (s_2:(List Pas)) x_4=>(Mb (Mb (Mb (oP2 (Mb (Mb (Mq x_4) fun w5=>Mq w5.1) fun c_6=>Mo.noex (zaX_ c_6)) (Mb (Mq x_4) fun v7=>Mq v7.2)) fun w10=>Mq (w10.1.zip (w10.2.map fun c=>[c]))) fun w14=>compM (fun x11=>cond1 (Mq true) (Mb (Mq x11.1) fun a12=>Mb (Mq x11.2) fun b13=>Mq (a12,some b13))) w14 []) fun a15=>Mo.lim (s_2.length+a15.length) (Mq (.nx (s_2++a15))))) v16 r1') fun s_2=>(Mq (.rt s_2))))
def zaA_ (p_asking:Qq3):Mo (List Pas):=fnO (zbv_ p_asking)
def zbt_ (p_asking:Qq3):Mo (Out Unit Unit Unit) :=
 (thenO (S:=Unit) (Mb (Mb (Mq p_asking) fun a_2=>Mq a_2.2.1) fun x20=>forO (fun (_:Unit) x_3=>(Mb (Mb (oP2 (Mb (Mb (Mb (Mq x_3) fun w4=>Mq w4.2) fun c_5=>Mo.lim c_5.length (Mq (c_5.length:Int))) fun v8=>Mb (Mb (Mb (Mq x_3) fun w6=>Mq w6.1) fun y7=>Mo.noex (zbg_ y7)) fun y9=>Mq (decide (v8=y9))) (Mq ([97,32,112,105,99,107,39,115,32,116,101,120,116,32,105,115,32,97,115,32,119,105,100,101,32,97,115,32,105,116,115,32,102,105,101,108,100]:List Nat))) fun c12=>zw_ c12.1 c12.2) fun a13=>(Mb (Mb (oP2 (Mb (Mb (Mq x_3) fun a14=>Mq a14.2) fun c15=>Mo.noex (zbE_ c15)) (Mq ([97,32,112,105,99,107,39,115,32,116,101,120,116,32,105,115,32,111,102,32,115,105,103,110,115]:List Nat))) fun c18=>zw_ c18.1 c18.2) fun a19=>(Mq (.nx ()))))) x20 ()) fun _=>(Mb (Mb (oP2 (Mb (Mb (Mb (Mq p_asking) fun c21=>Mo.noex (zaA_ c21)) fun c22=>Mo.noex (zak_ c22)) fun a23=>Mb (Mq ()) fun b24=>Mq a23.isSome) (Mq ([116,119,111,32,112,105,99,107,115,32,119,97,110,116,32,117,110,108,105,107,101,32,115,105,103,110,115,32,111,102,32,111,110,101,32,99,111,108,117,109,110]:List Nat))) fun c27=>zw_ c27.1 c27.2) fun a28=>(Mq (.nx ()))))
def zaE_ (p_asking:Qq3):Mo Unit:=fnU (zbt_ p_asking)
def zY_ (p_asking:Qq3):Mo (Out Unit Unit Unit) :=
 (Mb (Mb (Mq p_asking) fun c_2=>Mo.noex (z0_ c_2)) fun u1'=>(Mb (Mb (Mq u1') fun a_3=>Mq (!a_3.isEmpty)) fun c_4=>if c_4 then (Mb (Mb (oP2 (Mb (Mb (oAt (Mq u1') (Mq (0:Int))) fun y7=>Mo.noex (zbg_ y7)) fun a12=>Mb (Mb (oAt (Mq u1') (Mb (Mq (1:Int)) fun v8=>Mq (-v8))) fun c11=>Mo.noex (zbg_ c11)) fun b13=>Mq (decide (a12=b13))) (Mq ([116,104,101,32,109,105,100,100,108,101,39,115,32,102,105,101,108,100,115,32,97,114,101,32,111,102,32,111,110,101,32,119,105,100,116,104]:List Nat))) fun c16=>zw_ c16.1 c16.2) fun a17=>(Mq (.nx ()))) else (Mq (.nx ()))))
def zE_ (p_asking:Qq3):Mo Unit:=fnU (zY_ p_asking)
def zdj_ (p_value:Int):Mo (Out Bool Unit Unit) :=
 (Mb (Mb (Mb (Mq p_value) fun a_1=>Mq true) fun c_4=>if c_4 then (Mb (Mb (Mq p_value) fun a_2=>Mq false) fun a_3=>Mq (!a_3)) else Mq false) fun r_5=>Mq (.rt r_5))
def zat_ (p_value:Int):Mo Bool:=fnO (zdj_ p_value)
def zef_ (p_value:Int) (p_most:Int):Mo (Out Bool Unit Unit) :=
 (oRt (Mb (Mb (Mq p_value) fun c_1=>Mo.noex (zat_ c_1)) fun y7=>if y7 then (Mb (Mq (1:Int)) fun v_2=>Mb (Mq p_value) fun v_3=>Mb (Mq (decide (v_2≤v_3))) fun c_5=>if c_5 then Mb (Mq p_most) fun v_4=>Mq (decide (v_3≤v_4)) else Mq false) else Mq false))
def zcE_ (p_value:Int) (p_most:Int):Mo Bool:=fnO (zef_ p_value p_most)
def zb5_ (p_wires:(List (Int×Int))):Mo (Out (List (Int×Int)) Unit Unit) :=
 (thenO (S:=Unit) (Mb (Mq p_wires) fun v15=>forO (fun (_:Unit) x_2=>(Mb (Mb (Mb (Mb (oP2 (Mb (Mq x_2) fun a_3=>Mq a_3.1) (Mq (40:Int))) fun c_6=>Mo.noex (zcE_ c_6.1 c_6.2)) fun v7=>Mq (!v7)) fun c13=>if c13 then Mq true else (Mb (Mb (oP2 (Mb (Mq x_2) fun v8=>Mq v8.2) (Mq (36:Int))) fun c11=>Mo.noex (zcE_ c11.1 c11.2)) fun a12=>Mq (!a12))) fun c14=>if c14 then Mo.no else (Mq (.nx ())))) v15 ()) fun _=>(Mb (Mq ([]:(List (Int×(Int×Int))))) fun l16=>(thenO (S:=(List (Int×(Int×Int)))) (Mb (Mq p_wires) fun x27=>forO (fun (s17:(List (Int×(Int×Int)))) x18=>(thenO (S:=Unit) (Mb (Mb (Mb (Mq x18) fun a19=>Mq a19.2) fun a20=>Mb (Mq s17) fun b21=>Mq (if false then !(getA b21 a20).isSome else (getA b21 a20).isSome)) fun c22=>if c22 then Mo.no else (Mq (.nx ()))) fun _=>(Mb (Mq x18) fun a25=>Mb (Mb (Mq x18) fun a24=>Mq a24.2) fun y26=>Mo.lim (s17.length+1) (Mq (.nx (putA s17 y26 a25)))))) x27 l16) fun s17=>(Mb (Mb (Mb (Mq s17) fun c28=>Mo.grd (c28.length<64) (Mq (srtL ltI (c28.map (·.1))))) fun v32=>compM (fun x29=>cond1 (Mq true) (Mb (Mq s17) fun a30=>Mb (Mq x29) fun b31=>Mo.opt (getA a30 b31))) v32 []) fun r33=>Mq (.rt r33)))))
def zbX_ (p_wires:(List (Int×Int))):Mo (List (Int×Int)):=fnO (zb5_ p_wires)
def zdN_ (p_wires:(List (Int×Int))):Mo (Out Bool Unit Unit) :=
 (Mb (Mb (Mq p_wires) fun c_4=>Mo.noex (zbX_ c_4)) fun u3'=>(oRt (Mb (Mq u3') fun w5=>Mb (Mq p_wires) fun y6=>Mq (((eqL (fun a b=>(fun a b=>decide (a=b)) a.1 b.1 && (fun a b=>decide (a=b)) a.2 b.2)) w5 y6)))))
def zck_ (p_wires:(List (Int×Int))):Mo Bool:=fnO (zdN_ p_wires)
def zar_ (p_asking:Qq3):Mo (Out Unit Unit Unit) :=
 (Mb (Mb (oP2 (Mb (Mb (Mb (Mq p_asking) fun a_1=>Mq a_1.2.2.2.2.2.1) fun c_2=>Mo.noex (zat_ c_2)) fun z9=>if z9 then (Mb (Mq (0:Int)) fun v_4=>Mb (Mb (Mq p_asking) fun a_3=>Mq a_3.2.2.2.2.2.1) fun v_5=>Mb (Mq (decide (v_4≤v_5))) fun y7=>if y7 then Mb (Mq (3:Int)) fun v_6=>Mq (decide (v_5≤v_6)) else Mq false) else Mq false) (Mq ([116,104,101,114,101,32,97,114,101,32,48,32,116,111,32,51,32,98,114,101,97,107,115]:List Nat))) fun c12=>zw_ c12.1 c12.2) fun a13=>(Mb (Mb (oP2 (oLE (Mb (Mq p_asking) fun a14=>Mq a14.2.2.2.2.2.1) (Mb (Mb (Mq p_asking) fun a15=>Mq a15.2.2.2.1) fun c16=>Mq (c16.length:Int))) (Mq ([116,104,101,114,101,32,97,114,101,32,110,111,32,109,111,114,101,32,98,114,101,97,107,115,32,116,104,97,110,32,107,101,121,115]:List Nat))) fun c21=>zw_ c21.1 c21.2) fun a22=>(Mb (Mb (oP2 (Mb (Mb (Mb (Mq p_asking) fun a23=>Mq a23.2.2.2.2.2.2.2.1) fun c24=>Mo.noex (zat_ c24)) fun c31=>if c31 then (Mb (Mq (1:Int)) fun v26=>Mb (Mb (Mq p_asking) fun a25=>Mq a25.2.2.2.2.2.2.2.1) fun v27=>Mb (Mq (decide (v26≤v27))) fun c29=>if c29 then Mb (Mq (12:Int)) fun v28=>Mq (decide (v27≤v28)) else Mq false) else Mq false) (Mq ([119,104,101,101,108,115,32,104,97,118,101,32,49,32,116,111,32,49,50,32,102,105,103,117,114,101,115]:List Nat))) fun c34=>zw_ c34.1 c34.2) fun a35=>(Mb (Mb (oP2 (Mb (Mb (Mq p_asking) fun a36=>Mq a36.2.2.2.2.2.2.2.2.1) fun c37=>Mo.noex (zck_ c37)) (Mq ([116,104,101,32,98,111,97,114,100,32,105,115,32,110,111,110,101,44,32,111,114,32,110,111,116,32,115,111,114,116,101,100]:List Nat))) fun c40=>zw_ c40.1 c40.2) fun a41=>(Mq (.nx ()))))))
def z8_ (p_asking:Qq3):Mo Unit:=fnU (zar_ p_asking)
def zbp_ (p_asking:Qq3) (p_place:Int):Mo (Out (List (Int×Int)) Unit Unit) :=
 (Mb (oAp (oAp (Mb (Mb (Mq p_asking) fun a_2=>Mq a_2.2.1) fun u5'=>compM (fun x_3=>cond1 (Mq true) (Mb (Mq x_3) fun w4=>Mq w4.1)) u5' []) (Mb (Mb (Mq p_asking) fun c_6=>Mo.noex (z0_ c_6)) fun v8=>Mb (Mq none) fun y9=>Mb (oSm (Mq (1:Int))) fun d10=>Mq (cutG v8 y9 d10))) (Mb (Mq p_asking) fun a13=>Mq a13.2.2.2.1)) fun u1'=>(thenO (S:=(List (Int×Int))) (Mb (Mb (Mb (Mq p_asking) fun a17=>Mq a17.2.2.2.2.1) fun c18=>Mq (enumL c18)) fun x36=>forO (fun (s16:(List (Int×Int))) x19=>(thenO (S:=(List (Int×Int))) (Mb (Mb (Mq x19.1) fun a20=>Mb (Mq p_place) fun b21=>Mq (!decide (a20=b21))) fun c22=>if c22 then (Mb (Mb (Mq x19.2) fun a24=>Mq a24.1) fun a25=>Mo.lim (s16.length+1) (Mq (.nx (s16++[a25])))) else (Mq (.nx s16))) fun s23=>(thenO (S:=(List (Int×Int))) (Mb (oLE (Mq x19.1) (Mq p_place)) fun c28=>if c28 then (Mb (Mb (oP2 (Mb (Mq x19.2) fun a30=>Mq a30.2.1) (Mb (Mq x19.2) fun a31=>Mq a31.2.2.2)) fun c34=>Mq [c34.1,c34.2]) fun a35=>Mo.lim (s23.length+a35.length) (Mq (.nx (s23++a35)))) else (Mq (.nx s23))) fun s29=>(Mq (.nx s29))))) x36 u1') fun s16=>(Mq (.rt s16))))
def zaB_ (p_asking:Qq3) (p_place:Int):Mo (List (Int×Int)):=fnO (zbp_ p_asking p_place)
def zcD_ (p_one:(Int×Int)) (p_other:(Int×Int)):Mo (Out Bool Unit Unit) :=
 (oRt (Mb (Mb (Mb (Mq p_one) fun a_1=>Mq a_1.2) fun a_3=>Mb (Mb (Mq p_other) fun a_2=>Mq a_2.1) fun y4=>Mq (decide (a_3<y4))) fun z9=>if z9 then Mq true else (Mb (Mb (Mq p_other) fun w5=>Mq w5.2) fun v7=>Mb (Mb (Mq p_one) fun w6=>Mq w6.1) fun w8=>Mq (decide (v7<w8)))))
def zbD_ (p_one:(Int×Int)) (p_other:(Int×Int)):Mo Bool:=fnO (zcD_ p_one p_other)
def zby_ (p_asking:Qq3):Mo (Out Unit Unit Unit) :=
 (thenO (S:=Unit) (Mb (Mb (Mb (Mq p_asking) fun a_2=>Mq a_2.2.2.2.2.1) fun c_3=>Mq (enumL c_3)) fun x25=>forO (fun (_:Unit) x_4=>(Mb (Mb (oP2 (Mb (Mb (Mq x_4.2) fun w5=>Mq w5.2.2.1) fun w6=>Mq (([[112,108,117,115],[108,101,115,115],[116,105,109,101,115]]:List (List Nat)).any fun y=>decide (y=w6))) (Mq ([97,32,119,111,114,107,32,104,97,115,32,111,110,101,32,111,102,32,116,104,114,101,101,32,119,111,114,100,115]:List Nat))) fun z9=>zw_ z9.1 z9.2) fun a10=>(thenO (S:=Unit) (Mb (Mb (oP2 (Mq p_asking) (Mq x_4.1)) fun c14=>Mo.noex (zaB_ c14.1 c14.2)) fun x24=>forO (fun (_:Unit) x15=>(Mb (Mb (oP2 (Mb (oP2 (Mb (Mq x_4.2) fun a16=>Mq a16.1) (Mq x15)) fun c19=>Mo.noex (zbD_ c19.1 c19.2)) (Mq ([97,32,119,111,114,107,32,112,117,110,99,104,101,115,32,105,110,116,111,32,97,32,102,105,101,108,100,32,116,104,97,116,32,105,116,32,109,117,115,116,32,98,101,32,97,112,97,114,116,32,102,114,111,109]:List Nat))) fun c22=>zw_ c22.1 c22.2) fun a23=>(Mq (.nx ())))) x24 ()) fun _=>(Mq (.nx ()))))) x25 ()) fun _=>(Mq (.nx ())))
def zaG_ (p_asking:Qq3):Mo Unit:=fnU (zby_ p_asking)
def zdE_ (p_first:Int) (p_last:Int):Mo (Out Bool Unit Unit) :=
 (oRt (Mb (Mb (Mq p_first) fun c_1=>Mo.noex (zat_ c_1)) fun c11=>if c11 then (Mb (Mb (Mq p_last) fun c_2=>Mo.noex (zat_ c_2)) fun w10=>if w10 then (Mb (Mq (1:Int)) fun v_3=>Mb (Mq p_first) fun v_4=>Mb (Mq (decide (v_3≤v_4))) fun y7=>if y7 then (Mb (Mq p_last) fun v_5=>Mb (Mq (decide (v_4≤v_5))) fun y8=>if y8 then Mb (Mq (36:Int)) fun v_6=>Mq (decide (v_5≤v_6)) else Mq false) else Mq false) else Mq false) else Mq false))
def zcg_ (p_first:Int) (p_last:Int):Mo Bool:=fnO (zdE_ p_first p_last)
def zaY_ (p_asking:Qq3):Mo (Out Unit Unit Unit) :=
 (Mb (Mb (Mq p_asking) fun c_1=>zac_ c_1) fun a_2=>(Mb (Mb (Mq p_asking) fun c_3=>z7_ c_3) fun w4=>(Mb (Mb (Mq p_asking) fun c_5=>zag_ c_5) fun w6=>(thenO (S:=Unit) (Mb (Mb (Mq p_asking) fun y8=>Mo.noex (za3_ y8)) fun w19=>forO (fun (_:Unit) q9=>(Mb (Mb (oP2 (Mb (oP2 (Mb (Mq q9) fun a10=>Mq a10.1) (Mb (Mq q9) fun a11=>Mq a11.2)) fun c14=>Mo.noex (zcg_ c14.1 c14.2)) (Mq ([97,32,102,105,101,108,100,32,103,111,101,115,32,102,114,111,109,32,97,32,102,105,114,115,116,32,116,111,32,97,32,108,97,115,116,32,99,111,108,117,109,110,44,32,102,114,111,109,32,49,32,116,111,32,51,54]:List Nat))) fun c17=>zw_ c17.1 c17.2) fun a18=>(Mq (.nx ())))) w19 ()) fun _=>(Mb (Mb (Mq p_asking) fun c20=>zaE_ c20) fun a21=>(Mb (Mb (Mq p_asking) fun c22=>zE_ c22) fun a23=>(Mb (Mb (Mq p_asking) fun c24=>z8_ c24) fun a25=>(Mb (Mb (Mq p_asking) fun c26=>zaG_ c26) fun a27=>(Mq (.nx ()))))))))))
def z5_ (p_asking:Qq3):Mo Unit:=fnU (zaY_ p_asking)
def zbc_ (p_self:Unit) (p_deck:(List Nat)) (p_picks:(List ((Int×Int)×(List Nat)))) (p_middle:(Option (((List Nat)×(Int×Int)) ⊕ ((List Nat)×((List Nat)×((Int×Int)×(Int×Int))))))) (p_order:(List (Int×Int))) (p_works:(Option Qq8)) (p_breaks:Int) (p_sums:(Option (List (Int×Int)))) (p_figures:Int) (p_board:(Option (List (Int×Int)))):Mo (Out (Unit×Qq3) Unit Qq3) :=
 (Mb (Mq p_deck) fun a_1=>Mb (Mq (a_1,())) fun x_2=>(Mb (Mb (Mq p_picks) fun c25=>Mq c25) fun a_3=>Mb (Mq (x_2.1,(a_3,()))) fun x_4=>(Mb (Mq p_middle) fun w5=>Mb (Mq (x_4.1,(x_4.2.1,(w5,())))) fun x_6=>(Mb (Mb (Mq p_order) fun c24=>Mq c24) fun v7=>Mb (Mq (x_6.1,(x_6.2.1,(x_6.2.2.1,(v7,()))))) fun x_8=>(Mb (Mb (Mq p_works) fun c23=>Mo.noex (zbQ_ c23)) fun w9=>Mb (Mq (x_8.1,(x_8.2.1,(x_8.2.2.1,(x_8.2.2.2.1,(w9,())))))) fun x10=>(Mb (Mq p_breaks) fun a11=>Mb (Mq (x10.1,(x10.2.1,(x10.2.2.1,(x10.2.2.2.1,(x10.2.2.2.2.1,(a11,()))))))) fun x12=>(Mb (Mb (Mq p_sums) fun c22=>Mo.noex (zaK_ c22)) fun a13=>Mb (Mq (x12.1,(x12.2.1,(x12.2.2.1,(x12.2.2.2.1,(x12.2.2.2.2.1,(x12.2.2.2.2.2.1,(a13,())))))))) fun v14=>(Mb (Mq p_figures) fun a15=>Mb (Mq (v14.1,(v14.2.1,(v14.2.2.1,(v14.2.2.2.1,(v14.2.2.2.2.1,(v14.2.2.2.2.2.1,(v14.2.2.2.2.2.2.1,(a15,()))))))))) fun x16=>(Mb (Mb (Mq p_board) fun c21=>Mo.noex (zaK_ c21)) fun a17=>Mb (Mq (x16.1,(x16.2.1,(x16.2.2.1,(x16.2.2.2.1,(x16.2.2.2.2.1,(x16.2.2.2.2.2.1,(x16.2.2.2.2.2.2.1,(x16.2.2.2.2.2.2.2.1,(a17,())))))))))) fun x18=>(Mb (Mb (Mq x18) fun c19=>z5_ c19) fun a20=>(Mq (.nx x18))))))))))))
def z3_ (p_self:Unit) (p_deck:(List Nat)) (p_picks:(List ((Int×Int)×(List Nat)))) (p_middle:(Option (((List Nat)×(Int×Int)) ⊕ ((List Nat)×((List Nat)×((Int×Int)×(Int×Int))))))) (p_order:(List (Int×Int))) (p_works:(Option Qq8)) (p_breaks:Int) (p_sums:(Option (List (Int×Int)))) (p_figures:Int) (p_board:(Option (List (Int×Int)))):Mo (Unit×Qq3):=fnMU (zbc_ p_self p_deck p_picks p_middle p_order p_works p_breaks p_sums p_figures p_board)
def zcx_ (p_e:Xc):Mo (Out Bool Unit Unit) :=
 (Mb (Mb (oP2 (Mb (Mq p_e) fun a_2=>Mo.opt (isaQ [("NoAsking",false)] a_2.c)) (oP2 (Mb (Mq p_e) fun a_3=>Mo.opt (isaQ [("NoAsking",false)] a_3.c)) (oP2 (Mb (Mq p_e) fun w4=>Mo.opt (isaQ [("NoAsking",false)] w4.c)) (Mb (Mq p_e) fun w5=>Mo.opt (isaQ [("NoAsking",false)] w5.c))))) fun c12=>Mq [c12.1,c12.2.1,c12.2.2.1,c12.2.2.2]) fun t1'=>(Mb (oAp (Mq t1') (Mb (oP2 (Mb (Mq p_e) fun a14=>Mo.opt (isaQ [("NoAsking",false)] a14.c)) (oP2 (Mb (Mq p_e) fun a15=>Mo.opt (isaQ [("NoAsking",false)] a15.c)) (oP2 (Mb (Mq p_e) fun a16=>Mo.opt (isaQ [("NoAsking",false)] a16.c)) (Mb (Mq p_e) fun a17=>Mo.opt (isaQ [("NoAsking",false)] a17.c))))) fun c24=>Mq [c24.1,c24.2.1,c24.2.2.1,c24.2.2.2])) fun s13=>(oRt (Mb (Mb (Mq p_e) fun a27=>Mo.opt (isaQ [("NoAsking",true)] a27.c)) fun c32=>if c32 then (Mb (Mb (Mq p_e) fun a28=>Mo.opt (isaQ [("NoAsking",true)] a28.c)) fun c31=>if c31 then (Mb (Mq true) fun a29=>Mb (Mq s13) fun b30=>Mq (!(b30.any fun y=>decide (y=a29)))) else Mq false) else Mq false))))
def zaU_ (p_e:Xc):Mo Bool:=fnO (zcx_ p_e)
def zbf_ (p_parts_here:Qq9) (p_works:Qq8):Mo (Out Bool Unit Unit) :=
 (Mb (Mq false) fun q1'=>(Mb (Mq false) fun u2'=>(thenO (S:=(Bool×Bool)) (Mb (Mb (oP2 (Mb (Mq p_parts_here) fun w5=>Mq w5.1) (oP2 (Mb (Mq p_parts_here) fun w6=>Mq w6.2.1) (oP2 (Mb (Mq p_parts_here) fun v7=>Mq v7.2.2.1) (oP2 (Mb (Mq p_parts_here) fun v8=>Mq v8.2.2.2.1) (Mb (Mq p_works) fun w9=>Mq (some w9)))))) fun c27=>Mq (c27.1,c27.2.1,c27.2.2.1,c27.2.2.2.1,c27.2.2.2.2,(0:Int),none,(6:Int),none)) fun c_3=>Mo.tr (z3_ () c_3.1 c_3.2.1 c_3.2.2.1 c_3.2.2.2.1 c_3.2.2.2.2.1 c_3.2.2.2.2.2.1 c_3.2.2.2.2.2.2.1 c_3.2.2.2.2.2.2.2.1 c_3.2.2.2.2.2.2.2.2) (fun _=>(Mq (.nx (q1',u2')))) fun x_4=>(Mo.cat [("NoAsking",true)] x_4.c (Mb (Mq true) fun v19=>(Mb (Mb (Mq x_4) fun c21=>Mo.noex (zaU_ c21)) fun v20=>(Mq (.nx (v19,v20))))) Mo.no)) fun s18=>(thenO (S:=Unit) (Mb (Mb (Mq s18.1) fun c23=>if c23 then (Mb (Mq s18.2) fun a22=>Mq (!a22)) else Mq false) fun c24=>if c24 then Mo.no else (Mq (.nx ()))) fun _=>(oRt (Mq s18.1))))))
def zR_ (p_parts_here:Qq9) (p_works:Qq8):Mo Bool:=fnO (zbf_ p_parts_here p_works)
def znw_ (p_script:(List Int)):Mo (Out Bool Unit Unit) :=
 (Mb (Mb (Mq p_script) fun c_3=>Mo.noex (zbC_ c_3)) fun x1'=>(Mb (Mb (Mb (Mq x1') fun w5=>Mq w5.2.2.2.2) fun c_6=>Mq c_6) fun u4'=>(Mb (oNt (Mb (Mq x1') fun y8=>Mo.noex (zbu_ y8))) fun d7=>(thenO (S:=Unit) (Mb (Mb (Mb (Mb (oP2 (Mq x1') (Mq u4')) fun c11=>Mo.noex (zR_ c11.1 c11.2)) fun a12=>Mb (Mq d7) fun b13=>Mq (!decide (a12=b13))) fun c17=>if c17 then Mq true else (Mb (Mq u4') fun a15=>Mb (Mb (Mq x1') fun a14=>Mq a14.2.2.2.2) fun b16=>Mq (!((eqL (fun a b=>(fun a b=>(fun a b=>decide (a=b)) a.1 b.1 && (fun a b=>decide (a=b)) a.2 b.2) a.1 b.1 && (fun a b=>(fun a b=>(fun a b=>decide (a=b)) a.1 b.1 && (fun a b=>decide (a=b)) a.2 b.2) a.1 b.1 && (fun a b=>(fun a b=>decide (a=b)) a.1 b.1 && (fun a b=>(fun a b=>decide (a=b)) a.1 b.1 && (fun a b=>decide (a=b)) a.2 b.2) a.2 b.2) a.2 b.2) a.2 b.2)) a15 b16)))) fun c18=>if c18 then (oRt (Mq false)) else (Mq (.nx ()))) fun _=>(thenO (S:=Unit) (Mb (Mb (Mb (oP2 (Mq x1') (Mq ([]:List ((Int×Int)×((Int×Int)×((List Nat)×(Int×Int))))))) fun c23=>Mo.noex (zR_ c23.1 c23.2)) fun a24=>Mb (Mq false) fun b25=>Mq (!decide (a24=b25))) fun c26=>if c26 then (oRt (Mq false)) else (Mq (.nx ()))) fun _=>(thenO (S:=Unit) (Mb (Mb (Mb (Mq u4') fun c30=>Mq (c30.length:Int)) fun c31=>Mo.grd (-(2 ^ 62)≤c31∧c31<2 ^ 62) (Mq (rngI 0 c31.toNat))) fun x77=>forO (fun (_:Unit) x32=>(Mb (Mb (Mb (Mq x1') fun c51=>Mq (c51.1,c51.2.1,c51.2.2.1,c51.2.2.2.1)) fun a66=>Mb (oAp (Mb (Mb (Mq x1') fun a52=>Mq a52.2.2.2.2) fun a54=>Mb (Mq none) fun b55=>Mb (oSm (Mq x32)) fun d56=>Mq (cutG a54 b55 d56)) (Mb (Mb (Mq x1') fun a57=>Mq a57.2.2.2.2) fun a61=>Mb (oSm (oAd (Mq x32) (Mq (1:Int)))) fun b62=>Mb (Mq none) fun d63=>Mq (cutG a61 b62 d63))) fun b67=>Mq (a66.1,a66.2.1,a66.2.2.1,a66.2.2.2,b67)) fun s33=>(Mb (Mb (Mb (oP2 (Mq s33) (Mb (Mq s33) fun a68=>Mq a68.2.2.2.2)) fun c71=>Mo.noex (zR_ c71.1 c71.2)) fun a73=>Mb (oNt (Mb (Mq s33) fun c72=>Mo.noex (zbu_ c72))) fun b74=>Mq (!decide (a73=b74))) fun c75=>if c75 then (oRt (Mq false)) else (Mq (.nx ()))))) x77 ()) fun _=>(oRt (Mb (Mb (oP2 (Mq x1') (Mq u4')) fun c80=>Mo.noex (zR_ c80.1 c80.2)) fun a81=>Mb (Mq d7) fun b82=>Mq (decide (a81=b82))))))))))
def f_law (p_script:(List Int)):Mo Bool:=fnO (znw_ p_script)
end K42
namespace K42
open PySem PySem.Spec PyProof.Rows L2
open Mo renaming bind→Mb,ok→Mq
open Sl renaming fz→Zf,dead→Zd,ow→Zo
def top (i:Nat):Stmt:=PySem.Challenge.pw_cardshop_k42_works_apart.main.body.getD i (.Pass ⟨0,0,0,0⟩)
abbrev ze3_:Stmt:=top 59
abbrev zgH_:Stmt:=top 60
abbrev zgL_:Stmt:=top 61
abbrev zgz_:Stmt:=top 62
abbrev zh1_:Stmt:=top 63
abbrev zd3_:Stmt:=top 40
abbrev zdR_:Stmt:=top 40
abbrev zi5_:Stmt:=top 47
abbrev zdS_:Stmt:=top 49
abbrev zhx_:Stmt:=top 41
abbrev zb9_:Stmt:=top 50
abbrev zhB_:Stmt:=top 42
abbrev ziZ_:Stmt:=top 45
abbrev zfp_:Stmt:=top 51
abbrev zdZ_:Stmt:=top 43
abbrev zfz_:Stmt:=top 52
abbrev zgS_:Stmt:=top 15
abbrev zeE_:Stmt:=top 27
abbrev zhY_:Stmt:=top 23
abbrev zfR_:Stmt:=top 24
abbrev zeU_:Stmt:=top 44
abbrev zfn_:Stmt:=top 53
abbrev zbG_:Stmt:=top 54
abbrev zhm_:Stmt:=top 17
abbrev zgM_:Stmt:=top 19
abbrev zfZ_:Stmt:=top 20
abbrev zhw_:Stmt:=top 46
abbrev zdm_:Stmt:=top 55
abbrev zfk_:Stmt:=top 57
abbrev zgW_:Stmt:=top 25
abbrev zeR_:Stmt:=top 56
abbrev zit_:Stmt:=top 22
abbrev zeC_:Stmt:=top 48
abbrev zc2_:Stmt:=inClass (top 39) 0
abbrev zgB_:Stmt:=top 64
abbrev zeV_:Stmt:=top 65
abbrev znk_:Stmt:=top 66
structure Fx (K:Fgg):Prop where
 exc_NoAsking:excK K (gA K "NoAsking")=true
 cat_NoAsking_NoAsking:catK K (gA K "NoAsking") (gA K "NoAsking")=true
 isa_NoAsking_NoBoard:isaK K (gA K "NoAsking") (.ref (gA K "NoBoard"))=some false
 isa_NoAsking_NoOrder:isaK K (gA K "NoAsking") (.ref (gA K "NoOrder"))=some false
 isa_NoAsking_NoField:isaK K (gA K "NoAsking") (.ref (gA K "NoField"))=some false
 isa_NoAsking_NoCard:isaK K (gA K "NoAsking") (.ref (gA K "NoCard"))=some false
 isa_NoAsking_NoRow:isaK K (gA K "NoAsking") (.ref (gA K "NoRow"))=some false
 isa_NoAsking_NoPlan:isaK K (gA K "NoAsking") (.ref (gA K "NoPlan"))=some false
 isa_NoAsking_NoTray:isaK K (gA K "NoAsking") (.ref (gA K "NoTray"))=some false
 isa_NoAsking_Meet:isaK K (gA K "NoAsking") (.ref (gA K "Meet"))=some false
 isa_NoAsking_ShopError:isaK K (gA K "NoAsking") (.ref (gA K "ShopError"))=some true
 isa_NoAsking_ValueError:isaK K (gA K "NoAsking") (.type "ValueError")=some true
def zcn_ (K:Fgg):Sp:=Ct K (csCons (tySc K) (csLast tyInt)) (fun c=>zaF_ c.1 c.2) (owF tyInt)
def za1_ (K:Fgg):Sp:=Ct K (csLast tyInt) (fun c=>zao_ c) (owF Qq0)
def zdb_ (K:Fgg):Sp:=Ct K (csLast (tySc K)) (fun c=>zbC_ c) (owF (tyH (csCons tyStr (csCons (tyL Qq5) (csCons (tyOpt (tyU Qq6 Qq2)) Qq7)))))
def za2_ (K:Fgg):Sp:=Ct K (csCons Qq0 (csLast Qq0)) (fun c=>zaq_ c.1 c.2) (owF tyBl)
def zcz_ (K:Fgg):Sp:=Ct K (csLast (tyH (csCons tyStr (csCons (tyL Qq5) (csCons (tyOpt (tyU Qq6 Qq2)) Qq7))))) (fun c=>zbu_ c) (owF tyBl)
def zbo_ (K:Fgg):Sp:=Ct K (csLast (tyOpt (tyL Qq4))) (fun c=>zbQ_ c) (owL Qq4)
def zaz_ (K:Fgg):Sp:=Ct K (csLast (tyOpt (tyL Qq0))) (fun c=>zaK_ c) (owL Qq0)
def zv_ (K:Fgg):Sp:=Ct K (csCons tyBl (csLast tyStr)) (fun c=>zw_ c.1 c.2) (owF tyNon)
def zbx_ (K:Fgg):Sp:=Ct K (csLast (tyI (gA K "Asking") Qn0 (csCons tyStr (csCons (tyL Qq5) (csCons (tyOpt (tyU Qq6 Qq2)) Qq1))))) (fun c=>zac_ c) (owF tyNon)
def zaM_ (K:Fgg):Sp:=Ct K (csLast (tyI (gA K "Asking") Qn0 (csCons tyStr (csCons (tyL Qq5) (csCons (tyOpt (tyU Qq6 Qq2)) Qq1))))) (fun c=>zbe_ c) (owF tyBl)
def zau_ (K:Fgg):Sp:=Ct K (csLast (tyI (gA K "Asking") Qn0 (csCons tyStr (csCons (tyL Qq5) (csCons (tyOpt (tyU Qq6 Qq2)) Qq1))))) (fun c=>z7_ c) (owF tyNon)
def zem_ (K:Fgg):Sp:=Ct K (csLast (tyI (gA K "Asking") Qn0 (csCons tyStr (csCons (tyL Qq5) (csCons (tyOpt (tyU Qq6 Qq2)) Qq1))))) (fun c=>zdK_ c) (owL tyStr)
def ze2_ (K:Fgg):Sp:=Ct K (csLast tyStr) (fun c=>zam_ c) (owF tyBl)
def zco_ (K:Fgg):Sp:=Ct K (csLast (tyI (gA K "Asking") Qn0 (csCons tyStr (csCons (tyL Qq5) (csCons (tyOpt (tyU Qq6 Qq2)) Qq1))))) (fun c=>zag_ c) (owF tyNon)
def z9_ (K:Fgg):Sp:=Ct K (csLast (tyI (gA K "Asking") Qn0 (csCons tyStr (csCons (tyL Qq5) (csCons (tyOpt (tyU Qq6 Qq2)) Qq1))))) (fun c=>z0_ c) (owL Qq0)
def zcL_ (K:Fgg):Sp:=Ct K (csLast (tyI (gA K "Asking") Qn0 (csCons tyStr (csCons (tyL Qq5) (csCons (tyOpt (tyU Qq6 Qq2)) Qq1))))) (fun c=>za3_ c) (owL Qq0)
def zdH_ (K:Fgg):Sp:=Ct K (csLast tyStr) (fun c=>zbE_ c) (owF tyBl)
def zbU_ (K:Fgg):Sp:=Ct K (csLast (tyL tyPass)) (fun c=>zak_ c) (owF (tyOpt (tyD kInt tyStr)))
def zbF_ (K:Fgg):Sp:=Ct K (csLast Qq0) (fun c=>zbg_ c) (owF tyInt)
def zcN_ (K:Fgg):Sp:=Ct K (csLast Qq0) (fun c=>zaX_ c) (owL tyInt)
def zci_ (K:Fgg):Sp:=Ct K (csLast (tyI (gA K "Asking") Qn0 (csCons tyStr (csCons (tyL Qq5) (csCons (tyOpt (tyU Qq6 Qq2)) Qq1))))) (fun c=>zaA_ c) (owL tyPass)
def zcb_ (K:Fgg):Sp:=Ct K (csLast (tyI (gA K "Asking") Qn0 (csCons tyStr (csCons (tyL Qq5) (csCons (tyOpt (tyU Qq6 Qq2)) Qq1))))) (fun c=>zaE_ c) (owF tyNon)
def zah_ (K:Fgg):Sp:=Ct K (csLast (tyI (gA K "Asking") Qn0 (csCons tyStr (csCons (tyL Qq5) (csCons (tyOpt (tyU Qq6 Qq2)) Qq1))))) (fun c=>zE_ c) (owF tyNon)
def zap_ (K:Fgg):Sp:=Ct K (csLast tyInt) (fun c=>zat_ c) (owF tyBl)
def zb2_ (K:Fgg):Sp:=Ct K (csCons tyInt (csLast tyInt)) (fun c=>zcE_ c.1 c.2) (owF tyBl)
def zcO_ (K:Fgg):Sp:=Ct K (csLast (tyL Qq0)) (fun c=>zbX_ c) (owL Qq0)
def zeh_ (K:Fgg):Sp:=Ct K (csLast (tyL Qq0)) (fun c=>zck_ c) (owF tyBl)
def za9_ (K:Fgg):Sp:=Ct K (csLast (tyI (gA K "Asking") Qn0 (csCons tyStr (csCons (tyL Qq5) (csCons (tyOpt (tyU Qq6 Qq2)) Qq1))))) (fun c=>z8_ c) (owF tyNon)
def zcc_ (K:Fgg):Sp:=Ct K (csCons (tyI (gA K "Asking") Qn0 (csCons tyStr (csCons (tyL Qq5) (csCons (tyOpt (tyU Qq6 Qq2)) Qq1)))) (csLast tyInt)) (fun c=>zaB_ c.1 c.2) (owL Qq0)
def zdC_ (K:Fgg):Sp:=Ct K (csCons Qq0 (csLast Qq0)) (fun c=>zbD_ c.1 c.2) (owF tyBl)
def zca_ (K:Fgg):Sp:=Ct K (csLast (tyI (gA K "Asking") Qn0 (csCons tyStr (csCons (tyL Qq5) (csCons (tyOpt (tyU Qq6 Qq2)) Qq1))))) (fun c=>zaG_ c) (owF tyNon)
def zd4_ (K:Fgg):Sp:=Ct K (csCons tyInt (csLast tyInt)) (fun c=>zcg_ c.1 c.2) (owF tyBl)
def zbT_ (K:Fgg):Sp:=Ct K (csLast (tyI (gA K "Asking") Qn0 (csCons tyStr (csCons (tyL Qq5) (csCons (tyOpt (tyU Qq6 Qq2)) Qq1))))) (fun c=>z5_ c) (owF tyNon)
def zaV_ (K:Fgg):Sp:=CtM K (owI (gA K "Asking") [] psNil) (owI (gA K "Asking") Qn0 (psO (owF tyStr) (psO (owL Qq5) (psO (owF (tyOpt (tyU Qq6 Qq2))) Qq10)))) (csCons tyStr (csCons (tyL Qq5) (csCons (tyOpt (tyU Qq6 Qq2)) (csCons (tyL Qq0) (csCons (tyOpt (tyL Qq4)) (csCons tyInt (csCons (tyOpt (tyL Qq0)) (csCons tyInt (csLast (tyOpt (tyL Qq0))))))))))) (fun x c=>z3_ x c.1 c.2.1 c.2.2.1 c.2.2.2.1 c.2.2.2.2.1 c.2.2.2.2.2.1 c.2.2.2.2.2.2.1 c.2.2.2.2.2.2.2.1 c.2.2.2.2.2.2.2.2) (owF tyNon)
def zdf_ (K:Fgg):Sp:=Ct K (csLast (tyXc K)) (fun c=>zaU_ c) (owF tyBl)
def z6_ (K:Fgg):Sp:=Ct K (csCons (tyH (csCons tyStr (csCons (tyL Qq5) (csCons (tyOpt (tyU Qq6 Qq2)) Qq7)))) (csLast (tyL Qq4))) (fun c=>zR_ c.1 c.2) (owF tyBl)
def ze7_ (K:Fgg):TS:=(tSeq (mIfS (mTest (tOp mLt (mVar 1) (tCB (mLen K) (tCons (mVar 0) tNil)))) (tRet (tOp (mIx K) (mVar 0) (mVar 1))) tNext) (tRet (tC (.int 0))))
def zgJ_ (K:Fgg):TS:=(tSeq (tAsg (tOp mAdd (tC (.int 1)) (tOp mMod (mVar 0) (tC (.int 36)))) (gName 1)) (tRet (tTup (tCons (mVar 1) (tCons (tCB (mTwo min) (tCons (tC (.int 36)) (tCons (tOp mAdd (mVar 1) (tOp mMod (tOp mDivG (mVar 0) (tC (.int 36))) (tC (.int 3)))) tNil))) tNil)))))
def zgY_ (K:Fgg):TS:=(tSeq (tAsg (tC (tx [116,114,97,121])) (gName 1)) (tSeq (tAsg (tCall (zcn_ K) [] E0 (tCons (mVar 0) (tCons (tC (.int 0)) tNil))) (gName 2)) (tSeq (tAsg (tTup (tCons (tOp mAdd (tC (.int 1)) (tOp mMod (tOp mDivG (mVar 2) (tC (.int 4))) (tC (.int 35)))) (tCons (tOp mAdd (tOp mAdd (tC (.int 1)) (tOp mMod (tOp mDivG (mVar 2) (tC (.int 4))) (tC (.int 35)))) (tOp mMod (tOp mDivG (mVar 2) (tC (.int 140))) (tC (.int 2)))) tNil))) (gName 3)) (tSeq (tAsg (tOp mSub (tOp (mIx K) (mVar 3) (tC (.int 1))) (tOp (mIx K) (mVar 3) (tC (.int 0)))) (gName 4)) (tSeq (tAsg (tLst (tCons (tC .non) (tCons (tTup (tCons (tC (tx [102,105,114,115,116])) (tCons (mVar 3) tNil))) (tCons (tTup (tCons (tC (tx [109,97,116,101,115])) (tCons (tC (tx [98,111,120])) (tCons (mVar 3) (tCons (tTup (tCons (tC (.int 30)) (tCons (tOp mAdd (tC (.int 30)) (mVar 4)) tNil))) tNil))))) tNil)))) (gName 5)) (tSeq (tDrop (tBM K "list" rAppend (mVar 5) (tCons (tTup (tCons (tC (tx [119,105,116,104,111,117,116])) (tCons (tC (tx [98])) (tCons (mVar 3) (tCons (tTup (tCons (tC (.int 1)) (tCons (tOp mAdd (tC (.int 1)) (mVar 4)) tNil))) tNil))))) tNil))) (tSeq (tAsg (tLst tNil) (gName 6)) (tSeq (tAsg (tLst tNil) (gName 7)) (tSeq (tAsg (tLst tNil) (gName 8)) (tSeq (tFor (iAny K (tSl (mSl K) (mVar 0) tNoPart (mPart (tC (.int 63))))) (gName 9) (tSeq (tAsg (tOp mMod (tOp mMulX (tOp mMod (mVar 9) (tC (.int 2147483647))) (tC (.int 48271))) (tC (.int 2147483629))) (gName 10)) (tSeq (tAsg (tCall (za1_ K) [] E0 (tCons (tOp mDivG (mVar 10) (tC (.int 4))) tNil)) (gName 3)) (tSeq (mIfS (mAnd (mTest (tOp (mEqK K) (tOp mMod (mVar 10) (tC (.int 8))) (tC (.int 1)))) (mTest (tOp mLt (tCB (mLen K) (tCons (mVar 6) tNil)) (tC (.int 2))))) (tDrop (tBM K "list" rAppend (mVar 6) (tCons (tTup (tCons (mVar 3) (tCons (tOp mMulX (tC (tx [65])) (tOp mAdd (tOp mSub (tOp (mIx K) (mVar 3) (tC (.int 1))) (tOp (mIx K) (mVar 3) (tC (.int 0)))) (tC (.int 1)))) tNil))) tNil))) tNext) (tSeq (mIfS (mAnd (mTest (tOp (mEqK K) (tOp mMod (mVar 10) (tC (.int 8))) (tC (.int 5)))) (mTest (tOp mLt (tCB (mLen K) (tCons (mVar 7) tNil)) (tC (.int 2))))) (tDrop (tBM K "list" rAppend (mVar 7) (tCons (mVar 3) tNil))) tNext) (mIfS (mAnd (mTest (tOp mGt (tOp mMod (mVar 10) (tC (.int 4))) (tC (.int 1)))) (mTest (tOp mLt (tCB (mLen K) (tCons (mVar 8) tNil)) (tOp mAdd (tC (.int 1)) (tOp mMod (mVar 2) (tC (.int 4))))))) (tSeq (tAsg (tCall (za1_ K) [] E0 (tCons (tOp mDivG (mVar 10) (tC (.int 433))) tNil)) (gName 11)) (tSeq (tAsg (tCall (za1_ K) [] E0 (tCons (tOp mDivG (mVar 10) (tC (.int 50000))) tNil)) (gName 12)) (tDrop (tBM K "list" rAppend (mVar 8) (tCons (tTup (tCons (mVar 3) (tCons (mVar 11) (tCons (tOp (mIx K) (tLst (tCons (tC (tx [112,108,117,115])) (tCons (tC (tx [108,101,115,115])) (tCons (tC (tx [116,105,109,101,115])) tNil)))) (tOp mMod (tOp mDivG (mVar 10) (tC (.int 7))) (tC (.int 3)))) (tCons (mVar 12) tNil))))) tNil))))) tNext)))))) (tRet (tLst (tCons (mVar 1) (tCons (mVar 6) (tCons (tOp (mIx K) (mVar 5) (tOp mMod (mVar 2) (tC (.int 4)))) (tCons (mVar 7) (tCons (mVar 8) tNil)))))))))))))))))
def zg2_ (K:Fgg):TS:=(tRet (mAndV (tOp mLe (tOp (mIx K) (mVar 0) (tC (.int 0))) (tOp (mIx K) (mVar 1) (tC (.int 1)))) (tOp mLe (tOp (mIx K) (mVar 1) (tC (.int 0))) (tOp (mIx K) (mVar 0) (tC (.int 1))))))
def zhv_ (K:Fgg):TS:=(tSeq (tAsg (tOp mAdd (tComp ["_law_field_here", "_law_text"] [] (iAny K (tOp (mIx K) (mVar 0) (tC (.int 1)))) (gTupM K 2 (gConsM (gName 0) (gConsM (gName 1) gNilM))) tTrue (mVar 0)) (tOp (mIx K) (mVar 0) (tC (.int 3)))) (gName 1)) (tSeq (mIfS (mAnd (mTest (tOp mIsNot (tOp (mIx K) (mVar 0) (tC (.int 2))) (tC .non))) (mTest (tOp (mEqK K) (tOp (mIx K) (tOp (mIx K) (mVar 0) (tC (.int 2))) (tC (.int 0))) (tC (tx [102,105,114,115,116]))))) (tDrop (tBM K "list" rAppend (mVar 1) (tCons (tOp (mIx K) (tOp (mIx K) (mVar 0) (tC (.int 2))) (tC (.int 1))) tNil))) (mIfS (mTest (tOp mIsNot (tOp (mIx K) (mVar 0) (tC (.int 2))) (tC .non))) (tDrop (tBM K "list" rAppend (mVar 1) (tCons (tOp (mIx K) (tOp (mIx K) (mVar 0) (tC (.int 2))) (tC (.int 2))) tNil))) tNext)) (tSeq (tAsg (tOp (mIx K) (mVar 0) (tC (.int 4))) (gName 2)) (tSeq (tFor (mRng1 (tCons (tCB (mLen K) (tCons (mVar 2) tNil)) tNil)) (gName 3) (tSeq (tFor (iAny K (mVar 1)) (gName 4) (mIfS (mTest (tCall (za2_ K) [] E0 (tCons (tOp (mIx K) (tOp (mIx K) (mVar 2) (mVar 3)) (tC (.int 0))) (tCons (mVar 4) tNil)))) (tRet (tC (.bl false))) tNext)) (tFor (mRng1 (tCons (tCB (mLen K) (tCons (mVar 2) tNil)) tNil)) (gName 5) (tSeq (mIfS (mAnd (mTest (tOp (mNeK K) (mVar 5) (mVar 3))) (mTest (tCall (za2_ K) [] E0 (tCons (tOp (mIx K) (tOp (mIx K) (mVar 2) (mVar 3)) (tC (.int 0))) (tCons (tOp (mIx K) (tOp (mIx K) (mVar 2) (mVar 5)) (tC (.int 0))) tNil))))) (tRet (tC (.bl false))) tNext) (tFor (iAny K (tLst (tCons (tOp (mIx K) (tOp (mIx K) (mVar 2) (mVar 5)) (tC (.int 1))) (tCons (tOp (mIx K) (tOp (mIx K) (mVar 2) (mVar 5)) (tC (.int 3))) tNil)))) (gName 4) (mIfS (mAnd (mTest (tOp mLe (mVar 5) (mVar 3))) (mTest (tCall (za2_ K) [] E0 (tCons (tOp (mIx K) (tOp (mIx K) (mVar 2) (mVar 3)) (tC (.int 0))) (tCons (mVar 4) tNil))))) (tRet (tC (.bl false))) tNext)))))) (tRet (tC (.bl true)))))))
def zd0_ (K:Fgg):TS:=(tRet (mIf (mTest (tOp mIs (mVar 0) (tC .non))) (tLst tNil) (tCB (mList K) (tCons (mVar 0) tNil))))
def zdT_ (K:Fgg):TS:=(tRet (mIf (mTest (tOp mIs (mVar 0) (tC .non))) (tLst tNil) (tCB (mList K) (tCons (mVar 0) tNil))))
def ziY_ (K:Fgg) (E:XK):TS:=(mIfS (tNot (mTrL K (mVar 0))) (tRaise (gA K "NoAsking") E (tCons (mVar 1) tNil)) tNext)
def zd2_ (K:Fgg) (E:XK):TS:=(tSeq (tDrop (tCall (zv_ K) [] E (tCons (tOp mLe (tCB (mLen K) (tCons (mFld (gA K "Asking") (mVar 0) "picks") tNil)) (tC (.int 8))) (tCons (tC (tx [97,110,32,97,115,107,105,110,103,32,104,97,115,32,56,32,112,105,99,107,115,32,97,116,32,109,111,115,116])) tNil)))) (tSeq (tDrop (tCall (zv_ K) [] E (tCons (tOp mLe (tCB (mLen K) (tCons (mFld (gA K "Asking") (mVar 0) "order") tNil)) (tC (.int 6))) (tCons (tC (tx [97,110,32,97,115,107,105,110,103,32,104,97,115,32,54,32,107,101,121,115,32,97,116,32,109,111,115,116])) tNil)))) (tSeq (tDrop (tCall (zv_ K) [] E (tCons (tOp mLe (tCB (mLen K) (tCons (mFld (gA K "Asking") (mVar 0) "works") tNil)) (tC (.int 4))) (tCons (tC (tx [97,110,32,97,115,107,105,110,103,32,104,97,115,32,52,32,119,111,114,107,115,32,97,116,32,109,111,115,116])) tNil)))) (tDrop (tCall (zv_ K) [] E (tCons (tOp mLe (tCB (mLen K) (tCons (mFld (gA K "Asking") (mVar 0) "sums") tNil)) (tC (.int 4))) (tCons (tC (tx [97,110,32,97,115,107,105,110,103,32,104,97,115,32,52,32,115,117,109,115,32,97,116,32,109,111,115,116])) tNil)))))))
def zic_ (K:Fgg):TS:=(tRet (mAndV (tOp mIsNot (mFld (gA K "Asking") (mVar 0) "middle") (tC .non)) (tOp (mIn K false) (tOp (mIx K) (mFld (gA K "Asking") (mVar 0) "middle") (tC (.int 0))) (tC (.ref (gA K "MATING_WORDS"))))))
def zcl_ (K:Fgg) (E:XK):TS:=(tSeq (mIfS (mTest (tOp mIs (mFld (gA K "Asking") (mVar 0) "middle") (tC .non))) tRetN tNext) (tSeq (tAsg (tCB (mLen K) (tCons (mFld (gA K "Asking") (mVar 0) "middle") tNil)) (gName 1)) (tSeq (tDrop (tCall (zv_ K) [] E (tCons (mAndV (tOp mGt (mVar 1) (tC (.int 0))) (mOrV (tCall (zaM_ K) [] E0 (tCons (mVar 0) tNil)) (tOp (mEqK K) (tOp (mIx K) (mFld (gA K "Asking") (mVar 0) "middle") (tC (.int 0))) (tC (tx [102,105,114,115,116]))))) (tCons (tC (tx [97,32,109,105,100,100,108,101,32,104,97,115,32,111,110,101,32,111,102,32,116,104,114,101,101,32,119,111,114,100,115])) tNil)))) (tDrop (tCall (zv_ K) [] E (tCons (tOp (mEqK K) (mVar 1) (mIf (mTest (tCall (zaM_ K) [] E0 (tCons (mVar 0) tNil))) (tC (.int 4)) (tC (.int 2)))) (tCons (tC (tx [97,32,109,105,100,100,108,101,32,104,97,115,32,119,104,97,116,32,105,116,115,32,119,111,114,100,32,119,97,110,116,115])) tNil)))))))
def zhU_ (K:Fgg):TS:=(tRet (mIf (mTest (tCall (zaM_ K) [] E0 (tCons (mVar 0) tNil))) (tLst (tCons (mFld (gA K "Asking") (mVar 0) "deck") (tCons (tOp (mIx K) (mFld (gA K "Asking") (mVar 0) "middle") (tC (.int 1))) tNil))) (tLst (tCons (mFld (gA K "Asking") (mVar 0) "deck") tNil))))
def ziW_ (K:Fgg):TS:=(tRet (mAndV (mChain mLe mLe (tC (.int 1)) (tCB (mLen K) (tCons (mVar 0) tNil)) (tC (.int 8))) (tCB (mAll K) (tCons (tComp ["letter"] [] (iAny K (mVar 0)) (gName 0) tTrue (tOp (mIn K false) (mVar 0) (tC (tx [97,98,99,100,101,102,103,104,105,106,107,108,109,110,111,112,113,114,115,116,117,118,119,120,121,122])))) tNil))))
def zfd_ (K:Fgg) (E:XK):TS:=(tSeq (tAsg (tCall (zem_ K) [] E0 (tCons (mVar 0) tNil)) (gName 1)) (tSeq (tFor (iAny K (mVar 1)) (gName 2) (tDrop (tCall (zv_ K) [] E (tCons (tCall (ze2_ K) [] E0 (tCons (mVar 2) tNil)) (tCons (tC (tx [97,32,110,97,109,101,32,104,97,115,32,111,110,101,32,116,111,32,101,105,103,104,116,32,115,109,97,108,108,32,108,101,116,116,101,114,115])) tNil))))) (tDrop (tCall (zv_ K) [] E (tCons (mOrV (tOp (mNeK K) (tOp (mIx K) (mVar 1) (tC (.int 0))) (tOp (mIx K) (mVar 1) (mNeg (tC (.int 1))))) (tOp (mEqK K) (tCB (mLen K) (tCons (mVar 1) tNil)) (tC (.int 1)))) (tCons (tC (tx [116,104,101,32,116,119,111,32,110,97,109,101,115,32,97,114,101,32,117,110,108,105,107,101])) tNil))))))
def zdV_ (K:Fgg):TS:=(tSeq (mIfS (mTest (tOp mIs (mFld (gA K "Asking") (mVar 0) "middle") (tC .non))) (tRet (tLst tNil)) tNext) (tRet (mIf (mTest (tCall (zaM_ K) [] E0 (tCons (mVar 0) tNil))) (tCB (mList K) (tCons (tSl (rSlT K) (mFld (gA K "Asking") (mVar 0) "middle") (mPart (tC (.int 2))) tNoPart) tNil)) (tLst (tCons (tOp (mIx K) (mFld (gA K "Asking") (mVar 0) "middle") (tC (.int 1))) tNil)))))
def zfD_ (K:Fgg):TS:=(tSeq (tAsg (tOp mAdd (tOp mAdd (tOp mAdd (tComp ["pick"] [] (iAny K (mFld (gA K "Asking") (mVar 0) "picks")) (gName 0) tTrue (tOp (mIx K) (mVar 0) (tC (.int 0)))) (tCall (z9_ K) [] E0 (tCons (mVar 0) tNil))) (mFld (gA K "Asking") (mVar 0) "order")) (mFld (gA K "Asking") (mVar 0) "sums")) (gName 1)) (tSeq (tFor (iAny K (mFld (gA K "Asking") (mVar 0) "works")) (gName 2) (tDrop (tBM K "list" rExtend (mVar 1) (tCons (tLst (tCons (tOp (mIx K) (mVar 2) (tC (.int 0))) (tCons (tOp (mIx K) (mVar 2) (tC (.int 1))) (tCons (tOp (mIx K) (mVar 2) (tC (.int 3))) tNil)))) tNil)))) (tRet (mVar 1))))
def zg6_ (K:Fgg):TS:=(tRet (tCB (mAll K) (tCons (tComp ["sign"] [] (iAny K (mVar 0)) (gName 0) tTrue (tOp (mIn K false) (mVar 0) (tC (tx SG)))) tNil)))
def zeO_ (K:Fgg):TS:=(tSeq (tAsg tDNewK (gName 1)) (tSeq (tFor (iAny K (mVar 0)) (gName 2) (mIfS (mTest (tOp (mEqK K) (tOp (mIx K) (mVar 2) (tC (.int 0))) (tC (tx [112,105,99,107])))) (mIfS (mTest (tOp (mNeK K) (mSetD (mVar 1) (tOp (mIx K) (mVar 2) (tC (.int 1))) (tOp (mIx K) (mVar 2) (tC (.int 2)))) (tOp (mIx K) (mVar 2) (tC (.int 2))))) (tRet (tC .non)) tNext) tNext)) (tRet (mVar 1))))
def zhW_ (K:Fgg):TS:=(tRet (tOp mAdd (tOp mSub (tOp (mIx K) (mVar 0) (tC (.int 1))) (tOp (mIx K) (mVar 0) (tC (.int 0)))) (tC (.int 1))))
def zfI_ (K:Fgg):TS:=(tRet (tCB (mList K) (tCons (tCB (mRange) (tCons (tOp (mIx K) (mVar 0) (tC (.int 0))) (tCons (tOp mAdd (tOp (mIx K) (mVar 0) (tC (.int 1))) (tC (.int 1))) tNil))) tNil)))
def ze1_ (K:Fgg):TS:=(tSeq (tAsg (tLst tNil) (gName 1)) (tSeq (tFor (iAny K (mFld (gA K "Asking") (mVar 0) "picks")) (gName 2) (tDrop (tBM K "list" rExtend (mVar 1) (tCons (tComp ["column", "sign"] [] (iZipX K (tCons (tCall (zcN_ K) [] E0 (tCons (tOp (mIx K) (mVar 2) (tC (.int 0))) tNil)) (tCons (tOp (mIx K) (mVar 2) (tC (.int 1))) tNil))) (gTupM K 2 (gConsM (gName 0) (gConsM (gName 1) gNilM))) tTrue (tTup (tCons (tC (tx [112,105,99,107])) (tCons (mVar 0) (tCons (mVar 1) tNil))))) tNil)))) (tRet (mVar 1))))
def zfh_ (K:Fgg) (E:XK):TS:=(tSeq (tFor (iAny K (mFld (gA K "Asking") (mVar 0) "picks")) (gName 1) (tSeq (tDrop (tCall (zv_ K) [] E (tCons (tOp (mEqK K) (tCB (mLen K) (tCons (tOp (mIx K) (mVar 1) (tC (.int 1))) tNil)) (tCall (zbF_ K) [] E0 (tCons (tOp (mIx K) (mVar 1) (tC (.int 0))) tNil))) (tCons (tC (tx [97,32,112,105,99,107,39,115,32,116,101,120,116,32,105,115,32,97,115,32,119,105,100,101,32,97,115,32,105,116,115,32,102,105,101,108,100])) tNil)))) (tDrop (tCall (zv_ K) [] E (tCons (tCall (zdH_ K) [] E0 (tCons (tOp (mIx K) (mVar 1) (tC (.int 1))) tNil)) (tCons (tC (tx [97,32,112,105,99,107,39,115,32,116,101,120,116,32,105,115,32,111,102,32,115,105,103,110,115])) tNil)))))) (tDrop (tCall (zv_ K) [] E (tCons (tOp mIsNot (tCall (zbU_ K) [] E0 (tCons (tCall (zci_ K) [] E0 (tCons (mVar 0) tNil)) tNil)) (tC .non)) (tCons (tC (tx [116,119,111,32,112,105,99,107,115,32,119,97,110,116,32,117,110,108,105,107,101,32,115,105,103,110,115,32,111,102,32,111,110,101,32,99,111,108,117,109,110])) tNil)))))
def zbH_ (K:Fgg) (E:XK):TS:=(tSeq (tAsg (tCall (z9_ K) [] E0 (tCons (mVar 0) tNil)) (gName 1)) (mIfS (mTrL K (mVar 1)) (tDrop (tCall (zv_ K) [] E (tCons (tOp (mEqK K) (tCall (zbF_ K) [] E0 (tCons (tOp (mIx K) (mVar 1) (tC (.int 0))) tNil)) (tCall (zbF_ K) [] E0 (tCons (tOp (mIx K) (mVar 1) (mNeg (tC (.int 1)))) tNil))) (tCons (tC (tx [116,104,101,32,109,105,100,100,108,101,39,115,32,102,105,101,108,100,115,32,97,114,101,32,111,102,32,111,110,101,32,119,105,100,116,104])) tNil)))) tNext))
def zhq_ (K:Fgg):TS:=(tRet (mAndV (tCB (mIsa K) (tCons (mVar 0) (tCons (tC (.ty "int")) tNil))) (mNotV (tCB (mIsa K) (tCons (mVar 0) (tCons (tC (.ty "bool")) tNil))))))
def zgV_ (K:Fgg):TS:=(tRet (mAndV (tCall (zap_ K) [] E0 (tCons (mVar 0) tNil)) (mChain mLe mLe (tC (.int 1)) (mVar 0) (mVar 1))))
def zf3_ (K:Fgg):TS:=(tSeq (tFor (iAny K (mVar 0)) (gName 1) (mIfS (mOr (tNot (mTest (tCall (zb2_ K) [] E0 (tCons (tOp (mIx K) (mVar 1) (tC (.int 0))) (tCons (tC (.int 40)) tNil))))) (tNot (mTest (tCall (zb2_ K) [] E0 (tCons (tOp (mIx K) (mVar 1) (tC (.int 1))) (tCons (tC (.int 36)) tNil)))))) tNever tNext)) (tSeq (tAsg tDNewK (gName 2)) (tSeq (tFor (iAny K (mVar 0)) (gName 1) (tSeq (mIfS (mTest (mDIn false (tOp (mIx K) (mVar 1) (tC (.int 1))) (mVar 2))) tNever tNext) (mDPut (mVar 2) (tOp (mIx K) (mVar 1) (tC (.int 1))) (mVar 1)))) (tRet (tComp ["column"] [("leading",2)] (iAny K (tCB (mSortDk 64 K) (tCons (mVar 2) tNil))) (gName 0) tTrue (mDGet (mVar 1) (mVar 0)))))))
def zh8_ (K:Fgg):TS:=(tSeq (tTryHE (fun D _ σ H=>(tAsg (tCall (zcO_ K) [] E0 (tCons (mVar 0) tNil)) (gName 1)) D σ H) tNext tH0) (tRet (tOp (mEqK K) (mVar 1) (mVar 0))))
def zdp_ (K:Fgg) (E:XK):TS:=(tSeq (tDrop (tCall (zv_ K) [] E (tCons (mAndV (tCall (zap_ K) [] E0 (tCons (mFld (gA K "Asking") (mVar 0) "breaks") tNil)) (mChain mLe mLe (tC (.int 0)) (mFld (gA K "Asking") (mVar 0) "breaks") (tC (.int 3)))) (tCons (tC (tx [116,104,101,114,101,32,97,114,101,32,48,32,116,111,32,51,32,98,114,101,97,107,115])) tNil)))) (tSeq (tDrop (tCall (zv_ K) [] E (tCons (tOp mLe (mFld (gA K "Asking") (mVar 0) "breaks") (tCB (mLen K) (tCons (mFld (gA K "Asking") (mVar 0) "order") tNil))) (tCons (tC (tx [116,104,101,114,101,32,97,114,101,32,110,111,32,109,111,114,101,32,98,114,101,97,107,115,32,116,104,97,110,32,107,101,121,115])) tNil)))) (tSeq (tDrop (tCall (zv_ K) [] E (tCons (mAndV (tCall (zap_ K) [] E0 (tCons (mFld (gA K "Asking") (mVar 0) "figures") tNil)) (mChain mLe mLe (tC (.int 1)) (mFld (gA K "Asking") (mVar 0) "figures") (tC (.int 12)))) (tCons (tC (tx [119,104,101,101,108,115,32,104,97,118,101,32,49,32,116,111,32,49,50,32,102,105,103,117,114,101,115])) tNil)))) (tDrop (tCall (zv_ K) [] E (tCons (tCall (zeh_ K) [] E0 (tCons (mFld (gA K "Asking") (mVar 0) "board") tNil)) (tCons (tC (tx [116,104,101,32,98,111,97,114,100,32,105,115,32,110,111,110,101,44,32,111,114,32,110,111,116,32,115,111,114,116,101,100])) tNil)))))))
def zfv_ (K:Fgg):TS:=(tSeq (tAsg (tOp mAdd (tOp mAdd (tComp ["pick"] [] (iAny K (mFld (gA K "Asking") (mVar 0) "picks")) (gName 0) tTrue (tOp (mIx K) (mVar 0) (tC (.int 0)))) (tSl (mSl K) (tCall (z9_ K) [] E0 (tCons (mVar 0) tNil)) tNoPart (mPart (tC (.int 1))))) (mFld (gA K "Asking") (mVar 0) "order")) (gName 2)) (tSeq (tFor (iEnumL K (tCons (mFld (gA K "Asking") (mVar 0) "works") tNil)) (gTupM K 2 (gConsM (gName 3) (gConsM (gName 4) gNilM))) (tSeq (mIfS (mTest (tOp (mNeK K) (mVar 3) (mVar 1))) (tDrop (tBM K "list" rAppend (mVar 2) (tCons (tOp (mIx K) (mVar 4) (tC (.int 0))) tNil))) tNext) (mIfS (mTest (tOp mLe (mVar 3) (mVar 1))) (tDrop (tBM K "list" rExtend (mVar 2) (tCons (tLst (tCons (tOp (mIx K) (mVar 4) (tC (.int 1))) (tCons (tOp (mIx K) (mVar 4) (tC (.int 3))) tNil))) tNil))) tNext))) (tRet (mVar 2))))
def zgF_ (K:Fgg):TS:=(tRet (mOrV (tOp mLt (tOp (mIx K) (mVar 0) (tC (.int 1))) (tOp (mIx K) (mVar 1) (tC (.int 0)))) (tOp mLt (tOp (mIx K) (mVar 1) (tC (.int 1))) (tOp (mIx K) (mVar 0) (tC (.int 0))))))
def zft_ (K:Fgg) (E:XK):TS:=(tFor (iEnumL K (tCons (mFld (gA K "Asking") (mVar 0) "works") tNil)) (gTupM K 2 (gConsM (gName 1) (gConsM (gName 2) gNilM))) (tSeq (tDrop (tCall (zv_ K) [] E (tCons (tOp (mIn K false) (tOp (mIx K) (mVar 2) (tC (.int 2))) (tC (.ref (gA K "WORK_WORDS")))) (tCons (tC (tx [97,32,119,111,114,107,32,104,97,115,32,111,110,101,32,111,102,32,116,104,114,101,101,32,119,111,114,100,115])) tNil)))) (tFor (iAny K (tCall (zcc_ K) [] E0 (tCons (mVar 0) (tCons (mVar 1) tNil)))) (gName 3) (tDrop (tCall (zv_ K) [] E (tCons (tCall (zdC_ K) [] E0 (tCons (tOp (mIx K) (mVar 2) (tC (.int 0))) (tCons (mVar 3) tNil))) (tCons (tC (tx [97,32,119,111,114,107,32,112,117,110,99,104,101,115,32,105,110,116,111,32,97,32,102,105,101,108,100,32,116,104,97,116,32,105,116,32,109,117,115,116,32,98,101,32,97,112,97,114,116,32,102,114,111,109])) tNil)))))))
def zhF_ (K:Fgg):TS:=(tRet (mAndV (tCall (zap_ K) [] E0 (tCons (mVar 0) tNil)) (mAndV (tCall (zap_ K) [] E0 (tCons (mVar 1) tNil)) (mChain3 mLe mLe mLe (tC (.int 1)) (mVar 0) (mVar 1) (tC (.int 36))))))
def zeG_ (K:Fgg) (E:XK):TS:=(tSeq (tDrop (tCall (zbx_ K) [] E (tCons (mVar 0) tNil))) (tSeq (tDrop (tCall (zau_ K) [] E (tCons (mVar 0) tNil))) (tSeq (tDrop (tCall (zco_ K) [] E (tCons (mVar 0) tNil))) (tSeq (tFor (iAny K (tCall (zcL_ K) [] E0 (tCons (mVar 0) tNil))) (gName 1) (tDrop (tCall (zv_ K) [] E (tCons (tCall (zd4_ K) [] E0 (tCons (tOp (mIx K) (mVar 1) (tC (.int 0))) (tCons (tOp (mIx K) (mVar 1) (tC (.int 1))) tNil))) (tCons (tC (tx [97,32,102,105,101,108,100,32,103,111,101,115,32,102,114,111,109,32,97,32,102,105,114,115,116,32,116,111,32,97,32,108,97,115,116,32,99,111,108,117,109,110,44,32,102,114,111,109,32,49,32,116,111,32,51,54])) tNil))))) (tSeq (tDrop (tCall (zcb_ K) [] E (tCons (mVar 0) tNil))) (tSeq (tDrop (tCall (zah_ K) [] E (tCons (mVar 0) tNil))) (tSeq (tDrop (tCall (za9_ K) [] E (tCons (mVar 0) tNil))) (tDrop (tCall (zca_ K) [] E (tCons (mVar 0) tNil))))))))))
def zc1_ (K:Fgg) (E:XK):TS:=(tSeq (mSFld (gA K "Asking") (mVar 0) (mVar 1) "deck") (tSeq (mSFld (gA K "Asking") (mVar 0) (tCB (mList K) (tCons (mVar 2) tNil)) "picks") (tSeq (mSFld (gA K "Asking") (mVar 0) (mVar 3) "middle") (tSeq (mSFld (gA K "Asking") (mVar 0) (tCB (mList K) (tCons (mVar 4) tNil)) "order") (tSeq (mSFld (gA K "Asking") (mVar 0) (tCall (zbo_ K) [] E0 (tCons (mVar 5) tNil)) "works") (tSeq (mSFld (gA K "Asking") (mVar 0) (mVar 6) "breaks") (tSeq (mSFld (gA K "Asking") (mVar 0) (tCall (zaz_ K) [] E0 (tCons (mVar 7) tNil)) "sums") (tSeq (mSFld (gA K "Asking") (mVar 0) (mVar 8) "figures") (tSeq (mSFld (gA K "Asking") (mVar 0) (tCall (zaz_ K) [] E0 (tCons (mVar 9) tNil)) "board") (tDrop (tCall (zbT_ K) [] E (tCons (mVar 0) tNil))))))))))))
def zg7_ (K:Fgg):TS:=(tSeq (tAsg (tLst (tCons (tCB (mIsaX K) (tCons (mVar 0) (tCons (tC (.ref (gA K "NoCard"))) tNil))) (tCons (tCB (mIsaX K) (tCons (mVar 0) (tCons (tC (.ref (gA K "NoField"))) tNil))) (tCons (tCB (mIsaX K) (tCons (mVar 0) (tCons (tC (.ref (gA K "NoOrder"))) tNil))) (tCons (tCB (mIsaX K) (tCons (mVar 0) (tCons (tC (.ref (gA K "NoBoard"))) tNil))) tNil))))) (gName 1)) (tSeq (tAsg (tOp mAdd (mVar 1) (tLst (tCons (tCB (mIsaX K) (tCons (mVar 0) (tCons (tC (.ref (gA K "Meet"))) tNil))) (tCons (tCB (mIsaX K) (tCons (mVar 0) (tCons (tC (.ref (gA K "NoTray"))) tNil))) (tCons (tCB (mIsaX K) (tCons (mVar 0) (tCons (tC (.ref (gA K "NoPlan"))) tNil))) (tCons (tCB (mIsaX K) (tCons (mVar 0) (tCons (tC (.ref (gA K "NoRow"))) tNil))) tNil)))))) (gName 1)) (tRet (mAndV (tCB (mIsaX K) (tCons (mVar 0) (tCons (tC (.ref (gA K "ShopError"))) tNil))) (mAndV (tCB (mIsaX K) (tCons (mVar 0) (tCons (tC (.ty "ValueError")) tNil))) (tOp (mIn K true) (tC (.bl true)) (mVar 1)))))))
def zfs_ (K:Fgg):TS:=(tSeq (tAsg (tC (.bl false)) (gName 2)) (tSeq (tAsg (tC (.bl false)) (gName 3)) (tSeq (tTryH (tDropK (gA K "Asking") (zaV_ K) [(.int 0),.non,(.int 6),.non] (tCons (tOp (mIx K) (mVar 0) (tC (.int 0))) (tCons (tOp (mIx K) (mVar 0) (tC (.int 1))) (tCons (tOp (mIx K) (mVar 0) (tC (.int 2))) (tCons (tOp (mIx K) (mVar 0) (tC (.int 3))) (tCons (mVar 1) tNil)))))) (tHAs K (gA K "NoAsking") 4 (tSeq (tAsg (tC (.bl true)) (gName 2)) (tAsg (tCall (zdf_ K) [] E0 (tCons (mVar 4) tNil)) (gName 3))) tH0)) (tSeq (mIfS (mAnd (mTrL K (mVar 2)) (tNot (mTrL K (mVar 3)))) tNever tNext) (tRet (mVar 2))))))
def t_law (K:Fgg):TS:=(tSeq (tAsg (tCall (zdb_ K) [] E0 (tCons (mVar 0) tNil)) (gName 1)) (tSeq (tAsg (tCB (mList K) (tCons (tOp (mIx K) (mVar 1) (tC (.int 4))) tNil)) (gName 2)) (tSeq (tAsg (mNotV (tCall (zcz_ K) [] E0 (tCons (mVar 1) tNil))) (gName 3)) (tSeq (mIfS (mOr (mTest (tOp (mNeK K) (tCall (z6_ K) [] E0 (tCons (mVar 1) (tCons (mVar 2) tNil))) (mVar 3))) (mTest (tOp (mNeK K) (mVar 2) (tOp (mIx K) (mVar 1) (tC (.int 4)))))) (tRet (tC (.bl false))) tNext) (tSeq (mIfS (mTest (tOp mIsNot (tCall (z6_ K) [] E0 (tCons (mVar 1) (tCons (tLst tNil) tNil))) (tC (.bl false)))) (tRet (tC (.bl false))) tNext) (tSeq (tFor (mRng1 (tCons (tCB (mLen K) (tCons (mVar 2) tNil)) tNil)) (gName 4) (tSeq (tAsg (tOp mAdd (tSl (mSl K) (mVar 1) tNoPart (mPart (tC (.int 4)))) (tLst (tCons (tOp mAdd (tSl (mSl K) (tOp (mIx K) (mVar 1) (tC (.int 4))) tNoPart (mPart (mVar 4))) (tSl (mSl K) (tOp (mIx K) (mVar 1) (tC (.int 4))) (mPart (tOp mAdd (mVar 4) (tC (.int 1)))) tNoPart)) tNil))) (gName 5)) (mIfS (mTest (tOp (mNeK K) (tCall (z6_ K) [] E0 (tCons (mVar 5) (tCons (tOp (mIx K) (mVar 5) (tC (.int 4))) tNil))) (mNotV (tCall (zcz_ K) [] E0 (tCons (mVar 5) tNil))))) (tRet (tC (.bl false))) tNext))) (tRet (tOp (mEqK K) (tCall (z6_ K) [] E0 (tCons (mVar 1) (tCons (mVar 2) tNil))) (mVar 3)))))))))
abbrev zcR_ (P:Program) (w:World) (K:Fgg) (mg:Str→Option Value) (base:Heap):Prop:=Gd P w K mg base CX0 1 "_law_cell_at" ["_law_script", "_law_k"] (zcn_ K)
abbrev zed_ (P:Program) (w:World) (K:Fgg) (mg:Str→Option Value) (base:Heap):Prop:=Gd P w K mg base CX0 1 "_law_field" ["_law_number"] (za1_ K)
abbrev zd7_ (P:Program) (w:World) (K:Fgg) (mg:Str→Option Value) (base:Heap):Prop:=Gd P w K mg base CX0 2 "_law_parts" ["_law_script"] (zdb_ K)
abbrev zel_ (P:Program) (w:World) (K:Fgg) (mg:Str→Option Value) (base:Heap):Prop:=Gd P w K mg base CX0 1 "_law_share" ["_law_one", "_law_other"] (za2_ K)
abbrev zfe_ (P:Program) (w:World) (K:Fgg) (mg:Str→Option Value) (base:Heap):Prop:=Gd P w K mg base CX0 2 "_law_fits" ["_law_parts_here"] (zcz_ K)
abbrev zbV_ (P:Program) (w:World) (K:Fgg) (mg:Str→Option Value) (base:Heap):Prop:=Gd P w K mg base CX0 1 "own_list" ["values"] (zbo_ K)
abbrev zbL_ (P:Program) (w:World) (K:Fgg) (mg:Str→Option Value) (base:Heap):Prop:=Gd P w K mg base CX0 1 "own_list" ["values"] (zaz_ K)
abbrev zan_ (P:Program) (w:World) (K:Fgg) (mg:Str→Option Value) (base:Heap):Prop:=Gd P w K mg base (CXx P w) 1 "ask_for" ["holds", "words"] (zv_ K)
abbrev zbS_ (P:Program) (w:World) (K:Fgg) (mg:Str→Option Value) (base:Heap):Prop:=Gd P w K mg base (CXx P w) 2 "check_lengths" Qn1 (zbx_ K)
abbrev zcd_ (P:Program) (w:World) (K:Fgg) (mg:Str→Option Value) (base:Heap):Prop:=Gd P w K mg base CX0 1 "mates_by" Qn1 (zaM_ K)
abbrev zaI_ (P:Program) (w:World) (K:Fgg) (mg:Str→Option Value) (base:Heap):Prop:=Gd P w K mg base (CXx P w) 2 "check_middle_word" Qn1 (zau_ K)
abbrev ze8_ (P:Program) (w:World) (K:Fgg) (mg:Str→Option Value) (base:Heap):Prop:=Gd P w K mg base CX0 2 "names_of" Qn1 (zem_ K)
abbrev zgh_ (P:Program) (w:World) (K:Fgg) (mg:Str→Option Value) (base:Heap):Prop:=Gd P w K mg base CX0 1 "is_name" ["text"] (ze2_ K)
abbrev zcM_ (P:Program) (w:World) (K:Fgg) (mg:Str→Option Value) (base:Heap):Prop:=Gd P w K mg base (CXx P w) 3 "check_names" Qn1 (zco_ K)
abbrev zad_ (P:Program) (w:World) (K:Fgg) (mg:Str→Option Value) (base:Heap):Prop:=Gd P w K mg base CX0 2 "middle_fields" Qn1 (z9_ K)
abbrev zdy_ (P:Program) (w:World) (K:Fgg) (mg:Str→Option Value) (base:Heap):Prop:=Gd P w K mg base CX0 3 "fields_due" Qn1 (zcL_ K)
abbrev zd8_ (P:Program) (w:World) (K:Fgg) (mg:Str→Option Value) (base:Heap):Prop:=Gd P w K mg base CX0 1 "are_signs" ["text"] (zdH_ K)
abbrev zcv_ (P:Program) (w:World) (K:Fgg) (mg:Str→Option Value) (base:Heap):Prop:=Gd P w K mg base CX0 1 "picked_signs" ["row"] (zbU_ K)
abbrev zdA_ (P:Program) (w:World) (K:Fgg) (mg:Str→Option Value) (base:Heap):Prop:=Gd P w K mg base CX0 1 "width_of" ["field"] (zbF_ K)
abbrev zdl_ (P:Program) (w:World) (K:Fgg) (mg:Str→Option Value) (base:Heap):Prop:=Gd P w K mg base CX0 1 "columns_of" ["field"] (zcN_ K)
abbrev zcQ_ (P:Program) (w:World) (K:Fgg) (mg:Str→Option Value) (base:Heap):Prop:=Gd P w K mg base CX0 2 "pick_passes" Qn1 (zci_ K)
abbrev zcU_ (P:Program) (w:World) (K:Fgg) (mg:Str→Option Value) (base:Heap):Prop:=Gd P w K mg base (CXx P w) 3 "check_picks" Qn1 (zcb_ K)
abbrev zaj_ (P:Program) (w:World) (K:Fgg) (mg:Str→Option Value) (base:Heap):Prop:=Gd P w K mg base (CXx P w) 3 "check_middle_widths" Qn1 (zah_ K)
abbrev zcm_ (P:Program) (w:World) (K:Fgg) (mg:Str→Option Value) (base:Heap):Prop:=Gd P w K mg base CX0 1 "is_whole" ["value"] (zap_ K)
abbrev zea_ (P:Program) (w:World) (K:Fgg) (mg:Str→Option Value) (base:Heap):Prop:=Gd P w K mg base CX0 2 "is_column" ["value", "most"] (zb2_ K)
abbrev zdG_ (P:Program) (w:World) (K:Fgg) (mg:Str→Option Value) (base:Heap):Prop:=Gd P w K mg base CX0 3 "make_board" ["wires"] (zcO_ K)
abbrev ze4_ (P:Program) (w:World) (K:Fgg) (mg:Str→Option Value) (base:Heap):Prop:=Gd P w K mg base CX0 4 "is_board" ["wires"] (zeh_ K)
abbrev zbk_ (P:Program) (w:World) (K:Fgg) (mg:Str→Option Value) (base:Heap):Prop:=Gd P w K mg base (CXx P w) 5 "check_counting" Qn1 (za9_ K)
abbrev zcP_ (P:Program) (w:World) (K:Fgg) (mg:Str→Option Value) (base:Heap):Prop:=Gd P w K mg base CX0 3 "fields_kept" ["asking", "place"] (zcc_ K)
abbrev zd9_ (P:Program) (w:World) (K:Fgg) (mg:Str→Option Value) (base:Heap):Prop:=Gd P w K mg base CX0 1 "are_apart" ["one", "other"] (zdC_ K)
abbrev zcS_ (P:Program) (w:World) (K:Fgg) (mg:Str→Option Value) (base:Heap):Prop:=Gd P w K mg base (CXx P w) 4 "check_works" Qn1 (zca_ K)
abbrev ze6_ (P:Program) (w:World) (K:Fgg) (mg:Str→Option Value) (base:Heap):Prop:=Gd P w K mg base CX0 2 "is_field" ["first", "last"] (zd4_ K)
abbrev zb8_ (P:Program) (w:World) (K:Fgg) (mg:Str→Option Value) (base:Heap):Prop:=Gd P w K mg base (CXx P w) 6 "check_asking" Qn1 (zbT_ K)
abbrev za8_ (P:Program) (w:World) (K:Fgg) (mg:Str→Option Value) (base:Heap):Prop:=GkD P w K mg base (CXx P w) 7 "Asking" (gA K "Asking") ["self", "deck", "picks", "middle", "order", "works", "breaks", "sums", "figures", "board"] [(.int 0),.non,(.int 6),.non] (zaV_ K)
abbrev zec_ (P:Program) (w:World) (K:Fgg) (mg:Str→Option Value) (base:Heap):Prop:=GdN P w K mg base 1 "_law_kinds" ["_law_e"] (zdf_ K)
abbrev zcZ_ (P:Program) (w:World) (K:Fgg) (mg:Str→Option Value) (base:Heap):Prop:=Gd P w K mg base CX0 9 "_law_refused" ["_law_parts_here", "_law_works"] (z6_ K)
end K42
namespace K42
open PySem PySem.Spec PyProof.Rows L2
open Mo renaming bind→Mb,ok→Mq
open Sl renaming fz→Zf,dead→Zd,ow→Zo
structure Ek (K:Fgg):Prop where
 w0:Fc K "Asking"
 a0:Fa K "Asking" "picks"
 a1:Fa K "Asking" "order"
 a2:Fa K "Asking" "works"
 a3:Fa K "Asking" "sums"
 a4:Fa K "Asking" "middle"
 a5:Fa K "Asking" "deck"
 a6:Fa K "Asking" "breaks"
 a7:Fa K "Asking" "figures"
 a8:Fa K "Asking" "board"
 f0:Fg K "_law_cell_at" ze3_
 f1:Fg K "_law_field" zgH_
 f2:Fg K "_law_parts" zgL_
 f3:Fg K "_law_share" zgz_
 f4:Fg K "_law_fits" zh1_
 f5:Fg K "own_list" zd3_
 f6:Fg K "own_list" zdR_
 f7:Fg K "ask_for" zi5_
 f8:Fg K "check_lengths" zdS_
 f9:Fg K "mates_by" zhx_
 f10:Fg K "check_middle_word" zb9_
 f11:Fg K "names_of" zhB_
 f12:Fg K "is_name" ziZ_
 f13:Fg K "check_names" zfp_
 f14:Fg K "middle_fields" zdZ_
 f15:Fg K "fields_due" zfz_
 f16:Fg K "are_signs" zgS_
 f17:Fg K "picked_signs" zeE_
 f18:Fg K "width_of" zhY_
 f19:Fg K "columns_of" zfR_
 f20:Fg K "pick_passes" zeU_
 f21:Fg K "check_picks" zfn_
 f22:Fg K "check_middle_widths" zbG_
 f23:Fg K "is_whole" zhm_
 f24:Fg K "is_column" zgM_
 f25:Fg K "make_board" zfZ_
 f26:Fg K "is_board" zhw_
 f27:Fg K "check_counting" zdm_
 f28:Fg K "fields_kept" zfk_
 f29:Fg K "are_apart" zgW_
 f30:Fg K "check_works" zeR_
 f31:Fg K "is_field" zit_
 f32:Fg K "check_asking" zeC_
 f33:FmD K "Asking" "__init__" "Asking.__init__" zc2_ [.non,(.int 0),.non,(.int 6),.non]
 f34:Fg K "_law_kinds" zgB_
 f35:Fg K "_law_refused" zeV_
 f36:Fg K "law" znk_
 t0:FtT K "MATING_WORDS" [[109,97,116,101,115],[119,105,116,104,111,117,116]]
 t1:FtT K "WORK_WORDS" [[112,108,117,115],[108,101,115,115],[116,105,109,101,115]]
 c0:Fv K "MOST_PICKS" (.int 8)
 c1:Fv K "MOST_KEYS" (.int 6)
 c2:Fv K "MOST_WORKS" (.int 4)
 c3:Fv K "MOST_SUMS" (.int 4)
 c4:Fv K "LONGEST_NAME" (.int 8)
 c5:Fv K "SMALL_LETTERS" (tx [97,98,99,100,101,102,103,104,105,106,107,108,109,110,111,112,113,114,115,116,117,118,119,120,121,122])
 c6:Fv K "SIGNS" (tx SG)
 c7:Fv K "CARD_WIDTH" (.int 40)
 c8:Fv K "BODY_WIDTH" (.int 36)
 c9:Fv K "MOST_BREAKS" (.int 3)
 c10:Fv K "MOST_FIGURES" (.int 12)
 b0:Fb K "len"
 b1:Fb K "min"
 b2:Fb K "range"
 b3:Fb K "list"
 b4:Fb K "all"
 b5:Fb K "zip"
 b6:Fb K "isinstance"
 b7:Fb K "int"
 b8:Fb K "bool"
 b9:Fb K "sorted"
 b10:Fb K "enumerate"
 b11:Fb K "ValueError"
 k0:Fk K "NoAsking"
 k1:Fk K "MATING_WORDS"
 k2:Fk K "WORK_WORDS"
 k3:Fk K "NoBoard"
 k4:Fk K "NoOrder"
 k5:Fk K "NoField"
 k6:Fk K "NoCard"
 k7:Fk K "NoRow"
 k8:Fk K "NoPlan"
 k9:Fk K "NoTray"
 k10:Fk K "Meet"
 k11:Fk K "ShopError"
 u0:Fe1 K "NoAsking" fun v_NoAsking=>excK K v_NoAsking=true
 u1:Fe1 K "NoAsking" fun v_NoAsking=>catK K v_NoAsking v_NoAsking=true
 u2:Fe2 K "NoAsking" "NoBoard" fun v_NoAsking v_NoBoard=>isaK K v_NoAsking (.ref v_NoBoard)=some false
 u3:Fe2 K "NoAsking" "NoOrder" fun v_NoAsking v_NoOrder=>isaK K v_NoAsking (.ref v_NoOrder)=some false
 u4:Fe2 K "NoAsking" "NoField" fun v_NoAsking v_NoField=>isaK K v_NoAsking (.ref v_NoField)=some false
 u5:Fe2 K "NoAsking" "NoCard" fun v_NoAsking v_NoCard=>isaK K v_NoAsking (.ref v_NoCard)=some false
 u6:Fe2 K "NoAsking" "NoRow" fun v_NoAsking v_NoRow=>isaK K v_NoAsking (.ref v_NoRow)=some false
 u7:Fe2 K "NoAsking" "NoPlan" fun v_NoAsking v_NoPlan=>isaK K v_NoAsking (.ref v_NoPlan)=some false
 u8:Fe2 K "NoAsking" "NoTray" fun v_NoAsking v_NoTray=>isaK K v_NoAsking (.ref v_NoTray)=some false
 u9:Fe2 K "NoAsking" "Meet" fun v_NoAsking v_Meet=>isaK K v_NoAsking (.ref v_Meet)=some false
 u10:Fe2 K "NoAsking" "ShopError" fun v_NoAsking v_ShopError=>isaK K v_NoAsking (.ref v_ShopError)=some true
 u11:Fe1 K "NoAsking" fun v_NoAsking=>isaK K v_NoAsking (.type "ValueError")=some true
structure En (K:Fgg) (mg:Str→Option Value):Prop extends Ek K where
 m:Mgo K mg
section
variable {K:Fgg}{mg:Str→Option Value}
theorem En.fx (e:En K mg):Fx K:=⟨e.u0.g,e.u1.g,e.u2.g,e.u3.g,e.u4.g,e.u5.g,e.u6.g,e.u7.g,e.u8.g,e.u9.g,e.u10.g,e.u11.g⟩
end
section
variable {P:Program}{w:World}{K:Fgg}{mg:Str→Option Value}{base:Heap}
theorem zev_ (e:En K mg):zcR_ P w K mg base :=
 zbz_ e.m e.f0 (okC (N:=["_law_script", "_law_k"]) (C:=(csCons (tySc K) (csLast tyInt))) (O:=(owF tyInt)) (t:=fun E=>ze7_ K) (g:=fun c=>zbs_ c.1 c.2) 2 0 (zX_ zs_) (fun _ _ _ _ _ _ E nd hr=>(zh_ (zaw_ (zN_ zg4_ (za_ 1) (zbO_ zF_ (e.m.gb e.b0) (zb_ (za_ 0) zi_))) (zk_ (zP_ (zG_ ix_M (za_ 0) (za_ 1) (fun _ _=>rfl)))) zQ_) (zk_ (zP_ zj_)))) fun c E=>at_ [(Zf (tySc K) c.1),(Zf tyInt c.2)]
 (zbB_ (LS:=(fun _:Unit=>[(Zf (tySc K) c.1),(Zf tyInt c.2)])) (s_if (z2_ (zB_ zgA_ (zc_ 1 rfl) (zd5_ zlc_ (ze_ (zc_ 0 rfl))))) (zb4_ (zal_ zf_) (EvF.ow (zB_ zmE_ (zc_ 0 rfl) (zc_ 1 rfl)))) (zq_ (.same (.same .nil)))) fun _=>(at_ [(Zf (tySc K) c.1),(Zf tyInt c.2)] (zb4_ (zal_ zf_) (EvF.ow (zu_ 0))))))
theorem zf4_ (e:En K mg):zed_ P w K mg base :=
 zbz_ e.m e.f1 (okC (N:=["_law_number", "_law_first"]) (C:=(csLast tyInt)) (O:=(owF Qq0)) (t:=fun E=>zgJ_ K) (g:=fun c=>zcG_ c) 1 1 zs_ (fun _ _ _ _ _ _ E nd hr=>(zh_ (pst 1 (zas_ z1_ zj_ (zas_ zaW_ (za_ 0) zj_))) (zk_ (zP_ (zdY_ (zb_ (za_ 1) (zb_ (zbO_ (zi8_ rfl) (e.m.gb e.b1) (zb_ zj_ (zb_ (zas_ z1_ (za_ 1) (zas_ zaW_ (zas_ zcT_ (za_ 0) zj_) zj_)) zi_))) zi_))))))) fun c E=>at_ [(Zf tyInt c),Zd]
 (zfJ_ (i:=1) rfl zf_ (zB_ zbb_ (zu_ 1) (zB_ zaT_ (zc_ 0 rfl) (zu_ 36))) fun v1'=>(at_ [(Zf tyInt c),(Zf tyInt v1')] (zb4_ (zal_ (zn_ (zd_ zf_ (zg_ zf_)))) (EvF.ow (zeu_ (zm_ zr_) (zl_ (zc_ 1 rfl) (ze_ (zd5_ znP_ (zl_ (zu_ 36) (ze_ (zB_ zbb_ (zc_ 1 rfl) (zB_ zaT_ (zB_ zbl_ (zc_ 0 rfl) (zu_ 36)) (zu_ 3))))))))))))))
theorem zfH_ (e:En K mg) (g0:zcR_ P w K mg base) (g1:zed_ P w K mg base):zd7_ P w K mg base :=
 zbz_ e.m e.f2 (okC (N:=["_law_script", "_law_name", "_law_first", "_law_field_here", "_law_wide", "_law_middle", "_law_picks", "_law_order", "_law_works", "_law_cell", "_law_number", "_law_one", "_law_other"]) (C:=(csLast (tySc K))) (O:=(owF (tyH (csCons tyStr (csCons (tyL Qq5) (csCons (tyOpt (tyU Qq6 Qq2)) Qq7)))))) (t:=fun E=>zgY_ K) (g:=fun c=>zcy_ c) 1 12 zs_ (fun _ _ _ _ _ _ E nd hr=>(zh_ (pst 1 (zV_ (l:=[116,114,97,121]))) (zh_ (pst 2 (zo_ g0 (hm hr) (zb_ (za_ 0) (zb_ zj_ zi_)))) (zh_ (pst 3 (zdY_ (zb_ (zas_ z1_ zj_ (zas_ zaW_ (zas_ zcT_ (za_ 2) zj_) zj_)) (zb_ (zas_ z1_ (zas_ z1_ zj_ (zas_ zaW_ (zas_ zcT_ (za_ 2) zj_) zj_)) (zas_ zaW_ (zas_ zcT_ (za_ 2) zj_) zj_)) zi_)))) (zh_ (pst 4 (zas_ zir_ (zG_ ix_M (za_ 3) zj_ (fun _ _=>rfl)) (zG_ ix_M (za_ 3) zj_ (fun _ _=>rfl)))) (zh_ (pst 5 (zaR_ (zb_ zdQ_ (zb_ (zdY_ (zb_ (zV_ (l:=[102,105,114,115,116])) (zb_ (za_ 3) zi_))) (zb_ (zdY_ (zb_ (zV_ (l:=[109,97,116,101,115])) (zb_ (zV_ (l:=[98,111,120])) (zb_ (za_ 3) (zb_ (zdY_ (zb_ zj_ (zb_ (zas_ z1_ zj_ (za_ 4)) zi_))) zi_))))) zi_))))) (zh_ (zx_ (ziu_ zbK_ zI_ zJ_ zaC_ (za_ 5) (zb_ (zdY_ (zb_ (zV_ (l:=[119,105,116,104,111,117,116])) (zb_ (zV_ (l:=[98])) (zb_ (za_ 3) (zb_ (zdY_ (zb_ zj_ (zb_ (zas_ z1_ zj_ (za_ 4)) zi_))) zi_))))) zi_))) (zh_ (pst 6 (zaR_ zi_)) (zh_ (pst 7 (zaR_ zi_)) (zh_ (pst 8 (zaR_ zi_)) (zh_ (zbr_ PassesOwn.never rfl (zbd_ (zcA_ sl_M (za_ 0) zej_ (po_M zj_))) (pgn 9) (zh_ (pst 10 (zas_ zaW_ (zas_ zjM_ (zas_ zaW_ (za_ 9) zj_) zj_) zj_)) (zh_ (pst 3 (zo_ g1 (hm hr) (zb_ (zas_ zcT_ (za_ 10) zj_) zi_))) (zh_ (zaw_ (PW.pt (zdg_ (zN_ (zds_ hr.u60) (zas_ zaW_ (za_ 10) zj_) zj_) (zdd_ (zN_ zg4_ (zbO_ zF_ (e.m.gb e.b0) (zb_ (za_ 6) zi_)) zj_)))) (zk_ (zx_ (ziu_ zbK_ zI_ zJ_ zaC_ (za_ 6) (zb_ (zdY_ (zb_ (za_ 3) (zb_ (zas_ zjM_ (zV_ (l:=[65])) (zas_ z1_ (zas_ zir_ (zG_ ix_M (za_ 3) zj_ (fun _ _=>rfl)) (zG_ ix_M (za_ 3) zj_ (fun _ _=>rfl))) zj_)) zi_))) zi_)))) zQ_) (zh_ (zaw_ (PW.pt (zdg_ (zN_ (zds_ hr.u60) (zas_ zaW_ (za_ 10) zj_) zj_) (zdd_ (zN_ zg4_ (zbO_ zF_ (e.m.gb e.b0) (zb_ (za_ 7) zi_)) zj_)))) (zk_ (zx_ (ziu_ zbK_ zI_ zJ_ zaC_ (za_ 7) (zb_ (za_ 3) zi_)))) zQ_) (zk_ (zaw_ (PW.pt (zdg_ (zN_ zmj_ (zas_ zaW_ (za_ 10) zj_) zj_) (zdd_ (zN_ zg4_ (zbO_ zF_ (e.m.gb e.b0) (zb_ (za_ 8) zi_)) (zas_ z1_ zj_ (zas_ zaW_ (za_ 2) zj_)))))) (zh_ (pst 11 (zo_ g1 (hm hr) (zb_ (zas_ zcT_ (za_ 10) zj_) zi_))) (zh_ (pst 12 (zo_ g1 (hm hr) (zb_ (zas_ zcT_ (za_ 10) zj_) zi_))) (zk_ (zx_ (ziu_ zbK_ zI_ zJ_ zaC_ (za_ 8) (zb_ (zdY_ (zb_ (za_ 3) (zb_ (za_ 11) (zb_ (zG_ ix_M (zaR_ (zb_ (zV_ (l:=[112,108,117,115])) (zb_ (zV_ (l:=[108,101,115,115])) (zb_ (zV_ (l:=[116,105,109,101,115])) zi_)))) (zas_ zaW_ (zas_ zcT_ (za_ 10) zj_) zj_) (fun _ _=>rfl)) (zb_ (za_ 12) zi_))))) zi_)))))) zQ_))))))) (zk_ (zP_ (zaR_ (zb_ (za_ 1) (zb_ (za_ 6) (zb_ (zG_ ix_M (za_ 5) (zas_ zaW_ (za_ 2) zj_) (fun _ _=>rfl)) (zb_ (za_ 7) (zb_ (za_ 8) zi_))))))))))))))))))) fun c E=>at_ [(Zf (tySc K) c),Zd,Zd,Zd,Zd,Zd,Zd,Zd,Zd,Zd,Zd,Zd,Zd]
 (zfJ_ (i:=1) rfl zS_ (zU_ [116,114,97,121]) fun y1'=>(at_ [(Zf (tySc K) c),(Zf tyStr y1'),Zd,Zd,Zd,Zd,Zd,Zd,Zd,Zd,Zd,Zd,Zd] (zfJ_ (i:=2) rfl zf_ (zp_ (zl_ (zc_ 0 rfl) (ze_ (zu_ 0)))) fun v2'=>(at_ [(Zf (tySc K) c),(Zf tyStr y1'),(Zf tyInt v2'),Zd,Zd,Zd,Zd,Zd,Zd,Zd,Zd,Zd,Zd] (zfJ_ (i:=3) rfl (zn_ (zd_ zf_ (zg_ zf_))) (zeu_ (zm_ zr_) (zl_ (zB_ zbb_ (zu_ 1) (zB_ zaT_ (zB_ zbl_ (zc_ 2 rfl) (zu_ 4)) (zu_ 35))) (ze_ (zB_ zbb_ (zB_ zbb_ (zu_ 1) (zB_ zaT_ (zB_ zbl_ (zc_ 2 rfl) (zu_ 4)) (zu_ 35))) (zB_ zaT_ (zB_ zbl_ (zc_ 2 rfl) (zu_ 140)) (zu_ 2)))))) fun u6'=>(at_ [(Zf (tySc K) c),(Zf tyStr y1'),(Zf tyInt v2'),(Zf Qq0 u6'),Zd,Zd,Zd,Zd,Zd,Zd,Zd,Zd,Zd] (zfJ_ (i:=4) rfl zf_ (zB_ zhr_ (zC_ (i:=1) (at_s zH_) (zc_ 3 rfl)) (zC_ (i:=0) at_0 (zc_ 3 rfl))) fun w27=>(at_ [(Zf (tySc K) c),(Zf tyStr y1'),(Zf tyInt v2'),(Zf Qq0 u6'),(Zf tyInt w27),Zd,Zd,Zd,Zd,Zd,Zd,Zd,Zd] (zbI_ (i:=5) rfl (zaf_ (zib_ (znE_ (zn_ (zd_ zS_ (zg_ (zn_ (zd_ zf_ (zg_ zf_)))))) (zn_ (zd_ zS_ (zd_ zS_ (zd_ (zn_ (zd_ zf_ (zg_ zf_))) (zg_ (zn_ (zd_ zf_ (zg_ zf_))))))))))) (zd1_ (zm_ (zm_ zr_)) (zW_ (zW_ zav_)) (zl_ zjJ_ (zl_ (zfg_ (fun _ _ _=>nn_u (fun _ _ _=>zgO_) (fun _ _ _=>zgO_)) (zn2_ (T':=Qq2) (zeu_ (zm_ zr_) (zl_ (zU_ [102,105,114,115,116]) (ze_ (zc_ 3 rfl)))))) (ze_ (zfg_ (fun _ _ _=>nn_u (fun _ _ _=>zgO_) (fun _ _ _=>zgO_)) (zmg_ (T:=Qq6) (zeu_ (zm_ (zm_ (zm_ zr_))) (zl_ (zU_ [109,97,116,101,115]) (zl_ (zU_ [98,111,120]) (zl_ (zc_ 3 rfl) (ze_ (zeu_ (zm_ zr_) (zl_ (zu_ 30) (ze_ (zB_ zbb_ (zu_ 30) (zc_ 4 rfl)))))))))))))))) fun m32=>(at_ [(Zf (tySc K) c),(Zf tyStr y1'),(Zf tyInt v2'),(Zf Qq0 u6'),(Zf tyInt w27),(Zo (owL (tyOpt (tyU Qq6 Qq2))) m32),Zd,Zd,Zd,Zd,Zd,Zd,Zd] (zbY_ (i:=5) rfl (zib_ (znE_ (zn_ (zd_ zS_ (zg_ (zn_ (zd_ zf_ (zg_ zf_)))))) (zn_ (zd_ zS_ (zd_ zS_ (zd_ (zn_ (zd_ zf_ (zg_ zf_))) (zg_ (zn_ (zd_ zf_ (zg_ zf_)))))))))) (zfg_ (fun _ _ _=>nn_u (fun _ _ _=>zgO_) (fun _ _ _=>zgO_)) (zmg_ (T:=Qq6) (zeu_ (zm_ (zm_ (zm_ zr_))) (zl_ (zU_ [119,105,116,104,111,117,116]) (zl_ (zU_ [98]) (zl_ (zc_ 3 rfl) (ze_ (zeu_ (zm_ zr_) (zl_ (zu_ 1) (ze_ (zB_ zbb_ (zu_ 1) (zc_ 4 rfl)))))))))))) fun a64=>(at_ [(Zf (tySc K) c),(Zf tyStr y1'),(Zf tyInt v2'),(Zf Qq0 u6'),(Zf tyInt w27),(Zo (owL (tyOpt (tyU Qq6 Qq2))) (m32++[a64])),Zd,Zd,Zd,Zd,Zd,Zd,Zd] (zbI_ (i:=6) rfl (zaf_ (zn_ (zd_ (zn_ (zd_ zf_ (zg_ zf_))) (zg_ zS_)))) (zcX_ Qq5) fun p77=>(at_ [(Zf (tySc K) c),(Zf tyStr y1'),(Zf tyInt v2'),(Zf Qq0 u6'),(Zf tyInt w27),(Zo (owL (tyOpt (tyU Qq6 Qq2))) (m32++[a64])),(Zo (owL Qq5) p77),Zd,Zd,Zd,Zd,Zd,Zd] (zbI_ (i:=7) rfl (zaf_ (zn_ (zd_ zf_ (zg_ zf_)))) (zcX_ Qq0) fun o78=>(at_ [(Zf (tySc K) c),(Zf tyStr y1'),(Zf tyInt v2'),(Zf Qq0 u6'),(Zf tyInt w27),(Zo (owL (tyOpt (tyU Qq6 Qq2))) (m32++[a64])),(Zo (owL Qq5) p77),(Zo (owL Qq0) o78),Zd,Zd,Zd,Zd,Zd] (zbI_ (i:=8) rfl (zaf_ (zn_ (zd_ (zn_ (zd_ zf_ (zg_ zf_))) (zd_ (zn_ (zd_ zf_ (zg_ zf_))) (zd_ zS_ (zg_ (zn_ (zd_ zf_ (zg_ zf_))))))))) (zcX_ Qq4) fun w79=>(at_ [(Zf (tySc K) c),(Zf tyStr y1'),(Zf tyInt v2'),(Zf Qq0 u6'),(Zf tyInt w27),(Zo (owL (tyOpt (tyU Qq6 Qq2))) (m32++[a64])),(Zo (owL Qq5) p77),(Zo (owL Qq0) o78),(Zo (owL Qq4) w79),Zd,Zd,Zd,Zd] (zbB_ (LS:=(fun s80:((Int×Int)×((List ((Int×Int)×(List Nat)))×((List (Int×Int))×Qq8)))=>[(Zf (tySc K) c),(Zf tyStr y1'),(Zf tyInt v2'),(Zf Qq0 s80.1),(Zf tyInt w27),(Zo (owL (tyOpt (tyU Qq6 Qq2))) (m32++[a64])),(Zo (owL Qq5) s80.2.1),(Zo (owL Qq0) s80.2.2.1),(Zo (owL Qq4) s80.2.2.2),Zd,Zd,Zd,Zd])) (zbw_ (L':=[(Zf (tySc K) c),(Zf tyStr y1'),(Zf tyInt v2'),(Zf Qq0 u6'),(Zf tyInt w27),(Zo (owL (tyOpt (tyU Qq6 Qq2))) (m32++[a64])),(Zo (owL Qq5) p77),(Zo (owL Qq0) o78),(Zo (owL Qq4) w79),Zd,Zd,Zd,Zd]) (S4 (S4 (S4 (.same .nil)))) (zfx_ (LS:=(fun s80:((Int×Int)×((List ((Int×Int)×(List Nat)))×((List (Int×Int))×Qq8)))=>[(Zf (tySc K) c),(Zf tyStr y1'),(Zf tyInt v2'),(Zf Qq0 s80.1),(Zf tyInt w27),(Zo (owL (tyOpt (tyU Qq6 Qq2))) (m32++[a64])),(Zo (owL Qq5) s80.2.1),(Zo (owL Qq0) s80.2.2.1),(Zo (owL Qq4) s80.2.2.2),Zd,Zd,Zd,Zd])) (s0:=(u6',p77,o78,w79)) (ei_l (EvO.fr (zlz_ (zc_ 0 rfl) zna_ (zm7_ (zu_ 63))))) (zM_ 9) fun s80 x85=>at_ [(Zf (tySc K) c),(Zf tyStr y1'),(Zf tyInt v2'),(Zf Qq0 s80.1),(Zf tyInt w27),(Zo (owL (tyOpt (tyU Qq6 Qq2))) (m32++[a64])),(Zo (owL Qq5) s80.2.1),(Zo (owL Qq0) s80.2.2.1),(Zo (owL Qq4) s80.2.2.2),(Zf tyInt x85),Zd,Zd,Zd] (zfJ_ (i:=10) rfl zf_ (zB_ zaT_ (zB_ zk0_ (zB_ zaT_ (zc_ 9 rfl) (zu_ 2147483647)) (zu_ 48271)) (zu_ 2147483629)) fun n86=>(at_ [(Zf (tySc K) c),(Zf tyStr y1'),(Zf tyInt v2'),(Zf Qq0 s80.1),(Zf tyInt w27),(Zo (owL (tyOpt (tyU Qq6 Qq2))) (m32++[a64])),(Zo (owL Qq5) s80.2.1),(Zo (owL Qq0) s80.2.2.1),(Zo (owL Qq4) s80.2.2.2),(Zf tyInt x85),(Zf tyInt n86),Zd,Zd] (zfJ_ (i:=3) rfl (zn_ (zd_ zf_ (zg_ zf_))) (zp_ (ze_ (zB_ zbl_ (zc_ 10 rfl) (zu_ 4)))) fun f93=>(at_ [(Zf (tySc K) c),(Zf tyStr y1'),(Zf tyInt v2'),(Zf Qq0 f93),(Zf tyInt w27),(Zo (owL (tyOpt (tyU Qq6 Qq2))) (m32++[a64])),(Zo (owL Qq5) s80.2.1),(Zo (owL Qq0) s80.2.2.1),(Zo (owL Qq4) s80.2.2.2),(Zf tyInt x85),(Zf tyInt n86),Zd,Zd] (zbB_ (LS:=(fun s106:(List ((Int×Int)×(List Nat)))=>[(Zf (tySc K) c),(Zf tyStr y1'),(Zf tyInt v2'),(Zf Qq0 f93),(Zf tyInt w27),(Zo (owL (tyOpt (tyU Qq6 Qq2))) (m32++[a64])),(Zo (owL Qq5) s106),(Zo (owL Qq0) s80.2.2.1),(Zo (owL Qq4) s80.2.2.2),(Zf tyInt x85),(Zf tyInt n86),Zd,Zd])) (s_if (zfQ_ (z2_ (zB_ zgC_ (zB_ zaT_ (zc_ 10 rfl) (zu_ 8)) (zu_ 1))) (z2_ (zB_ zgA_ (zd5_ za7_ (ze_ (zhz_ 6 rfl))) (zu_ 2)))) (zbZ_ (zbY_ (i:=6) rfl (zn_ (zd_ (zn_ (zd_ zf_ (zg_ zf_))) (zg_ zS_))) (zeu_ (zm_ zr_) (zl_ (zc_ 3 rfl) (ze_ (zB_ zkZ_ (zU_ [65]) (zB_ zbb_ (zB_ zhr_ (zC_ (i:=1) (at_s zH_) (zc_ 3 rfl)) (zC_ (i:=0) at_0 (zc_ 3 rfl))) (zu_ 1)))))) fun a117=>(at_ [(Zf (tySc K) c),(Zf tyStr y1'),(Zf tyInt v2'),(Zf Qq0 f93),(Zf tyInt w27),(Zo (owL (tyOpt (tyU Qq6 Qq2))) (m32++[a64])),(Zo (owL Qq5) (s80.2.1++[a117])),(Zo (owL Qq0) s80.2.2.1),(Zo (owL Qq4) s80.2.2.2),(Zf tyInt x85),(Zf tyInt n86),Zd,Zd] (zq_ (S4 (S4 (S4 (.same .nil)))))))) (zq_ (S4 (S4 (S4 (.same .nil)))))) fun s106=>(at_ [(Zf (tySc K) c),(Zf tyStr y1'),(Zf tyInt v2'),(Zf Qq0 f93),(Zf tyInt w27),(Zo (owL (tyOpt (tyU Qq6 Qq2))) (m32++[a64])),(Zo (owL Qq5) s106),(Zo (owL Qq0) s80.2.2.1),(Zo (owL Qq4) s80.2.2.2),(Zf tyInt x85),(Zf tyInt n86),Zd,Zd] (zbB_ (LS:=(fun s127:(List (Int×Int))=>[(Zf (tySc K) c),(Zf tyStr y1'),(Zf tyInt v2'),(Zf Qq0 f93),(Zf tyInt w27),(Zo (owL (tyOpt (tyU Qq6 Qq2))) (m32++[a64])),(Zo (owL Qq5) s106),(Zo (owL Qq0) s127),(Zo (owL Qq4) s80.2.2.2),(Zf tyInt x85),(Zf tyInt n86),Zd,Zd])) (s_if (zfQ_ (z2_ (zB_ zgC_ (zB_ zaT_ (zc_ 10 rfl) (zu_ 8)) (zu_ 5))) (z2_ (zB_ zgA_ (zd5_ za7_ (ze_ (zhz_ 7 rfl))) (zu_ 2)))) (zbZ_ (zbY_ (i:=7) rfl (zn_ (zd_ zf_ (zg_ zf_))) (zc_ 3 rfl) fun a128=>(at_ [(Zf (tySc K) c),(Zf tyStr y1'),(Zf tyInt v2'),(Zf Qq0 f93),(Zf tyInt w27),(Zo (owL (tyOpt (tyU Qq6 Qq2))) (m32++[a64])),(Zo (owL Qq5) s106),(Zo (owL Qq0) (s80.2.2.1++[a128])),(Zo (owL Qq4) s80.2.2.2),(Zf tyInt x85),(Zf tyInt n86),Zd,Zd] (zq_ (S4 (S4 (S4 (.same .nil)))))))) (zq_ (S4 (S4 (S4 (.same .nil)))))) fun s127=>(at_ [(Zf (tySc K) c),(Zf tyStr y1'),(Zf tyInt v2'),(Zf Qq0 f93),(Zf tyInt w27),(Zo (owL (tyOpt (tyU Qq6 Qq2))) (m32++[a64])),(Zo (owL Qq5) s106),(Zo (owL Qq0) s127),(Zo (owL Qq4) s80.2.2.2),(Zf tyInt x85),(Zf tyInt n86),Zd,Zd] (zbZ_ (zbB_ (LS:=(fun s142:Qq8=>[(Zf (tySc K) c),(Zf tyStr y1'),(Zf tyInt v2'),(Zf Qq0 f93),(Zf tyInt w27),(Zo (owL (tyOpt (tyU Qq6 Qq2))) (m32++[a64])),(Zo (owL Qq5) s106),(Zo (owL Qq0) s127),(Zo (owL Qq4) s142),(Zf tyInt x85),(Zf tyInt n86),Zd,Zd])) (s_if (zfQ_ (z2_ (zB_ zmN_ (zB_ zaT_ (zc_ 10 rfl) (zu_ 4)) (zu_ 1))) (z2_ (zB_ zgA_ (zd5_ za7_ (ze_ (zhz_ 8 rfl))) (zB_ zbb_ (zu_ 1) (zB_ zaT_ (zc_ 2 rfl) (zu_ 4)))))) (zfJ_ (i:=11) rfl (zn_ (zd_ zf_ (zg_ zf_))) (zp_ (ze_ (zB_ zbl_ (zc_ 10 rfl) (zu_ 433)))) fun o143=>(at_ [(Zf (tySc K) c),(Zf tyStr y1'),(Zf tyInt v2'),(Zf Qq0 f93),(Zf tyInt w27),(Zo (owL (tyOpt (tyU Qq6 Qq2))) (m32++[a64])),(Zo (owL Qq5) s106),(Zo (owL Qq0) s127),(Zo (owL Qq4) s80.2.2.2),(Zf tyInt x85),(Zf tyInt n86),(Zf Qq0 o143),Zd] (zfJ_ (i:=12) rfl (zn_ (zd_ zf_ (zg_ zf_))) (zp_ (ze_ (zB_ zbl_ (zc_ 10 rfl) (zu_ 50000)))) fun o147=>(at_ [(Zf (tySc K) c),(Zf tyStr y1'),(Zf tyInt v2'),(Zf Qq0 f93),(Zf tyInt w27),(Zo (owL (tyOpt (tyU Qq6 Qq2))) (m32++[a64])),(Zo (owL Qq5) s106),(Zo (owL Qq0) s127),(Zo (owL Qq4) s80.2.2.2),(Zf tyInt x85),(Zf tyInt n86),(Zf Qq0 o143),(Zf Qq0 o147)] (zbZ_ (zbY_ (i:=8) rfl (zn_ (zd_ (zn_ (zd_ zf_ (zg_ zf_))) (zd_ (zn_ (zd_ zf_ (zg_ zf_))) (zd_ zS_ (zg_ (zn_ (zd_ zf_ (zg_ zf_)))))))) (zeu_ (zm_ (zm_ (zm_ zr_))) (zl_ (zc_ 3 rfl) (zl_ (zc_ 11 rfl) (zl_ (zB_ zc4_ (EvO.fr (zd1_ (zm_ (zm_ zr_)) (zW_ (zW_ zav_)) (zl_ (zU_ [112,108,117,115]) (zl_ (zU_ [108,101,115,115]) (ze_ (zU_ [116,105,109,101,115])))))) (zB_ zaT_ (zB_ zbl_ (zc_ 10 rfl) (zu_ 7)) (zu_ 3))) (ze_ (zc_ 12 rfl)))))) fun a168=>(at_ [(Zf (tySc K) c),(Zf tyStr y1'),(Zf tyInt v2'),(Zf Qq0 f93),(Zf tyInt w27),(Zo (owL (tyOpt (tyU Qq6 Qq2))) (m32++[a64])),(Zo (owL Qq5) s106),(Zo (owL Qq0) s127),(Zo (owL Qq4) (s80.2.2.2++[a168])),(Zf tyInt x85),(Zf tyInt n86),(Zf Qq0 o143),(Zf Qq0 o147)] (zq_ (S4 (S4 (.same (.same (.same (.dead (.dead .nil))))))))))))))) (zq_ (S4 (S4 (S4 (.same .nil)))))) fun s142=>(at_ [(Zf (tySc K) c),(Zf tyStr y1'),(Zf tyInt v2'),(Zf Qq0 f93),(Zf tyInt w27),(Zo (owL (tyOpt (tyU Qq6 Qq2))) (m32++[a64])),(Zo (owL Qq5) s106),(Zo (owL Qq0) s127),(Zo (owL Qq4) s142),(Zf tyInt x85),(Zf tyInt n86),Zd,Zd] (zq_ (S4 (S4 (.same (.dead (.dead (.same (.same .nil))))))))))))))))))))) fun s80=>(at_ [(Zf (tySc K) c),(Zf tyStr y1'),(Zf tyInt v2'),(Zf Qq0 s80.1),(Zf tyInt w27),(Zo (owL (tyOpt (tyU Qq6 Qq2))) (m32++[a64])),(Zo (owL Qq5) s80.2.1),(Zo (owL Qq0) s80.2.2.1),(Zo (owL Qq4) s80.2.2.2),Zd,Zd,Zd,Zd] (zhZ_ (i:=6) rfl (at_ [(Zf (tySc K) c),(Zf tyStr y1'),(Zf tyInt v2'),(Zf Qq0 s80.1),(Zf tyInt w27),(Zo (owL (tyOpt (tyU Qq6 Qq2))) (m32++[a64])),(Zf (tyL Qq5) s80.2.1),(Zo (owL Qq0) s80.2.2.1),(Zo (owL Qq4) s80.2.2.2),Zd,Zd,Zd,Zd] (zhZ_ (i:=7) rfl (at_ [(Zf (tySc K) c),(Zf tyStr y1'),(Zf tyInt v2'),(Zf Qq0 s80.1),(Zf tyInt w27),(Zo (owL (tyOpt (tyU Qq6 Qq2))) (m32++[a64])),(Zf (tyL Qq5) s80.2.1),(Zf (tyL Qq0) s80.2.2.1),(Zo (owL Qq4) s80.2.2.2),Zd,Zd,Zd,Zd] (zhZ_ (i:=8) rfl (at_ [(Zf (tySc K) c),(Zf tyStr y1'),(Zf tyInt v2'),(Zf Qq0 s80.1),(Zf tyInt w27),(Zo (owL (tyOpt (tyU Qq6 Qq2))) (m32++[a64])),(Zf (tyL Qq5) s80.2.1),(Zf (tyL Qq0) s80.2.2.1),(Zf (tyL Qq4) s80.2.2.2),Zd,Zd,Zd,Zd] (zhZ_ (i:=5) rfl (at_ [(Zf (tySc K) c),(Zf tyStr y1'),(Zf tyInt v2'),(Zf Qq0 s80.1),(Zf tyInt w27),(Zf (tyL (tyOpt (tyU Qq6 Qq2))) (m32++[a64])),(Zf (tyL Qq5) s80.2.1),(Zf (tyL Qq0) s80.2.2.1),(Zf (tyL Qq4) s80.2.2.2),Zd,Zd,Zd,Zd] (zlm_ (EvF.ow (ev_hl (zm_ (zm_ (zm_ (zm_ zr_)))) (zl_ (zc_ 1 rfl) (zl_ (zc_ 6 rfl) (zl_ (zB_ zc4_ (zc_ 5 rfl) (zB_ zaT_ (zc_ 2 rfl) (zu_ 4))) (zl_ (zc_ 7 rfl) (ze_ (zc_ 8 rfl))))))))))))))))))))))))))))))))))))))
theorem zf5_ (e:En K mg):zel_ P w K mg base :=
 zbz_ e.m e.f3 (okC (N:=["_law_one", "_law_other"]) (C:=(csCons Qq0 (csLast Qq0))) (O:=(owF tyBl)) (t:=fun E=>zg2_ K) (g:=fun c=>zcJ_ c.1 c.2) 2 0 (zX_ zs_) (fun _ _ _ _ _ _ E nd hr=>(zk_ (zP_ (zba_ (zK_ zaP_ (zG_ ix_M (za_ 0) zj_ (fun _ _=>rfl)) (zG_ ix_M (za_ 1) zj_ (fun _ _=>rfl))) (zcH_ (zK_ zaP_ (zG_ ix_M (za_ 1) zj_ (fun _ _=>rfl)) (zG_ ix_M (za_ 0) zj_ (fun _ _=>rfl)))))))) fun c E=>at_ [(Zf Qq0 c.1),(Zf Qq0 c.2)]
 (zb4_ (zal_ zai_) (EvF.ow (zc0_ (zB_ zaN_ (zC_ (i:=0) at_0 (zc_ 0 rfl)) (zC_ (i:=1) (at_s zH_) (zc_ 1 rfl))) (zB_ zaN_ (zC_ (i:=0) at_0 (zc_ 1 rfl)) (zC_ (i:=1) (at_s zH_) (zc_ 0 rfl)))))))
theorem zg0_ (e:En K mg) (g3:zel_ P w K mg base):zfe_ P w K mg base :=
 zbz_ e.m e.f4 (okC (N:=["_law_parts_here", "_law_kept", "_law_works", "_law_k", "_law_field_here", "_law_j"]) (C:=(csLast (tyH (csCons tyStr (csCons (tyL Qq5) (csCons (tyOpt (tyU Qq6 Qq2)) Qq7)))))) (O:=(owF tyBl)) (t:=fun E=>zhv_ K) (g:=fun c=>zdx_ c) 1 5 zs_ (fun _ _ _ _ _ _ E nd hr=>(zh_ (pst 1 (zas_ z1_ (zdr_ (cl:=[]) (lv:=["_law_field_here", "_law_text"]) (fr:=[]) rfl (csm rfl fr0) (zbd_ (zG_ ix_M (za_ 0) zj_ (fun _ _=>rfl))) (fun _ _ _ _=>(zge_ (n:=2) rfl (zaH_ (pgc 0) (zaH_ (pgc 1) zeD_)))) (fun _ _ _ _=>zdI_) (fun _ _ _ _=>(za_ 0))) (zG_ ix_M (za_ 0) zj_ (fun _ _=>rfl)))) (zh_ (zaw_ (PW.pt (zdg_ (zN_ zcu_ (zG_ ix_M (za_ 0) zj_ (fun _ _=>rfl)) zdQ_) (zdd_ (zN_ (zds_ hr.u60) (zG_ ix_M (zG_ ix_M (za_ 0) zj_ (fun _ _=>rfl)) zj_ (fun _ _=>rfl)) (zV_ (l:=[102,105,114,115,116])))))) (zk_ (zx_ (ziu_ zbK_ zI_ zJ_ zaC_ (za_ 1) (zb_ (zG_ ix_M (zG_ ix_M (za_ 0) zj_ (fun _ _=>rfl)) zj_ (fun _ _=>rfl)) zi_)))) (zk_ (zaw_ (zN_ zcu_ (zG_ ix_M (za_ 0) zj_ (fun _ _=>rfl)) zdQ_) (zk_ (zx_ (ziu_ zbK_ zI_ zJ_ zaC_ (za_ 1) (zb_ (zG_ ix_M (zG_ ix_M (za_ 0) zj_ (fun _ _=>rfl)) zj_ (fun _ _=>rfl)) zi_)))) zQ_))) (zh_ (pst 2 (zG_ ix_M (za_ 0) zj_ (fun _ _=>rfl))) (zh_ (zbr_ PassesOwn.never rfl (zf6_ (e.m.gb e.b2) (zb_ (zbO_ zF_ (e.m.gb e.b0) (zb_ (za_ 2) zi_)) zi_)) (pgn 3) (zh_ (zbr_ PassesOwn.never rfl (zbd_ (za_ 1)) (pgn 4) (zk_ (zaw_ (zcV_ (zo_ g3 (hm hr) (zb_ (zG_ ix_M (zG_ ix_M (za_ 2) (za_ 3) (fun _ _=>rfl)) zj_ (fun _ _=>rfl)) (zb_ (za_ 4) zi_)))) (zk_ (zP_ zhb_)) zQ_))) (zk_ (zbr_ PassesOwn.never rfl (zf6_ (e.m.gb e.b2) (zb_ (zbO_ zF_ (e.m.gb e.b0) (zb_ (za_ 2) zi_)) zi_)) (pgn 5) (zh_ (zaw_ (PW.pt (zdg_ (zN_ (zf2_ hr.u60) (za_ 5) (za_ 3)) (zdd_ (zcV_ (zo_ g3 (hm hr) (zb_ (zG_ ix_M (zG_ ix_M (za_ 2) (za_ 3) (fun _ _=>rfl)) zj_ (fun _ _=>rfl)) (zb_ (zG_ ix_M (zG_ ix_M (za_ 2) (za_ 5) (fun _ _=>rfl)) zj_ (fun _ _=>rfl)) zi_))))))) (zk_ (zP_ zhb_)) zQ_) (zk_ (zbr_ PassesOwn.never rfl (zbd_ (zaR_ (zb_ (zG_ ix_M (zG_ ix_M (za_ 2) (za_ 5) (fun _ _=>rfl)) zj_ (fun _ _=>rfl)) (zb_ (zG_ ix_M (zG_ ix_M (za_ 2) (za_ 5) (fun _ _=>rfl)) zj_ (fun _ _=>rfl)) zi_)))) (pgn 4) (zk_ (zaw_ (PW.pt (zdg_ (zN_ zaP_ (za_ 5) (za_ 3)) (zdd_ (zcV_ (zo_ g3 (hm hr) (zb_ (zG_ ix_M (zG_ ix_M (za_ 2) (za_ 3) (fun _ _=>rfl)) zj_ (fun _ _=>rfl)) (zb_ (za_ 4) zi_))))))) (zk_ (zP_ zhb_)) zQ_))))))))) (zk_ (zP_ zhb_))))))) fun c E=>at_ [(Zf (tyH (csCons tyStr (csCons (tyL Qq5) (csCons (tyOpt (tyU Qq6 Qq2)) Qq7)))) c),Zd,Zd,Zd,Zd,Zd]
 (zbI_ (i:=1) rfl (zaf_ (zn_ (zd_ zf_ (zg_ zf_)))) (zfj_ zcK_ (EvO.fr (O:=(owL Qq0)) (zdw_ (ei_l (zbm_ (i:=1) (at_s at_0) (zc_ 0 rfl))) (zjk_ (zm_ zr_) (zgs_ 0 (zgf_ (zM_ 1)))) (fun _=>dead2) (fun x_3=>zdO_) (fun x_3=>(zc_ 0 rfl)))) (zbm_ (i:=3) (at_s (at_s (at_s at_0))) (zc_ 0 rfl))) fun w1'=>(at_ [(Zf (tyH (csCons tyStr (csCons (tyL Qq5) (csCons (tyOpt (tyU Qq6 Qq2)) Qq7)))) c),(Zo (owL Qq0) w1'),Zd,Zd,Zd,Zd] (zbB_ (LS:=(fun s18:(List (Int×Int))=>[(Zf (tyH (csCons tyStr (csCons (tyL Qq5) (csCons (tyOpt (tyU Qq6 Qq2)) Qq7)))) c),(Zo (owL Qq0) s18),Zd,Zd,Zd,Zd])) (s_if (zfQ_ (z2_ (zB_ zen_ (zbm_ (i:=2) (at_s (at_s at_0)) (zc_ 0 rfl)) zeI_)) (z2_ (zB_ zkQ_ (zkY_ (i:=0) at_0 at_0 (zay_ (zbm_ (i:=2) (at_s (at_s at_0)) (zc_ 0 rfl)))) (zU_ [102,105,114,115,116])))) (zbZ_ (zbY_ (i:=1) rfl (zn_ (zd_ zf_ (zg_ zf_))) (zC_ (i:=1) (at_s zH_) (zjS_ (zay_ (zbm_ (i:=2) (at_s (at_s at_0)) (zc_ 0 rfl))))) fun a23=>(at_ [(Zf (tyH (csCons tyStr (csCons (tyL Qq5) (csCons (tyOpt (tyU Qq6 Qq2)) Qq7)))) c),(Zo (owL Qq0) (w1'++[a23])),Zd,Zd,Zd,Zd] (zq_ (S4 (.same (.same .nil))))))) (zbZ_ (zbB_ (LS:=(fun s28:(List (Int×Int))=>[(Zf (tyH (csCons tyStr (csCons (tyL Qq5) (csCons (tyOpt (tyU Qq6 Qq2)) Qq7)))) c),(Zo (owL Qq0) s28),Zd,Zd,Zd,Zd])) (s_if (z2_ (zB_ zen_ (zbm_ (i:=2) (at_s (at_s at_0)) (zc_ 0 rfl)) zeI_)) (zbZ_ (zbY_ (i:=1) rfl (zn_ (zd_ zf_ (zg_ zf_))) (zC_ (i:=2) (at_s (at_s at_0)) (zhj_ (zay_ (zbm_ (i:=2) (at_s (at_s at_0)) (zc_ 0 rfl))))) fun a33=>(at_ [(Zf (tyH (csCons tyStr (csCons (tyL Qq5) (csCons (tyOpt (tyU Qq6 Qq2)) Qq7)))) c),(Zo (owL Qq0) (w1'++[a33])),Zd,Zd,Zd,Zd] (zq_ (S4 (.same (.same .nil))))))) (zq_ (S4 (.same (.same .nil))))) fun s28=>(at_ [(Zf (tyH (csCons tyStr (csCons (tyL Qq5) (csCons (tyOpt (tyU Qq6 Qq2)) Qq7)))) c),(Zo (owL Qq0) s28),Zd,Zd,Zd,Zd] (zq_ (S4 (.same (.same .nil)))))))) fun s18=>(at_ [(Zf (tyH (csCons tyStr (csCons (tyL Qq5) (csCons (tyOpt (tyU Qq6 Qq2)) Qq7)))) c),(Zo (owL Qq0) s18),Zd,Zd,Zd,Zd] (zkj_ (i:=2) rfl (zbm_ (i:=4) (at_s (at_s (at_s (at_s zH_)))) (zc_ 0 rfl)) fun w34=>(at_ [(Zf (tyH (csCons tyStr (csCons (tyL Qq5) (csCons (tyOpt (tyU Qq6 Qq2)) Qq7)))) c),(Zo (owL Qq0) s18),(Zf (tyL Qq4) w34),Zd,Zd,Zd] (zbB_ (LS:=(fun _:Unit=>[(Zf (tyH (csCons tyStr (csCons (tyL Qq5) (csCons (tyOpt (tyU Qq6 Qq2)) Qq7)))) c),(Zo (owL Qq0) s18),(Zf (tyL Qq4) w34),Zd,Zd,Zd])) (zbw_ (L':=[(Zf (tyH (csCons tyStr (csCons (tyL Qq5) (csCons (tyOpt (tyU Qq6 Qq2)) Qq7)))) c),(Zo (owL Qq0) s18),(Zf (tyL Qq4) w34),Zd,Zd,Zd]) (S4 (.same (.same .nil))) (zfx_ (LS:=(fun _:Unit=>[(Zf (tyH (csCons tyStr (csCons (tyL Qq5) (csCons (tyOpt (tyU Qq6 Qq2)) Qq7)))) c),(Zo (owL Qq0) s18),(Zf (tyL Qq4) w34),Zd,Zd,Zd])) (s0:=()) (ziq_ (ze_ (zd5_ za7_ (ze_ (zc_ 2 rfl))))) (zM_ 3) fun _ x40=>at_ [(Zf (tyH (csCons tyStr (csCons (tyL Qq5) (csCons (tyOpt (tyU Qq6 Qq2)) Qq7)))) c),(Zo (owL Qq0) s18),(Zf (tyL Qq4) w34),(Zf tyInt x40),Zd,Zd] (zbB_ (LS:=(fun _:Unit=>[(Zf (tyH (csCons tyStr (csCons (tyL Qq5) (csCons (tyOpt (tyU Qq6 Qq2)) Qq7)))) c),(Zo (owL Qq0) s18),(Zf (tyL Qq4) w34),(Zf tyInt x40),Zd,Zd])) (zbw_ (L':=[(Zf (tyH (csCons tyStr (csCons (tyL Qq5) (csCons (tyOpt (tyU Qq6 Qq2)) Qq7)))) c),(Zo (owL Qq0) s18),(Zf (tyL Qq4) w34),(Zf tyInt x40),Zd,Zd]) (S4 (.same (.same .nil))) (znt_ (i0:=1) (LS:=(fun _:Unit=>[(Zf (tyH (csCons tyStr (csCons (tyL Qq5) (csCons (tyOpt (tyU Qq6 Qq2)) Qq7)))) c),(Zo (owL Qq0) s18),(Zf (tyL Qq4) w34),(Zf tyInt x40),Zd,Zd])) (LSp:=(fun p42 (_:Unit)=>[(Zf (tyH (csCons tyStr (csCons (tyL Qq5) (csCons (tyOpt (tyU Qq6 Qq2)) Qq7)))) c),(Zo (owLp p42 Qq0) s18),(Zf (tyL Qq4) w34),(Zf tyInt x40),Zd,Zd])) (s0:=()) (fun _=>rfl) (fun _ _=>rfl) (zM_ 4) fun p42 _ x43=>at_ [(Zf (tyH (csCons tyStr (csCons (tyL Qq5) (csCons (tyOpt (tyU Qq6 Qq2)) Qq7)))) c),(Zo (owLp p42 Qq0) s18),(Zf (tyL Qq4) w34),(Zf tyInt x40),(Zf Qq0 x43),Zd] (s_if (z2_ (zp_ (zl_ (zC_ (i:=0) at_0 (zB_ zc4_ (zc_ 2 rfl) (zc_ 3 rfl))) (ze_ (zc_ 4 rfl))))) (zb4_ (zal_ zai_) (EvF.ow (zhc_ false))) (zq_ (S4 (.dead (.same .nil))))))) fun _=>(at_ [(Zf (tyH (csCons tyStr (csCons (tyL Qq5) (csCons (tyOpt (tyU Qq6 Qq2)) Qq7)))) c),(Zo (owL Qq0) s18),(Zf (tyL Qq4) w34),(Zf tyInt x40),Zd,Zd] (zbZ_ (zbB_ (LS:=(fun _:Unit=>[(Zf (tyH (csCons tyStr (csCons (tyL Qq5) (csCons (tyOpt (tyU Qq6 Qq2)) Qq7)))) c),(Zo (owL Qq0) s18),(Zf (tyL Qq4) w34),(Zf tyInt x40),Zd,Zd])) (zbw_ (L':=[(Zf (tyH (csCons tyStr (csCons (tyL Qq5) (csCons (tyOpt (tyU Qq6 Qq2)) Qq7)))) c),(Zo (owL Qq0) s18),(Zf (tyL Qq4) w34),(Zf tyInt x40),Zd,Zd]) (S4 (.same (.same .nil))) (zfx_ (LS:=(fun _:Unit=>[(Zf (tyH (csCons tyStr (csCons (tyL Qq5) (csCons (tyOpt (tyU Qq6 Qq2)) Qq7)))) c),(Zo (owL Qq0) s18),(Zf (tyL Qq4) w34),(Zf tyInt x40),Zd,Zd])) (s0:=()) (ziq_ (ze_ (zd5_ za7_ (ze_ (zc_ 2 rfl))))) (zM_ 5) fun _ x55=>at_ [(Zf (tyH (csCons tyStr (csCons (tyL Qq5) (csCons (tyOpt (tyU Qq6 Qq2)) Qq7)))) c),(Zo (owL Qq0) s18),(Zf (tyL Qq4) w34),(Zf tyInt x40),Zd,(Zf tyInt x55)] (zbB_ (LS:=(fun _:Unit=>[(Zf (tyH (csCons tyStr (csCons (tyL Qq5) (csCons (tyOpt (tyU Qq6 Qq2)) Qq7)))) c),(Zo (owL Qq0) s18),(Zf (tyL Qq4) w34),(Zf tyInt x40),Zd,(Zf tyInt x55)])) (s_if (zfQ_ (z2_ (zB_ zmF_ (zc_ 5 rfl) (zc_ 3 rfl))) (z2_ (zp_ (zl_ (zC_ (i:=0) at_0 (zB_ zc4_ (zc_ 2 rfl) (zc_ 3 rfl))) (ze_ (zC_ (i:=0) at_0 (zB_ zc4_ (zc_ 2 rfl) (zc_ 5 rfl)))))))) (zb4_ (zal_ zai_) (EvF.ow (zhc_ false))) (zq_ (S4 (.same (.same .nil))))) fun _=>(at_ [(Zf (tyH (csCons tyStr (csCons (tyL Qq5) (csCons (tyOpt (tyU Qq6 Qq2)) Qq7)))) c),(Zo (owL Qq0) s18),(Zf (tyL Qq4) w34),(Zf tyInt x40),Zd,(Zf tyInt x55)] (zbZ_ (zbB_ (LS:=(fun _:Unit=>[(Zf (tyH (csCons tyStr (csCons (tyL Qq5) (csCons (tyOpt (tyU Qq6 Qq2)) Qq7)))) c),(Zo (owL Qq0) s18),(Zf (tyL Qq4) w34),(Zf tyInt x40),Zd,(Zf tyInt x55)])) (zbw_ (L':=[(Zf (tyH (csCons tyStr (csCons (tyL Qq5) (csCons (tyOpt (tyU Qq6 Qq2)) Qq7)))) c),(Zo (owL Qq0) s18),(Zf (tyL Qq4) w34),(Zf tyInt x40),Zd,(Zf tyInt x55)]) (S4 (.same (.same .nil))) (zfx_ (LS:=(fun _:Unit=>[(Zf (tyH (csCons tyStr (csCons (tyL Qq5) (csCons (tyOpt (tyU Qq6 Qq2)) Qq7)))) c),(Zo (owL Qq0) s18),(Zf (tyL Qq4) w34),(Zf tyInt x40),Zd,(Zf tyInt x55)])) (s0:=()) (ei_l (EvO.fr (zd1_ (zm_ zr_) (zW_ zav_) (zl_ (zC_ (i:=1) (at_s at_0) (zB_ zc4_ (zc_ 2 rfl) (zc_ 5 rfl))) (ze_ (zC_ (i:=3) (at_s (at_s (at_s zH_))) (zB_ zc4_ (zc_ 2 rfl) (zc_ 5 rfl)))))))) (zM_ 4) fun _ x81=>at_ [(Zf (tyH (csCons tyStr (csCons (tyL Qq5) (csCons (tyOpt (tyU Qq6 Qq2)) Qq7)))) c),(Zo (owL Qq0) s18),(Zf (tyL Qq4) w34),(Zf tyInt x40),(Zf Qq0 x81),(Zf tyInt x55)] (s_if (zfQ_ (z2_ (zB_ zaN_ (zc_ 5 rfl) (zc_ 3 rfl))) (z2_ (zp_ (zl_ (zC_ (i:=0) at_0 (zB_ zc4_ (zc_ 2 rfl) (zc_ 3 rfl))) (ze_ (zc_ 4 rfl)))))) (zb4_ (zal_ zai_) (EvF.ow (zhc_ false))) (zq_ (S4 (.dead (.same .nil))))))) fun _=>(at_ [(Zf (tyH (csCons tyStr (csCons (tyL Qq5) (csCons (tyOpt (tyU Qq6 Qq2)) Qq7)))) c),(Zo (owL Qq0) s18),(Zf (tyL Qq4) w34),(Zf tyInt x40),Zd,(Zf tyInt x55)] (zq_ (S4 (.same (.dead .nil))))))))))) fun _=>(at_ [(Zf (tyH (csCons tyStr (csCons (tyL Qq5) (csCons (tyOpt (tyU Qq6 Qq2)) Qq7)))) c),(Zo (owL Qq0) s18),(Zf (tyL Qq4) w34),(Zf tyInt x40),Zd,Zd] (zq_ (.same (.same (.same (.dead (.same (.same .nil)))))))))))))) fun _=>(at_ [(Zf (tyH (csCons tyStr (csCons (tyL Qq5) (csCons (tyOpt (tyU Qq6 Qq2)) Qq7)))) c),(Zo (owL Qq0) s18),(Zf (tyL Qq4) w34),Zd,Zd,Zd] (zb4_ (zal_ zai_) (EvF.ow (zhc_ true))))))))))))
theorem zdo_ (e:En K mg):zbV_ P w K mg base :=
 zbz_ e.m e.f5 (okC (N:=["values"]) (C:=(csLast (tyOpt (tyL Qq4)))) (O:=(owL Qq4)) (t:=fun E=>zd0_ K) (g:=fun c=>zbN_ c) 1 0 zs_ (fun _ _ _ _ _ _ E nd hr=>(zk_ (zP_ (zii_ (zN_ ziP_ (za_ 0) zdQ_) (zaR_ zi_) (zjy_ "list" (zax_ rfl) (e.m.gb e.b3) (zb_ (za_ 0) zi_)))))) fun c E=>at_ [(Zf (tyOpt (tyL Qq4)) c)]
 (zb4_ (zaf_ (zn_ (zd_ (zn_ (zd_ zf_ (zg_ zf_))) (zd_ (zn_ (zd_ zf_ (zg_ zf_))) (zd_ zS_ (zg_ (zn_ (zd_ zf_ (zg_ zf_))))))))) (ziS_ (z2_ (zB_ zgk_ (zc_ 0 rfl) zeI_)) (zcX_ Qq4) (zeS_ zfb_ (ze_ (zay_ (zc_ 0 rfl)))))))
theorem zdD_ (e:En K mg):zbL_ P w K mg base :=
 zbz_ e.m e.f6 (okC (N:=["values"]) (C:=(csLast (tyOpt (tyL Qq0)))) (O:=(owL Qq0)) (t:=fun E=>zdT_ K) (g:=fun c=>zbP_ c) 1 0 zs_ (fun _ _ _ _ _ _ E nd hr=>(zk_ (zP_ (zii_ (zN_ ziP_ (za_ 0) zdQ_) (zaR_ zi_) (zjy_ "list" (zax_ rfl) (e.m.gb e.b3) (zb_ (za_ 0) zi_)))))) fun c E=>at_ [(Zf (tyOpt (tyL Qq0)) c)]
 (zb4_ (zaf_ (zn_ (zd_ zf_ (zg_ zf_)))) (ziS_ (z2_ (zB_ zgk_ (zc_ 0 rfl) zeI_)) (zcX_ Qq0) (zeS_ zfb_ (ze_ (zay_ (zc_ 0 rfl)))))))
theorem zh5_ (e:En K mg):zan_ P w K mg base :=
 zbz_ e.m e.f7 (okXU (N:=["holds", "words"]) (C:=(csCons tyBl (csLast tyStr))) (LS:=fun _:Unit=>[Zd,Zd]) (t:=fun E=>ziY_ K E) (g:=fun c=>zgd_ c.1 c.2) 2 0 (zX_ zs_) (fun _ _ _ _ _ _ E nd hr=>(zk_ (zaw_ (zjo_ (ziA_ (za_ 0))) (zk_ (zkX_ zkV_ rfl e.fx.exc_NoAsking (e.m.gk e.k0) (zb_ (za_ 1) zi_))) zQ_))) fun c E=>at_ [(Zf tyBl c.1),(Zf tyStr c.2)]
 (s_if (zjl_ (zkf_ (zc_ 0 rfl))) (zmW_ zr_ (ze_ (zc_ 1 rfl))) (zq_ (.dead (.dead .nil)))))
theorem zdu_ (e:En K mg) (g7:zan_ P w K mg base):zbS_ P w K mg base :=
 zbz_ e.m e.f8 (okXU (N:=Qn1) (C:=(csLast (tyI (gA K "Asking") Qn0 (csCons tyStr (csCons (tyL Qq5) (csCons (tyOpt (tyU Qq6 Qq2)) Qq1)))))) (LS:=fun _:Unit=>[Zd]) (t:=fun E=>zd2_ K E) (g:=fun c=>zaJ_ c) 1 0 zs_ (fun _ _ _ _ _ _ E nd hr=>(zh_ (zx_ (zy_ g7 (hm hr) zt_ (zb_ (zK_ zaP_ (zbO_ zF_ (e.m.gb e.b0) (zb_ (zA_ e.w0.cls e.a0.no (za_ 0)) zi_)) (zdt_ (e.m.gv e.c0))) (zb_ (zV_ (l:=[97,110,32,97,115,107,105,110,103,32,104,97,115,32,56,32,112,105,99,107,115,32,97,116,32,109,111,115,116])) zi_)))) (zh_ (zx_ (zy_ g7 (hm hr) zt_ (zb_ (zK_ zaP_ (zbO_ zF_ (e.m.gb e.b0) (zb_ (zA_ e.w0.cls e.a1.no (za_ 0)) zi_)) (zdt_ (e.m.gv e.c1))) (zb_ (zV_ (l:=[97,110,32,97,115,107,105,110,103,32,104,97,115,32,54,32,107,101,121,115,32,97,116,32,109,111,115,116])) zi_)))) (zh_ (zx_ (zy_ g7 (hm hr) zt_ (zb_ (zK_ zaP_ (zbO_ zF_ (e.m.gb e.b0) (zb_ (zA_ e.w0.cls e.a2.no (za_ 0)) zi_)) (zdt_ (e.m.gv e.c2))) (zb_ (zV_ (l:=[97,110,32,97,115,107,105,110,103,32,104,97,115,32,52,32,119,111,114,107,115,32,97,116,32,109,111,115,116])) zi_)))) (zk_ (zx_ (zy_ g7 (hm hr) zt_ (zb_ (zK_ zaP_ (zbO_ zF_ (e.m.gb e.b0) (zb_ (zA_ e.w0.cls e.a3.no (za_ 0)) zi_)) (zdt_ (e.m.gv e.c3))) (zb_ (zV_ (l:=[97,110,32,97,115,107,105,110,103,32,104,97,115,32,52,32,115,117,109,115,32,97,116,32,109,111,115,116])) zi_))))))))) fun c E=>at_ [(Zf (tyI (gA K "Asking") Qn0 (csCons tyStr (csCons (tyL Qq5) (csCons (tyOpt (tyU Qq6 Qq2)) Qq1)))) c)]
 (zab_ (zz_ (zl_ (zB_ zaN_ (zd5_ za7_ (ze_ (zZ_ (ns:=Qn0) (by decide +kernel) (n:=1) rfl (at_s at_0) (zc_ 0 rfl)))) (zu_ 8)) (ze_ (zU_ [97,110,32,97,115,107,105,110,103,32,104,97,115,32,56,32,112,105,99,107,115,32,97,116,32,109,111,115,116])))) fun v8=>(at_ [(Zf (tyI (gA K "Asking") Qn0 (csCons tyStr (csCons (tyL Qq5) (csCons (tyOpt (tyU Qq6 Qq2)) Qq1)))) c)] (zab_ (zz_ (zl_ (zB_ zaN_ (zd5_ za7_ (ze_ (zZ_ (ns:=Qn0) (by decide +kernel) (n:=3) rfl (at_s (at_s (at_s at_0))) (zc_ 0 rfl)))) (zu_ 6)) (ze_ (zU_ [97,110,32,97,115,107,105,110,103,32,104,97,115,32,54,32,107,101,121,115,32,97,116,32,109,111,115,116])))) fun a16=>(at_ [(Zf (tyI (gA K "Asking") Qn0 (csCons tyStr (csCons (tyL Qq5) (csCons (tyOpt (tyU Qq6 Qq2)) Qq1)))) c)] (zab_ (zz_ (zl_ (zB_ zaN_ (zd5_ za7_ (ze_ (zZ_ (ns:=Qn0) (by decide +kernel) (n:=4) rfl (at_s (at_s (at_s (at_s at_0)))) (zc_ 0 rfl)))) (zu_ 4)) (ze_ (zU_ [97,110,32,97,115,107,105,110,103,32,104,97,115,32,52,32,119,111,114,107,115,32,97,116,32,109,111,115,116])))) fun a24=>(at_ [(Zf (tyI (gA K "Asking") Qn0 (csCons tyStr (csCons (tyL Qq5) (csCons (tyOpt (tyU Qq6 Qq2)) Qq1)))) c)] (zbZ_ (zab_ (zz_ (zl_ (zB_ zaN_ (zd5_ za7_ (ze_ (zZ_ (ns:=Qn0) (by decide +kernel) (n:=6) rfl (at_s (at_s (at_s (at_s (at_s (at_s at_0)))))) (zc_ 0 rfl)))) (zu_ 4)) (ze_ (zU_ [97,110,32,97,115,107,105,110,103,32,104,97,115,32,52,32,115,117,109,115,32,97,116,32,109,111,115,116])))) fun a32=>(at_ [(Zf (tyI (gA K "Asking") Qn0 (csCons tyStr (csCons (tyL Qq5) (csCons (tyOpt (tyU Qq6 Qq2)) Qq1)))) c)] (zq_ (.dead .nil))))))))))))
theorem zgT_ (e:En K mg):zcd_ P w K mg base :=
 zbz_ e.m e.f9 (okC (N:=Qn1) (C:=(csLast (tyI (gA K "Asking") Qn0 (csCons tyStr (csCons (tyL Qq5) (csCons (tyOpt (tyU Qq6 Qq2)) Qq1)))))) (O:=(owF tyBl)) (t:=fun E=>zic_ K) (g:=fun c=>zff_ c) 1 0 zs_ (fun _ _ _ _ _ _ E nd hr=>(zk_ (zP_ (zba_ (zK_ zcu_ (zA_ e.w0.cls e.a4.no (za_ 0)) zdQ_) (zcH_ (zK_ zi0_ (zG_ ix_M (zA_ e.w0.cls e.a4.no (za_ 0)) zj_ (fun _ _=>rfl)) (zdt_ (e.m.gkc e.k1)))))))) fun c E=>at_ [(Zf (tyI (gA K "Asking") Qn0 (csCons tyStr (csCons (tyL Qq5) (csCons (tyOpt (tyU Qq6 Qq2)) Qq1)))) c)]
 (zb4_ (zal_ zai_) (EvF.ow (zc0_ (zB_ zen_ (zZ_ (ns:=Qn0) (by decide +kernel) (n:=2) rfl (at_s (at_s at_0)) (zc_ 0 rfl)) zeI_) (zmG_ e.t0 (zkY_ (i:=0) at_0 at_0 (zay_ (zZ_ (ns:=Qn0) (by decide +kernel) (n:=2) rfl (at_s (at_s at_0)) (zc_ 0 rfl)))))))))
theorem zbW_ (e:En K mg) (g7:zan_ P w K mg base) (g9:zcd_ P w K mg base):zaI_ P w K mg base :=
 zbz_ e.m e.f10 (okXU (N:=["asking", "many"]) (C:=(csLast (tyI (gA K "Asking") Qn0 (csCons tyStr (csCons (tyL Qq5) (csCons (tyOpt (tyU Qq6 Qq2)) Qq1)))))) (LS:=fun _:Unit=>[Zd,Zd]) (t:=fun E=>zcl_ K E) (g:=fun c=>zaD_ c) 1 1 zs_ (fun _ _ _ _ _ _ E nd hr=>(zh_ (zaw_ (zN_ ziP_ (zA_ e.w0.cls e.a4.no (za_ 0)) zdQ_) (zk_ zlG_) zQ_) (zh_ (pst 1 (zbO_ zF_ (e.m.gb e.b0) (zb_ (zA_ e.w0.cls e.a4.no (za_ 0)) zi_))) (zh_ (zx_ (zy_ g7 (hm hr) zt_ (zb_ (zba_ (zK_ zmj_ (za_ 1) zj_) (zcH_ (zkR_ (zo_ g9 (hm hr) (zb_ (za_ 0) zi_)) (zcH_ (zK_ (zds_ hr.u60) (zG_ ix_M (zA_ e.w0.cls e.a4.no (za_ 0)) zj_ (fun _ _=>rfl)) (zV_ (l:=[102,105,114,115,116]))))))) (zb_ (zV_ (l:=[97,32,109,105,100,100,108,101,32,104,97,115,32,111,110,101,32,111,102,32,116,104,114,101,101,32,119,111,114,100,115])) zi_)))) (zk_ (zx_ (zy_ g7 (hm hr) zt_ (zb_ (zK_ (zds_ hr.u60) (za_ 1) (zii_ (zcV_ (zo_ g9 (hm hr) (zb_ (za_ 0) zi_))) zj_ zj_)) (zb_ (zV_ (l:=[97,32,109,105,100,100,108,101,32,104,97,115,32,119,104,97,116,32,105,116,115,32,119,111,114,100,32,119,97,110,116,115])) zi_))))))))) fun c E=>at_ [(Zf (tyI (gA K "Asking") Qn0 (csCons tyStr (csCons (tyL Qq5) (csCons (tyOpt (tyU Qq6 Qq2)) Qq1)))) c),Zd]
 (zbB_ (LS:=(fun _:Unit=>[(Zf (tyI (gA K "Asking") Qn0 (csCons tyStr (csCons (tyL Qq5) (csCons (tyOpt (tyU Qq6 Qq2)) Qq1)))) c),Zd])) (s_if (z2_ (zB_ zgk_ (zZ_ (ns:=Qn0) (by decide +kernel) (n:=2) rfl (at_s (at_s at_0)) (zc_ 0 rfl)) zeI_)) znM_ (zq_ (.same (.same .nil)))) fun _=>(at_ [(Zf (tyI (gA K "Asking") Qn0 (csCons tyStr (csCons (tyL Qq5) (csCons (tyOpt (tyU Qq6 Qq2)) Qq1)))) c),Zd] (zfJ_ (i:=1) rfl zf_ (zd5_ (zlW_ (zm_ zr_) (zm_ (zm_ (zm_ zr_)))) (ze_ (zay_ (zZ_ (ns:=Qn0) (by decide +kernel) (n:=2) rfl (at_s (at_s at_0)) (zc_ 0 rfl))))) fun m7=>(at_ [(Zf (tyI (gA K "Asking") Qn0 (csCons tyStr (csCons (tyL Qq5) (csCons (tyOpt (tyU Qq6 Qq2)) Qq1)))) c),(Zf tyInt m7)] (zab_ (zz_ (zl_ (zc0_ (zB_ zmN_ (zc_ 1 rfl) (zu_ 0)) (zog_ (zp_ (ze_ (zc_ 0 rfl))) (zB_ zkQ_ (zkY_ (i:=0) at_0 at_0 (zay_ (zZ_ (ns:=Qn0) (by decide +kernel) (n:=2) rfl (at_s (at_s at_0)) (zc_ 0 rfl)))) (zU_ [102,105,114,115,116])))) (ze_ (zU_ [97,32,109,105,100,100,108,101,32,104,97,115,32,111,110,101,32,111,102,32,116,104,114,101,101,32,119,111,114,100,115])))) fun a24=>(at_ [(Zf (tyI (gA K "Asking") Qn0 (csCons tyStr (csCons (tyL Qq5) (csCons (tyOpt (tyU Qq6 Qq2)) Qq1)))) c),(Zf tyInt m7)] (zbZ_ (zab_ (zz_ (zl_ (zB_ zgC_ (zc_ 1 rfl) (ev_if (z2_ (zp_ (ze_ (zc_ 0 rfl)))) (zu_ 4) (zu_ 2))) (ze_ (zU_ [97,32,109,105,100,100,108,101,32,104,97,115,32,119,104,97,116,32,105,116,115,32,119,111,114,100,32,119,97,110,116,115])))) fun a32=>(at_ [(Zf (tyI (gA K "Asking") Qn0 (csCons tyStr (csCons (tyL Qq5) (csCons (tyOpt (tyU Qq6 Qq2)) Qq1)))) c),(Zf tyInt m7)] (zq_ (.dead (.dead .nil)))))))))))))
theorem zgR_ (e:En K mg) (g9:zcd_ P w K mg base):ze8_ P w K mg base :=
 zbz_ e.m e.f11 (okC (N:=Qn1) (C:=(csLast (tyI (gA K "Asking") Qn0 (csCons tyStr (csCons (tyL Qq5) (csCons (tyOpt (tyU Qq6 Qq2)) Qq1)))))) (O:=(owL tyStr)) (t:=fun E=>zhU_ K) (g:=fun c=>zfl_ c) 1 0 zs_ (fun _ _ _ _ _ _ E nd hr=>(zk_ (zP_ (zii_ (zcV_ (zo_ g9 (hm hr) (zb_ (za_ 0) zi_))) (zaR_ (zb_ (zA_ e.w0.cls e.a5.no (za_ 0)) (zb_ (zG_ ix_M (zA_ e.w0.cls e.a4.no (za_ 0)) zj_ (fun _ _=>rfl)) zi_))) (zaR_ (zb_ (zA_ e.w0.cls e.a5.no (za_ 0)) zi_)))))) fun c E=>at_ [(Zf (tyI (gA K "Asking") Qn0 (csCons tyStr (csCons (tyL Qq5) (csCons (tyOpt (tyU Qq6 Qq2)) Qq1)))) c)]
 (zb4_ (zaf_ zS_) (ziS_ (z2_ (zp_ (ze_ (zc_ 0 rfl)))) (zd1_ (zm_ zr_) (zW_ zav_) (zl_ (zZ_ (ns:=Qn0) (by decide +kernel) (n:=0) rfl at_0 (zc_ 0 rfl)) (ze_ (zC_ (i:=1) (at_s at_0) (zhj_ (zay_ (zZ_ (ns:=Qn0) (by decide +kernel) (n:=2) rfl (at_s (at_s at_0)) (zc_ 0 rfl)))))))) (zd1_ zr_ zav_ (ze_ (zZ_ (ns:=Qn0) (by decide +kernel) (n:=0) rfl at_0 (zc_ 0 rfl)))))))
theorem zip_ (e:En K mg):zgh_ P w K mg base :=
 zbz_ e.m e.f12 (okC (N:=["text"]) (C:=(csLast tyStr)) (O:=(owF tyBl)) (t:=fun E=>ziW_ K) (g:=fun c=>zce_ c) 1 0 zs_ (fun _ _ _ _ _ _ E nd hr=>(zk_ (zP_ (zba_ (zc5_ zaP_ zaP_ zj_ (zbO_ zF_ (e.m.gb e.b0) (zb_ (za_ 0) zi_)) (zdt_ (e.m.gv e.c4))) (zcH_ (zbO_ (zgj_ rfl) (e.m.gb e.b4) (zb_ (zdr_ (cl:=[]) (lv:=["letter"]) (fr:=[]) rfl (csm rfl fr0) (zbd_ (za_ 0)) (fun _ _ _ _=>(pgc 0)) (fun _ _ _ _=>zdI_) (fun _ _ _ _=>(zK_ zi0_ (za_ 0) (zdt_ (e.m.gv e.c5))))) zi_))))))) fun c E=>at_ [(Zf tyStr c)]
 (zb4_ (zal_ zai_) (EvF.ow (zc0_ (zez_ zaN_ zaN_ (zu_ 1) (zd5_ zjQ_ (ze_ (zc_ 0 rfl))) (zu_ 8)) (zd5_ zmx_ (ze_ (EvO.fr (O:=(owL tyBl)) (zdw_ (zm3_ (zc_ 0 rfl)) (zM_ 0) (fun _=>dead1) (fun x_8=>zdO_) (fun x_8=>(zB_ zlD_ (zc_ 0 rfl) (zU_ [97,98,99,100,101,102,103,104,105,106,107,108,109,110,111,112,113,114,115,116,117,118,119,120,121,122])))))))))))
theorem zes_ (e:En K mg) (g11:ze8_ P w K mg base) (g7:zan_ P w K mg base) (g12:zgh_ P w K mg base):zcM_ P w K mg base :=
 zbz_ e.m e.f13 (okXU (N:=["asking", "names", "name"]) (C:=(csLast (tyI (gA K "Asking") Qn0 (csCons tyStr (csCons (tyL Qq5) (csCons (tyOpt (tyU Qq6 Qq2)) Qq1)))))) (LS:=fun _:Unit=>[Zd,Zd,Zd]) (t:=fun E=>zfd_ K E) (g:=fun c=>zbj_ c) 1 2 zs_ (fun _ _ _ _ _ _ E nd hr=>(zh_ (pst 1 (zo_ g11 (hm hr) (zb_ (za_ 0) zi_))) (zh_ (zbr_ PassesOwn.leaving rfl (zbd_ (za_ 1)) (pgn 2) (zk_ (zx_ (zy_ g7 (hm hr) zt_ (zb_ (zo_ g12 (hm hr) (zb_ (za_ 2) zi_)) (zb_ (zV_ (l:=[97,32,110,97,109,101,32,104,97,115,32,111,110,101,32,116,111,32,101,105,103,104,116,32,115,109,97,108,108,32,108,101,116,116,101,114,115])) zi_)))))) (zk_ (zx_ (zy_ g7 (hm hr) zt_ (zb_ (zkR_ (zK_ (zf2_ hr.u60) (zG_ ix_M (za_ 1) zj_ (fun _ _=>rfl)) (zG_ ix_M (za_ 1) (zmD_ zj_) (fun _ _=>rfl))) (zcH_ (zK_ (zds_ hr.u60) (zbO_ zF_ (e.m.gb e.b0) (zb_ (za_ 1) zi_)) zj_))) (zb_ (zV_ (l:=[116,104,101,32,116,119,111,32,110,97,109,101,115,32,97,114,101,32,117,110,108,105,107,101])) zi_)))))))) fun c E=>at_ [(Zf (tyI (gA K "Asking") Qn0 (csCons tyStr (csCons (tyL Qq5) (csCons (tyOpt (tyU Qq6 Qq2)) Qq1)))) c),Zd,Zd]
 (zbI_ (i:=1) rfl (zaf_ zS_) (zaa_ (ze_ (zc_ 0 rfl))) fun z1'=>zhZ_ (i:=1) rfl (at_ [(Zf (tyI (gA K "Asking") Qn0 (csCons tyStr (csCons (tyL Qq5) (csCons (tyOpt (tyU Qq6 Qq2)) Qq1)))) c),(Zf (tyL tyStr) z1'),Zd] (zbB_ (LS:=(fun _:Unit=>[(Zf (tyI (gA K "Asking") Qn0 (csCons tyStr (csCons (tyL Qq5) (csCons (tyOpt (tyU Qq6 Qq2)) Qq1)))) c),(Zf (tyL tyStr) z1'),Zd])) (zbw_ (L':=[(Zf (tyI (gA K "Asking") Qn0 (csCons tyStr (csCons (tyL Qq5) (csCons (tyOpt (tyU Qq6 Qq2)) Qq1)))) c),(Zf (tyL tyStr) z1'),Zd]) (.same (.same (.same .nil))) (zfx_ (LS:=(fun _:Unit=>[(Zf (tyI (gA K "Asking") Qn0 (csCons tyStr (csCons (tyL Qq5) (csCons (tyOpt (tyU Qq6 Qq2)) Qq1)))) c),(Zf (tyL tyStr) z1'),Zd])) (s0:=()) (ei_l (zc_ 1 rfl)) (zM_ 2) fun _ x_4=>at_ [(Zf (tyI (gA K "Asking") Qn0 (csCons tyStr (csCons (tyL Qq5) (csCons (tyOpt (tyU Qq6 Qq2)) Qq1)))) c),(Zf (tyL tyStr) z1'),(Zf tyStr x_4)] (zbZ_ (zab_ (zz_ (zl_ (zp_ (ze_ (zc_ 2 rfl))) (ze_ (zU_ [97,32,110,97,109,101,32,104,97,115,32,111,110,101,32,116,111,32,101,105,103,104,116,32,115,109,97,108,108,32,108,101,116,116,101,114,115])))) fun w9=>(at_ [(Zf (tyI (gA K "Asking") Qn0 (csCons tyStr (csCons (tyL Qq5) (csCons (tyOpt (tyU Qq6 Qq2)) Qq1)))) c),(Zf (tyL tyStr) z1'),(Zf tyStr x_4)] (zq_ (.same (.same (.dead .nil))))))))) fun _=>(at_ [(Zf (tyI (gA K "Asking") Qn0 (csCons tyStr (csCons (tyL Qq5) (csCons (tyOpt (tyU Qq6 Qq2)) Qq1)))) c),(Zf (tyL tyStr) z1'),Zd] (zbZ_ (zab_ (zz_ (zl_ (zog_ (zB_ zmT_ (zB_ zc4_ (zc_ 1 rfl) (zu_ 0)) (zB_ zc4_ (zc_ 1 rfl) (zmc_ (zu_ 1)))) (zB_ zgC_ (zd5_ za7_ (ze_ (zc_ 1 rfl))) (zu_ 1))) (ze_ (zU_ [116,104,101,32,116,119,111,32,110,97,109,101,115,32,97,114,101,32,117,110,108,105,107,101])))) fun a25=>(at_ [(Zf (tyI (gA K "Asking") Qn0 (csCons tyStr (csCons (tyL Qq5) (csCons (tyOpt (tyU Qq6 Qq2)) Qq1)))) c),(Zf (tyL tyStr) z1'),Zd] (zq_ (.dead (.dead (.same .nil))))))))))))
theorem zdv_ (e:En K mg) (g9:zcd_ P w K mg base):zad_ P w K mg base :=
 zbz_ e.m e.f14 (okC (N:=Qn1) (C:=(csLast (tyI (gA K "Asking") Qn0 (csCons tyStr (csCons (tyL Qq5) (csCons (tyOpt (tyU Qq6 Qq2)) Qq1)))))) (O:=(owL Qq0)) (t:=fun E=>zdV_ K) (g:=fun c=>zbM_ c) 1 0 zs_ (fun _ _ _ _ _ _ E nd hr=>(zh_ (zaw_ (zN_ ziP_ (zA_ e.w0.cls e.a4.no (za_ 0)) zdQ_) (zk_ (zP_ (zaR_ zi_))) zQ_) (zk_ (zP_ (zii_ (zcV_ (zo_ g9 (hm hr) (zb_ (za_ 0) zi_))) (zjy_ "list" (zax_ rfl) (e.m.gb e.b3) (zb_ (zcA_ znR_ (zA_ e.w0.cls e.a4.no (za_ 0)) (po_M zj_) zej_) zi_)) (zaR_ (zb_ (zG_ ix_M (zA_ e.w0.cls e.a4.no (za_ 0)) zj_ (fun _ _=>rfl)) zi_))))))) fun c E=>at_ [(Zf (tyI (gA K "Asking") Qn0 (csCons tyStr (csCons (tyL Qq5) (csCons (tyOpt (tyU Qq6 Qq2)) Qq1)))) c)]
 (zbB_ (LS:=(fun _:Unit=>[(Zf (tyI (gA K "Asking") Qn0 (csCons tyStr (csCons (tyL Qq5) (csCons (tyOpt (tyU Qq6 Qq2)) Qq1)))) c)])) (s_if (z2_ (zB_ zgk_ (zZ_ (ns:=Qn0) (by decide +kernel) (n:=2) rfl (at_s (at_s at_0)) (zc_ 0 rfl)) zeI_)) (zb4_ (zaf_ (zn_ (zd_ zf_ (zg_ zf_)))) (zcX_ Qq0)) (zq_ (.same .nil))) fun _=>(at_ [(Zf (tyI (gA K "Asking") Qn0 (csCons tyStr (csCons (tyL Qq5) (csCons (tyOpt (tyU Qq6 Qq2)) Qq1)))) c)] (zb4_ (zaf_ (zn_ (zd_ zf_ (zg_ zf_)))) (ziS_ (z2_ (zp_ (ze_ (zc_ 0 rfl)))) (zeS_ (zkF_ (zW_ zav_)) (ze_ (zmf_ (dp_s dp_1) (zhj_ (zay_ (zZ_ (ns:=Qn0) (by decide +kernel) (n:=2) rfl (at_s (at_s at_0)) (zc_ 0 rfl))))))) (zd1_ zr_ zav_ (ze_ (zC_ (i:=1) (at_s zH_) (zjS_ (zay_ (zZ_ (ns:=Qn0) (by decide +kernel) (n:=2) rfl (at_s (at_s at_0)) (zc_ 0 rfl))))))))))))
theorem zfr_ (e:En K mg) (g14:zad_ P w K mg base):zdy_ P w K mg base :=
 zbz_ e.m e.f15 (okC (N:=["asking", "fields", "work"]) (C:=(csLast (tyI (gA K "Asking") Qn0 (csCons tyStr (csCons (tyL Qq5) (csCons (tyOpt (tyU Qq6 Qq2)) Qq1)))))) (O:=(owL Qq0)) (t:=fun E=>zfD_ K) (g:=fun c=>zb1_ c) 1 2 zs_ (fun _ _ _ _ _ _ E nd hr=>(zh_ (pst 1 (zas_ z1_ (zas_ z1_ (zas_ z1_ (zdr_ (cl:=[]) (lv:=["pick"]) (fr:=[]) rfl (csm rfl fr0) (zbd_ (zA_ e.w0.cls e.a0.no (za_ 0))) (fun _ _ _ _=>(pgc 0)) (fun _ _ _ _=>zdI_) (fun _ _ _ _=>(zG_ ix_M (za_ 0) zj_ (fun _ _=>rfl)))) (zo_ g14 (hm hr) (zb_ (za_ 0) zi_))) (zA_ e.w0.cls e.a1.no (za_ 0))) (zA_ e.w0.cls e.a3.no (za_ 0)))) (zh_ (zbr_ PassesOwn.never rfl (zbd_ (zA_ e.w0.cls e.a2.no (za_ 0))) (pgn 2) (zk_ (zx_ (ziu_ zbK_ za0_ zaZ_ zeJ_ (za_ 1) (zb_ (zaR_ (zb_ (zG_ ix_M (za_ 2) zj_ (fun _ _=>rfl)) (zb_ (zG_ ix_M (za_ 2) zj_ (fun _ _=>rfl)) (zb_ (zG_ ix_M (za_ 2) zj_ (fun _ _=>rfl)) zi_)))) zi_))))) (zk_ (zP_ (za_ 1)))))) fun c E=>at_ [(Zf (tyI (gA K "Asking") Qn0 (csCons tyStr (csCons (tyL Qq5) (csCons (tyOpt (tyU Qq6 Qq2)) Qq1)))) c),Zd,Zd]
 (zbI_ (i:=1) rfl (zaf_ (zn_ (zd_ zf_ (zg_ zf_)))) (zfj_ zcK_ (EvO.fr (O:=(owL Qq0)) (zfj_ zcK_ (EvO.fr (O:=(owL Qq0)) (zfj_ zcK_ (EvO.fr (O:=(owL Qq0)) (zdw_ (ei_l (zZ_ (ns:=Qn0) (by decide +kernel) (n:=1) rfl (at_s at_0) (zc_ 0 rfl))) (zM_ 0) (fun _=>dead1) (fun x_3=>zdO_) (fun x_3=>(zC_ (i:=0) at_0 (zc_ 0 rfl))))) (EvO.fr (zaa_ (ze_ (zc_ 0 rfl)))))) (zZ_ (ns:=Qn0) (by decide +kernel) (n:=3) rfl (at_s (at_s (at_s at_0))) (zc_ 0 rfl)))) (zZ_ (ns:=Qn0) (by decide +kernel) (n:=6) rfl (at_s (at_s (at_s (at_s (at_s (at_s at_0)))))) (zc_ 0 rfl))) fun u1'=>(at_ [(Zf (tyI (gA K "Asking") Qn0 (csCons tyStr (csCons (tyL Qq5) (csCons (tyOpt (tyU Qq6 Qq2)) Qq1)))) c),(Zo (owL Qq0) u1'),Zd] (zbB_ (LS:=(fun s15:(List (Int×Int))=>[(Zf (tyI (gA K "Asking") Qn0 (csCons tyStr (csCons (tyL Qq5) (csCons (tyOpt (tyU Qq6 Qq2)) Qq1)))) c),(Zo (owL Qq0) s15),Zd])) (zbw_ (L':=[(Zf (tyI (gA K "Asking") Qn0 (csCons tyStr (csCons (tyL Qq5) (csCons (tyOpt (tyU Qq6 Qq2)) Qq1)))) c),(Zo (owL Qq0) u1'),Zd]) (.same (.same (.same .nil))) (zfx_ (LS:=(fun s15:(List (Int×Int))=>[(Zf (tyI (gA K "Asking") Qn0 (csCons tyStr (csCons (tyL Qq5) (csCons (tyOpt (tyU Qq6 Qq2)) Qq1)))) c),(Zo (owL Qq0) s15),Zd])) (s0:=u1') (ei_l (zZ_ (ns:=Qn0) (by decide +kernel) (n:=4) rfl (at_s (at_s (at_s (at_s at_0)))) (zc_ 0 rfl))) (zM_ 2) fun s15 x17=>at_ [(Zf (tyI (gA K "Asking") Qn0 (csCons tyStr (csCons (tyL Qq5) (csCons (tyOpt (tyU Qq6 Qq2)) Qq1)))) c),(Zo (owL Qq0) s15),(Zf Qq4 x17)] (zbZ_ (zfC_ (i:=1) rfl (zn_ (zd_ zf_ (zg_ zf_))) (EvO.fr (zd1_ (zm_ (zm_ zr_)) (zW_ (zW_ zav_)) (zl_ (zC_ (i:=0) at_0 (zc_ 2 rfl)) (zl_ (zC_ (i:=1) (at_s at_0) (zc_ 2 rfl)) (ze_ (zC_ (i:=3) (at_s (at_s (at_s zH_))) (zc_ 2 rfl))))))) fun a26=>(at_ [(Zf (tyI (gA K "Asking") Qn0 (csCons tyStr (csCons (tyL Qq5) (csCons (tyOpt (tyU Qq6 Qq2)) Qq1)))) c),(Zo (owL Qq0) (s15++a26)),(Zf Qq4 x17)] (zq_ (.same (.same (.dead .nil))))))))) fun s15=>(at_ [(Zf (tyI (gA K "Asking") Qn0 (csCons tyStr (csCons (tyL Qq5) (csCons (tyOpt (tyU Qq6 Qq2)) Qq1)))) c),(Zo (owL Qq0) s15),Zd] (zlf_ (i:=1) rfl))))))
theorem zfK_ (e:En K mg):zd8_ P w K mg base :=
 zbz_ e.m e.f16 (okC (N:=["text"]) (C:=(csLast tyStr)) (O:=(owF tyBl)) (t:=fun E=>zg6_ K) (g:=fun c=>zcC_ c) 1 0 zs_ (fun _ _ _ _ _ _ E nd hr=>(zk_ (zP_ (zbO_ (zgj_ rfl) (e.m.gb e.b4) (zb_ (zdr_ (cl:=[]) (lv:=["sign"]) (fr:=[]) rfl (csm rfl fr0) (zbd_ (za_ 0)) (fun _ _ _ _=>(pgc 0)) (fun _ _ _ _=>zdI_) (fun _ _ _ _=>(zK_ zi0_ (za_ 0) (zdt_ (e.m.gv e.c6))))) zi_))))) fun c E=>at_ [(Zf tyStr c)]
 (zb4_ (zal_ zai_) (EvF.ow (zd5_ zmx_ (ze_ (EvO.fr (O:=(owL tyBl)) (zdw_ (zm3_ (zc_ 0 rfl)) (zM_ 0) (fun _=>dead1) (fun x_2=>zdO_) (fun x_2=>(zB_ zlD_ (zc_ 0 rfl) (zU_ SG))))))))))
theorem zdP_ (e:En K mg):zcv_ P w K mg base :=
 zbz_ e.m e.f17 (okC (N:=["row", "signs", "step"]) (C:=(csLast (tyL tyPass))) (O:=(owF (tyOpt (tyD kInt tyStr)))) (t:=fun E=>zeO_ K) (g:=fun c=>za5_ c) 1 2 zs_ (fun _ _ _ _ _ _ E nd hr=>(zh_ (pst 1 zh2_) (zh_ (zbr_ PassesOwn.never rfl (zbd_ (za_ 0)) (pgn 2) (zk_ (zaw_ (zN_ (zds_ hr.u60) (zG_ ix_M (za_ 2) zj_ (fun _ _=>rfl)) (zV_ (l:=[112,105,99,107]))) (zk_ (zaw_ (zN_ (zf2_ hr.u60) (zj1_ hr.u60 (za_ 1) (zG_ ix_M (za_ 2) zj_ (fun _ _=>rfl)) (zG_ ix_M (za_ 2) zj_ (fun _ _=>rfl))) (zG_ ix_M (za_ 2) zj_ (fun _ _=>rfl))) (zk_ (zP_ zdQ_)) zQ_)) zQ_))) (zk_ (zP_ (za_ 1)))))) fun c E=>at_ [(Zf (tyL tyPass) c),Zd,Zd]
 (zbI_ (i:=1) rfl (zm6_ zS_) (zjG_ kInt tyStr) fun s1'=>(at_ [(Zf (tyL tyPass) c),(Zo (owD kInt tyStr) s1'),Zd] (zbB_ (LS:=(fun s_2:(List (Int×(List Nat)))=>[(Zf (tyL tyPass) c),(Zo (owD kInt tyStr) s_2),Zd])) (zbw_ (L':=[(Zf (tyL tyPass) c),(Zo (owD kInt tyStr) s1'),Zd]) (.same (.same (.same .nil))) (zfx_ (LS:=(fun s_2:(List (Int×(List Nat)))=>[(Zf (tyL tyPass) c),(Zo (owD kInt tyStr) s_2),Zd])) (s0:=s1') (ei_l (zc_ 0 rfl)) (zM_ 2) fun s_2 x_3=>at_ [(Zf (tyL tyPass) c),(Zo (owD kInt tyStr) s_2),(Zf tyPass x_3)] (zbZ_ (zbB_ (LS:=(fun s_8:(List (Int×(List Nat)))=>[(Zf (tyL tyPass) c),(Zo (owD kInt tyStr) s_8),(Zf tyPass x_3)])) (s_if (z2_ (zB_ zkQ_ (zle_ (zc_ 2 rfl)) (zU_ [112,105,99,107]))) (zne_ (i:=1) rfl zS_ zf_ (zlg_ (zc_ 2 rfl)) (zhD_ (zc_ 2 rfl)) zmT_ (fun q11=>atF [(Zf (tyL tyPass) c),(Zo (owD kInt tyStr) q11.2),(Zf tyPass x_3)] (zhD_ (zc_ 2 rfl))) (fun q11=>at_ [(Zf (tyL tyPass) c),(Zo (owD kInt tyStr) q11.2),(Zf tyPass x_3)] (zlm_ (EvF.ow zjJ_))) (fun q11=>at_ [(Zf (tyL tyPass) c),(Zo (owD kInt tyStr) q11.2),(Zf tyPass x_3)] (zq_ (.same (.same (.same .nil)))))) (zq_ (.same (.same (.same .nil))))) fun s_8=>(at_ [(Zf (tyL tyPass) c),(Zo (owD kInt tyStr) s_8),(Zf tyPass x_3)] (zq_ (.same (.same (.dead .nil))))))))) fun s_2=>(at_ [(Zf (tyL tyPass) c),(Zo (owD kInt tyStr) s_2),Zd] (zhZ_ (i:=1) rfl (at_ [(Zf (tyL tyPass) c),(Zf (tyD kInt tyStr) s_2),Zd] (zlm_ (EvF.ow (zfg_ (fun _ _ _=>zmO_) (zc_ 1 rfl)))))))))))
theorem zgN_ (e:En K mg):zdA_ P w K mg base :=
 zbz_ e.m e.f18 (okC (N:=["field"]) (C:=(csLast Qq0)) (O:=(owF tyInt)) (t:=fun E=>zhW_ K) (g:=fun c=>zfc_ c) 1 0 zs_ (fun _ _ _ _ _ _ E nd hr=>(zk_ (zP_ (zas_ z1_ (zas_ zir_ (zG_ ix_M (za_ 0) zj_ (fun _ _=>rfl)) (zG_ ix_M (za_ 0) zj_ (fun _ _=>rfl))) zj_)))) fun c E=>at_ [(Zf Qq0 c)]
 (zb4_ (zal_ zf_) (EvF.ow (zB_ zbb_ (zB_ zhr_ (zC_ (i:=1) (at_s zH_) (zc_ 0 rfl)) (zC_ (i:=0) at_0 (zc_ 0 rfl))) (zu_ 1)))))
theorem zeY_ (e:En K mg):zdl_ P w K mg base :=
 zbz_ e.m e.f19 (okC (N:=["field"]) (C:=(csLast Qq0)) (O:=(owL tyInt)) (t:=fun E=>zfI_ K) (g:=fun c=>zb0_ c) 1 0 zs_ (fun _ _ _ _ _ _ E nd hr=>(zk_ (zP_ (zjy_ "list" (zax_ rfl) (e.m.gb e.b3) (zb_ (zjy_ "range" zgD_ (e.m.gb e.b2) (zb_ (zG_ ix_M (za_ 0) zj_ (fun _ _=>rfl)) (zb_ (zas_ z1_ (zG_ ix_M (za_ 0) zj_ (fun _ _=>rfl)) zj_) zi_))) zi_))))) fun c E=>at_ [(Zf Qq0 c)]
 (zb4_ (zaf_ zf_) (zeS_ zhl_ (ze_ (zd5_ zjb_ (zl_ (zC_ (i:=0) at_0 (zc_ 0 rfl)) (ze_ (zB_ zbb_ (zC_ (i:=1) (at_s zH_) (zc_ 0 rfl)) (zu_ 1)))))))))
theorem zeH_ (e:En K mg) (g19:zdl_ P w K mg base):zcQ_ P w K mg base :=
 zbz_ e.m e.f20 (okC (N:=["asking", "row", "pick"]) (C:=(csLast (tyI (gA K "Asking") Qn0 (csCons tyStr (csCons (tyL Qq5) (csCons (tyOpt (tyU Qq6 Qq2)) Qq1)))))) (O:=(owL tyPass)) (t:=fun E=>ze1_ K) (g:=fun c=>zbv_ c) 1 2 zs_ (fun _ _ _ _ _ _ E nd hr=>(zh_ (pst 1 (zaR_ zi_)) (zh_ (zbr_ PassesOwn.never rfl (zbd_ (zA_ e.w0.cls e.a0.no (za_ 0))) (pgn 2) (zk_ (zx_ (ziu_ zbK_ za0_ zaZ_ zeJ_ (za_ 1) (zb_ (zdr_ (cl:=[]) (lv:=["column", "sign"]) (fr:=[]) rfl (csm rfl fr0) (zmy_ (e.m.gb e.b5) (zb_ (zo_ g19 (hm hr) (zb_ (zG_ ix_M (za_ 2) zj_ (fun _ _=>rfl)) zi_)) (zb_ (zG_ ix_M (za_ 2) zj_ (fun _ _=>rfl)) zi_))) (fun _ _ _ _=>(zge_ (n:=2) rfl (zaH_ (pgc 0) (zaH_ (pgc 1) zeD_)))) (fun _ _ _ _=>zdI_) (fun _ _ _ _=>(zdY_ (zb_ (zV_ (l:=[112,105,99,107])) (zb_ (za_ 0) (zb_ (za_ 1) zi_)))))) zi_))))) (zk_ (zP_ (za_ 1)))))) fun c E=>at_ [(Zf (tyI (gA K "Asking") Qn0 (csCons tyStr (csCons (tyL Qq5) (csCons (tyOpt (tyU Qq6 Qq2)) Qq1)))) c),Zd,Zd]
 (zbI_ (i:=1) rfl (zaf_ zh6_) (zcX_ tyPass) fun r1'=>(at_ [(Zf (tyI (gA K "Asking") Qn0 (csCons tyStr (csCons (tyL Qq5) (csCons (tyOpt (tyU Qq6 Qq2)) Qq1)))) c),(Zo (owL tyPass) r1'),Zd] (zbB_ (LS:=(fun s_2:(List Pas)=>[(Zf (tyI (gA K "Asking") Qn0 (csCons tyStr (csCons (tyL Qq5) (csCons (tyOpt (tyU Qq6 Qq2)) Qq1)))) c),(Zo (owL tyPass) s_2),Zd])) (zbw_ (L':=[(Zf (tyI (gA K "Asking") Qn0 (csCons tyStr (csCons (tyL Qq5) (csCons (tyOpt (tyU Qq6 Qq2)) Qq1)))) c),(Zo (owL tyPass) r1'),Zd]) (.same (.same (.same .nil))) (zfx_ (LS:=(fun s_2:(List Pas)=>[(Zf (tyI (gA K "Asking") Qn0 (csCons tyStr (csCons (tyL Qq5) (csCons (tyOpt (tyU Qq6 Qq2)) Qq1)))) c),(Zo (owL tyPass) s_2),Zd])) (s0:=r1') (ei_l (zZ_ (ns:=Qn0) (by decide +kernel) (n:=1) rfl (at_s at_0) (zc_ 0 rfl))) (zM_ 2) fun s_2 x_4=>at_ [(Zf (tyI (gA K "Asking") Qn0 (csCons tyStr (csCons (tyL Qq5) (csCons (tyOpt (tyU Qq6 Qq2)) Qq1)))) c),(Zo (owL tyPass) s_2),(Zf Qq5 x_4)] (zbZ_ (zfC_ (i:=1) rfl zh6_ (EvO.fr (O:=(owL tyPass)) (zdw_ (zkL_ (zl_ (EvO.fr (zaa_ (ze_ (zC_ (i:=0) at_0 (zc_ 2 rfl))))) (ze_ (zC_ (i:=1) (at_s zH_) (zc_ 2 rfl))))) (zjk_ (zm_ zr_) (zgs_ 0 (zgf_ (zM_ 1)))) (fun _=>dead2) (fun x11=>zdO_) (fun x11=>(zlL_ (zc_ 0 rfl) (zc_ 1 rfl))))) fun a15=>(at_ [(Zf (tyI (gA K "Asking") Qn0 (csCons tyStr (csCons (tyL Qq5) (csCons (tyOpt (tyU Qq6 Qq2)) Qq1)))) c),(Zo (owL tyPass) (s_2++a15)),(Zf Qq5 x_4)] (zq_ (.same (.same (.dead .nil))))))))) fun s_2=>(at_ [(Zf (tyI (gA K "Asking") Qn0 (csCons tyStr (csCons (tyL Qq5) (csCons (tyOpt (tyU Qq6 Qq2)) Qq1)))) c),(Zo (owL tyPass) s_2),Zd] (zlf_ (i:=1) rfl))))))
theorem zeB_ (e:En K mg) (g7:zan_ P w K mg base) (g18:zdA_ P w K mg base) (g16:zd8_ P w K mg base) (g17:zcv_ P w K mg base) (g20:zcQ_ P w K mg base):zcU_ P w K mg base :=
 zbz_ e.m e.f21 (okXU (N:=["asking", "pick"]) (C:=(csLast (tyI (gA K "Asking") Qn0 (csCons tyStr (csCons (tyL Qq5) (csCons (tyOpt (tyU Qq6 Qq2)) Qq1)))))) (LS:=fun _:Unit=>[Zd,Zd]) (t:=fun E=>zfh_ K E) (g:=fun c=>zbt_ c) 1 1 zs_ (fun _ _ _ _ _ _ E nd hr=>(zh_ (zbr_ PassesOwn.leaving rfl (zbd_ (zA_ e.w0.cls e.a0.no (za_ 0))) (pgn 1) (zh_ (zx_ (zy_ g7 (hm hr) zt_ (zb_ (zK_ (zds_ hr.u60) (zbO_ zF_ (e.m.gb e.b0) (zb_ (zG_ ix_M (za_ 1) zj_ (fun _ _=>rfl)) zi_)) (zo_ g18 (hm hr) (zb_ (zG_ ix_M (za_ 1) zj_ (fun _ _=>rfl)) zi_))) (zb_ (zV_ (l:=[97,32,112,105,99,107,39,115,32,116,101,120,116,32,105,115,32,97,115,32,119,105,100,101,32,97,115,32,105,116,115,32,102,105,101,108,100])) zi_)))) (zk_ (zx_ (zy_ g7 (hm hr) zt_ (zb_ (zo_ g16 (hm hr) (zb_ (zG_ ix_M (za_ 1) zj_ (fun _ _=>rfl)) zi_)) (zb_ (zV_ (l:=[97,32,112,105,99,107,39,115,32,116,101,120,116,32,105,115,32,111,102,32,115,105,103,110,115])) zi_))))))) (zk_ (zx_ (zy_ g7 (hm hr) zt_ (zb_ (zK_ zcu_ (zo_ g17 (hm hr) (zb_ (zo_ g20 (hm hr) (zb_ (za_ 0) zi_)) zi_)) zdQ_) (zb_ (zV_ (l:=[116,119,111,32,112,105,99,107,115,32,119,97,110,116,32,117,110,108,105,107,101,32,115,105,103,110,115,32,111,102,32,111,110,101,32,99,111,108,117,109,110])) zi_))))))) fun c E=>at_ [(Zf (tyI (gA K "Asking") Qn0 (csCons tyStr (csCons (tyL Qq5) (csCons (tyOpt (tyU Qq6 Qq2)) Qq1)))) c),Zd]
 (zbB_ (LS:=(fun _:Unit=>[(Zf (tyI (gA K "Asking") Qn0 (csCons tyStr (csCons (tyL Qq5) (csCons (tyOpt (tyU Qq6 Qq2)) Qq1)))) c),Zd])) (zbw_ (L':=[(Zf (tyI (gA K "Asking") Qn0 (csCons tyStr (csCons (tyL Qq5) (csCons (tyOpt (tyU Qq6 Qq2)) Qq1)))) c),Zd]) (.same (.same .nil)) (zfx_ (LS:=(fun _:Unit=>[(Zf (tyI (gA K "Asking") Qn0 (csCons tyStr (csCons (tyL Qq5) (csCons (tyOpt (tyU Qq6 Qq2)) Qq1)))) c),Zd])) (s0:=()) (ei_l (zZ_ (ns:=Qn0) (by decide +kernel) (n:=1) rfl (at_s at_0) (zc_ 0 rfl))) (zM_ 1) fun _ x_3=>at_ [(Zf (tyI (gA K "Asking") Qn0 (csCons tyStr (csCons (tyL Qq5) (csCons (tyOpt (tyU Qq6 Qq2)) Qq1)))) c),(Zf Qq5 x_3)] (zab_ (zz_ (zl_ (zB_ zgC_ (zd5_ zjQ_ (ze_ (zC_ (i:=1) (at_s zH_) (zc_ 1 rfl)))) (zp_ (ze_ (zC_ (i:=0) at_0 (zc_ 1 rfl))))) (ze_ (zU_ [97,32,112,105,99,107,39,115,32,116,101,120,116,32,105,115,32,97,115,32,119,105,100,101,32,97,115,32,105,116,115,32,102,105,101,108,100])))) fun a13=>(at_ [(Zf (tyI (gA K "Asking") Qn0 (csCons tyStr (csCons (tyL Qq5) (csCons (tyOpt (tyU Qq6 Qq2)) Qq1)))) c),(Zf Qq5 x_3)] (zbZ_ (zab_ (zz_ (zl_ (zp_ (ze_ (zC_ (i:=1) (at_s zH_) (zc_ 1 rfl)))) (ze_ (zU_ [97,32,112,105,99,107,39,115,32,116,101,120,116,32,105,115,32,111,102,32,115,105,103,110,115])))) fun a19=>(at_ [(Zf (tyI (gA K "Asking") Qn0 (csCons tyStr (csCons (tyL Qq5) (csCons (tyOpt (tyU Qq6 Qq2)) Qq1)))) c),(Zf Qq5 x_3)] (zq_ (.same (.dead .nil)))))))))) fun _=>(at_ [(Zf (tyI (gA K "Asking") Qn0 (csCons tyStr (csCons (tyL Qq5) (csCons (tyOpt (tyU Qq6 Qq2)) Qq1)))) c),Zd] (zbZ_ (zab_ (zz_ (zl_ (zB_ zen_ (zp_ (ze_ (EvO.fr (zaa_ (ze_ (zc_ 0 rfl)))))) zeI_) (ze_ (zU_ [116,119,111,32,112,105,99,107,115,32,119,97,110,116,32,117,110,108,105,107,101,32,115,105,103,110,115,32,111,102,32,111,110,101,32,99,111,108,117,109,110])))) fun a28=>(at_ [(Zf (tyI (gA K "Asking") Qn0 (csCons tyStr (csCons (tyL Qq5) (csCons (tyOpt (tyU Qq6 Qq2)) Qq1)))) c),Zd] (zq_ (.dead (.same .nil)))))))))
theorem zbn_ (e:En K mg) (g14:zad_ P w K mg base) (g7:zan_ P w K mg base) (g18:zdA_ P w K mg base):zaj_ P w K mg base :=
 zbz_ e.m e.f22 (okXU (N:=["asking", "fields"]) (C:=(csLast (tyI (gA K "Asking") Qn0 (csCons tyStr (csCons (tyL Qq5) (csCons (tyOpt (tyU Qq6 Qq2)) Qq1)))))) (LS:=fun _:Unit=>[Zd,Zd]) (t:=fun E=>zbH_ K E) (g:=fun c=>zY_ c) 1 1 zs_ (fun _ _ _ _ _ _ E nd hr=>(zh_ (pst 1 (zo_ g14 (hm hr) (zb_ (za_ 0) zi_))) (zk_ (zaw_ (ziA_ (za_ 1)) (zk_ (zx_ (zy_ g7 (hm hr) zt_ (zb_ (zK_ (zds_ hr.u60) (zo_ g18 (hm hr) (zb_ (zG_ ix_M (za_ 1) zj_ (fun _ _=>rfl)) zi_)) (zo_ g18 (hm hr) (zb_ (zG_ ix_M (za_ 1) (zmD_ zj_) (fun _ _=>rfl)) zi_))) (zb_ (zV_ (l:=[116,104,101,32,109,105,100,100,108,101,39,115,32,102,105,101,108,100,115,32,97,114,101,32,111,102,32,111,110,101,32,119,105,100,116,104])) zi_))))) zQ_)))) fun c E=>at_ [(Zf (tyI (gA K "Asking") Qn0 (csCons tyStr (csCons (tyL Qq5) (csCons (tyOpt (tyU Qq6 Qq2)) Qq1)))) c),Zd]
 (zbI_ (i:=1) rfl (zaf_ (zn_ (zd_ zf_ (zg_ zf_)))) (zaa_ (ze_ (zc_ 0 rfl))) fun u1'=>zhZ_ (i:=1) rfl (at_ [(Zf (tyI (gA K "Asking") Qn0 (csCons tyStr (csCons (tyL Qq5) (csCons (tyOpt (tyU Qq6 Qq2)) Qq1)))) c),(Zf (tyL Qq0) u1')] (s_if (zoa_ (zc_ 1 rfl)) (zbZ_ (zab_ (zz_ (zl_ (zB_ zgC_ (zp_ (ze_ (zB_ zc4_ (zc_ 1 rfl) (zu_ 0)))) (zp_ (ze_ (zB_ zc4_ (zc_ 1 rfl) (zmc_ (zu_ 1)))))) (ze_ (zU_ [116,104,101,32,109,105,100,100,108,101,39,115,32,102,105,101,108,100,115,32,97,114,101,32,111,102,32,111,110,101,32,119,105,100,116,104])))) fun a17=>(at_ [(Zf (tyI (gA K "Asking") Qn0 (csCons tyStr (csCons (tyL Qq5) (csCons (tyOpt (tyU Qq6 Qq2)) Qq1)))) c),(Zf (tyL Qq0) u1')] (zq_ (.dead (.dead .nil)))))) (zq_ (.dead (.dead .nil)))))))
theorem zg9_ (e:En K mg):zcm_ P w K mg base :=
 zbz_ e.m e.f23 (okC (N:=["value"]) (C:=(csLast tyInt)) (O:=(owF tyBl)) (t:=fun E=>zhq_ K) (g:=fun c=>zdj_ c) 1 0 zs_ (fun _ _ _ _ _ _ E nd hr=>(zk_ (zP_ (zba_ (zbO_ zhX_ (e.m.gb e.b6) (zb_ (za_ 0) (zb_ (zn7_ "int" (e.m.gb e.b7)) zi_))) (zcH_ (zh4_ (zbO_ zhX_ (e.m.gb e.b6) (zb_ (za_ 0) (zb_ (zn7_ "bool" (e.m.gb e.b8)) zi_))))))))) fun c E=>at_ [(Zf tyInt c)]
 (zb4_ (zal_ zai_) (EvF.ow (zc0_ (zmJ_ zm4_ (zc_ 0 rfl)) (zjZ_ (zmJ_ zm4_ (zc_ 0 rfl)))))))
theorem zfV_ (e:En K mg) (g23:zcm_ P w K mg base):zea_ P w K mg base :=
 zbz_ e.m e.f24 (okC (N:=["value", "most"]) (C:=(csCons tyInt (csLast tyInt))) (O:=(owF tyBl)) (t:=fun E=>zgV_ K) (g:=fun c=>zef_ c.1 c.2) 2 0 (zX_ zs_) (fun _ _ _ _ _ _ E nd hr=>(zk_ (zP_ (zba_ (zo_ g23 (hm hr) (zb_ (za_ 0) zi_)) (zcH_ (zc5_ zaP_ zaP_ zj_ (za_ 0) (za_ 1))))))) fun c E=>at_ [(Zf tyInt c.1),(Zf tyInt c.2)]
 (zb4_ (zal_ zai_) (EvF.ow (zc0_ (zp_ (ze_ (zc_ 0 rfl))) (zez_ zaN_ zaN_ (zu_ 1) (zc_ 0 rfl) (zc_ 1 rfl))))))
theorem ze0_ (e:En K mg) (g24:zea_ P w K mg base):zdG_ P w K mg base :=
 zbz_ e.m e.f25 (okC (N:=["wires", "wire", "leading"]) (C:=(csLast (tyL Qq0))) (O:=(owL Qq0)) (t:=fun E=>zf3_ K) (g:=fun c=>zb5_ c) 1 2 zs_ (fun _ _ _ _ _ _ E nd hr=>(zh_ (zbr_ PassesOwn.never rfl (zbd_ (za_ 0)) (pgn 1) (zk_ (zaw_ (PW.pt (zlU_ (zjo_ (zcV_ (zo_ g24 (hm hr) (zb_ (zG_ ix_M (za_ 1) zj_ (fun _ _=>rfl)) (zb_ (zdt_ (e.m.gv e.c7)) zi_))))) (zl6_ (zjo_ (zcV_ (zo_ g24 (hm hr) (zb_ (zG_ ix_M (za_ 1) zj_ (fun _ _=>rfl)) (zb_ (zdt_ (e.m.gv e.c8)) zi_)))))))) (zk_ zfL_) zQ_))) (zh_ (pst 2 zh2_) (zh_ (zbr_ PassesOwn.never rfl (zbd_ (za_ 0)) (pgn 1) (zh_ (zaw_ (zlE_ hr.u60 (zG_ ix_M (za_ 1) zj_ (fun _ _=>rfl)) (za_ 2)) (zk_ zfL_) zQ_) (zk_ (zka_ hr.u60 (za_ 2) (zG_ ix_M (za_ 1) zj_ (fun _ _=>rfl)) (za_ 1))))) (zk_ (zP_ (zdr_ (cl:=_) (lv:=["column"]) (fr:=[("leading",2)]) rfl (csm rfl (frc fr0)) (zbd_ (zbO_ (zfo_ runB64 rfl) (e.m.gb e.b9) (zb_ (za_ 2) zi_))) (fun _ _ _ _=>(pgc 0)) (fun _ _ _ _=>zdI_) (fun _ _ _ _=>(zkt_ hr.u60 (za_ 1) (za_ 0)))))))))) fun c E=>at_ [(Zf (tyL Qq0) c),Zd,Zd]
 (zbB_ (LS:=(fun _:Unit=>[(Zf (tyL Qq0) c),Zd,Zd])) (zbw_ (L':=[(Zf (tyL Qq0) c),Zd,Zd]) (.same (.same (.same .nil))) (zfx_ (LS:=(fun _:Unit=>[(Zf (tyL Qq0) c),Zd,Zd])) (s0:=()) (ei_l (zc_ 0 rfl)) (zM_ 1) fun _ x_2=>at_ [(Zf (tyL Qq0) c),(Zf Qq0 x_2),Zd] (s_if (et_or (zjl_ (z2_ (zp_ (zl_ (zC_ (i:=0) at_0 (zc_ 1 rfl)) (ze_ (zu_ 40)))))) (zjl_ (z2_ (zp_ (zl_ (zC_ (i:=1) (at_s zH_) (zc_ 1 rfl)) (ze_ (zu_ 36))))))) zhH_ (zq_ (.same (.dead (.same .nil))))))) fun _=>(at_ [(Zf (tyL Qq0) c),Zd,Zd] (zbI_ (i:=2) rfl (zm6_ (zn_ (zd_ zf_ (zg_ zf_)))) (zjG_ kInt Qq0) fun l16=>(at_ [(Zf (tyL Qq0) c),Zd,(Zo (owD kInt Qq0) l16)] (zbB_ (LS:=(fun s17:(List (Int×(Int×Int)))=>[(Zf (tyL Qq0) c),Zd,(Zo (owD kInt Qq0) s17)])) (zbw_ (L':=[(Zf (tyL Qq0) c),Zd,(Zo (owD kInt Qq0) l16)]) (.same (.same (.same .nil))) (zfx_ (LS:=(fun s17:(List (Int×(Int×Int)))=>[(Zf (tyL Qq0) c),Zd,(Zo (owD kInt Qq0) s17)])) (s0:=l16) (ei_l (zc_ 0 rfl)) (zM_ 1) fun s17 x18=>at_ [(Zf (tyL Qq0) c),(Zf Qq0 x18),(Zo (owD kInt Qq0) s17)] (zbB_ (LS:=(fun _:Unit=>[(Zf (tyL Qq0) c),(Zf Qq0 x18),(Zo (owD kInt Qq0) s17)])) (s_if (z2_ (znU_ false (zC_ (i:=1) (at_s zH_) (zc_ 1 rfl)) (zhT_ 2 rfl))) zhH_ (zq_ (.same (.same (.same .nil))))) fun _=>(at_ [(Zf (tyL Qq0) c),(Zf Qq0 x18),(Zo (owD kInt Qq0) s17)] (zbZ_ (zng_ (i:=2) rfl (zn_ (zd_ zf_ (zg_ zf_))) zf_ (zc_ 1 rfl) (zC_ (i:=1) (at_s zH_) (zc_ 1 rfl)) fun a25 y26=>(at_ [(Zf (tyL Qq0) c),(Zf Qq0 x18),(Zo (owD kInt Qq0) (putA s17 y26 a25))] (zq_ (.same (.dead (.same .nil))))))))))) fun s17=>(at_ [(Zf (tyL Qq0) c),Zd,(Zo (owD kInt Qq0) s17)] (zb4_ (zaf_ (zn_ (zd_ zf_ (zg_ zf_)))) (zdw_ (ei_l (EvO.fr (zeS_ (zgX_ znJ_ znA_ znO_) (ze_ (zhT_ 2 rfl))))) (zM_ 0) (fun _=>dead1) (fun x29=>zdO_) (fun x29=>(zmr_ (zhT_ 1 rfl) (zc_ 0 rfl))))))))))))
theorem zg1_ (e:En K mg) (g25:zdG_ P w K mg base):ze4_ P w K mg base :=
 zbz_ e.m e.f26 (okC (N:=["wires", "board"]) (C:=(csLast (tyL Qq0))) (O:=(owF tyBl)) (t:=fun E=>zh8_ K) (g:=fun c=>zdN_ c) 1 1 zs_ (fun _ _ _ _ _ _ E nd hr=>(zh_ (zj8_ rfl rfl (zis_ (znI_ (pst 1 (zo_ g25 (hm hr) (zb_ (za_ 0) zi_))))) zQ_ zkE_) (zk_ (zP_ (zK_ (zds_ hr.u60) (za_ 1) (za_ 0)))))) fun c E=>at_ [(Zf (tyL Qq0) c),Zd]
 (zlQ_ (zbI_ (i:=1) rfl (zaf_ (zn_ (zd_ zf_ (zg_ zf_)))) (zaa_ (ze_ (zc_ 0 rfl))) fun u3'=>zhZ_ (i:=1) rfl (at_ [(Zf (tyL Qq0) c),(Zf (tyL Qq0) u3')] (zb4_ (zal_ zai_) (EvF.ow (zB_ (zn6_ (eqt_l (ze5_ (zb3_ zcW_ (zdh_ zcW_))))) (zc_ 1 rfl) (zc_ 0 rfl))))))))
theorem zc3_ (e:En K mg) (g7:zan_ P w K mg base) (g23:zcm_ P w K mg base) (g26:ze4_ P w K mg base):zbk_ P w K mg base :=
 zbz_ e.m e.f27 (okXU (N:=Qn1) (C:=(csLast (tyI (gA K "Asking") Qn0 (csCons tyStr (csCons (tyL Qq5) (csCons (tyOpt (tyU Qq6 Qq2)) Qq1)))))) (LS:=fun _:Unit=>[Zd]) (t:=fun E=>zdp_ K E) (g:=fun c=>zar_ c) 1 0 zs_ (fun _ _ _ _ _ _ E nd hr=>(zh_ (zx_ (zy_ g7 (hm hr) zt_ (zb_ (zba_ (zo_ g23 (hm hr) (zb_ (zA_ e.w0.cls e.a6.no (za_ 0)) zi_)) (zcH_ (zc5_ zaP_ zaP_ zj_ (zA_ e.w0.cls e.a6.no (za_ 0)) (zdt_ (e.m.gv e.c9))))) (zb_ (zV_ (l:=[116,104,101,114,101,32,97,114,101,32,48,32,116,111,32,51,32,98,114,101,97,107,115])) zi_)))) (zh_ (zx_ (zy_ g7 (hm hr) zt_ (zb_ (zK_ zaP_ (zA_ e.w0.cls e.a6.no (za_ 0)) (zbO_ zF_ (e.m.gb e.b0) (zb_ (zA_ e.w0.cls e.a1.no (za_ 0)) zi_))) (zb_ (zV_ (l:=[116,104,101,114,101,32,97,114,101,32,110,111,32,109,111,114,101,32,98,114,101,97,107,115,32,116,104,97,110,32,107,101,121,115])) zi_)))) (zh_ (zx_ (zy_ g7 (hm hr) zt_ (zb_ (zba_ (zo_ g23 (hm hr) (zb_ (zA_ e.w0.cls e.a7.no (za_ 0)) zi_)) (zcH_ (zc5_ zaP_ zaP_ zj_ (zA_ e.w0.cls e.a7.no (za_ 0)) (zdt_ (e.m.gv e.c10))))) (zb_ (zV_ (l:=[119,104,101,101,108,115,32,104,97,118,101,32,49,32,116,111,32,49,50,32,102,105,103,117,114,101,115])) zi_)))) (zk_ (zx_ (zy_ g7 (hm hr) zt_ (zb_ (zo_ g26 (hm hr) (zb_ (zA_ e.w0.cls e.a8.no (za_ 0)) zi_)) (zb_ (zV_ (l:=[116,104,101,32,98,111,97,114,100,32,105,115,32,110,111,110,101,44,32,111,114,32,110,111,116,32,115,111,114,116,101,100])) zi_))))))))) fun c E=>at_ [(Zf (tyI (gA K "Asking") Qn0 (csCons tyStr (csCons (tyL Qq5) (csCons (tyOpt (tyU Qq6 Qq2)) Qq1)))) c)]
 (zab_ (zz_ (zl_ (zc0_ (zp_ (ze_ (zZ_ (ns:=Qn0) (by decide +kernel) (n:=5) rfl (at_s (at_s (at_s (at_s (at_s at_0))))) (zc_ 0 rfl)))) (zez_ zaN_ zaN_ (zu_ 0) (zZ_ (ns:=Qn0) (by decide +kernel) (n:=5) rfl (at_s (at_s (at_s (at_s (at_s at_0))))) (zc_ 0 rfl)) (zu_ 3))) (ze_ (zU_ [116,104,101,114,101,32,97,114,101,32,48,32,116,111,32,51,32,98,114,101,97,107,115])))) fun a13=>(at_ [(Zf (tyI (gA K "Asking") Qn0 (csCons tyStr (csCons (tyL Qq5) (csCons (tyOpt (tyU Qq6 Qq2)) Qq1)))) c)] (zab_ (zz_ (zl_ (zB_ zaN_ (zZ_ (ns:=Qn0) (by decide +kernel) (n:=5) rfl (at_s (at_s (at_s (at_s (at_s at_0))))) (zc_ 0 rfl)) (zd5_ za7_ (ze_ (zZ_ (ns:=Qn0) (by decide +kernel) (n:=3) rfl (at_s (at_s (at_s at_0))) (zc_ 0 rfl))))) (ze_ (zU_ [116,104,101,114,101,32,97,114,101,32,110,111,32,109,111,114,101,32,98,114,101,97,107,115,32,116,104,97,110,32,107,101,121,115])))) fun a22=>(at_ [(Zf (tyI (gA K "Asking") Qn0 (csCons tyStr (csCons (tyL Qq5) (csCons (tyOpt (tyU Qq6 Qq2)) Qq1)))) c)] (zab_ (zz_ (zl_ (zc0_ (zp_ (ze_ (zZ_ (ns:=Qn0) (by decide +kernel) (n:=7) rfl (at_s (at_s (at_s (at_s (at_s (at_s (at_s at_0))))))) (zc_ 0 rfl)))) (zez_ zaN_ zaN_ (zu_ 1) (zZ_ (ns:=Qn0) (by decide +kernel) (n:=7) rfl (at_s (at_s (at_s (at_s (at_s (at_s (at_s at_0))))))) (zc_ 0 rfl)) (zu_ 12))) (ze_ (zU_ [119,104,101,101,108,115,32,104,97,118,101,32,49,32,116,111,32,49,50,32,102,105,103,117,114,101,115])))) fun a35=>(at_ [(Zf (tyI (gA K "Asking") Qn0 (csCons tyStr (csCons (tyL Qq5) (csCons (tyOpt (tyU Qq6 Qq2)) Qq1)))) c)] (zbZ_ (zab_ (zz_ (zl_ (zp_ (ze_ (zZ_ (ns:=Qn0) (by decide +kernel) (n:=8) rfl (at_s (at_s (at_s (at_s (at_s (at_s (at_s (at_s at_0)))))))) (zc_ 0 rfl)))) (ze_ (zU_ [116,104,101,32,98,111,97,114,100,32,105,115,32,110,111,110,101,44,32,111,114,32,110,111,116,32,115,111,114,116,101,100])))) fun a41=>(at_ [(Zf (tyI (gA K "Asking") Qn0 (csCons tyStr (csCons (tyL Qq5) (csCons (tyOpt (tyU Qq6 Qq2)) Qq1)))) c)] (zq_ (.dead .nil))))))))))))
theorem zeq_ (e:En K mg) (g14:zad_ P w K mg base):zcP_ P w K mg base :=
 zbz_ e.m e.f28 (okC (N:=["asking", "place", "fields", "other_place", "work"]) (C:=(csCons (tyI (gA K "Asking") Qn0 (csCons tyStr (csCons (tyL Qq5) (csCons (tyOpt (tyU Qq6 Qq2)) Qq1)))) (csLast tyInt))) (O:=(owL Qq0)) (t:=fun E=>zfv_ K) (g:=fun c=>zbp_ c.1 c.2) 2 3 (zX_ zs_) (fun _ _ _ _ _ _ E nd hr=>(zh_ (pst 2 (zas_ z1_ (zas_ z1_ (zdr_ (cl:=[]) (lv:=["pick"]) (fr:=[]) rfl (csm rfl fr0) (zbd_ (zA_ e.w0.cls e.a0.no (za_ 0))) (fun _ _ _ _=>(pgc 0)) (fun _ _ _ _=>zdI_) (fun _ _ _ _=>(zG_ ix_M (za_ 0) zj_ (fun _ _=>rfl)))) (zcA_ sl_M (zo_ g14 (hm hr) (zb_ (za_ 0) zi_)) zej_ (po_M zj_))) (zA_ e.w0.cls e.a1.no (za_ 0)))) (zh_ (zbr_ PassesOwn.never rfl (zil_ (by rfl) (e.m.gb e.b10) (zb_ (zA_ e.w0.cls e.a2.no (za_ 0)) zi_)) (zge_ (n:=2) rfl (zaH_ (pgn 3) (zaH_ (pgn 4) zeD_))) (zh_ (zaw_ (zN_ (zf2_ hr.u60) (za_ 3) (za_ 1)) (zk_ (zx_ (ziu_ zbK_ zI_ zJ_ zaC_ (za_ 2) (zb_ (zG_ ix_M (za_ 4) zj_ (fun _ _=>rfl)) zi_)))) zQ_) (zk_ (zaw_ (zN_ zaP_ (za_ 3) (za_ 1)) (zk_ (zx_ (ziu_ zbK_ za0_ zaZ_ zeJ_ (za_ 2) (zb_ (zaR_ (zb_ (zG_ ix_M (za_ 4) zj_ (fun _ _=>rfl)) (zb_ (zG_ ix_M (za_ 4) zj_ (fun _ _=>rfl)) zi_))) zi_)))) zQ_)))) (zk_ (zP_ (za_ 2)))))) fun c E=>at_ [(Zf (tyI (gA K "Asking") Qn0 (csCons tyStr (csCons (tyL Qq5) (csCons (tyOpt (tyU Qq6 Qq2)) Qq1)))) c.1),(Zf tyInt c.2),Zd,Zd,Zd]
 (zbI_ (i:=2) rfl (zaf_ (zn_ (zd_ zf_ (zg_ zf_)))) (zfj_ zcK_ (EvO.fr (O:=(owL Qq0)) (zfj_ zcK_ (EvO.fr (O:=(owL Qq0)) (zdw_ (ei_l (zZ_ (ns:=Qn0) (by decide +kernel) (n:=1) rfl (at_s at_0) (zc_ 0 rfl))) (zM_ 0) (fun _=>dead1) (fun x_3=>zdO_) (fun x_3=>(zC_ (i:=0) at_0 (zc_ 0 rfl))))) (EvO.fr (zkH_ (EvO.fr (zaa_ (ze_ (zc_ 0 rfl)))) zna_ (zm7_ (zu_ 1)))))) (zZ_ (ns:=Qn0) (by decide +kernel) (n:=3) rfl (at_s (at_s (at_s at_0))) (zc_ 0 rfl))) fun u1'=>(at_ [(Zf (tyI (gA K "Asking") Qn0 (csCons tyStr (csCons (tyL Qq5) (csCons (tyOpt (tyU Qq6 Qq2)) Qq1)))) c.1),(Zf tyInt c.2),(Zo (owL Qq0) u1'),Zd,Zd] (zbB_ (LS:=(fun s16:(List (Int×Int))=>[(Zf (tyI (gA K "Asking") Qn0 (csCons tyStr (csCons (tyL Qq5) (csCons (tyOpt (tyU Qq6 Qq2)) Qq1)))) c.1),(Zf tyInt c.2),(Zo (owL Qq0) s16),Zd,Zd])) (zbw_ (L':=[(Zf (tyI (gA K "Asking") Qn0 (csCons tyStr (csCons (tyL Qq5) (csCons (tyOpt (tyU Qq6 Qq2)) Qq1)))) c.1),(Zf tyInt c.2),(Zo (owL Qq0) u1'),Zd,Zd]) (S4 (.same .nil)) (zfx_ (LS:=(fun s16:(List (Int×Int))=>[(Zf (tyI (gA K "Asking") Qn0 (csCons tyStr (csCons (tyL Qq5) (csCons (tyOpt (tyU Qq6 Qq2)) Qq1)))) c.1),(Zf tyInt c.2),(Zo (owL Qq0) s16),Zd,Zd])) (s0:=u1') (zhS_ (ze_ (zZ_ (ns:=Qn0) (by decide +kernel) (n:=4) rfl (at_s (at_s (at_s (at_s at_0)))) (zc_ 0 rfl)))) (zjk_ (zm_ zr_) (zgs_ 3 (zgf_ (zM_ 4)))) fun s16 x19=>at_ [(Zf (tyI (gA K "Asking") Qn0 (csCons tyStr (csCons (tyL Qq5) (csCons (tyOpt (tyU Qq6 Qq2)) Qq1)))) c.1),(Zf tyInt c.2),(Zo (owL Qq0) s16),(Zf tyInt x19.1),(Zf Qq4 x19.2)] (zbB_ (LS:=(fun s23:(List (Int×Int))=>[(Zf (tyI (gA K "Asking") Qn0 (csCons tyStr (csCons (tyL Qq5) (csCons (tyOpt (tyU Qq6 Qq2)) Qq1)))) c.1),(Zf tyInt c.2),(Zo (owL Qq0) s23),(Zf tyInt x19.1),(Zf Qq4 x19.2)])) (s_if (z2_ (zB_ zmF_ (zc_ 3 rfl) (zc_ 1 rfl))) (zbZ_ (zbY_ (i:=2) rfl (zn_ (zd_ zf_ (zg_ zf_))) (zC_ (i:=0) at_0 (zc_ 4 rfl)) fun a25=>(at_ [(Zf (tyI (gA K "Asking") Qn0 (csCons tyStr (csCons (tyL Qq5) (csCons (tyOpt (tyU Qq6 Qq2)) Qq1)))) c.1),(Zf tyInt c.2),(Zo (owL Qq0) (s16++[a25])),(Zf tyInt x19.1),(Zf Qq4 x19.2)] (zq_ (S4 (.same .nil)))))) (zq_ (S4 (.same .nil)))) fun s23=>(at_ [(Zf (tyI (gA K "Asking") Qn0 (csCons tyStr (csCons (tyL Qq5) (csCons (tyOpt (tyU Qq6 Qq2)) Qq1)))) c.1),(Zf tyInt c.2),(Zo (owL Qq0) s23),(Zf tyInt x19.1),(Zf Qq4 x19.2)] (zbZ_ (zbB_ (LS:=(fun s29:(List (Int×Int))=>[(Zf (tyI (gA K "Asking") Qn0 (csCons tyStr (csCons (tyL Qq5) (csCons (tyOpt (tyU Qq6 Qq2)) Qq1)))) c.1),(Zf tyInt c.2),(Zo (owL Qq0) s29),(Zf tyInt x19.1),(Zf Qq4 x19.2)])) (s_if (z2_ (zB_ zaN_ (zc_ 3 rfl) (zc_ 1 rfl))) (zbZ_ (zfC_ (i:=2) rfl (zn_ (zd_ zf_ (zg_ zf_))) (EvO.fr (zd1_ (zm_ zr_) (zW_ zav_) (zl_ (zC_ (i:=1) (at_s at_0) (zc_ 4 rfl)) (ze_ (zC_ (i:=3) (at_s (at_s (at_s zH_))) (zc_ 4 rfl)))))) fun a35=>(at_ [(Zf (tyI (gA K "Asking") Qn0 (csCons tyStr (csCons (tyL Qq5) (csCons (tyOpt (tyU Qq6 Qq2)) Qq1)))) c.1),(Zf tyInt c.2),(Zo (owL Qq0) (s23++a35)),(Zf tyInt x19.1),(Zf Qq4 x19.2)] (zq_ (S4 (.same .nil)))))) (zq_ (S4 (.same .nil)))) fun s29=>(at_ [(Zf (tyI (gA K "Asking") Qn0 (csCons tyStr (csCons (tyL Qq5) (csCons (tyOpt (tyU Qq6 Qq2)) Qq1)))) c.1),(Zf tyInt c.2),(Zo (owL Qq0) s29),(Zf tyInt x19.1),(Zf Qq4 x19.2)] (zq_ (.same (.same (.same (.dead (.dead .nil))))))))))))) fun s16=>(at_ [(Zf (tyI (gA K "Asking") Qn0 (csCons tyStr (csCons (tyL Qq5) (csCons (tyOpt (tyU Qq6 Qq2)) Qq1)))) c.1),(Zf tyInt c.2),(Zo (owL Qq0) s16),Zd,Zd] (zlf_ (i:=2) rfl))))))
theorem zf1_ (e:En K mg):zd9_ P w K mg base :=
 zbz_ e.m e.f29 (okC (N:=["one", "other"]) (C:=(csCons Qq0 (csLast Qq0))) (O:=(owF tyBl)) (t:=fun E=>zgF_ K) (g:=fun c=>zcD_ c.1 c.2) 2 0 (zX_ zs_) (fun _ _ _ _ _ _ E nd hr=>(zk_ (zP_ (zkR_ (zK_ zg4_ (zG_ ix_M (za_ 0) zj_ (fun _ _=>rfl)) (zG_ ix_M (za_ 1) zj_ (fun _ _=>rfl))) (zcH_ (zK_ zg4_ (zG_ ix_M (za_ 1) zj_ (fun _ _=>rfl)) (zG_ ix_M (za_ 0) zj_ (fun _ _=>rfl)))))))) fun c E=>at_ [(Zf Qq0 c.1),(Zf Qq0 c.2)]
 (zb4_ (zal_ zai_) (EvF.ow (zog_ (zB_ zgA_ (zC_ (i:=1) (at_s zH_) (zc_ 0 rfl)) (zC_ (i:=0) at_0 (zc_ 1 rfl))) (zB_ zgA_ (zC_ (i:=1) (at_s zH_) (zc_ 1 rfl)) (zC_ (i:=0) at_0 (zc_ 0 rfl)))))))
theorem zew_ (e:En K mg) (g7:zan_ P w K mg base) (g28:zcP_ P w K mg base) (g29:zd9_ P w K mg base):zcS_ P w K mg base :=
 zbz_ e.m e.f30 (okXU (N:=["asking", "place", "work", "field"]) (C:=(csLast (tyI (gA K "Asking") Qn0 (csCons tyStr (csCons (tyL Qq5) (csCons (tyOpt (tyU Qq6 Qq2)) Qq1)))))) (LS:=fun _:Unit=>[Zd,Zd,Zd,Zd]) (t:=fun E=>zft_ K E) (g:=fun c=>zby_ c) 1 3 zs_ (fun _ _ _ _ _ _ E nd hr=>(zk_ (zbr_ PassesOwn.leaving rfl (zil_ (by rfl) (e.m.gb e.b10) (zb_ (zA_ e.w0.cls e.a2.no (za_ 0)) zi_)) (zge_ (n:=2) rfl (zaH_ (pgn 1) (zaH_ (pgn 2) zeD_))) (zh_ (zx_ (zy_ g7 (hm hr) zt_ (zb_ (zK_ zi0_ (zG_ ix_M (za_ 2) zj_ (fun _ _=>rfl)) (zdt_ (e.m.gkc e.k2))) (zb_ (zV_ (l:=[97,32,119,111,114,107,32,104,97,115,32,111,110,101,32,111,102,32,116,104,114,101,101,32,119,111,114,100,115])) zi_)))) (zk_ (zbr_ PassesOwn.leaving rfl (zbd_ (zo_ g28 (hm hr) (zb_ (za_ 0) (zb_ (za_ 1) zi_)))) (pgn 3) (zk_ (zx_ (zy_ g7 (hm hr) zt_ (zb_ (zo_ g29 (hm hr) (zb_ (zG_ ix_M (za_ 2) zj_ (fun _ _=>rfl)) (zb_ (za_ 3) zi_))) (zb_ (zV_ (l:=[97,32,119,111,114,107,32,112,117,110,99,104,101,115,32,105,110,116,111,32,97,32,102,105,101,108,100,32,116,104,97,116,32,105,116,32,109,117,115,116,32,98,101,32,97,112,97,114,116,32,102,114,111,109])) zi_))))))))))) fun c E=>at_ [(Zf (tyI (gA K "Asking") Qn0 (csCons tyStr (csCons (tyL Qq5) (csCons (tyOpt (tyU Qq6 Qq2)) Qq1)))) c),Zd,Zd,Zd]
 (zbZ_ (zbB_ (LS:=(fun _:Unit=>[(Zf (tyI (gA K "Asking") Qn0 (csCons tyStr (csCons (tyL Qq5) (csCons (tyOpt (tyU Qq6 Qq2)) Qq1)))) c),Zd,Zd,Zd])) (zbw_ (L':=[(Zf (tyI (gA K "Asking") Qn0 (csCons tyStr (csCons (tyL Qq5) (csCons (tyOpt (tyU Qq6 Qq2)) Qq1)))) c),Zd,Zd,Zd]) (S4 .nil) (zfx_ (LS:=(fun _:Unit=>[(Zf (tyI (gA K "Asking") Qn0 (csCons tyStr (csCons (tyL Qq5) (csCons (tyOpt (tyU Qq6 Qq2)) Qq1)))) c),Zd,Zd,Zd])) (s0:=()) (zhS_ (ze_ (zZ_ (ns:=Qn0) (by decide +kernel) (n:=4) rfl (at_s (at_s (at_s (at_s at_0)))) (zc_ 0 rfl)))) (zjk_ (zm_ zr_) (zgs_ 1 (zgf_ (zM_ 2)))) fun _ x_4=>at_ [(Zf (tyI (gA K "Asking") Qn0 (csCons tyStr (csCons (tyL Qq5) (csCons (tyOpt (tyU Qq6 Qq2)) Qq1)))) c),(Zf tyInt x_4.1),(Zf Qq4 x_4.2),Zd] (zab_ (zz_ (zl_ (zmG_ e.t1 (zC_ (i:=2) (at_s (at_s at_0)) (zc_ 2 rfl))) (ze_ (zU_ [97,32,119,111,114,107,32,104,97,115,32,111,110,101,32,111,102,32,116,104,114,101,101,32,119,111,114,100,115])))) fun a10=>(at_ [(Zf (tyI (gA K "Asking") Qn0 (csCons tyStr (csCons (tyL Qq5) (csCons (tyOpt (tyU Qq6 Qq2)) Qq1)))) c),(Zf tyInt x_4.1),(Zf Qq4 x_4.2),Zd] (zbZ_ (zbB_ (LS:=(fun _:Unit=>[(Zf (tyI (gA K "Asking") Qn0 (csCons tyStr (csCons (tyL Qq5) (csCons (tyOpt (tyU Qq6 Qq2)) Qq1)))) c),(Zf tyInt x_4.1),(Zf Qq4 x_4.2),Zd])) (zbw_ (L':=[(Zf (tyI (gA K "Asking") Qn0 (csCons tyStr (csCons (tyL Qq5) (csCons (tyOpt (tyU Qq6 Qq2)) Qq1)))) c),(Zf tyInt x_4.1),(Zf Qq4 x_4.2),Zd]) (S4 .nil) (zfx_ (LS:=(fun _:Unit=>[(Zf (tyI (gA K "Asking") Qn0 (csCons tyStr (csCons (tyL Qq5) (csCons (tyOpt (tyU Qq6 Qq2)) Qq1)))) c),(Zf tyInt x_4.1),(Zf Qq4 x_4.2),Zd])) (s0:=()) (ei_l (EvO.fr (zaa_ (zl_ (zc_ 0 rfl) (ze_ (zc_ 1 rfl)))))) (zM_ 3) fun _ x15=>at_ [(Zf (tyI (gA K "Asking") Qn0 (csCons tyStr (csCons (tyL Qq5) (csCons (tyOpt (tyU Qq6 Qq2)) Qq1)))) c),(Zf tyInt x_4.1),(Zf Qq4 x_4.2),(Zf Qq0 x15)] (zbZ_ (zab_ (zz_ (zl_ (zp_ (zl_ (zC_ (i:=0) at_0 (zc_ 2 rfl)) (ze_ (zc_ 3 rfl)))) (ze_ (zU_ [97,32,119,111,114,107,32,112,117,110,99,104,101,115,32,105,110,116,111,32,97,32,102,105,101,108,100,32,116,104,97,116,32,105,116,32,109,117,115,116,32,98,101,32,97,112,97,114,116,32,102,114,111,109])))) fun a23=>(at_ [(Zf (tyI (gA K "Asking") Qn0 (csCons tyStr (csCons (tyL Qq5) (csCons (tyOpt (tyU Qq6 Qq2)) Qq1)))) c),(Zf tyInt x_4.1),(Zf Qq4 x_4.2),(Zf Qq0 x15)] (zq_ (.same (.same (.same (.dead .nil)))))))))) fun _=>(at_ [(Zf (tyI (gA K "Asking") Qn0 (csCons tyStr (csCons (tyL Qq5) (csCons (tyOpt (tyU Qq6 Qq2)) Qq1)))) c),(Zf tyInt x_4.1),(Zf Qq4 x_4.2),Zd] (zq_ (.same (.dead (.dead (.same .nil)))))))))))) fun _=>(at_ [(Zf (tyI (gA K "Asking") Qn0 (csCons tyStr (csCons (tyL Qq5) (csCons (tyOpt (tyU Qq6 Qq2)) Qq1)))) c),Zd,Zd,Zd] (zq_ (.dead (.same (.same (.same .nil)))))))))
theorem zha_ (e:En K mg) (g23:zcm_ P w K mg base):ze6_ P w K mg base :=
 zbz_ e.m e.f31 (okC (N:=["first", "last"]) (C:=(csCons tyInt (csLast tyInt))) (O:=(owF tyBl)) (t:=fun E=>zhF_ K) (g:=fun c=>zdE_ c.1 c.2) 2 0 (zX_ zs_) (fun _ _ _ _ _ _ E nd hr=>(zk_ (zP_ (zba_ (zo_ g23 (hm hr) (zb_ (za_ 0) zi_)) (zba_ (zo_ g23 (hm hr) (zb_ (za_ 1) zi_)) (zcH_ (zhd_ zaP_ zaP_ zaP_ zj_ (za_ 0) (za_ 1) (zdt_ (e.m.gv e.c8))))))))) fun c E=>at_ [(Zf tyInt c.1),(Zf tyInt c.2)]
 (zb4_ (zal_ zai_) (EvF.ow (zc0_ (zp_ (ze_ (zc_ 0 rfl))) (zc0_ (zp_ (ze_ (zc_ 1 rfl))) (ziB_ zaN_ zaN_ zaN_ (zu_ 1) (zc_ 0 rfl) (zc_ 1 rfl) (zu_ 36)))))))
theorem zdW_ (e:En K mg) (g8:zbS_ P w K mg base) (g10:zaI_ P w K mg base) (g13:zcM_ P w K mg base) (g15:zdy_ P w K mg base) (g7:zan_ P w K mg base) (g31:ze6_ P w K mg base) (g21:zcU_ P w K mg base) (g22:zaj_ P w K mg base) (g27:zbk_ P w K mg base) (g30:zcS_ P w K mg base):zb8_ P w K mg base :=
 zbz_ e.m e.f32 (okXU (N:=["asking", "field"]) (C:=(csLast (tyI (gA K "Asking") Qn0 (csCons tyStr (csCons (tyL Qq5) (csCons (tyOpt (tyU Qq6 Qq2)) Qq1)))))) (LS:=fun _:Unit=>[Zd,Zd]) (t:=fun E=>zeG_ K E) (g:=fun c=>zaY_ c) 1 1 zs_ (fun _ _ _ _ _ _ E nd hr=>(zh_ (zx_ (zy_ g8 (hm hr) zt_ (zb_ (za_ 0) zi_))) (zh_ (zx_ (zy_ g10 (hm hr) zt_ (zb_ (za_ 0) zi_))) (zh_ (zx_ (zy_ g13 (hm hr) zt_ (zb_ (za_ 0) zi_))) (zh_ (zbr_ PassesOwn.leaving rfl (zbd_ (zo_ g15 (hm hr) (zb_ (za_ 0) zi_))) (pgn 1) (zk_ (zx_ (zy_ g7 (hm hr) zt_ (zb_ (zo_ g31 (hm hr) (zb_ (zG_ ix_M (za_ 1) zj_ (fun _ _=>rfl)) (zb_ (zG_ ix_M (za_ 1) zj_ (fun _ _=>rfl)) zi_))) (zb_ (zV_ (l:=[97,32,102,105,101,108,100,32,103,111,101,115,32,102,114,111,109,32,97,32,102,105,114,115,116,32,116,111,32,97,32,108,97,115,116,32,99,111,108,117,109,110,44,32,102,114,111,109,32,49,32,116,111,32,51,54])) zi_)))))) (zh_ (zx_ (zy_ g21 (hm hr) zt_ (zb_ (za_ 0) zi_))) (zh_ (zx_ (zy_ g22 (hm hr) zt_ (zb_ (za_ 0) zi_))) (zh_ (zx_ (zy_ g27 (hm hr) zt_ (zb_ (za_ 0) zi_))) (zk_ (zx_ (zy_ g30 (hm hr) zt_ (zb_ (za_ 0) zi_)))))))))))) fun c E=>at_ [(Zf (tyI (gA K "Asking") Qn0 (csCons tyStr (csCons (tyL Qq5) (csCons (tyOpt (tyU Qq6 Qq2)) Qq1)))) c),Zd]
 (zab_ (zz_ (ze_ (zc_ 0 rfl))) fun a_2=>(at_ [(Zf (tyI (gA K "Asking") Qn0 (csCons tyStr (csCons (tyL Qq5) (csCons (tyOpt (tyU Qq6 Qq2)) Qq1)))) c),Zd] (zab_ (zz_ (ze_ (zc_ 0 rfl))) fun w4=>(at_ [(Zf (tyI (gA K "Asking") Qn0 (csCons tyStr (csCons (tyL Qq5) (csCons (tyOpt (tyU Qq6 Qq2)) Qq1)))) c),Zd] (zab_ (zz_ (ze_ (zc_ 0 rfl))) fun w6=>(at_ [(Zf (tyI (gA K "Asking") Qn0 (csCons tyStr (csCons (tyL Qq5) (csCons (tyOpt (tyU Qq6 Qq2)) Qq1)))) c),Zd] (zbB_ (LS:=(fun _:Unit=>[(Zf (tyI (gA K "Asking") Qn0 (csCons tyStr (csCons (tyL Qq5) (csCons (tyOpt (tyU Qq6 Qq2)) Qq1)))) c),Zd])) (zbw_ (L':=[(Zf (tyI (gA K "Asking") Qn0 (csCons tyStr (csCons (tyL Qq5) (csCons (tyOpt (tyU Qq6 Qq2)) Qq1)))) c),Zd]) (.same (.same .nil)) (zfx_ (LS:=(fun _:Unit=>[(Zf (tyI (gA K "Asking") Qn0 (csCons tyStr (csCons (tyL Qq5) (csCons (tyOpt (tyU Qq6 Qq2)) Qq1)))) c),Zd])) (s0:=()) (ei_l (EvO.fr (zaa_ (ze_ (zc_ 0 rfl))))) (zM_ 1) fun _ q9=>at_ [(Zf (tyI (gA K "Asking") Qn0 (csCons tyStr (csCons (tyL Qq5) (csCons (tyOpt (tyU Qq6 Qq2)) Qq1)))) c),(Zf Qq0 q9)] (zbZ_ (zab_ (zz_ (zl_ (zp_ (zl_ (zC_ (i:=0) at_0 (zc_ 1 rfl)) (ze_ (zC_ (i:=1) (at_s zH_) (zc_ 1 rfl))))) (ze_ (zU_ [97,32,102,105,101,108,100,32,103,111,101,115,32,102,114,111,109,32,97,32,102,105,114,115,116,32,116,111,32,97,32,108,97,115,116,32,99,111,108,117,109,110,44,32,102,114,111,109,32,49,32,116,111,32,51,54])))) fun a18=>(at_ [(Zf (tyI (gA K "Asking") Qn0 (csCons tyStr (csCons (tyL Qq5) (csCons (tyOpt (tyU Qq6 Qq2)) Qq1)))) c),(Zf Qq0 q9)] (zq_ (.same (.dead .nil)))))))) fun _=>(at_ [(Zf (tyI (gA K "Asking") Qn0 (csCons tyStr (csCons (tyL Qq5) (csCons (tyOpt (tyU Qq6 Qq2)) Qq1)))) c),Zd] (zab_ (zz_ (ze_ (zc_ 0 rfl))) fun a21=>(at_ [(Zf (tyI (gA K "Asking") Qn0 (csCons tyStr (csCons (tyL Qq5) (csCons (tyOpt (tyU Qq6 Qq2)) Qq1)))) c),Zd] (zab_ (zz_ (ze_ (zc_ 0 rfl))) fun a23=>(at_ [(Zf (tyI (gA K "Asking") Qn0 (csCons tyStr (csCons (tyL Qq5) (csCons (tyOpt (tyU Qq6 Qq2)) Qq1)))) c),Zd] (zab_ (zz_ (ze_ (zc_ 0 rfl))) fun a25=>(at_ [(Zf (tyI (gA K "Asking") Qn0 (csCons tyStr (csCons (tyL Qq5) (csCons (tyOpt (tyU Qq6 Qq2)) Qq1)))) c),Zd] (zbZ_ (zab_ (zz_ (ze_ (zc_ 0 rfl))) fun a27=>(at_ [(Zf (tyI (gA K "Asking") Qn0 (csCons tyStr (csCons (tyL Qq5) (csCons (tyOpt (tyU Qq6 Qq2)) Qq1)))) c),Zd] (zq_ (.dead (.same .nil)))))))))))))))))))))
theorem zcI_ (e:En K mg) (g5:zbV_ P w K mg base) (g6:zbL_ P w K mg base) (g32:zb8_ P w K mg base):za8_ P w K mg base :=
 znN_ 1 e.m e.w0 e.f33 (fun T f fd arr n oc od osl F lT hl=>by obtain ⟨d0,d1,d2,d3,d4,rfl⟩:=arr5 hl; exact zjY_ rfl F lT fun kV doc pm an cdv ct u0 u1 u2 u3 u4 u5 s ⟨o,ho,hd⟩=>BindsTo.of_defaults rfl ho hd rfl rfl) (okUXD (N:=["self", "deck", "picks", "middle", "order", "works", "breaks", "sums", "figures", "board"]) (O:=(owI (gA K "Asking") [] psNil)) (O2:=(owI (gA K "Asking") Qn0 (psO (owF tyStr) (psO (owL Qq5) (psO (owF (tyOpt (tyU Qq6 Qq2))) Qq10))))) (C:=(csCons tyStr (csCons (tyL Qq5) (csCons (tyOpt (tyU Qq6 Qq2)) (csCons (tyL Qq0) (csCons (tyOpt (tyL Qq4)) (csCons tyInt (csCons (tyOpt (tyL Qq0)) (csCons tyInt (csLast (tyOpt (tyL Qq0)))))))))))) (t:=fun E=>zc1_ K E) (g:=fun x c=>zbc_ x c.1 c.2.1 c.2.2.1 c.2.2.2.1 c.2.2.2.2.1 c.2.2.2.2.2.1 c.2.2.2.2.2.2.1 c.2.2.2.2.2.2.2.1 c.2.2.2.2.2.2.2.2) (LS:=fun w_=>(fun x':Qq3=>[(Zo (owAt w_ (owI (gA K "Asking") Qn0 (psO (owF tyStr) (psO (owL Qq5) (psO (owF (tyOpt (tyU Qq6 Qq2))) Qq10))))) x'),Zd,Zd,Zd,Zd,Zd,Zd,Zd,Zd,Zd])) 9 0 (zX_ (zX_ (zX_ (zX_ (zX_ (zX_ (zX_ (zX_ zs_)))))))) (fun _ _ _ _ _ _ E nd hr=>(zh_ (zcq_ e.w0.cls e.a5.no (za_ 0) (za_ 1)) (zh_ (zcq_ e.w0.cls e.a0.no (za_ 0) (zjy_ "list" (zax_ rfl) (e.m.gb e.b3) (zb_ (za_ 2) zi_))) (zh_ (zcq_ e.w0.cls e.a4.no (za_ 0) (za_ 3)) (zh_ (zcq_ e.w0.cls e.a1.no (za_ 0) (zjy_ "list" (zax_ rfl) (e.m.gb e.b3) (zb_ (za_ 4) zi_))) (zh_ (zcq_ e.w0.cls e.a2.no (za_ 0) (zo_ g5 (hm hr) (zb_ (za_ 5) zi_))) (zh_ (zcq_ e.w0.cls e.a6.no (za_ 0) (za_ 6)) (zh_ (zcq_ e.w0.cls e.a3.no (za_ 0) (zo_ g6 (hm hr) (zb_ (za_ 7) zi_))) (zh_ (zcq_ e.w0.cls e.a7.no (za_ 0) (za_ 8)) (zh_ (zcq_ e.w0.cls e.a8.no (za_ 0) (zo_ g6 (hm hr) (zb_ (za_ 9) zi_))) (zk_ (zx_ (zy_ g32 (hm hr) zt_ (zb_ (za_ 0) zi_)))))))))))))) fun w_ x c E=>at_ [(Zo (owAt w_ (owI (gA K "Asking") [] psNil)) x),(Zf tyStr c.1),(Zf (tyL Qq5) c.2.1),(Zf (tyOpt (tyU Qq6 Qq2)) c.2.2.1),(Zf (tyL Qq0) c.2.2.2.1),(Zf (tyOpt (tyL Qq4)) c.2.2.2.2.1),(Zf tyInt c.2.2.2.2.2.1),(Zf (tyOpt (tyL Qq0)) c.2.2.2.2.2.2.1),(Zf tyInt c.2.2.2.2.2.2.2.1),(Zf (tyOpt (tyL Qq0)) c.2.2.2.2.2.2.2.2)]
 (zgp_ (P:=psNil) (P':=(psO (owF tyStr) psNil)) (ad:=fun c z=>(z,())) (ns:=[]) (i:=0) rfl (by decide +kernel) (by decide) zeK_ zS_ (zc_ 1 rfl) fun x_2=>(at_ [(Zo (owAt w_ (owI (gA K "Asking") ["deck"] (psO (owF tyStr) psNil))) x_2),(Zf tyStr c.1),(Zf (tyL Qq5) c.2.1),(Zf (tyOpt (tyU Qq6 Qq2)) c.2.2.1),(Zf (tyL Qq0) c.2.2.2.1),(Zf (tyOpt (tyL Qq4)) c.2.2.2.2.1),(Zf tyInt c.2.2.2.2.2.1),(Zf (tyOpt (tyL Qq0)) c.2.2.2.2.2.2.1),(Zf tyInt c.2.2.2.2.2.2.2.1),(Zf (tyOpt (tyL Qq0)) c.2.2.2.2.2.2.2.2)] (zfa_ (P:=(psO (owF tyStr) psNil)) (P':=(psO (owF tyStr) (psO (owL Qq5) psNil))) (ad:=fun c z=>(c.1,(z,()))) (ns:=["deck"]) (O1:=(owL Qq5)) (i:=0) rfl (by decide +kernel) (by decide) (zO_ zeK_) (zaf_ (zn_ (zd_ (zn_ (zd_ zf_ (zg_ zf_))) (zg_ zS_)))) (zeS_ zfb_ (ze_ (zc_ 2 rfl))) fun x_4=>(at_ [(Zo (owAt w_ (owI (gA K "Asking") ["deck", "picks"] (psO (owF tyStr) (psO (owL Qq5) psNil)))) x_4),(Zf tyStr c.1),(Zf (tyL Qq5) c.2.1),(Zf (tyOpt (tyU Qq6 Qq2)) c.2.2.1),(Zf (tyL Qq0) c.2.2.2.1),(Zf (tyOpt (tyL Qq4)) c.2.2.2.2.1),(Zf tyInt c.2.2.2.2.2.1),(Zf (tyOpt (tyL Qq0)) c.2.2.2.2.2.2.1),(Zf tyInt c.2.2.2.2.2.2.2.1),(Zf (tyOpt (tyL Qq0)) c.2.2.2.2.2.2.2.2)] (zgp_ (P:=(psO (owF tyStr) (psO (owL Qq5) psNil))) (P':=(psO (owF tyStr) (psO (owL Qq5) (psO (owF (tyOpt (tyU Qq6 Qq2))) psNil)))) (ad:=fun c z=>(c.1,(c.2.1,(z,())))) (ns:=["deck", "picks"]) (i:=0) rfl (by decide +kernel) (by decide) (zO_ (zO_ zeK_)) (zib_ (znE_ (zn_ (zd_ zS_ (zg_ (zn_ (zd_ zf_ (zg_ zf_)))))) (zn_ (zd_ zS_ (zd_ zS_ (zd_ (zn_ (zd_ zf_ (zg_ zf_))) (zg_ (zn_ (zd_ zf_ (zg_ zf_)))))))))) (zc_ 3 rfl) fun x_6=>(at_ [(Zo (owAt w_ (owI (gA K "Asking") ["deck", "picks", "middle"] (psO (owF tyStr) (psO (owL Qq5) (psO (owF (tyOpt (tyU Qq6 Qq2))) psNil))))) x_6),(Zf tyStr c.1),(Zf (tyL Qq5) c.2.1),(Zf (tyOpt (tyU Qq6 Qq2)) c.2.2.1),(Zf (tyL Qq0) c.2.2.2.1),(Zf (tyOpt (tyL Qq4)) c.2.2.2.2.1),(Zf tyInt c.2.2.2.2.2.1),(Zf (tyOpt (tyL Qq0)) c.2.2.2.2.2.2.1),(Zf tyInt c.2.2.2.2.2.2.2.1),(Zf (tyOpt (tyL Qq0)) c.2.2.2.2.2.2.2.2)] (zfa_ (P:=(psO (owF tyStr) (psO (owL Qq5) (psO (owF (tyOpt (tyU Qq6 Qq2))) psNil)))) (P':=(psO (owF tyStr) (psO (owL Qq5) (psO (owF (tyOpt (tyU Qq6 Qq2))) (psO (owL Qq0) psNil))))) (ad:=fun c z=>(c.1,(c.2.1,(c.2.2.1,(z,()))))) (ns:=["deck", "picks", "middle"]) (O1:=(owL Qq0)) (i:=0) rfl (by decide +kernel) (by decide) (zO_ (zO_ (zO_ zeK_))) (zaf_ (zn_ (zd_ zf_ (zg_ zf_)))) (zeS_ zfb_ (ze_ (zc_ 4 rfl))) fun x_8=>(at_ [(Zo (owAt w_ (owI (gA K "Asking") ["deck", "picks", "middle", "order"] (psO (owF tyStr) (psO (owL Qq5) (psO (owF (tyOpt (tyU Qq6 Qq2))) (psO (owL Qq0) psNil)))))) x_8),(Zf tyStr c.1),(Zf (tyL Qq5) c.2.1),(Zf (tyOpt (tyU Qq6 Qq2)) c.2.2.1),(Zf (tyL Qq0) c.2.2.2.1),(Zf (tyOpt (tyL Qq4)) c.2.2.2.2.1),(Zf tyInt c.2.2.2.2.2.1),(Zf (tyOpt (tyL Qq0)) c.2.2.2.2.2.2.1),(Zf tyInt c.2.2.2.2.2.2.2.1),(Zf (tyOpt (tyL Qq0)) c.2.2.2.2.2.2.2.2)] (zfa_ (P:=(psO (owF tyStr) (psO (owL Qq5) (psO (owF (tyOpt (tyU Qq6 Qq2))) (psO (owL Qq0) psNil))))) (P':=(psO (owF tyStr) (psO (owL Qq5) (psO (owF (tyOpt (tyU Qq6 Qq2))) (psO (owL Qq0) (psO (owL Qq4) psNil)))))) (ad:=fun c z=>(c.1,(c.2.1,(c.2.2.1,(c.2.2.2.1,(z,())))))) (ns:=["deck", "picks", "middle", "order"]) (O1:=(owL Qq4)) (i:=0) rfl (by decide +kernel) (by decide) (zO_ (zO_ (zO_ (zO_ zeK_)))) (zaf_ (zn_ (zd_ (zn_ (zd_ zf_ (zg_ zf_))) (zd_ (zn_ (zd_ zf_ (zg_ zf_))) (zd_ zS_ (zg_ (zn_ (zd_ zf_ (zg_ zf_))))))))) (zaa_ (ze_ (zc_ 5 rfl))) fun x10=>(at_ [(Zo (owAt w_ (owI (gA K "Asking") ["deck", "picks", "middle", "order", "works"] (psO (owF tyStr) (psO (owL Qq5) (psO (owF (tyOpt (tyU Qq6 Qq2))) (psO (owL Qq0) (psO (owL Qq4) psNil))))))) x10),(Zf tyStr c.1),(Zf (tyL Qq5) c.2.1),(Zf (tyOpt (tyU Qq6 Qq2)) c.2.2.1),(Zf (tyL Qq0) c.2.2.2.1),(Zf (tyOpt (tyL Qq4)) c.2.2.2.2.1),(Zf tyInt c.2.2.2.2.2.1),(Zf (tyOpt (tyL Qq0)) c.2.2.2.2.2.2.1),(Zf tyInt c.2.2.2.2.2.2.2.1),(Zf (tyOpt (tyL Qq0)) c.2.2.2.2.2.2.2.2)] (zgp_ (P:=(psO (owF tyStr) (psO (owL Qq5) (psO (owF (tyOpt (tyU Qq6 Qq2))) (psO (owL Qq0) (psO (owL Qq4) psNil)))))) (P':=(psO (owF tyStr) (psO (owL Qq5) (psO (owF (tyOpt (tyU Qq6 Qq2))) (psO (owL Qq0) (psO (owL Qq4) (psO (owF tyInt) psNil))))))) (ad:=fun c z=>(c.1,(c.2.1,(c.2.2.1,(c.2.2.2.1,(c.2.2.2.2.1,(z,()))))))) (ns:=["deck", "picks", "middle", "order", "works"]) (i:=0) rfl (by decide +kernel) (by decide) (zO_ (zO_ (zO_ (zO_ (zO_ zeK_))))) zf_ (zc_ 6 rfl) fun x12=>(at_ [(Zo (owAt w_ (owI (gA K "Asking") ["deck", "picks", "middle", "order", "works", "breaks"] (psO (owF tyStr) (psO (owL Qq5) (psO (owF (tyOpt (tyU Qq6 Qq2))) (psO (owL Qq0) (psO (owL Qq4) (psO (owF tyInt) psNil)))))))) x12),(Zf tyStr c.1),(Zf (tyL Qq5) c.2.1),(Zf (tyOpt (tyU Qq6 Qq2)) c.2.2.1),(Zf (tyL Qq0) c.2.2.2.1),(Zf (tyOpt (tyL Qq4)) c.2.2.2.2.1),(Zf tyInt c.2.2.2.2.2.1),(Zf (tyOpt (tyL Qq0)) c.2.2.2.2.2.2.1),(Zf tyInt c.2.2.2.2.2.2.2.1),(Zf (tyOpt (tyL Qq0)) c.2.2.2.2.2.2.2.2)] (zfa_ (P:=(psO (owF tyStr) (psO (owL Qq5) (psO (owF (tyOpt (tyU Qq6 Qq2))) (psO (owL Qq0) (psO (owL Qq4) (psO (owF tyInt) psNil))))))) (P':=(psO (owF tyStr) (psO (owL Qq5) (psO (owF (tyOpt (tyU Qq6 Qq2))) (psO (owL Qq0) (psO (owL Qq4) (psO (owF tyInt) (psO (owL Qq0) psNil)))))))) (ad:=fun c z=>(c.1,(c.2.1,(c.2.2.1,(c.2.2.2.1,(c.2.2.2.2.1,(c.2.2.2.2.2.1,(z,())))))))) (ns:=["deck", "picks", "middle", "order", "works", "breaks"]) (O1:=(owL Qq0)) (i:=0) rfl (by decide +kernel) (by decide) (zO_ (zO_ (zO_ (zO_ (zO_ (zO_ zeK_)))))) (zaf_ (zn_ (zd_ zf_ (zg_ zf_)))) (zaa_ (ze_ (zc_ 7 rfl))) fun v14=>(at_ [(Zo (owAt w_ (owI (gA K "Asking") ["deck", "picks", "middle", "order", "works", "breaks", "sums"] (psO (owF tyStr) (psO (owL Qq5) (psO (owF (tyOpt (tyU Qq6 Qq2))) (psO (owL Qq0) (psO (owL Qq4) (psO (owF tyInt) (psO (owL Qq0) psNil))))))))) v14),(Zf tyStr c.1),(Zf (tyL Qq5) c.2.1),(Zf (tyOpt (tyU Qq6 Qq2)) c.2.2.1),(Zf (tyL Qq0) c.2.2.2.1),(Zf (tyOpt (tyL Qq4)) c.2.2.2.2.1),(Zf tyInt c.2.2.2.2.2.1),(Zf (tyOpt (tyL Qq0)) c.2.2.2.2.2.2.1),(Zf tyInt c.2.2.2.2.2.2.2.1),(Zf (tyOpt (tyL Qq0)) c.2.2.2.2.2.2.2.2)] (zgp_ (P:=(psO (owF tyStr) (psO (owL Qq5) (psO (owF (tyOpt (tyU Qq6 Qq2))) (psO (owL Qq0) (psO (owL Qq4) (psO (owF tyInt) (psO (owL Qq0) psNil)))))))) (P':=(psO (owF tyStr) (psO (owL Qq5) (psO (owF (tyOpt (tyU Qq6 Qq2))) (psO (owL Qq0) (psO (owL Qq4) (psO (owF tyInt) (psO (owL Qq0) (psO (owF tyInt) psNil))))))))) (ad:=fun c z=>(c.1,(c.2.1,(c.2.2.1,(c.2.2.2.1,(c.2.2.2.2.1,(c.2.2.2.2.2.1,(c.2.2.2.2.2.2.1,(z,()))))))))) (ns:=["deck", "picks", "middle", "order", "works", "breaks", "sums"]) (i:=0) rfl (by decide +kernel) (by decide) (zO_ (zO_ (zO_ (zO_ (zO_ (zO_ (zO_ zeK_))))))) zf_ (zc_ 8 rfl) fun x16=>(at_ [(Zo (owAt w_ (owI (gA K "Asking") ["deck", "picks", "middle", "order", "works", "breaks", "sums", "figures"] (psO (owF tyStr) (psO (owL Qq5) (psO (owF (tyOpt (tyU Qq6 Qq2))) (psO (owL Qq0) (psO (owL Qq4) (psO (owF tyInt) (psO (owL Qq0) (psO (owF tyInt) psNil)))))))))) x16),(Zf tyStr c.1),(Zf (tyL Qq5) c.2.1),(Zf (tyOpt (tyU Qq6 Qq2)) c.2.2.1),(Zf (tyL Qq0) c.2.2.2.1),(Zf (tyOpt (tyL Qq4)) c.2.2.2.2.1),(Zf tyInt c.2.2.2.2.2.1),(Zf (tyOpt (tyL Qq0)) c.2.2.2.2.2.2.1),(Zf tyInt c.2.2.2.2.2.2.2.1),(Zf (tyOpt (tyL Qq0)) c.2.2.2.2.2.2.2.2)] (zfa_ (P:=(psO (owF tyStr) (psO (owL Qq5) (psO (owF (tyOpt (tyU Qq6 Qq2))) (psO (owL Qq0) (psO (owL Qq4) (psO (owF tyInt) (psO (owL Qq0) (psO (owF tyInt) psNil))))))))) (P':=(psO (owF tyStr) (psO (owL Qq5) (psO (owF (tyOpt (tyU Qq6 Qq2))) Qq10)))) (ad:=fun c z=>(c.1,(c.2.1,(c.2.2.1,(c.2.2.2.1,(c.2.2.2.2.1,(c.2.2.2.2.2.1,(c.2.2.2.2.2.2.1,(c.2.2.2.2.2.2.2.1,(z,())))))))))) (ns:=["deck", "picks", "middle", "order", "works", "breaks", "sums", "figures"]) (O1:=(owL Qq0)) (i:=0) rfl (by decide +kernel) (by decide) (zO_ (zO_ (zO_ (zO_ (zO_ (zO_ (zO_ (zO_ zeK_)))))))) (zaf_ (zn_ (zd_ zf_ (zg_ zf_)))) (zaa_ (ze_ (zc_ 9 rfl))) fun x18=>(at_ [(Zo (owAt w_ (owI (gA K "Asking") Qn0 (psO (owF tyStr) (psO (owL Qq5) (psO (owF (tyOpt (tyU Qq6 Qq2))) Qq10))))) x18),(Zf tyStr c.1),(Zf (tyL Qq5) c.2.1),(Zf (tyOpt (tyU Qq6 Qq2)) c.2.2.1),(Zf (tyL Qq0) c.2.2.2.1),(Zf (tyOpt (tyL Qq4)) c.2.2.2.2.1),(Zf tyInt c.2.2.2.2.2.1),(Zf (tyOpt (tyL Qq0)) c.2.2.2.2.2.2.1),(Zf tyInt c.2.2.2.2.2.2.2.1),(Zf (tyOpt (tyL Qq0)) c.2.2.2.2.2.2.2.2)] (zbZ_ (zab_ (zz_ (ze_ (zk5_ (P:=(psO (owF tyStr) (psO (owL Qq5) (psO (owF (tyOpt (tyU Qq6 Qq2))) Qq10)))) 0 rfl))) fun a20=>(at_ [(Zo (owAt w_ (owI (gA K "Asking") Qn0 (psO (owF tyStr) (psO (owL Qq5) (psO (owF (tyOpt (tyU Qq6 Qq2))) Qq10))))) x18),(Zf tyStr c.1),(Zf (tyL Qq5) c.2.1),(Zf (tyOpt (tyU Qq6 Qq2)) c.2.2.1),(Zf (tyL Qq0) c.2.2.2.1),(Zf (tyOpt (tyL Qq4)) c.2.2.2.2.1),(Zf tyInt c.2.2.2.2.2.1),(Zf (tyOpt (tyL Qq0)) c.2.2.2.2.2.2.1),(Zf tyInt c.2.2.2.2.2.2.2.1),(Zf (tyOpt (tyL Qq0)) c.2.2.2.2.2.2.2.2)] (zq_ (.same (.dead (.dead (.dead (.dead (.dead (.dead (.dead (.dead (.dead .nil)))))))))))))))))))))))))))))))))
theorem zfG_ (e:En K mg):zec_ P w K mg base :=
 gn_of e.m e.f34 (okN (N:=["_law_e", "_law_some"]) (C:=(csLast (tyXc K))) (O:=(owF tyBl)) (t:=fun E=>zg7_ K) (g:=fun c=>zcx_ c) 1 1 zs_ (fun _ _ _ _ _ _ E nd hr=>(zh_ (pst 1 (zaR_ (zb_ (zbO_ zae_ (e.m.gb e.b6) (zb_ (za_ 0) (zb_ (zdt_ (e.m.gkc e.k6)) zi_))) (zb_ (zbO_ zae_ (e.m.gb e.b6) (zb_ (za_ 0) (zb_ (zdt_ (e.m.gkc e.k5)) zi_))) (zb_ (zbO_ zae_ (e.m.gb e.b6) (zb_ (za_ 0) (zb_ (zdt_ (e.m.gkc e.k4)) zi_))) (zb_ (zbO_ zae_ (e.m.gb e.b6) (zb_ (za_ 0) (zb_ (zdt_ (e.m.gkc e.k3)) zi_))) zi_)))))) (zh_ (pst 1 (zas_ z1_ (za_ 1) (zaR_ (zb_ (zbO_ zae_ (e.m.gb e.b6) (zb_ (za_ 0) (zb_ (zdt_ (e.m.gkc e.k10)) zi_))) (zb_ (zbO_ zae_ (e.m.gb e.b6) (zb_ (za_ 0) (zb_ (zdt_ (e.m.gkc e.k9)) zi_))) (zb_ (zbO_ zae_ (e.m.gb e.b6) (zb_ (za_ 0) (zb_ (zdt_ (e.m.gkc e.k8)) zi_))) (zb_ (zbO_ zae_ (e.m.gb e.b6) (zb_ (za_ 0) (zb_ (zdt_ (e.m.gkc e.k7)) zi_))) zi_))))))) (zk_ (zP_ (zba_ (zbO_ zae_ (e.m.gb e.b6) (zb_ (za_ 0) (zb_ (zdt_ (e.m.gkc e.k11)) zi_))) (zba_ (zbO_ zae_ (e.m.gb e.b6) (zb_ (za_ 0) (zb_ (zn7_ "ValueError" (e.m.gb e.b11)) zi_))) (zcH_ (zK_ zje_ zhb_ (za_ 1)))))))))) fun c E=>at_ [(Zf (tyXc K) c),Zd]
 (zbI_ (i:=1) rfl (zaf_ zai_) (zd1_ (zm_ (zm_ (zm_ zr_))) (zW_ (zW_ (zW_ zav_))) (zl_ (zbR_ (zdX_ e.fx.isa_NoAsking_NoCard zaL_) rfl (zc_ 0 rfl)) (zl_ (zbR_ (zdX_ e.fx.isa_NoAsking_NoField zaL_) rfl (zc_ 0 rfl)) (zl_ (zbR_ (zdX_ e.fx.isa_NoAsking_NoOrder zaL_) rfl (zc_ 0 rfl)) (ze_ (zbR_ (zdX_ e.fx.isa_NoAsking_NoBoard zaL_) rfl (zc_ 0 rfl))))))) fun t1'=>zhZ_ (i:=1) rfl (at_ [(Zf (tyXc K) c),(Zf (tyL tyBl) t1')] (zbI_ (i:=1) rfl (zaf_ zai_) (zfj_ zcK_ (zc_ 1 rfl) (EvO.fr (zd1_ (zm_ (zm_ (zm_ zr_))) (zW_ (zW_ (zW_ zav_))) (zl_ (zbR_ (zdX_ e.fx.isa_NoAsking_Meet zaL_) rfl (zc_ 0 rfl)) (zl_ (zbR_ (zdX_ e.fx.isa_NoAsking_NoTray zaL_) rfl (zc_ 0 rfl)) (zl_ (zbR_ (zdX_ e.fx.isa_NoAsking_NoPlan zaL_) rfl (zc_ 0 rfl)) (ze_ (zbR_ (zdX_ e.fx.isa_NoAsking_NoRow zaL_) rfl (zc_ 0 rfl))))))))) fun s13=>zhZ_ (i:=1) rfl (at_ [(Zf (tyXc K) c),(Zf (tyL tyBl) s13)] (zb4_ (zal_ zai_) (EvF.ow (zc0_ (zbR_ (zdX_ e.fx.isa_NoAsking_ShopError zaL_) rfl (zc_ 0 rfl)) (zc0_ (zbR_ (zdX_ e.fx.isa_NoAsking_ValueError zaL_) rfl (zc_ 0 rfl)) (zB_ (zmL_ znT_) (zhc_ true) (zc_ 1 rfl)))))))))))
theorem zep_ (e:En K mg) (g33:za8_ P w K mg base) (g34:zec_ P w K mg base):zcZ_ P w K mg base :=
 zbz_ e.m e.f35 (okC (N:=["_law_parts_here", "_law_works", "_law_refused_here", "_law_alone", "_law_e"]) (C:=(csCons (tyH (csCons tyStr (csCons (tyL Qq5) (csCons (tyOpt (tyU Qq6 Qq2)) Qq7)))) (csLast (tyL Qq4)))) (O:=(owF tyBl)) (t:=fun E=>zfs_ K) (g:=fun c=>zbf_ c.1 c.2) 2 3 (zX_ zs_) (fun _ _ _ _ _ _ E nd hr=>(zh_ (pst 2 zhb_) (zh_ (pst 3 zhb_) (zh_ (zmm_ rfl rfl (zis_ (zkO_ g33 (hm hr) (zb_ (zG_ ix_M (za_ 0) zj_ (fun _ _=>rfl)) (zb_ (zG_ ix_M (za_ 0) zj_ (fun _ _=>rfl)) (zb_ (zG_ ix_M (za_ 0) zj_ (fun _ _=>rfl)) (zb_ (zG_ ix_M (za_ 0) zj_ (fun _ _=>rfl)) (zb_ (za_ 1) zi_))))))) (ph_as (i:=4) (e.m.gk e.k0) nd rfl rfl (fun xx=>(zh_ (pst 2 zhb_) (zk_ (pst 3 (zjV_ g34 (hmN (hr.nX xx)) (zb_ (za_ 4) zi_)))))) zn0_)) (zh_ (zaw_ (PW.pt (zdg_ (ziA_ (za_ 2)) (zdd_ (zjo_ (ziA_ (za_ 3)))))) (zk_ zfL_) zQ_) (zk_ (zP_ (za_ 2)))))))) fun c E=>at_ [(Zf (tyH (csCons tyStr (csCons (tyL Qq5) (csCons (tyOpt (tyU Qq6 Qq2)) Qq7)))) c.1),(Zf (tyL Qq4) c.2),Zd,Zd,Zd]
 (zfJ_ (i:=2) rfl zai_ (zhc_ false) fun q1'=>(at_ [(Zf (tyH (csCons tyStr (csCons (tyL Qq5) (csCons (tyOpt (tyU Qq6 Qq2)) Qq7)))) c.1),(Zf (tyL Qq4) c.2),(Zf tyBl q1'),Zd,Zd] (zfJ_ (i:=3) rfl zai_ (zhc_ false) fun u2'=>(at_ [(Zf (tyH (csCons tyStr (csCons (tyL Qq5) (csCons (tyOpt (tyU Qq6 Qq2)) Qq7)))) c.1),(Zf (tyL Qq4) c.2),(Zf tyBl q1'),(Zf tyBl u2'),Zd] (zbB_ (LS:=(fun s18:(Bool×Bool)=>[(Zf (tyH (csCons tyStr (csCons (tyL Qq5) (csCons (tyOpt (tyU Qq6 Qq2)) Qq7)))) c.1),(Zf (tyL Qq4) c.2),(Zf tyBl s18.1),(Zf tyBl s18.2),Zd])) (zmk_ (zeL_ (zeL_ (zeL_ (zeL_ (zlk_ (Qt:=(csCons tyInt (csCons (tyOpt (tyL Qq0)) (csCons tyInt (csLast (tyOpt (tyL Qq0))))))) (ct:=((0:Int),none,(6:Int),none)) fun _=>⟨_,_,rfl,rfl,⟨_,_,rfl,rfl,⟨_,_,rfl,rfl,⟨_,rfl,rfl⟩⟩⟩⟩))))) (zl_ (zbm_ (i:=0) at_0 (zc_ 0 rfl)) (zl_ (zbm_ (i:=1) (at_s at_0) (zc_ 0 rfl)) (zl_ (zbm_ (i:=2) (at_s (at_s at_0)) (zc_ 0 rfl)) (zl_ (zbm_ (i:=3) (at_s (at_s (at_s at_0))) (zc_ 0 rfl)) (ze_ (zfg_ (fun _ _ _=>nn_l) (zc_ 1 rfl))))))) (zq_ (S4 (.same .nil))) fun x_4=>(eh_as (i:=4) (znd_ e.fx.cat_NoAsking_NoAsking zk4_) rfl (fun _=>rfl) (at_ [(Zf (tyH (csCons tyStr (csCons (tyL Qq5) (csCons (tyOpt (tyU Qq6 Qq2)) Qq7)))) c.1),(Zf (tyL Qq4) c.2),(Zf tyBl q1'),(Zf tyBl u2'),(Zf (tyXc K) x_4)] (zfJ_ (i:=2) rfl zai_ (zhc_ true) fun v19=>(at_ [(Zf (tyH (csCons tyStr (csCons (tyL Qq5) (csCons (tyOpt (tyU Qq6 Qq2)) Qq7)))) c.1),(Zf (tyL Qq4) c.2),(Zf tyBl v19),(Zf tyBl u2'),(Zf (tyXc K) x_4)] (zbZ_ (zfJ_ (i:=3) rfl zai_ (zp_ (ze_ (zc_ 4 rfl))) fun v20=>(at_ [(Zf (tyH (csCons tyStr (csCons (tyL Qq5) (csCons (tyOpt (tyU Qq6 Qq2)) Qq7)))) c.1),(Zf (tyL Qq4) c.2),(Zf tyBl v19),(Zf tyBl v20),(Zf (tyXc K) x_4)] (zq_ (S4 (.dead .nil))))))))) eh_0)) fun s18=>(at_ [(Zf (tyH (csCons tyStr (csCons (tyL Qq5) (csCons (tyOpt (tyU Qq6 Qq2)) Qq7)))) c.1),(Zf (tyL Qq4) c.2),(Zf tyBl s18.1),(Zf tyBl s18.2),Zd] (zbB_ (LS:=(fun _:Unit=>[(Zf (tyH (csCons tyStr (csCons (tyL Qq5) (csCons (tyOpt (tyU Qq6 Qq2)) Qq7)))) c.1),(Zf (tyL Qq4) c.2),(Zf tyBl s18.1),(Zf tyBl s18.2),Zd])) (s_if (zfQ_ (zkf_ (zc_ 2 rfl)) (zjl_ (zkf_ (zc_ 3 rfl)))) zhH_ (zq_ (S4 (.same .nil)))) fun _=>(at_ [(Zf (tyH (csCons tyStr (csCons (tyL Qq5) (csCons (tyOpt (tyU Qq6 Qq2)) Qq7)))) c.1),(Zf (tyL Qq4) c.2),(Zf tyBl s18.1),(Zf tyBl s18.2),Zd] (zb4_ (zal_ zai_) (EvF.ow (zc_ 2 rfl))))))))))))
end
end K42
namespace K42
open PySem PySem.Spec PyProof.Rows L2
open Mo renaming bind→Mb,ok→Mq
open Sl renaming fz→Zf,dead→Zd,ow→Zo
local macro_rules | `(tactic| walk_at "mo") => `(tactic| simp only [oP2, oMd, oDv, oMu, oAd, oSu, oEI, oNI, oES, oLI, oLE, oGI, oGE, oAt, oAp, oRt, oSm, oNt, Mo.okB, Mo.exB, Mo.noB, Mo.noexO, Mo.optS, zcF_, zlh_, zkw_, zkr_, znm_, zjU_, zmX_, zmC_, zia_, grd_T, Bool.not_true, Bool.not_false, if_true, if_false, Bool.false_eq_true, Option.map_some, Option.map_none, ite_true, ite_false, Int.reduceLT, Int.reduceLE, Int.reduceNeg, Int.reduceSub, Int.reduceAdd, Int.reduceMul, Nat.reduceAdd, Nat.reduceLT, decide_true, decide_false, Option.isSome_none, Option.isSome_some, Option.isNone_none, Option.isNone_some, Bool.and_true, Bool.and_false])
theorem zlO_ (ns:List Int) (k:Int) (h:0≤k):∃ c,zaF_ ns k=.ok c:=by
 unfold zaF_ zbs_
 walk_at "mo"
 by_cases hk:k<(ns.length:Int)
 ·obtain ⟨x,e,_⟩:=zfA_ h hk
  rw [decide_eq_true hk,if_pos rfl,e]
  exact ⟨x,rfl⟩
 ·rw [decide_eq_false hk,if_neg (by decide)]
  exact ⟨0,rfl⟩
abbrev Fl:=Int×Int
abbrev Pk:=Fl×List Nat
abbrev Md:=Option ((List Nat×Fl) ⊕ (List Nat×List Nat×Fl×Fl))
abbrev Wk:=Fl×Fl×List Nat×Fl
abbrev Ak:=List Nat×List Pk×Md×List Fl×List Wk×Int×List Fl×Int×List Fl×Unit
abbrev Pt:=List Nat×List Pk×Md×List Fl×List Wk
def OkF (f:Fl):Prop:=1≤f.1∧f.1≤f.2∧f.2≤36
def OkK (p:Pk):Prop:=OkF p.1∧p.2=List.replicate (p.1.2-p.1.1+1).toNat 65
def OkM (m:Md):Prop:=m=none∨(∃ f,OkF f∧m=some (.inl ([102,105,114,115,116],f)))∨(∃ f g,OkF f∧OkF g∧f.2-f.1=g.2-g.1∧(m=some (.inr ([109,97,116,101,115],[98,111,120],f,g))∨m=some (.inr ([119,105,116,104,111,117,116],[98],f,g))))
def OkW (w:Wk):Prop:=OkF w.1∧OkF w.2.1∧OkF w.2.2.2∧w.2.2.1∈([[112,108,117,115],[108,101,115,115],[116,105,109,101,115]]:List (List Nat))
structure OkP (P:Pt):Prop where
 nm:P.1=[116,114,97,121]
 pl:P.2.1.length≤2
 pk:∀ p∈P.2.1,OkK p
 md:OkM P.2.2.1
 ol:P.2.2.2.1.length≤2
 od:∀ f∈P.2.2.2.1,OkF f
 wl:P.2.2.2.2.length≤4
 wk:∀ w∈P.2.2.2.2,OkW w
theorem zdk_ {ρ B S S':Type}{m:Mo (Out ρ B S)}{k:S→Mo (Out ρ B S')}{Q:S'→Prop}(P:S→Prop) (h:∃ s',m=.ok (.nx s')∧P s') (hk:∀ s',P s'→∃ z,k s'=.ok (.nx z)∧Q z):∃ z,thenO m k=.ok (.nx z)∧Q z:=by
 obtain ⟨s',e,p⟩:=h
 rw [e,zcF_]
 exact hk s' p
def mids (f:Fl) (w:Int):List Md:=[none,some (.inl ([102,105,114,115,116],f)),some (.inr ([109,97,116,101,115],[98,111,120],f,30,30+w))]++[some (.inr ([119,105,116,104,111,117,116],[98],f,1,1+w))]
theorem zjW_ (n:Int):∃ f,zao_ n=.ok f∧OkF f:=by
 unfold zao_ zcG_
 walk_at "mo"
 refine ⟨_,rfl,?_⟩
 unfold OkF
 simp only
 lia
theorem zfB_ {α:Type}{P:α→Prop}{l:List α}{a:α}(h:∀ x∈l,P x) (ha:P a):∀ x∈l++[a],P x:=fun x hx=>by
 rcases List.mem_append.mp hx with z | z
 ·exact h x z
 ·rw [List.mem_singleton.mp z]; exact ha
theorem zkN_ (ns:List Int):∃ P,zbC_ ns=.ok P∧OkP P:=by
 obtain ⟨c0,e0⟩:=zlO_ ns 0 (by decide)
 unfold zbC_ zcy_
 walk_at "mo"
 rw [e0]
 walk_at "mo"
 rw [Mo.lim_ok (by show 3+1≤100000; decide)]
 have hc0:0≤c0 % 4:=Int.emod_nonneg _ (by decide)
 have hc1:c0 % 4<4:=Int.emod_lt_of_pos _ (by decide)
 refine zcs_ (G:=fun mm=>∃ P,fnO (thenO mm _)=.ok P∧OkP P) (fun _ (s:Fl×List Pk×List Fl×List Wk)=>(s.2.1.length≤2∧∀ p∈s.2.1,OkK p)∧(s.2.2.1.length≤2∧∀ f∈s.2.2.1,OkF f)∧(s.2.2.2.length≤4∧∀ w∈s.2.2.2,OkW w)) ?h0 (fun d x s hx hs=>?_) (fun s hs=>?_)
 case h0=>exact ⟨⟨Nat.zero_le _,fun p h=>by cases h⟩,⟨Nat.zero_le _,fun p h=>by cases h⟩,Nat.zero_le _,fun p h=>by cases h⟩
 ·obtain ⟨⟨p1,p2⟩,⟨p3,p4⟩,p5,p6⟩:=hs
  have x0:0≤x % 2147483647:=Int.emod_nonneg _ (by decide)
  have x1:x % 2147483647<2147483647:=Int.emod_lt_of_pos _ (by decide)
  rw [zia_ (by lia) (by lia)]
  walk_at "mo"
  generalize x % 2147483647*48271 % 2147483629=n
  obtain ⟨f,ef,hf⟩:=zjW_ (n / 4)
  rw [ef]
  walk_at "mo"
  have hw:0≤f.2-f.1+1∧f.2-f.1+1≤36:=by unfold OkF at hf; lia
  refine zdk_ (fun pk:List Pk=>pk.length≤2∧∀ p∈pk,OkK p) ?a1 (fun pk hpk=>?_)
  case a1 =>
   by_cases c1:n % 8=1
   ·rw [decide_eq_true c1]
    walk_at "mo"
    by_cases c2:(s.2.1.length:Int)<2
    ·rw [decide_eq_true c2]
     walk_at "mo"
     rw [Mo.grd_ok (show CRep _ _ from ⟨hw.1,by lia,by show 1≤100000; lia,by show 1*_≤100000; lia⟩)]
     walk_at "mo"
     rw [Mo.lim_ok (by lia)]
     exact ⟨_,rfl,by rw [List.length_append,List.length_singleton]; lia,zfB_ p2 ⟨hf,by show repL [65] _=_; unfold repL; rw [List.flatten_replicate_singleton]⟩⟩
    ·rw [decide_eq_false c2]
     exact ⟨_,rfl,p1,p2⟩
   ·rw [decide_eq_false c1]
    exact ⟨_,rfl,p1,p2⟩
  refine zdk_ (fun od:List Fl=>od.length≤2∧∀ p∈od,OkF p) ?a2 (fun od hod=>?_)
  case a2 =>
   by_cases c1:n % 8=5
   ·rw [decide_eq_true c1]
    walk_at "mo"
    by_cases c2:(s.2.2.1.length:Int)<2
    ·rw [decide_eq_true c2]
     walk_at "mo"
     rw [Mo.lim_ok (by lia)]
     exact ⟨_,rfl,by rw [List.length_append,List.length_singleton]; lia,zfB_ p4 hf⟩
    ·rw [decide_eq_false c2]
     exact ⟨_,rfl,p3,p4⟩
   ·rw [decide_eq_false c1]
    exact ⟨_,rfl,p3,p4⟩
  refine zdk_ (fun wk:List Wk=>wk.length≤4∧∀ p∈wk,OkW p) ?a3 (fun wk hwk=>⟨_,rfl,hpk,hod,hwk⟩)
  case a3 =>
   by_cases c1:1<n % 4
   ·rw [decide_eq_true c1]
    walk_at "mo"
    by_cases c2:(s.2.2.2.length:Int)<1+c0 % 4
    ·rw [decide_eq_true c2]
     walk_at "mo"
     obtain ⟨f1,ef1,hf1⟩:=zjW_ (n / 433)
     obtain ⟨f2,ef2,hf2⟩:=zjW_ (n / 50000)
     rw [ef1]
     walk_at "mo"
     rw [ef2]
     walk_at "mo"
     obtain ⟨w,ew,hw⟩:=zfA_ (xs:=([[112,108,117,115],[108,101,115,115],[116,105,109,101,115]]:List (List Nat))) (k:=n / 7 % 3) (Int.emod_nonneg _ (by decide)) (Int.emod_lt_of_pos _ (by decide))
     rw [ew]
     walk_at "mo"
     rw [Mo.lim_ok (by lia)]
     exact ⟨_,rfl,by rw [List.length_append,List.length_singleton]; lia,zfB_ p6 ⟨hf,hf1,hf2,hw⟩⟩
    ·rw [decide_eq_false c2]
     exact ⟨_,rfl,p5,p6⟩
   ·rw [decide_eq_false c1]
    exact ⟨_,rfl,p5,p6⟩
 ·obtain ⟨⟨p1,p2⟩,⟨p3,p4⟩,p5,p6⟩:=hs
  walk_at "mo"
  obtain ⟨m,em,hm⟩:=zfA_ (xs:=mids (1+c0 / 4 % 35,1+c0 / 4 % 35+c0 / 140 % 2) (1+c0 / 4 % 35+c0 / 140 % 2-(1+c0 / 4 % 35))) (k:=c0 % 4) hc0 (by rw [show (mids _ _).length=4 from rfl]; exact hc1)
  unfold mids at em hm
  rw [em]
  refine ⟨_,rfl,rfl,p1,p2,?_,p3,p4,p5,p6⟩
  have a1:0≤c0 / 4 % 35:=Int.emod_nonneg _ (by decide)
  have a2:c0 / 4 % 35<35:=Int.emod_lt_of_pos _ (by decide)
  have a3:0≤c0 / 140 % 2:=Int.emod_nonneg _ (by decide)
  have a4:c0 / 140 % 2<2:=Int.emod_lt_of_pos _ (by decide)
  generalize c0 / 4 % 35=u at a1 a2 hm
  generalize c0 / 140 % 2=v at a3 a4 hm
  simp only [List.cons_append,List.nil_append,List.mem_cons,List.not_mem_nil,or_false] at hm
  have hF:OkF (1+u,1+u+v):=⟨by show 1≤1+u; lia,by show 1+u≤1+u+v; lia,by show 1+u+v≤36; lia⟩
  rcases hm with rfl | rfl | rfl | rfl
  ·exact .inl rfl
  ·exact .inr (.inl ⟨_,hF,rfl⟩)
  ·exact .inr (.inr ⟨_,_,hF,⟨by show (1:Int)≤30; decide,by show (30:Int)≤30+(1+u+v-(1+u)); lia,by show (30:Int)+(1+u+v-(1+u))≤36; lia⟩,by show 1+u+v-(1+u)=30+(1+u+v-(1+u))-30; lia,.inl rfl⟩)
  ·exact .inr (.inr ⟨_,_,hF,⟨by show (1:Int)≤1; decide,by show (1:Int)≤1+(1+u+v-(1+u)); lia,by show (1:Int)+(1+u+v-(1+u))≤36; lia⟩,by show 1+u+v-(1+u)=1+(1+u+v-(1+u))-1; lia,.inr rfl⟩)
def NA:Xc:=.pl "NoAsking"
theorem znQ_ (w:List Nat):zw_ true w=.ok ():=rfl
theorem ask_f (w:List Nat):zw_ false w=.ex NA:=rfl
theorem zhC_ {ρ B α:Type}{step:Unit→α→Mo (Out ρ Unit Unit)}{p:α→Bool}{x:Xc}:∀ {xs:List α},(∀ a∈xs,step () a=if p a then .ok (.nx ()) else .ex x)→forO (B:=B) step xs ()=if xs.all p then .ok (.nx ()) else .ex x
 | [],_=>rfl
 | a::xs,h=>by
  rw [zct_,h a (List.mem_cons_self ..),List.all_cons]
  cases p a with
  | true=>rw [if_pos rfl,Mo.okB,Bool.true_and]; exact zhC_ fun b hb=>h b (List.mem_cons_of_mem _ hb)
  | false=>rfl
theorem zeZ_ {ρ B α:Type}{step:Unit→α→Mo (Out ρ Unit Unit)}{p:α→Bool}{z:ρ}:∀ {xs:List α},(∀ a∈xs,step () a=if p a then .ok (.nx ()) else .ok (.rt z))→forO (B:=B) step xs ()=if xs.all p then .ok (.nx ()) else .ok (.rt z)
 | [],_=>rfl
 | a::xs,h=>by
  rw [zct_,h a (List.mem_cons_self ..),List.all_cons]
  cases p a with
  | true=>rw [if_pos rfl,Mo.okB,Bool.true_and]; exact zeZ_ fun b hb=>h b (List.mem_cons_of_mem _ hb)
  | false=>rfl
theorem zey_ {ρ B S α β:Type}{step:S→β→Mo (Out ρ S S)}{g:α→β}:∀ {xs:List α}{s:S},forO (B:=B) step (xs.map g) s=forO (fun s a=>step s (g a)) xs s
 | [],_=>rfl
 | a::xs,s=>by
  rw [List.map_cons,zct_,zct_]
  congr 1
  funext o
  cases o with
  | nx s'=>exact zey_
  | ct s'=>exact zey_
  | bk s'=>rfl
  | rt z=>rfl
theorem zkk_ {α:Type}(xs:List α):rngI 0 xs.length=(enumL xs).map (·.1):=by
 refine List.ext_getElem? fun i=>?_
 rw [List.getElem?_map,zeF_]
 unfold rngI
 rw [List.getElem?_map]
 by_cases h:i<xs.length
 ·rw [List.getElem?_range h,List.getElem?_eq_getElem h]; simp
 ·rw [List.getElem?_eq_none (by rw [List.length_range]; lia),List.getElem?_eq_none (by lia)]; rfl
theorem zjT_ {α:Type}{xs:List α}{q:Int×α}(h:q∈enumL xs):atI xs q.1=some q.2:=by
 obtain ⟨i,_,e,e2⟩:=zgg_ h
 rw [e]
 exact zma_ e2
theorem zkM_ {α:Type}{xs:List α}{q:Int×α}(h:q∈enumL xs):q.2∈xs:=by
 obtain ⟨i,_,e,e2⟩:=zgg_ h
 exact List.mem_of_getElem? e2
def share (a b:Fl):Bool:=decide (a.1≤b.2) && decide (b.1≤a.2)
theorem zfF_ (a b:Fl):zaq_ a b=.ok (share a b):=by
 unfold zaq_ zcJ_ share
 walk_at "mo"
 cases decide (a.1≤b.2)<;>rfl
theorem zj9_ (a b:Fl):zbD_ a b=.ok (!share a b):=by
 unfold zbD_ zcD_ share
 walk_at "mo"
 by_cases c1:a.2<b.1
 ·rw [decide_eq_true c1,decide_eq_false (show ¬ b.1≤a.2 by lia),Bool.and_false]; rfl
 ·rw [decide_eq_false c1,decide_eq_true (show b.1≤a.2 by lia),Bool.and_true]
  by_cases c2:b.2<a.1
  ·rw [decide_eq_true c2,decide_eq_false (show ¬ a.1≤b.2 by lia)]; rfl
  ·rw [decide_eq_false c2,decide_eq_true (show a.1≤b.2 by lia)]; rfl
def midF (m:Md):List Fl:=match m with | none=>[] | some (.inl c)=>[c.2] | some (.inr c)=>[c.2.2.1,c.2.2.2]
theorem zlx_ {m:Md}(h:OkM m):∀ f∈midF m,OkF f:=by
 rcases h with rfl | ⟨f,hf,rfl⟩ | ⟨f,g,hf,hg,_,rfl | rfl⟩<;>intro z hz<;>simp only [midF,List.mem_cons,List.not_mem_nil,or_false] at hz
 ·subst hz; exact hf
 ·rcases hz with rfl | rfl
  ·exact hf
  ·exact hg
 ·rcases hz with rfl | rfl
  ·exact hf
  ·exact hg
theorem zll_ {m:Md}:(midF m).length≤2:=by
 unfold midF
 split<;>simp
def ak (P:Pt) (W:List Wk):Ak:=(P.1,P.2.1,P.2.2.1,P.2.2.2.1,W,0,[],6,[],())
section
variable {P:Pt}{W:List Wk}
theorem zkP_ (h:OkM P.2.2.1):z0_ (ak P W)=.ok (midF P.2.2.1):=by
 obtain ⟨a,b,m,c,d⟩:=P
 rcases h with h | ⟨f,hf,h⟩ | ⟨f,g,hf,hg,_,h | h⟩<;>cases h<;>rfl
theorem zlv_ (h:OkM P.2.2.1):z7_ (ak P W)=.ok ():=by
 obtain ⟨a,b,m,c,d⟩:=P
 rcases h with h | ⟨f,hf,h⟩ | ⟨f,g,hf,hg,_,h | h⟩<;>cases h<;>rfl
theorem zlY_ (h1:P.2.1.length≤2) (h2:P.2.2.2.1.length≤2) (h3:W.length≤4):zac_ (ak P W)=.ok ():=by
 unfold zac_ zaJ_ ak
 walk_at "mo"
 rw [decide_eq_true (show (P.2.1.length:Int)≤8 by lia),decide_eq_true (show (P.2.2.2.1.length:Int)≤6 by lia),decide_eq_true (show (W.length:Int)≤4 by lia),znQ_]
 rfl
theorem name1:zam_ [116,114,97,121]=.ok true:=by unfold zam_ zce_; walk_at "mo"; rw [Mo.lim_ok (by decide)]; rfl
theorem name2:zam_ [98,111,120]=.ok true:=by unfold zam_ zce_; walk_at "mo"; rw [Mo.lim_ok (by decide)]; rfl
theorem name3:zam_ [98]=.ok true:=by unfold zam_ zce_; walk_at "mo"; rw [Mo.lim_ok (by decide)]; rfl
theorem zj0_ (hn:P.1=[116,114,97,121]) (h:OkM P.2.2.1):zag_ (ak P W)=.ok ():=by
 have key:∀ ns:List (List Nat),zdK_ (ak P W)=.ok ns→(ns=[[116,114,97,121]]∨ns=[[116,114,97,121],[98,111,120]]∨ns=[[116,114,97,121],[98]])→zag_ (ak P W)=.ok ():=fun ns e hns=>by
  unfold zag_ zbj_
  walk_at "mo"
  rw [e]
  walk_at "mo"
  rw [zdM_ (fun x hx=>by
   have:zam_ x=.ok true:=by
    rcases hns with rfl | rfl | rfl<;>simp only [List.mem_cons,List.not_mem_nil,or_false] at hx
    ·subst hx; exact name1
    ·rcases hx with rfl | rfl
     ·exact name1
     ·exact name2
    ·rcases hx with rfl | rfl
     ·exact name1
     ·exact name3
   rw [this]; rfl)]
  rcases hns with rfl | rfl | rfl<;>rfl
 obtain ⟨a,b,m,c,d⟩:=P
 cases hn
 rcases h with h | ⟨f,hf,h⟩ | ⟨f,g,hf,hg,_,h | h⟩<;>cases h
 ·exact key _ rfl (.inl rfl)
 ·exact key _ rfl (.inl rfl)
 ·exact key _ rfl (.inr (.inl rfl))
 ·exact key _ rfl (.inr (.inr rfl))
theorem fieldb {f:Fl}(h:OkF f):zcg_ f.1 f.2=.ok true:=by
 obtain ⟨h1,h2,h3⟩:=h
 unfold zcg_ zdE_ zat_ zdj_
 walk_at "mo"
 rw [decide_eq_true h1,decide_eq_true h2,decide_eq_true h3]
 rfl
theorem zgr_ (hp:P.2.1.length≤2):compM (fun x_3:Pk=>cond1 (Mq true) (Mq x_3.1)) P.2.1 []=.ok (P.2.1.map (·.1)):=by
 rw [zcj_ (f:=fun x_3:Pk=>cond1 (Mq true) (Mq x_3.1)) (g:=fun x:Pk=>x.1) (fun x hx=>rfl) (by simp; lia)]; rfl
theorem zoi_ (h:OkP P) (hl:W.length≤4) (hW:∀ w∈W,OkW w):∃ fs,za3_ (ak P W)=.ok fs∧∀ f∈fs,OkF f:=by
 have l1:=h.pl
 have l2:=h.ol
 have l3:=zll_ (m:=P.2.2.1)
 unfold za3_ zb1_
 walk_at "mo"
 rw [show (ak P W).2.1=P.2.1 from rfl,show (ak P W).2.2.2.1=P.2.2.2.1 from rfl,show (ak P W).2.2.2.2.2.2.1=[] from rfl,show (ak P W).2.2.2.2.1=W from rfl,zgr_ h.pl,zkP_ h.md]
 walk_at "mo"
 rw [Mo.lim_ok (by simp; lia),Mo.okB,Mo.lim_ok (by simp; lia),Mo.okB,Mo.lim_ok (by simp; lia),Mo.okB]
 refine zcs_ (G:=fun mm=>∃ fs,fnO (thenO mm _)=.ok fs∧∀ f∈fs,OkF f) (fun d (s:List Fl)=>s.length≤6+3*d.length∧∀ f∈s,OkF f) ?h0 (fun d x s hx hs=>?_) (fun s hs=>⟨_,rfl,hs.2⟩)
 case h0 =>
  refine ⟨by simp; lia,fun f hf=>?_⟩
  simp only [List.append_nil,List.mem_append,List.mem_map] at hf
  rcases hf with ⟨⟨p,hp,rfl⟩ | hf⟩ | hf
  ·exact (h.pk p hp).1
  ·exact zlx_ h.md f hf
  ·exact h.od f hf
 ·obtain ⟨r,hr⟩:=hx
  have hd:d.length<4:=by have:=congrArg List.length hr; simp at this; lia
  obtain ⟨a1,a2,a3,_⟩:=hW x (by rw [hr]; simp)
  rw [Mo.lim_ok (by have:=hs.1; simp; lia)]
  refine ⟨_,rfl,by have:=hs.1; simp; lia,fun f hf=>?_⟩
  simp only [List.mem_append,List.mem_cons,List.not_mem_nil,or_false] at hf
  rcases hf with hf | rfl | rfl | rfl
  ·exact hs.2 f hf
  ·exact a1
  ·exact a2
  ·exact a3
end
section
variable {P:Pt}{W:List Wk}
theorem zlj_ (f:Fl):zbg_ f=.ok (f.2-f.1+1):=rfl
theorem zlp_ (n:Nat) (h:n≤100):zbE_ (List.replicate n 65)=.ok true:=by
 unfold zbE_ zcC_
 walk_at "mo"
 rw [zcj_ (f:=fun x_2=>cond1 (Mq true) (Mq (inS x_2 SG))) (g:=fun x=>inS x SG) (fun x hx=>rfl) (by simp; lia)]
 have e:(([]:List Bool)++((List.replicate n 65).map fun c=>[c]).map fun x=>inS x SG).all id=true:=by
  rw [List.nil_append,List.all_eq_true]
  intro b hb
  obtain ⟨x,hx,rfl⟩:=List.mem_map.mp hb
  obtain ⟨c,hc,rfl⟩:=List.mem_map.mp hx
  rw [List.eq_of_mem_replicate hc]
  rfl
 rw [Mo.okB,e]
 rfl
theorem zix_ (h:OkP P):∃ row:List Pas,zaA_ (ak P W)=.ok row∧row.length≤72∧∀ q∈row,q.2=some [65]:=by
 unfold zaA_ zbv_
 walk_at "mo"
 rw [show (ak P W).2.1=P.2.1 from rfl]
 have hl:=h.pl
 refine zcs_ (G:=fun mm=>∃ row:List Pas,fnO (thenO mm _)=.ok row∧row.length≤72∧∀ q∈row,q.2=some [65]) (fun d (s:List Pas)=>s.length≤36*d.length∧∀ q∈s,q.2=some [65]) ⟨Nat.zero_le _,fun q hq=>by cases hq⟩ (fun d x s hx hs=>?_) (fun s hs=>⟨_,rfl,by have:=hs.1; lia,hs.2⟩)
 obtain ⟨r,hr⟩:=hx
 have hd:d.length<2:=by have:=congrArg List.length hr; simp at this; lia
 obtain ⟨⟨a1,a2,a3⟩,ht⟩:=h.pk x (by rw [hr]; simp)
 have ec:zaX_ x.1=.ok (rngI x.1.1 (x.1.2+1-x.1.1).toNat):=by
  unfold zaX_ zb0_
  walk_at "mo"
  rw [Mo.grd_ok ⟨by lia,by lia,by lia,by lia⟩]
  rfl
 rw [ec]
 walk_at "mo"
 have hz:((rngI x.1.1 (x.1.2+1-x.1.1).toNat).zip (x.2.map fun c=>[c])).length≤36:=by
  rw [List.length_zip,zln_]; lia
 rw [zcj_ (f:=fun x11:Int×List Nat=>cond1 (Mq true) (Mq (x11.1,some x11.2))) (g:=fun x:Int×List Nat=>((x.1,some x.2):Pas)) (fun x hx=>rfl) (by simp only [List.length_nil]; lia)]
 rw [Mo.okB,Mo.lim_ok (by have:=hs.1; rw [List.nil_append,List.length_map]; lia)]
 refine ⟨_,rfl,by have:=hs.1; simp only [List.nil_append,List.length_append,List.length_map,List.length_singleton]; lia,fun q hq=>?_⟩
 rcases List.mem_append.mp hq with hq | hq
 ·exact hs.2 q hq
 ·rw [List.nil_append] at hq
  obtain ⟨z,hz,rfl⟩:=List.mem_map.mp hq
  have:=(List.of_mem_zip (a:=z.1) (b:=z.2) hz).2
  obtain ⟨c,hc,e⟩:=List.mem_map.mp this
  rw [ht] at hc
  show some z.2=some [65]
  rw [← e,List.eq_of_mem_replicate hc]
theorem zj6_ {m:List (Int×List Nat)}{k:Int}(h:∀ q∈m,q.2=[65]):∀ q∈putA m k [65],q.2=[65]:=by
 unfold putA
 intro q hq
 split at hq
 ·obtain ⟨z,hz,rfl⟩:=List.mem_map.mp hq
  split
  ·rfl
  ·exact h z hz
 ·rcases List.mem_append.mp hq with hq | hq
  ·exact h q hq
  ·rw [List.mem_singleton.mp hq]
theorem zkd_ {m:List (Int×List Nat)}{k:Int}{d:List Nat}:(putA m k d).length≤m.length+1:=by
 unfold putA
 split
 ·rw [List.length_map]; lia
 ·simp
theorem zi3_ (row:List Pas) (hl:row.length≤72) (h:∀ q∈row,q.2=some [65]):∃ m,zak_ row=.ok (some m):=by
 unfold zak_ za5_
 walk_at "mo"
 refine zcs_ (G:=fun mm=>∃ m,fnO (thenO mm _)=.ok (some m)) (fun d (s:List (Int×List Nat))=>s.length≤d.length∧∀ q∈s,q.2=[65]) ⟨Nat.zero_le _,fun q hq=>by cases hq⟩ (fun d x s hx hs=>?_) (fun s hs=>⟨_,rfl⟩)
 obtain ⟨r,hr⟩:=hx
 have hd:d.length<72:=by have:=congrArg List.length hr; simp at this; lia
 obtain ⟨c,t⟩:=x
 have ht:t=some [65]:=h (c,t) (by rw [hr]; simp)
 subst ht
 rw [show decide (pTag (c,some [65])=[112,105,99,107])=true from rfl]
 walk_at "mo"
 rw [Mo.lim_ok (by have:=hs.1; lia)]
 unfold sdA
 cases e:getA s c with
 | some a =>
  have ha:a=[65]:=by
   unfold getA at e
   obtain ⟨q,hq,e⟩:=Option.map_eq_some_iff.mp e
   rw [← e]
   exact hs.2 q (List.mem_of_find?_eq_some hq)
  subst ha
  exact ⟨_,rfl,by have:=hs.1; simp; lia,hs.2⟩
 | none=>exact ⟨_,rfl,by have:=hs.1; have:=zkd_ (m:=s) (k:=c) (d:=[65]); simp; lia,zj6_ hs.2⟩
theorem zjc_ (h:OkP P):zaE_ (ak P W)=.ok ():=by
 unfold zaE_ zbt_
 walk_at "mo"
 rw [show (ak P W).2.1=P.2.1 from rfl]
 rw [zdM_ (fun x hx=>by
  obtain ⟨⟨a1,a2,a3⟩,ht⟩:=h.pk x hx
  have hl:x.2.length=(x.1.2-x.1.1+1).toNat:=by rw [ht,List.length_replicate]
  rw [Mo.lim_ok (by lia),Mo.okB,zlj_]
  walk_at "mo"
  rw [decide_eq_true (show (x.2.length:Int)=x.1.2-x.1.1+1 by lia),znQ_,ht,zlp_ _ (by lia)]
  rfl)]
 obtain ⟨row,e,l,hr⟩:=zix_ (W:=W) h
 obtain ⟨m,em⟩:=zi3_ row l hr
 rw [zcF_,e]
 walk_at "mo"
 rw [em]
 rfl
theorem zja_ (h:OkM P.2.2.1):zE_ (ak P W)=.ok ():=by
 unfold zE_ zY_
 walk_at "mo"
 rw [zkP_ h]
 walk_at "mo"
 obtain ⟨a,b,m,c,d⟩:=P
 rcases h with h | ⟨f,hf,h⟩ | ⟨f,g,hf,hg,e,h⟩
 ·cases h; rfl
 ·cases h
  show fnU (((Mb (Mq (decide (f.2-f.1+1=f.2-f.1+1),_)) fun c=>zw_ c.1 c.2)).bind fun _=>Mq (.nx ()))=_
  rw [decide_eq_true rfl]
  rfl
 ·have e:midF (a,b,m,c,d).2.2.1=[f,g]:=by rcases h with h | h<;>cases h<;>rfl
  rw [e]
  show fnU (((Mb (Mq (decide (f.2-f.1+1=g.2-g.1+1),_)) fun c=>zw_ c.1 c.2)).bind fun _=>Mq (.nx ()))=_
  rw [decide_eq_true (by lia)]
  rfl
theorem zj2_:zck_ []=.ok true:=by
 have e:srtL ltI ([]:List Int)=[]:=by unfold srtL; rw [List.mergeSort]
 unfold zck_ zdN_ zbX_ zb5_
 walk_at "mo"
 rw [List.map_nil,e,Mo.grd_ok (by decide)]
 rfl
theorem zkI_:z8_ (ak P W)=.ok ():=by
 unfold z8_ zar_ ak
 walk_at "mo"
 rw [zj2_,decide_eq_true (show (0:Int)≤(P.2.2.2.1.length:Int) by lia)]
 rfl
def gk (k:Int) (q:Int×Wk):List Fl:=(if !decide (q.1=k) then [q.2.1] else [])++(if decide (q.1≤k) then [q.2.2.1,q.2.2.2.2] else [])
def kp (P:Pt) (W:List Wk) (k:Int):List Fl:=P.2.1.map (·.1)++(midF P.2.2.1).take 1++P.2.2.2.1++(enumL W).flatMap (gk k)
theorem gk_len (k:Int) (q:Int×Wk):(gk k q).length≤3:=by
 unfold gk
 split<;>split<;>simp
theorem zmI_ (h:OkP P) (hl:W.length≤4) (k:Int):zaB_ (ak P W) k=.ok (kp P W k):=by
 have l1:=h.pl
 have l2:=h.ol
 have l3:((midF P.2.2.1).take 1).length≤1:=by rw [List.length_take]; lia
 unfold zaB_ zbp_
 walk_at "mo"
 rw [show (ak P W).2.1=P.2.1 from rfl,show (ak P W).2.2.2.1=P.2.2.2.1 from rfl,show (ak P W).2.2.2.2.1=W from rfl,zgr_ h.pl,zkP_ h.md]
 walk_at "mo"
 rw [zjN_ (by decide),show (1:Int).toNat=1 from rfl,Mo.lim_ok (by simp only [List.length_append,List.length_map]; lia),Mo.okB,Mo.lim_ok (by simp only [List.length_append,List.length_map]; lia),Mo.okB]
 generalize hb:P.2.1.map (fun x:Pk=>x.1)++(midF P.2.2.1).take 1++P.2.2.2.1=base
 have lb:base.length≤5:=by rw [← hb]; simp only [List.length_append,List.length_map]; lia
 refine zcs_ (G:=fun mm=>fnO (thenO mm _)=.ok (kp P W k)) (fun d (s:List Fl)=>s=base++d.flatMap (gk k)∧s.length≤5+3*d.length) ⟨by simp,by simp; lia⟩ (fun d x s hx hs=>?_) (fun s hs=>?_)
 ·obtain ⟨r,hr⟩:=hx
  have hd:d.length<4:=by have:=congrArg List.length hr; rw [zc8_] at this; simp at this; lia
  have hs2:=hs.2
  refine zdk_ (fun s'=>s'=s++(if !decide (x.1=k) then [x.2.1] else [])∧s'.length≤s.length+1) ?a1 (fun s' hs'=>?_)
  case a1 =>
   cases decide (x.1=k) with
   | true=>exact ⟨_,rfl,by simp,by lia⟩
   | false =>
    show ∃ s',Mo.lim _ _=_∧_
    rw [Mo.lim_ok (by lia)]
    exact ⟨_,rfl,rfl,by simp⟩
  refine zdk_ (fun s''=>s''=s'++(if decide (x.1≤k) then [x.2.2.1,x.2.2.2.2] else [])∧s''.length≤s'.length+2) ?a2 (fun s'' hs''=>⟨_,rfl,?_,?_⟩)
  case a2 =>
   cases decide (x.1≤k) with
   | false=>exact ⟨_,rfl,by simp,by lia⟩
   | true =>
    show ∃ s',Mo.lim _ _=_∧_
    rw [Mo.lim_ok (by have:=hs'.2; simp; lia)]
    exact ⟨_,rfl,rfl,by simp⟩
  ·rw [hs''.1,hs'.1,hs.1,List.flatMap_append,List.flatMap_cons,List.flatMap_nil,List.append_nil]
   unfold gk
   simp only [List.append_assoc]
  ·have a1:=hs'.2
   have a2:=hs''.2
   simp only [List.length_append,List.length_singleton]
   lia
 ·rw [hs.1]
  unfold kp
  rw [hb]
  rfl
def fit (P:Pt) (W:List Wk):Bool:=(enumL W).all fun q=>(kp P W q.1).all fun f=>!share q.2.1 f
theorem zkx_ (h:OkP P) (hl:W.length≤4) (hW:∀ w∈W,OkW w):zaG_ (ak P W)=if fit P W then .ok () else .ex NA:=by
 unfold zaG_ zby_
 walk_at "mo"
 rw [show (ak P W).2.2.2.2.1=W from rfl]
 rw [zhC_ (p:=fun q:Int×Wk=>(kp P W q.1).all fun f=>!share q.2.1 f) (x:=NA) (fun q hq=>by
  obtain ⟨_,_,_,hw⟩:=hW q.2 (zkM_ hq)
  have e:(([[112,108,117,115],[108,101,115,115],[116,105,109,101,115]]:List (List Nat)).any fun y=>decide (y=q.2.2.2.1))=true:=by
   rw [List.any_eq_true]
   exact ⟨_,hw,decide_eq_true rfl⟩
  rw [e,znQ_,zmI_ h hl]
  walk_at "mo"
  rw [zhC_ (p:=fun f:Fl=>!share q.2.1 f) (x:=NA) (fun f hf=>by
   rw [zj9_]
   cases share q.2.1 f<;>rfl)]
  cases (kp P W q.1).all fun f=>!share q.2.1 f<;>rfl)]
 show fnU (thenO (if fit P W=true then _ else _) _)=_
 cases fit P W<;>rfl
end
section
variable {P:Pt}{W:List Wk}
theorem zj4_ (h:OkP P) (hl:W.length≤4) (hW:∀ w∈W,OkW w):z5_ (ak P W)=if fit P W then .ok () else .ex NA:=by
 obtain ⟨fs,e,hf⟩:=zoi_ h hl hW
 unfold z5_ zaY_
 walk_at "mo"
 rw [zlY_ h.pl h.ol hl,zlv_ h.md,zj0_ h.nm h.md,e]
 walk_at "mo"
 rw [zdM_ (fun x hx=>by rw [fieldb (hf x hx)]; rfl),zcF_,zjc_ h,zja_ h.md,zkI_,zkx_ h hl hW]
 cases fit P W<;>rfl
theorem zlS_ (h:OkP P) (hl:W.length≤4) (hW:∀ w∈W,OkW w):z3_ () P.1 P.2.1 P.2.2.1 P.2.2.2.1 (some W) 0 none 6 none=if fit P W then .ok ((),ak P W) else .ex NA:=by
 unfold z3_
 show fnMU (Mb (z5_ (ak P W)) fun _=>Mq (.nx (ak P W)))=_
 rw [zj4_ h hl hW]
 cases fit P W<;>rfl
theorem zk1_:zaU_ NA=.ok true:=by
 unfold zaU_ zcx_
 rfl
theorem znC_ {β:Type}(k1 k2:Mo β):Mo.cat [("NoAsking",true)] NA.c k1 k2=k1:=rfl
theorem zdz_ (h:OkP P) (hl:W.length≤4) (hW:∀ w∈W,OkW w):zR_ P W=.ok (!fit P W):=by
 unfold zR_ zbf_
 walk_at "mo"
 rw [zlS_ h hl hW]
 cases fit P W with
 | true=>rfl
 | false =>
  rw [if_neg Bool.false_ne_true]
  show fnO (thenO (Mo.cat [("NoAsking",true)] NA.c (Mb (Mo.noex (zaU_ NA)) fun a=>Mq (Out.nx (true,a))) Mo.no) _)=_
  rw [znC_,zk1_]
  rfl
theorem zkC_ {ρ B S S':Type}{m:Mo (Out ρ B S)}{k:S→Mo (Out ρ B S')}{s':S}(h:m=.ok (.nx s')):thenO m k=k s':=by rw [h,zcF_]
def one (K1:List Fl) (W:List Wk) (q:Int×Wk):Bool:=(K1.all fun f=>!share q.2.1 f) && (enumL W).all fun r=>(!(!decide (r.1=q.1) && share q.2.1 r.2.1)) && [r.2.2.1,r.2.2.2.2].all fun f=>!(decide (r.1≤q.1) && share q.2.1 f)
theorem zoj_:fit P W=(enumL W).all (one (P.2.1.map (·.1)++P.2.2.2.1++(midF P.2.2.1).take 1) W):=by
 unfold fit kp
 congr 1
 funext q
 unfold one
 rw [List.all_append,List.all_append,List.all_append,List.all_append,List.all_append,List.all_flatMap]
 have:(fun r=>(gk q.1 r).all fun f=>!share q.2.1 f)=fun r:Int×Wk=>(!(!decide (r.1=q.1) && share q.2.1 r.2.1)) && [r.2.2.1,r.2.2.2.2].all fun f=>!(decide (r.1≤q.1) && share q.2.1 f):=by
  funext r
  unfold gk
  cases decide (r.1=q.1)<;>cases decide (r.1≤q.1)<;>simp
 rw [this]
 congr 1
 exact Bool.and_right_comm ..
theorem zhR_ (h:OkP P):zbu_ P=.ok (fit P P.2.2.2.2):=by
 have l1:=h.pl
 have l2:=h.ol
 have l4:=h.wl
 unfold zbu_ zdx_
 walk_at "mo"
 rw [zcj_ (f:=fun x_3:Pk=>cond1 (Mq true) (Mq x_3.1)) (g:=fun x:Pk=>x.1) (fun x hx=>rfl) (by simp; lia),Mo.okB,List.nil_append,Mo.lim_ok (by simp only [List.length_map]; lia),Mo.okB,zoj_]
 generalize hk:P.2.1.map (fun x:Pk=>x.1)++P.2.2.2.1=K0
 have lk:K0.length≤4:=by rw [← hk]; simp only [List.length_append,List.length_map]; lia
 refine (congrArg fnO (zkC_ (s':=K0++(midF P.2.2.1).take 1) ?ca)).trans ?cb
 case ca =>
  have hm:=h.md
  clear h l1 l2 l4 hk
  obtain ⟨a,b,m,c,d⟩:=P
  rcases hm with hm | ⟨f,hf,hm⟩ | ⟨f,g,hf,hg,_,hm | hm⟩<;>cases hm
  ·rw [show (midF none).take 1=[] from rfl,List.append_nil]; rfl
  ·show Mo.lim _ _=_
   rw [Mo.lim_ok (by lia)]; rfl
  ·show thenO (Mo.lim _ _) _=_
   rw [Mo.lim_ok (by lia)]; rfl
  ·show thenO (Mo.lim _ _) _=_
   rw [Mo.lim_ok (by lia)]; rfl
 case cb =>
  generalize K0++(midF P.2.2.1).take 1=K1
  have hl:=h.wl
  generalize P.2.2.2.2=W at hl
  rw [Mo.grd_ok ⟨by lia,by lia⟩,Mo.okB,Int.toNat_natCast,zkk_,zey_]
  rw [zeZ_ (p:=one K1 W) (z:=false) (fun q hq=>by
   rw [zjT_ hq]
   walk_at "mo"
   rw [zeZ_ (p:=fun f=>!share q.2.1 f) (z:=false) (fun f hf=>by
    rw [zfF_]
    cases share q.2.1 f<;>rfl)]
   unfold one
   cases K1.all fun f=>!share q.2.1 f with
   | false=>rfl
   | true =>
    rw [if_pos rfl,zcF_,zey_]
    rw [zeZ_ (p:=fun r:Int×Wk=>(!(!decide (r.1=q.1) && share q.2.1 r.2.1)) && [r.2.2.1,r.2.2.2.2].all fun f=>!(decide (r.1≤q.1) && share q.2.1 f)) (z:=false) (fun r hr=>by
     rw [zjT_ hr]
     walk_at "mo"
     rw [zfF_]
     walk_at "mo"
     rw [zeZ_ (p:=fun f=>!(decide (r.1≤q.1) && share q.2.1 f)) (z:=false) (fun f hf=>by
      rw [zfF_]
      cases decide (r.1≤q.1)<;>cases share q.2.1 f<;>rfl)]
     generalize [r.2.2.1,r.2.2.2.2].all (fun f=>!(decide (r.1≤q.1) && share q.2.1 f))=v
     cases decide (r.1=q.1)<;>cases share q.2.1 r.2.1<;>cases v<;>rfl)]
    cases (enumL W).all _<;>rfl)]
  cases (enumL W).all (one K1 W)<;>rfl
theorem zlH_:fit P []=true:=rfl
theorem zkG_ (l:List Wk):eqL (fun a b=>(decide (a.1.1=b.1.1) && decide (a.1.2=b.1.2)) && ((decide (a.2.1.1=b.2.1.1) && decide (a.2.1.2=b.2.1.2)) && (decide (a.2.2.1=b.2.2.1) && (decide (a.2.2.2.1=b.2.2.2.1) && decide (a.2.2.2.2=b.2.2.2.2))))) l l=true:=zhM_ (fun a=>by simp) l
theorem zj5_ (ns:List Int) (hl:ns.length≤63):f_law ns=.ok true:=by
 obtain ⟨P,e,h⟩:=zkN_ ns
 unfold f_law znw_
 walk_at "mo"
 rw [e]
 walk_at "mo"
 have l4:=h.wl
 rw [zhR_ h,zdz_ h h.wl h.wk,zdz_ h (Nat.zero_le _) (fun w hw=>by cases hw),zlH_]
 walk_at "mo"
 rw [zkG_]
 walk_at "mo"
 rw [Mo.grd_ok ⟨by lia,by lia⟩,Mo.okB,Int.toNat_natCast]
 rw [zdM_ (fun k hk=>by
  obtain ⟨k0,k1⟩:=zla_.mp hk
  rw [zjN_ k0,ziG_ (by lia)]
  rw [Mo.lim_ok (by rw [List.length_take,List.length_drop]; lia),Mo.okB]
  walk_at "mo"
  have hW:∀ w∈P.2.2.2.2.take k.toNat++P.2.2.2.2.drop (k+1).toNat,OkW w:=fun w hw=>by
   rcases List.mem_append.mp hw with z | z
   ·exact h.wk w (List.mem_of_mem_take z)
   ·exact h.wk w (List.mem_of_mem_drop z)
  have hP:OkP (P.1,P.2.1,P.2.2.1,P.2.2.2.1,P.2.2.2.2.take k.toNat++P.2.2.2.2.drop (k+1).toNat):=⟨h.nm,h.pl,h.pk,h.md,h.ol,h.od,by rw [List.length_append,List.length_take,List.length_drop]; lia,hW⟩
  rw [zhR_ hP,zdz_ hP hP.wl hP.wk]
  walk_at "mo")]
 rfl
end
end K42
namespace K42
open PySem PySem.Spec PyProof.Rows L2
open Mo renaming bind→Mb,ok→Mq
open Sl renaming fz→Zf,dead→Zd,ow→Zo
theorem znF_ {l:PySem.W.OpenLaw}{w:World}{K:Fgg}{mg:Str→Option Value}{base:Heap}{f:Addr}{fd:FuncData}(e:En K mg) (g2:zd7_ l.prog w K mg base) (g4:zfe_ l.prog w K mg base) (g35:zcZ_ l.prog w K mg base) (F:Fun K "law" "law" znk_ f fd):FnOk l.prog w K mg base CX0 10 f fd ["_law_script"] (spL K) :=
 okL (l:=l) (w:=w) (K:=K) (mg:=mg) (base:=base) (k:=9) (st:=znk_) (x := "_law_script") (N:=["_law_script", "_law_parts_here", "_law_handed", "_law_due", "_law_k", "_law_some"]) (t:=fun E=>t_law K) (g:=znw_) 5 (fun _ _ _ _ _ _ E nd hr=>(zh_ (pst 1 (zo_ g2 (hm hr) (zb_ (za_ 0) zi_))) (zh_ (pst 2 (zjy_ "list" (zax_ rfl) (e.m.gb e.b3) (zb_ (zG_ ix_M (za_ 1) zj_ (fun _ _=>rfl)) zi_))) (zh_ (pst 3 (zh4_ (zo_ g4 (hm hr) (zb_ (za_ 1) zi_)))) (zh_ (zaw_ (PW.pt (zlU_ (zN_ (zf2_ hr.u60) (zo_ g35 (hm hr) (zb_ (za_ 1) (zb_ (za_ 2) zi_))) (za_ 3)) (zl6_ (zN_ (zf2_ hr.u60) (za_ 2) (zG_ ix_M (za_ 1) zj_ (fun _ _=>rfl)))))) (zk_ (zP_ zhb_)) zQ_) (zh_ (zaw_ (zN_ zcu_ (zo_ g35 (hm hr) (zb_ (za_ 1) (zb_ (zaR_ zi_) zi_))) zhb_) (zk_ (zP_ zhb_)) zQ_) (zh_ (zbr_ PassesOwn.never rfl (zf6_ (e.m.gb e.b2) (zb_ (zbO_ zF_ (e.m.gb e.b0) (zb_ (za_ 2) zi_)) zi_)) (pgn 4) (zh_ (pst 5 (zas_ z1_ (zcA_ sl_M (za_ 1) zej_ (po_M zj_)) (zaR_ (zb_ (zas_ z1_ (zcA_ sl_M (zG_ ix_M (za_ 1) zj_ (fun _ _=>rfl)) zej_ (po_M (za_ 4))) (zcA_ sl_M (zG_ ix_M (za_ 1) zj_ (fun _ _=>rfl)) (po_M (zas_ z1_ (za_ 4) zj_)) zej_)) zi_)))) (zk_ (zaw_ (zN_ (zf2_ hr.u60) (zo_ g35 (hm hr) (zb_ (za_ 5) (zb_ (zG_ ix_M (za_ 5) zj_ (fun _ _=>rfl)) zi_))) (zh4_ (zo_ g4 (hm hr) (zb_ (za_ 5) zi_)))) (zk_ (zP_ zhb_)) zQ_)))) (zk_ (zP_ (zK_ (zds_ hr.u60) (zo_ g35 (hm hr) (zb_ (za_ 1) (zb_ (za_ 2) zi_))) (za_ 3))))))))))) (fun ns hl hb=>zj5_ ns hl) (fun c E=>at_ [(Zf (tySc K) c),Zd,Zd,Zd,Zd,Zd]
 (zkj_ (i:=1) rfl (zp_ (ze_ (zc_ 0 rfl))) fun x1'=>(at_ [(Zf (tySc K) c),(Zf (tyH (csCons tyStr (csCons (tyL Qq5) (csCons (tyOpt (tyU Qq6 Qq2)) Qq7)))) x1'),Zd,Zd,Zd,Zd] (zbI_ (i:=2) rfl (zaf_ (zn_ (zd_ (zn_ (zd_ zf_ (zg_ zf_))) (zd_ (zn_ (zd_ zf_ (zg_ zf_))) (zd_ zS_ (zg_ (zn_ (zd_ zf_ (zg_ zf_))))))))) (zeS_ zfb_ (ze_ (zbm_ (i:=4) (at_s (at_s (at_s (at_s zH_)))) (zc_ 1 rfl)))) fun u4'=>zhZ_ (i:=2) rfl (at_ [(Zf (tySc K) c),(Zf (tyH (csCons tyStr (csCons (tyL Qq5) (csCons (tyOpt (tyU Qq6 Qq2)) Qq7)))) x1'),(Zf (tyL Qq4) u4'),Zd,Zd,Zd] (zfJ_ (i:=3) rfl zai_ (zjZ_ (zp_ (ze_ (zc_ 1 rfl)))) fun d7=>(at_ [(Zf (tySc K) c),(Zf (tyH (csCons tyStr (csCons (tyL Qq5) (csCons (tyOpt (tyU Qq6 Qq2)) Qq7)))) x1'),(Zf (tyL Qq4) u4'),(Zf tyBl d7),Zd,Zd] (zbB_ (LS:=(fun _:Unit=>[(Zf (tySc K) c),(Zf (tyH (csCons tyStr (csCons (tyL Qq5) (csCons (tyOpt (tyU Qq6 Qq2)) Qq7)))) x1'),(Zf (tyL Qq4) u4'),(Zf tyBl d7),Zd,Zd])) (s_if (et_or (z2_ (zB_ zmn_ (zp_ (zl_ (zc_ 1 rfl) (ze_ (zc_ 2 rfl)))) (zc_ 3 rfl))) (z2_ (zB_ (zoe_ (eqt_l (ze5_ (zb3_ (ze5_ (zb3_ zcW_ (zdh_ zcW_))) (zb3_ (ze5_ (zb3_ zcW_ (zdh_ zcW_))) (zb3_ zmK_ (zdh_ (ze5_ (zb3_ zcW_ (zdh_ zcW_)))))))))) (zc_ 2 rfl) (zbm_ (i:=4) (at_s (at_s (at_s (at_s zH_)))) (zc_ 1 rfl))))) (zb4_ (zal_ zai_) (EvF.ow (zhc_ false))) (zq_ (S4 (.same (.same .nil))))) fun _=>(at_ [(Zf (tySc K) c),(Zf (tyH (csCons tyStr (csCons (tyL Qq5) (csCons (tyOpt (tyU Qq6 Qq2)) Qq7)))) x1'),(Zf (tyL Qq4) u4'),(Zf tyBl d7),Zd,Zd] (zbB_ (LS:=(fun _:Unit=>[(Zf (tySc K) c),(Zf (tyH (csCons tyStr (csCons (tyL Qq5) (csCons (tyOpt (tyU Qq6 Qq2)) Qq7)))) x1'),(Zf (tyL Qq4) u4'),(Zf tyBl d7),Zd,Zd])) (s_if (z2_ (zB_ zlI_ (zp_ (zl_ (zc_ 1 rfl) (ze_ (EvO.fr (zcX_ Qq4))))) (zhc_ false))) (zb4_ (zal_ zai_) (EvF.ow (zhc_ false))) (zq_ (S4 (.same (.same .nil))))) fun _=>(at_ [(Zf (tySc K) c),(Zf (tyH (csCons tyStr (csCons (tyL Qq5) (csCons (tyOpt (tyU Qq6 Qq2)) Qq7)))) x1'),(Zf (tyL Qq4) u4'),(Zf tyBl d7),Zd,Zd] (zbB_ (LS:=(fun _:Unit=>[(Zf (tySc K) c),(Zf (tyH (csCons tyStr (csCons (tyL Qq5) (csCons (tyOpt (tyU Qq6 Qq2)) Qq7)))) x1'),(Zf (tyL Qq4) u4'),(Zf tyBl d7),Zd,Zd])) (zbw_ (L':=[(Zf (tySc K) c),(Zf (tyH (csCons tyStr (csCons (tyL Qq5) (csCons (tyOpt (tyU Qq6 Qq2)) Qq7)))) x1'),(Zf (tyL Qq4) u4'),(Zf tyBl d7),Zd,Zd]) (S4 (.same (.same .nil))) (zfx_ (LS:=(fun _:Unit=>[(Zf (tySc K) c),(Zf (tyH (csCons tyStr (csCons (tyL Qq5) (csCons (tyOpt (tyU Qq6 Qq2)) Qq7)))) x1'),(Zf (tyL Qq4) u4'),(Zf tyBl d7),Zd,Zd])) (s0:=()) (ziq_ (ze_ (zd5_ za7_ (ze_ (zc_ 2 rfl))))) (zM_ 4) fun _ x32=>at_ [(Zf (tySc K) c),(Zf (tyH (csCons tyStr (csCons (tyL Qq5) (csCons (tyOpt (tyU Qq6 Qq2)) Qq7)))) x1'),(Zf (tyL Qq4) u4'),(Zf tyBl d7),(Zf tyInt x32),Zd] (zkj_ (i:=5) rfl (zB_ (zmo_ (zfW_ (zfW_ (zfW_ zj3_))) (zm_ (zm_ (zm_ zr_))) zr_) (zmR_ (tk_s (tk_s (tk_s (tk_1 zr_)))) (zc_ 1 rfl)) (ev_hl zr_ (ze_ (EvO.fr (zfj_ zcK_ (EvO.fr (zkH_ (zbm_ (i:=4) (at_s (at_s (at_s (at_s zH_)))) (zc_ 1 rfl)) zna_ (zm7_ (zc_ 4 rfl)))) (EvO.fr (zkH_ (zbm_ (i:=4) (at_s (at_s (at_s (at_s zH_)))) (zc_ 1 rfl)) (zm7_ (zB_ zbb_ (zc_ 4 rfl) (zu_ 1))) zna_))))))) fun s33=>(at_ [(Zf (tySc K) c),(Zf (tyH (csCons tyStr (csCons (tyL Qq5) (csCons (tyOpt (tyU Qq6 Qq2)) Qq7)))) x1'),(Zf (tyL Qq4) u4'),(Zf tyBl d7),(Zf tyInt x32),(Zf (tyH (csCons tyStr (csCons (tyL Qq5) (csCons (tyOpt (tyU Qq6 Qq2)) Qq7)))) s33)] (s_if (z2_ (zB_ zmn_ (zp_ (zl_ (zc_ 5 rfl) (ze_ (zbm_ (i:=4) (at_s (at_s (at_s (at_s zH_)))) (zc_ 5 rfl))))) (zjZ_ (zp_ (ze_ (zc_ 5 rfl)))))) (zb4_ (zal_ zai_) (EvF.ow (zhc_ false))) (zq_ (S4 (.dead (.dead .nil))))))))) fun _=>(at_ [(Zf (tySc K) c),(Zf (tyH (csCons tyStr (csCons (tyL Qq5) (csCons (tyOpt (tyU Qq6 Qq2)) Qq7)))) x1'),(Zf (tyL Qq4) u4'),(Zf tyBl d7),Zd,Zd] (zb4_ (zal_ zai_) (EvF.ow (zB_ znh_ (zp_ (zl_ (zc_ 1 rfl) (ze_ (zc_ 2 rfl)))) (zc_ 3 rfl))))))))))))))))) f fd F
theorem all_mk {l:PySem.W.OpenLaw}{w:World}{K:Fgg}{h:Heap}{mg:Str→Option Value}{fa:Addr}(X:K.In h) (G:h.Ns mainGlobals mg) (hfa:mg "law" = some (.ref fa)) (k:Ek K) :
  ∃ fd:FuncData,(∀ (s:Shared) (v:Value),BindsTo s fd ⟨[v],[]⟩ [("_law_script",v)])∧∀ base:Heap,K.In base→base.Ns mainGlobals mg→FnOk l.prog w K mg base CX0 10 fa fd ["_law_script"] (spL K):=by
 have e:En K mg:=⟨k,_,X,G⟩
 refine okLaw e.m e.f36 hfa (fun _ _ _ _ _ _ _ _=>rfl) fun base f fd F=>?_
 have g0:=zev_ (P:=l.prog) (w:=w) (base:=base) e
 have g1:=zf4_ (P:=l.prog) (w:=w) (base:=base) e
 have g2:=zfH_ (P:=l.prog) (w:=w) (base:=base) e g0 g1
 have g3:=zf5_ (P:=l.prog) (w:=w) (base:=base) e
 have g4:=zg0_ (P:=l.prog) (w:=w) (base:=base) e g3
 have g5:=zdo_ (P:=l.prog) (w:=w) (base:=base) e
 have g6:=zdD_ (P:=l.prog) (w:=w) (base:=base) e
 have g7:=zh5_ (P:=l.prog) (w:=w) (base:=base) e
 have g8:=zdu_ (P:=l.prog) (w:=w) (base:=base) e g7
 have g9:=zgT_ (P:=l.prog) (w:=w) (base:=base) e
 have g10:=zbW_ (P:=l.prog) (w:=w) (base:=base) e g7 g9
 have g11:=zgR_ (P:=l.prog) (w:=w) (base:=base) e g9
 have g12:=zip_ (P:=l.prog) (w:=w) (base:=base) e
 have g13:=zes_ (P:=l.prog) (w:=w) (base:=base) e g11 g7 g12
 have g14:=zdv_ (P:=l.prog) (w:=w) (base:=base) e g9
 have g15:=zfr_ (P:=l.prog) (w:=w) (base:=base) e g14
 have g16:=zfK_ (P:=l.prog) (w:=w) (base:=base) e
 have g17:=zdP_ (P:=l.prog) (w:=w) (base:=base) e
 have g18:=zgN_ (P:=l.prog) (w:=w) (base:=base) e
 have g19:=zeY_ (P:=l.prog) (w:=w) (base:=base) e
 have g20:=zeH_ (P:=l.prog) (w:=w) (base:=base) e g19
 have g21:=zeB_ (P:=l.prog) (w:=w) (base:=base) e g7 g18 g16 g17 g20
 have g22:=zbn_ (P:=l.prog) (w:=w) (base:=base) e g14 g7 g18
 have g23:=zg9_ (P:=l.prog) (w:=w) (base:=base) e
 have g24:=zfV_ (P:=l.prog) (w:=w) (base:=base) e g23
 have g25:=ze0_ (P:=l.prog) (w:=w) (base:=base) e g24
 have g26:=zg1_ (P:=l.prog) (w:=w) (base:=base) e g25
 have g27:=zc3_ (P:=l.prog) (w:=w) (base:=base) e g7 g23 g26
 have g28:=zeq_ (P:=l.prog) (w:=w) (base:=base) e g14
 have g29:=zf1_ (P:=l.prog) (w:=w) (base:=base) e
 have g30:=zew_ (P:=l.prog) (w:=w) (base:=base) e g7 g28 g29
 have g31:=zha_ (P:=l.prog) (w:=w) (base:=base) e g23
 have g32:=zdW_ (P:=l.prog) (w:=w) (base:=base) e g8 g10 g13 g15 g7 g31 g21 g22 g27 g30
 have g33:=zcI_ (P:=l.prog) (w:=w) (base:=base) e g5 g6 g32
 have g34:=zfG_ (P:=l.prog) (w:=w) (base:=base) e
 have g35:=zep_ (P:=l.prog) (w:=w) (base:=base) e g33 g34
 exact znF_ (l:=l) (w:=w) (base:=base) e g2 g4 g35 F
theorem walk {l:PySem.W.OpenLaw}{q:Program}{loose:List Str}{XP:(Str→Option Value)→Heap→Prop}{YP:World→Heap→Prop}{d:DefRec}{K:Params→Fgg}(hn:l.most=some 63) (hdf:d.params.defaults=[])
  (hY:∀ (w:World) (h:Heap),YP w h→(K w.params).In h)
  (F:∀ (w:World) (mg:Str→Option Value) (fa:Addr) (h:Heap),(K w.params).In h→h.Ns mainGlobals mg→mg d.name=some (.ref fa) →
   ∃ fd:FuncData,(∀ (s:Shared) (u:Value),BindsTo s fd ⟨[u],[]⟩ [("_law_script",u)])∧∀ base:Heap,(K w.params).In base→base.Ns mainGlobals mg→FnOk l.prog w (K w.params) mg base CX0 10 fa fd ["_law_script"] (spL (K w.params))) :
  PySem.W.WalkO q loose XP YP l.row.toRowW d [] (fun f vs=>PySem.call f vs) :=
 L2.zkh_ (n:=63) (k:=10) (x := "_law_script") (CX:=fun _=>CX0) (sp:=fun w=>spL (K w.params)) hn (by decide) hdf ⟨rfl,by decide,by decide⟩ hY F (fun _ _ a ns hl hb _ hS=>⟨a,ns,rfl,hS,hl,hb,fun _=>rfl⟩) fun _ _ _ _ _ z=>z
end K42
open PySem PySem.W PyProof.Rows
set_option maxRecDepth 100000 in
set_option maxHeartbeats 0 in
theorem PySem.Challenge.cw_cardshop_k42_works_apart_holds : PySem.Challenge.rw_cardshop_k42_works_apart.Holds := by
 w_on; o_law; k_head; (case hw=>w_witness2)
 k_fill
 refine K42.walk (l:=PySem.Challenge.rw_cardshop_k42_works_apart) rfl rfl (fun w h Y=>PySem.W.kIn_of Y) ?F
 case F =>
  intro w mg fa h KX G hmg
  refine K42.all_mk KX G hmg ?_
  constructor
  all_goals first | (refine' L2.FmD.mk_ ?x0 ?x1 ?x2 ?x3 ?x4 ?x5 ?x6 ?x7; (case x0=>k_is); (case x1=>k_is); (case x2=>k_is); (case x3=>k_is); (case x4=>k_is); (case x5=>k_is); (case x6=>k_is); (case x7=>(show _=_; kernel_rfl!))) | (refine' L2.FtT.mk_ ?x0 ?x1 ?x2 ?x3; (case x0=>k_is); (case x1=>k_is); (case x2=>(show _=_; kernel_rfl!)); (case x3=>decide)) | (refine' L2.Fg.mk_ ?x0 ?x1 ?x2 ?x3; (case x0=>k_is); (case x1=>k_is); (case x2=>k_is); (case x3=>k_is)) | (refine' L2.Fm.mk_ ?x0 ?x1 ?x2 ?x3 ?x4 ?x5; (case x0=>k_is); (case x1=>k_is); (case x2=>k_is); (case x3=>k_is); (case x4=>k_is); (case x5=>k_is)) | (refine' L2.Fs.mk_ ?x0 ?x1 ?x2 ?x3 ?x4 ?x5 ?x6; (case x0=>k_is); (case x1=>k_is); (case x2=>k_is); (case x3=>k_is); (case x4=>k_is); (case x5=>k_is); (case x6=>k_is)) | (refine' L2.Fc.mk_ ?x0 ?x1 ?x2 ?x3 ?x4 ?x5 ?x6; (case x0=>k_is); (case x1=>k_is); (case x2=>k_is); (case x3=>k_is); (case x4=>k_is); (case x5=>k_is); (case x6=>k_is)) | (refine' L2.Fa.mk_ ?x0 ?x1; (case x0=>k_is); (case x1=>k_is)) | (delta L2.Fb; k_is) | (refine' L2.Fv.mk_ ?x0 ?x1; (case x0=>k_is); (case x1=>exact ⟨_,rfl⟩)) | (refine' L2.Fk.mk_ ?x0; (case x0=>k_is)) | (refine' L2.Fe1.mk_ ?x0 ?x1; (case x0=>k_is); (case x1=>(show _=_; kernel_rfl!))) | (refine' L2.Fe2.mk_ ?x0 ?x1 ?x2; (case x0=>k_is); (case x1=>k_is); (case x2=>(show _=_; kernel_rfl!)))
#print axioms PySem.Challenge.cw_cardshop_k42_works_apart_holds
