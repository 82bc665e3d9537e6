import PyProof.Rows.All
import Wide.All
import OpenK.AllK
import Wide.FinOn
import Lean
import PyProof.EqAt
import PyProof.EqKinds
import PyProof.TupleCall
import PyProof.StrLawsRepr
import PyProof.NeKinds
import PyProof.InstStoreFacts
import PyProof.ExcInit
import KE.KEqDict
import KE.KDictOf
import KE.KPairComp
import PySem.Challenge.RW_cardshop_k22_out_of_order
set_option Elab.async false
set_option compiler.extract_closed false
set_option linter.all false
set_option maxRecDepth 100000
set_option maxHeartbeats 4000000
def PySem.W.Fast.tw5022357204101948717:Unit:=()
def PySem.W.Fast.tw8270755909389325615:Unit:=()
def PySem.W.Fast.tw3470659779444742934:Unit:=()
def PySem.W.Fast.tw16130138250661183467:Unit:=()
def PySem.W.Fast.tw17675841564582337027:Unit:=()
def PySem.W.Fast.tw2271144467899514726:Unit:=()
def PySem.W.Fast.tw2699176000611796379:Unit:=()
def PySem.W.Fast.tw16212718987285792972:Unit:=()
def PySem.W.Fast.tw3009132677370145815:Unit:=()
def PySem.W.Fast.tw5978004317358320726:Unit:=()
def PySem.W.Fast.tw5137161449667819129:Unit:=()
def PySem.W.Fast.tw6053971699446500345:Unit:=()
def PySem.W.Fast.tw6710081265270299022:Unit:=()
def PySem.W.Fast.tw11078490134795480096:Unit:=()
def PySem.W.Fast.tw11005334625757764369:Unit:=()
def PySem.W.Fast.tw12535310457872872689:Unit:=()
def PySem.W.Fast.tw359840113395294811:Unit:=()
def PySem.W.Fast.tw3847401588214069182:Unit:=()
def PySem.W.Fast.tw2598944850149414218:Unit:=()
def PySem.W.Fast.tw12104828301368228715:Unit:=()
def PySem.W.Fast.tw12855085107479734307:Unit:=()
def PySem.W.Fast.tw14710671603998125398:Unit:=()
def PySem.W.Fast.tw18123835385179092840:Unit:=()
noncomputable section
namespace L2
open PySem PySem.Spec PyProof.Rows
abbrev Fgg:=PySem.W.Frag
abbrev Pnn:=List (Addr×Obj)
abbrev Key:=Sum Int Str
def keyIs:Key→Value→Bool
 | .inl k,v=>Value.isInt k v
 | .inr x,v=>Value.isStrOf x v
def keyH (w:World):Key→Int
 | .inl k=>hashInt k
 | .inr x=>hashStr w x
theorem zM_:∀ {k:Key}{v:Value},keyIs k v=true→(∃ i t,k=Sum.inl i∧v=Value.int i t)∨(∃ x t,k=Sum.inr x∧v=Value.str x t)
 | .inl i,v,h=>by
  obtain ⟨t,e⟩:=Value.isInt_shape (k:=i) (v:=v) h
  exact .inl ⟨i,t,rfl,e⟩
 | .inr x,v,h=>by
  obtain ⟨t,e⟩:=Value.isStrOf_shape (x:=x) (v:=v) h
  exact .inr ⟨x,t,rfl,e⟩
theorem ziQ_ (i:Int) (t:Tok):keyIs (.inl i) (.int i t)=true:=by simp [keyIs,Value.isInt]
theorem ziM_ (x:Str) (t:Tok):keyIs (.inr x) (.str x t)=true:=by simp [keyIs,Value.isStrOf]
theorem zoF_ (a b:Int):decide ((Sum.inl a:Key)=Sum.inl b)=(a == b):=by
 by_cases e:a=b
 ·subst e; simp
 ·have h:¬ (Sum.inl a:Key)=Sum.inl b:=fun q=>e (Sum.inl.inj q)
  rw [decide_eq_false h]
  exact (beq_eq_false_iff_ne.mpr e).symm
theorem zoq_ (a b:Str):decide ((Sum.inr a:Key)=Sum.inr b)=decide (a=b):=by
 by_cases e:a=b
 ·subst e; simp
 ·have h:¬ (Sum.inr a:Key)=Sum.inr b:=fun q=>e (Sum.inr.inj q)
  rw [decide_eq_false h,decide_eq_false e]
theorem zoy_ (a:Int) (b:Str):decide ((Sum.inl a:Key)=Sum.inr b)=false:=decide_eq_false (fun q=>nomatch q)
theorem zoa_ (a:Str) (b:Int):decide ((Sum.inr a:Key)=Sum.inl b)=false:=decide_eq_false (fun q=>nomatch q)
def mixKind (prog:Program) (w:World):PySem.KeyKind prog w Key where
 is:=keyIs
 hash:=keyH w
 inj:=fun v a b ha hb=>by
  rcases zM_ ha with ⟨i,t,rfl,rfl⟩ | ⟨x,t,rfl,rfl⟩
  ·rcases zM_ hb with ⟨j,u,rfl,e⟩ | ⟨y,u,rfl,e⟩
   ·injection e with e1 _; rw [e1]
   ·exact nomatch e
  ·rcases zM_ hb with ⟨j,u,rfl,e⟩ | ⟨y,u,rfl,e⟩
   ·exact nomatch e
   ·injection e with e1 _; rw [e1]
 byValue:=fun k v h=>by
  rcases zM_ h with ⟨i,t,rfl,rfl⟩ | ⟨x,t,rfl,rfl⟩<;>rfl
 pyHash:=fun hv h=>by
  rcases zM_ hv with ⟨i,t,rfl,rfl⟩ | ⟨x,t,rfl,rfl⟩
  ·exact wpAny_pyHash_int h
  ·exact wpAny_pyHash_str h
 eqBool:=fun hu hv h=>by
  rcases zM_ hu with ⟨i,t,rfl,rfl⟩ | ⟨x,t,rfl,rfl⟩
  ·rcases zM_ hv with ⟨j,u,rfl,rfl⟩ | ⟨y,u,rfl,rfl⟩
   ·rw [zoF_] at h; exact wpAny_eqBool_int h
   ·rw [zoy_] at h; exact SeqAt.EqAt.int_str i t y u _ _ _ _ h
  ·rcases zM_ hv with ⟨j,u,rfl,rfl⟩ | ⟨y,u,rfl,rfl⟩
   ·rw [zoa_] at h; exact SeqAt.EqAt.str_int x t j u _ _ _ _ h
   ·rw [zoq_] at h; exact wpAny_eqBool_str h
 «strs»:=fun k x t v h=>by
  rcases zM_ h with ⟨i,u,rfl,e⟩ | ⟨y,u,rfl,e⟩
  ·exact nomatch e
  ·injection e with e1 _
   subst e1
   cases v<;>rfl
theorem zgJ_ (prog:Program) (w:World) (i:Int) (t:Tok):(mixKind prog w).is (.inl i) (.int i t)=true:=ziQ_ i t
theorem zgv_ (prog:Program) (w:World) (x:Str) (t:Tok):(mixKind prog w).is (.inr x) (.str x t)=true:=ziM_ x t
end L2
namespace L2
open PySem PySem.Spec PyProof.Rows
inductive V where
 | non | bl (b:Bool) | int (i:Int) | str (x:Str) | byt (b:Array UInt8) | flt (b:UInt64) | ref (a:Addr) | ty (n:String)
 deriving DecidableEq
def RelV:V→Value→Prop
 | .non,u=>u=Value.none
 | .bl b,u=>u=Value.bool b
 | .int i,u=>∃ t,u=Value.int i t
 | .str x,u=>∃ t,u=Value.str x t
 | .byt b,u=>∃ t,u=Value.bytes b t
 | .flt b,u=>∃ t,u=Value.float b t
 | .ref a,u=>u=Value.ref a
 | .ty n,u=>u=Value.type n
abbrev Vals:List V→List Value→Prop:=Paired RelV
theorem Vals.length {xs:List V}{us:List Value}(r:Vals xs us):xs.length=us.length:=Paired.length r
theorem Vals.get:∀ {xs:List V}{us:List Value}{i:Nat}{x:V},Vals xs us→xs[i]?=some x→∃ u,us[i]?=some u∧RelV x u
 | _,_,_,_,.nil,e=>by simp at e
 | _,_,0,_,.cons r _,e=>by simp at e; subst e; exact ⟨_,rfl,r⟩
 | _,_,i+1,x,.cons _ t,e=>by
  obtain ⟨u,h1,h2⟩:=Vals.get (i:=i) (x:=x) t (by simpa using e)
  exact ⟨u,by simpa using h1,h2⟩
theorem Vals.set {x:V}{u:Value}(r:RelV x u):∀ {xs:List V}{us:List Value}(i:Nat),Vals xs us→Vals (xs.set i x) (us.set i u)
 | _,_,_,.nil=>.nil
 | _,_,0,.cons _ t=>.cons r t
 | _,_,i+1,.cons q t=>.cons q (Vals.set r i t)
theorem Vals.append:∀ {xs ys:List V}{us ws:List Value},Vals xs us→Vals ys ws→Vals (xs++ys) (us++ws)
 | _,_,_,_,.nil,s=>s
 | _,_,_,_,.cons r t,s=>.cons r (Vals.append t s)
theorem Vals.take:∀ {xs:List V}{us:List Value}(n:Nat),Vals xs us→Vals (xs.take n) (us.take n)
 | _,_,0,_=>.nil
 | _,_,_+1,.nil=>.nil
 | _,_,n+1,.cons r t=>.cons r (Vals.take n t)
theorem Vals.drop:∀ {xs:List V}{us:List Value}(n:Nat),Vals xs us→Vals (xs.drop n) (us.drop n)
 | _,_,0,r=>r
 | _,_,_+1,.nil=>.nil
 | _,_,n+1,.cons _ t=>Vals.drop n t
def RelO:Option V→Option Value→Prop
 | some v,some u=>RelV v u
 | none,none=>True
 | _,_=>False
def KV {κ:Type}:List (κ×V)→List (κ×Value)→Prop:=Paired fun (p:κ×V) (q:κ×Value)=>p.1=q.1∧RelV p.2 q.2
def kV:Key→V
 | .inl i=>.int i
 | .inr x=>.str x
inductive HO where
 | lst (xs:List V)
 | tup (xs:List V)
 | dK (kvs:List (Key×V)) | dT (kvs:List (List Key×V))
 | set (S:Int→Bool) (n:Nat)
 | ins (C dx:Addr) (fs:List (Str×V))
 | own (x:Addr)
 | xd (fs:List (Str×V))
 | met (f x:Addr)
 | rng (lo hi:Int)
 | frz (o:Obj) (u:HO)
 | tbl (ps:Array Value)
 | ext (φ:Heap→Prop)
abbrev Hp:=Addr→Option HO
def upd (H:Hp) (a:Addr) (o:HO):Hp:=fun b=>if b=a then some o else H b
theorem zu_ {H:Hp}{a:Addr}{o:HO}:upd H a o a=some o:=by unfold upd; rw [if_pos rfl]
theorem zI_ {H:Hp}{a b:Addr}{o:HO}(h:b≠a):upd H a o b=H b:=by unfold upd; rw [if_neg h]
theorem ne_of {H:Hp}{a b:Addr}{o u:HO}(h:H a=some o) (h':H b=some u) (d:o≠u):a≠b:=by
 intro e; subst e; rw [h] at h'; exact d (Option.some.inj h')
theorem zaG_ {H:Hp}{a b:Addr}{o:HO}(h:H a=some o) (h':H b=none):a≠b:=by
 intro e; subst e; rw [h] at h'; cases h'
section
variable (P:Program) (w:World)
def ObjOk (H:Hp) (h:Heap) (a:Addr):HO→Prop
 | .lst xs=>xs.length≤sizeLine∧∃ (its:List Value) (n:Nat),Vals xs its∧h.get? a=some { cls:=.type "list",data:=.seq its.toArray n }
 | .tup xs=>xs.length≤sizeLine∧∃ its:List Value,Vals xs its∧IsTup h a its.toArray
 | .dK kvs=>kvs.length≤sizeLine∧(a == sysModules)=false∧∃ vs,KV kvs vs∧h.DictOf (mixKind P w) a vs
 | .dT kvs=>kvs.length≤sizeLine∧(a == sysModules)=false∧∃ xs:List (List Key×Addr×Value),
   Paired (fun (p:List Key×V) (q:List Key×Addr×Value)=>p.1=q.1∧H q.2.1=some (.tup (p.1.map kV))∧RelV p.2 q.2.2) kvs xs ∧
   ∃ o es ep,h.get? a=some o∧o.ExactDict∧o.data=.dict es ep∧es.toList=xs.map (entryOfKey (tupleKind (mixKind P w)))∧(xs.map (·.1)).Nodup
 | .set S n=>h.SetOf (intKind P w) a S n
 | .ins C dx fs=>H dx=some (.own a)∧fs.length≤1000∧dx≠a∧h.get? a=some (PySem.W.instObj C dx) ∧
   ∃ mA,h.Ns1 dx mA∧(∀ f,RelO (fs.lookup f) (mA f))∧PySem.Within mA (fs.map (·.1))
 | .own _=>∃ o,h.get? a=some o
 | .xd fs=>∃ mA,h.Ns1 a mA∧∀ f,RelO (fs.lookup f) (mA f)
 | .rng lo hi=>∃ t u v,h.get? a=some { cls:=.type "range",data:=.fields #[.int lo t,.int hi u,.int 1 v] }
 | .frz o u=>h.get? a=some o∧ObjOk H h a u
 | .tbl ps=>h.get? a=some { cls:=.none,data:=.fields ps }
 | .met f x=>h.get? a=some (PySem.W.methodObj (.ref f) (.ref x))
 | .ext φ=>φ h∧(∃ o,h.get? a=some o)∧∀ h1 h2:Heap,φ h1→(∀ o,h1.get? a=some o→h2.get? a=some o)→φ h2
def HOk (H:Hp) (h:Heap):Prop:=∀ a o,H a=some o→ObjOk P w H h a o
end
section
variable {P:Program}{w:World}{H H':Hp}{h h':Heap}{a:Addr}{o:HO}
theorem ObjOk.lt (x:ObjOk P w H h a o):a<h.objs.size:=by
 cases o with
 | lst xs=>obtain ⟨_,_,_,_,e⟩:=x; exact Heap.lt_size e
 | tup xs=>obtain ⟨_,_,_,p⟩:=x; exact p.lt
 | dK kvs=>obtain ⟨_,_,_,_,o,_,_,e,_⟩:=x; exact Heap.lt_size e
 | dT kvs=>obtain ⟨_,_,_,_,o,_,_,e,_⟩:=x; exact Heap.lt_size e
 | set S n=>obtain ⟨o,_,_,_,e,_⟩:=x; exact Heap.lt_size e
 | ins C dx fs=>obtain ⟨_,_,_,e,_⟩:=x; exact Heap.lt_size e
 | own y=>obtain ⟨_,e⟩:=x; exact Heap.lt_size e
 | xd fs=>obtain ⟨_,⟨_,_,_,e,_⟩,_⟩:=x; exact Heap.lt_size e
 | rng lo hi=>obtain ⟨_,_,_,e⟩:=x; exact Heap.lt_size e
 | frz ob u=>obtain ⟨e,_⟩:=x; exact Heap.lt_size e
 | tbl ps=>exact Heap.lt_size (show h.get? a=some _ from x)
 | met f y=>exact Heap.lt_size (show h.get? a=some _ from x)
 | ext φ=>obtain ⟨_,⟨_,e⟩,_⟩:=x; exact Heap.lt_size e
theorem Paired.mapP {α β:Type}{F G:α→β→Prop}:∀ {l₁:List α}{l₂:List β},Paired F l₁ l₂→(∀ a b,F a b→G a b)→Paired G l₁ l₂
 | _,_,.nil,_=>.nil
 | _,_,.cons r t,f=>.cons (f _ _ r) (Paired.mapP t f)
theorem ObjOk.stay (x:ObjOk P w H h a o) (k:∀ b u,(b=a∨H b=some (.own a))→h.get? b=some u→h'.get? b=some u)
  (ho:∀ b,H b=some (.own a)→H' b=some (.own a)) (ht:∀ b xs,H b=some (.tup xs)→H' b=some (.tup xs)):ObjOk P w H' h' a o:=by
 induction o with
 | lst xs=>obtain ⟨z,its,n,r,e⟩:=x; exact ⟨z,its,n,r,k _ _ (.inl rfl) e⟩
 | tup xs=>obtain ⟨z,its,r,ob,e,c⟩:=x; exact ⟨z,its,r,ob,k _ _ (.inl rfl) e,c⟩
 | dK kvs=>obtain ⟨z,y,vs,r,ob,es,ep,e,c⟩:=x; exact ⟨z,y,vs,r,ob,es,ep,k _ _ (.inl rfl) e,c⟩
 | dT kvs =>
  obtain ⟨z,y,xs,r,ob,es,ep,e,c⟩:=x
  exact ⟨z,y,xs,Paired.mapP r fun p q z=>⟨z.1,ht _ _ z.2.1,z.2.2⟩,ob,es,ep,k _ _ (.inl rfl) e,c⟩
 | set S n=>obtain ⟨ob,es,ep,t,e,c⟩:=x; exact ⟨ob,es,ep,t,k _ _ (.inl rfl) e,c⟩
 | ins C dx fs =>
  obtain ⟨d,z,ne,e,mA,⟨od,es,ep,e2,c⟩,r⟩:=x
  exact ⟨ho _ d,z,ne,k _ _ (.inl rfl) e,mA,⟨od,es,ep,k _ _ (.inr d) e2,c⟩,r⟩
 | own y=>obtain ⟨ob,e⟩:=x; exact ⟨ob,k _ _ (.inl rfl) e⟩
 | xd fs=>obtain ⟨mA,⟨od,es,ep,e,c⟩,r⟩:=x; exact ⟨mA,⟨od,es,ep,k _ _ (.inl rfl) e,c⟩,r⟩
 | rng lo hi=>obtain ⟨t,u,v,e⟩:=x; exact ⟨t,u,v,k _ _ (.inl rfl) e⟩
 | frz ob u ih=>obtain ⟨e,q⟩:=x; exact ⟨k _ _ (.inl rfl) e,ih q⟩
 | tbl ps =>
  have e:h.get? a=some { cls:=.none,data:=.fields ps }:=x
  show h'.get? a=some { cls:=.none,data:=.fields ps }
  exact k a _ (.inl rfl) e
 | met f y =>
  have e:h.get? a=some (PySem.W.methodObj (.ref f) (.ref y)):=x
  show h'.get? a=some (PySem.W.methodObj (.ref f) (.ref y))
  exact k a _ (.inl rfl) e
 | ext φ=>obtain ⟨p,⟨o,e⟩,st⟩:=x; exact ⟨st _ _ p fun o q=>k _ _ (.inl rfl) q,⟨o,k _ _ (.inl rfl) e⟩,st⟩
theorem HOk.lt (x:HOk P w H h) (e:H a=some o):a<h.objs.size:=(x a o e).lt
theorem HOk.fresh (x:HOk P w H h) (e:h.objs.size≤a):H a=none:=by
 cases q:H a with
 | none=>rfl
 | some u=>exact absurd (Nat.lt_of_lt_of_le (x.lt q) e) (Nat.lt_irrefl _)
theorem HOk.kept (x:HOk P w H h) (k:∀ b u,h.get? b=some u→h'.get? b=some u):HOk P w H h':=fun a o e =>
 (x a o e).stay (fun b u _ q=>k b u q) (fun _ q=>q) fun _ _ q=>q
theorem HOk.laid (x:HOk P w H h) (k:∀ b u,h.get? b=some u→h'.get? b=some u) (hp:h.objs.size≤a) (new:ObjOk P w (upd H a o) h' a o):HOk P w (upd H a o) h':=fun b u e=>by
 have hn:=x.fresh hp
 by_cases hb:b=a
 ·subst hb; rw [zu_] at e; cases e; exact new
 ·rw [zI_ hb] at e
  exact (x b u e).stay (fun c v _ q=>k c v q) (fun c q=>by rw [zI_ (zaG_ q hn)]; exact q) fun c xs q=>by rw [zI_ (zaG_ q hn)]; exact q
end
def Rd (H:Hp) (a:Addr) (u:HO):Prop:=H a=some u∨∃ o,H a=some (.frz o u)
theorem Rd.ok {P:Program}{w:World}{H:Hp}{h:Heap}{a:Addr}{u:HO}(r:Rd H a u) (x:HOk P w H h):ObjOk P w H h a u:=by
 rcases r with r | ⟨o,r⟩
 ·exact x a u r
 ·obtain ⟨_,q⟩:=x a _ r
  exact q
def Mut:Option HO→Prop
 | some (.lst _)=>True
 | some (.dK _)=>True
 | some (.dT _)=>True
 | some (.set _ _)=>True
 | some (.ins _ _ _)=>True
 | some (.ext _)=>True
 | _=>False
section
variable {P:Program}{w:World}{H:Hp}{h h':Heap}{x e:Addr}{o':HO}
theorem HOk.write (ok:HOk P w H h) (mu:Mut (H x)) (he:e=x∨H e=some (.own x)) (k:∀ b u,b≠e→h.get? b=some u→h'.get? b=some u) (heo:∃ u,h'.get? e=some u)
  (new:ObjOk P w (upd H x o') h' x o'):HOk P w (upd H x o') h':=fun b u q=>by
 have nown:∀ c y,H c=some (.own y)→c≠x:=fun c y r z=>by subst z; rw [r] at mu; exact mu
 have ntup:∀ c xs,H c=some (.tup xs)→c≠x:=fun c xs r z=>by subst z; rw [r] at mu; exact mu
 by_cases hb:b=x
 ·subst hb; rw [zu_] at q; cases q; exact new
 ·rw [zI_ hb] at q
  by_cases hbe:b=e
  ·have q':H b=some (.own x):=by
    rcases he with z | z
    ·exact absurd (hbe.trans z) hb
    ·rw [hbe]; exact z
   rw [q] at q'; cases q'
   obtain ⟨v,hv⟩:=heo
   exact ⟨v,by rw [hbe]; exact hv⟩
  ·refine (ok b u q).stay (fun c v hc r=>k c v ?_ r) (fun c r=>by rw [zI_ (nown c b r)]; exact r) fun c xs r=>by rw [zI_ (ntup c xs r)]; exact r
   rcases hc with rfl | hc
   ·exact hbe
   ·rintro rfl
    rcases he with z | z
    ·exact nown c b hc z
    ·rw [hc] at z; cases z; exact hb rfl
end
structure Un (fs ex:List Addr) (H H':Hp) (h h':Heap):Prop where
 keep:∀ b o,h.get? b=some o→H b=none→b∉fs→b∉ex→h'.get? b=some o
 slot:∀ b o,h.get? b=some o→H b=none→b∈fs→b∉ex→∃ sl,h'.get? b=some { o with slots:=sl }
 free:∀ b o,h.get? b=some o→H b=none→b∉ex→H' b=none
 there:∀ b o,h.get? b=some o→b∉ex→∃ o',h'.get? b=some o'
 tups:∀ b xs,H b=some (.tup xs)→H' b=some (.tup xs)
 frzs:∀ b o u,H b=some (.frz o u)→H' b=some (.frz o u)
 tbls:∀ b ps,H b=some (.tbl ps)→∃ more,H' b=some (.tbl (ps++more))
section
variable {fs fs' ex ex':List Addr}{H H1 H2:Hp}{h h1 h2 h':Heap}{a x e:Addr}{o:HO}
theorem Un.any (u:Un fs ex H H1 h h1) {b:Addr}{ob:Obj}(q:h.get? b=some ob) (n:H b=none) (hx:b∉ex):∃ sl,h1.get? b=some { ob with slots:=sl }:=by
 by_cases hb:b∈fs
 ·exact u.slot b ob q n hb hx
 ·exact ⟨ob.slots,u.keep b ob q n hb hx⟩
theorem Un.kept (k:∀ b u,h.get? b=some u→h'.get? b=some u):Un fs ex H H h h' :=
 ⟨fun b ob q _ _ _=>k b ob q,fun b ob q _ _ _=>⟨ob.slots,k b ob q⟩,fun _ _ _ n _=>n,fun b ob q _=>⟨ob,k b ob q⟩,fun _ _ q=>q,fun _ _ _ q=>q,fun _ ps q=>⟨#[],by rw [q]; simp⟩⟩
theorem Un.refl:Un fs ex H H h h:=Un.kept fun _ _ q=>q
theorem Un.laid (k:∀ b u,h.get? b=some u→h'.get? b=some u) (hp:h.objs.size≤a) (hn:H a=none):Un fs ex H (upd H a o) h h' where
 keep:=fun b u q _ _ _=>k b u q
 slot:=fun b u q _ _ _=>⟨u.slots,k b u q⟩
 free:=fun b u q n _=>by rw [zI_ (Nat.ne_of_lt (Nat.lt_of_lt_of_le (Heap.lt_size q) hp))]; exact n
 there:=fun b u q _=>⟨u,k b u q⟩
 tups:=fun b xs q=>by rw [zI_ (zaG_ q hn)]; exact q
 frzs:=fun b u xs q=>by rw [zI_ (zaG_ q hn)]; exact q
 tbls:=fun b ps q=>⟨#[],by rw [zI_ (zaG_ q hn),q]; simp⟩
theorem Un.write (mu:Mut (H x)) (he:e=x∨H e=some (.own x)) (k:∀ b u,b≠e→h.get? b=some u→h'.get? b=some u) (heo:∃ u,h'.get? e=some u):Un fs ex H (upd H x o) h h':=by
 have hx:∀ b,H b=none→b≠x:=fun b n z=>by subst z; rw [n] at mu; exact mu
 have hb:∀ b,H b=none→b≠e:=fun b n z=>by
  subst z
  rcases he with r | r
  ·exact hx b n r
  ·rw [n] at r; cases r
 have hm:∀ b u,H b=some u→¬ Mut (some u)→b≠x:=fun b u q nm z=>by subst z; rw [q] at mu; exact nm mu
 refine ⟨fun b u q n _ _=>k b u (hb b n) q,fun b u q n _ _=>⟨u.slots,k b u (hb b n) q⟩,fun b u q n _=>by rw [zI_ (hx b n)]; exact n,fun b u q _=>?_,
  fun b xs q=>by rw [zI_ (hm b _ q fun z=>z)]; exact q,fun b u xs q=>by rw [zI_ (hm b _ q fun z=>z)]; exact q,fun b ps q=>⟨#[],by rw [zI_ (hm b _ q fun z=>z),q]; simp⟩⟩
 by_cases hbe:b=e
 ·subst hbe; exact heo
 ·exact ⟨u,k b u hbe q⟩
end
def trk (h:Heap) (H:Hp):List Addr:=(List.range h.objs.size).filter fun a=>(H a).isSome
def hidT (h:Heap) (H:Hp):Heap:=PySem.W.hideAll h (trk h H)
theorem zjm_ (h:Heap) (H:Hp):(hidT h H).objs.size=h.objs.size:=PySem.W.hideAll_size _ _
theorem zlP_ {h:Heap}{H:Hp}{b:Addr}{o:Obj}(e:h.get? b=some o) (n:H b=none):(hidT h H).get? b=some o :=
 PySem.W.hideAll_get _ e fun hm=>by
  have q:(H b).isSome=true:=(List.mem_filter.mp hm).2
  rw [n] at q; simp at q
theorem zmk_ {h:Heap}{H:Hp}{b:Addr}{o:Obj}(e:(hidT h H).get? b=some o):h.get? b=some o∧H b=none:=by
 have e':h.get? b=some o:=PySem.W.of_hideAll (trk h H) e
 refine ⟨e',?_⟩
 cases q:H b with
 | none=>rfl
 | some x =>
  have hm:b∈trk h H:=List.mem_filter.mpr ⟨List.mem_range.mpr (Heap.lt_size e'),by simp [q]⟩
  have z:(hidT h H).get? b=none:=PySem.W.hideAll_none (trk h H) hm
  rw [z] at e; cases e
def allNews (g h:Heap) (L:Addr):Pnn:=(List.range h.objs.size).filterMap fun a=>if a=L∨(g.get? a).isSome=true then none else (h.get? a).map fun o=>(a,o)
def rest (g h:Heap) (L d:Addr):Pnn:=(allNews g h L).filter fun p=>decide (p.1≠d)
end L2
namespace L2
open PySem PySem.Spec PyProof.Rows
structure Mod (K:Fgg) (mg:Str→Option Value) (base:Heap):Prop where
 kin:K.In base
 glob:base.Ns mainGlobals mg
 blt:∃ mb,base.Ns builtinsNs mb∧∀ x:Str,x ≠ "__name__" → mb x=bootBuiltins x
 nolimit:base.NoLimit
structure Cx where
 prog:Program
 w:World
 K:Fgg
 mg:Str→Option Value
 base:Heap
 A:Around
 N:List Str
 s₀:Shared
 H₀:Hp
 env:Env
 outer:List Env
 stack:List Env
 ex:List Addr
 fn:Str→Bool
 calm:Bool
 pn:Pnn
 xe:Value→Shared→Prop
def frs (l:List Env):List Addr:=l.filterMap (·.frame)
abbrev Cx.fs (X:Cx):List Addr:=frs X.outer
def Vis (sc:Scope) (x:Str):Prop:=sc.names.lookup x=some .local∨sc.names.lookup x=some .cell∨sc.names.lookup x=some .free
def Loc (sc:Scope) (x:Str):Prop:=sc.names.lookup x=some .local∨sc.names.lookup x=some .cell
def Look (env:Env) (h:Heap) (m:Str→Option Value) (x:Str) (u:Value):Prop :=
 (env.kindOf x=some .local∧m x=some u)∨((env.kindOf x=some .cell∨env.kindOf x=some .free)∧∃ c,env.cells.lookup x=some c∧h.IsCell c (some u))
structure Cx.Ok (X:Cx):Prop where
 mod:Mod X.K X.mg X.base
 kind:X.env.scope.kind=.function
 glob:X.env.globals=mainGlobals
 blt:X.env.builtins=builtinsNs
 above:X.s₀.heap.objs.size≤X.env.locals
 inj:∀ x y c,X.env.cells.lookup x=some c→X.env.cells.lookup y=some c→x=y
 has:∀ x,(X.env.kindOf x=some .cell∨X.env.kindOf x=some .free)→∃ c,X.env.cells.lookup x=some c
 cab:∀ x c,X.fn x=true→X.env.cells.lookup x=some c→X.s₀.heap.objs.size≤c
 hd:X.calm=true→X.A.handled=none
 frames:X.A.frames=some X.stack
 stk:X.stack=X.outer∨(X.stack=X.env::X.outer∧X.env.frame=some X.env.locals)
 exf:∀ b∈X.ex,b≠X.env.locals∧∀ x c,X.env.cells.lookup x=some c→c≠b
 bs:∀ b o,X.base.get? b=some o→X.s₀.heap.get? b=some o∧X.H₀ b=none
 bsz:X.base.objs.size≤X.s₀.heap.objs.size
 noex:∀ b o,X.base.get? b=some o→b∉X.ex
 exfs:∀ b∈X.ex,b∉X.fs
 funs:X.s₀.heap.FunFrames X.base X.outer
 frf:∀ b∈X.fs,X.H₀ b=none
structure Inv (X:Cx) (pins:Pnn) (σ:List (Option V)) (H:Hp) (s:Shared):Prop where
 ok:X.Ok
 os:s.os=X.s₀.os
 bare:AllBare s.gens
 base:Un X.fs X.ex X.H₀ H X.s₀.heap s.heap
 loc:∃ m,s.heap.Ns X.env.locals m∧∀ (i:Nat) (x:Str) (v:V),X.N[i]?=some x→σ[i]?=some (some v)→Vis X.env.scope x→∃ u,RelV v u∧Look X.env s.heap m x u
 cell:∀ x c,X.env.cells.lookup x=some c→∃ v,s.heap.IsCell c v
 free:H X.env.locals=none
 freeC:∀ x c,X.env.cells.lookup x=some c→H c=none
 pin:∀ p∈X.pn++pins,s.heap.get? p.1=some p.2∧H p.1=none∧p.1≠X.env.locals∧p.1∉X.fs∧∀ v,p.2.data≠.cell v
 hok:HOk X.prog X.w H s.heap
 len:σ.length=X.N.length
section
variable {X:Cx}{pins:Pnn}{σ:List (Option V)}{H H':Hp}{s:Shared}{h':Heap}
theorem Cx.Ok.nofr (ok:X.Ok) {b:Addr}{o:Obj}(e:X.base.get? b=some o):b∉X.fs:=fun hb=>by
 have:=(ok.funs.mem hb).1
 rw [e] at this; cases this
theorem Inv.bs (I:Inv X pins σ H s):∀ b o,X.base.get? b=some o→s.heap.get? b=some o∧H b=none:=fun b o e =>
 ⟨I.base.keep b o (I.ok.bs b o e).1 (I.ok.bs b o e).2 (I.ok.nofr e) (I.ok.noex b o e),I.base.free b o (I.ok.bs b o e).1 (I.ok.bs b o e).2 (I.ok.noex b o e)⟩
theorem Inv.bk (I:Inv X pins σ H s):∀ b o,X.base.get? b=some o→s.heap.get? b=some o:=fun b o e=>(I.bs b o e).1
theorem Inv.mod (I:Inv X pins σ H s):Mod X.K X.mg X.base:=I.ok.mod
theorem Inv.kIn (I:Inv X pins σ H s):X.K.In s.heap:=I.ok.mod.kin.keeps I.bk
theorem Inv.lt (I:Inv X pins σ H s):X.env.locals<s.heap.objs.size:=let ⟨_,hn,_⟩:=I.loc; hn.lt
theorem Inv.sz (I:Inv X pins σ H s):X.s₀.heap.objs.size≤s.heap.objs.size:=Nat.le_trans I.ok.above (Nat.le_of_lt I.lt)
theorem Inv.nofs (I:Inv X pins σ H s) {a:Addr}(h:s.heap.objs.size≤a):a∉X.fs:=fun hb=>by
 obtain ⟨_,o,ho,_⟩:=I.ok.funs.mem hb
 exact absurd (Nat.lt_of_lt_of_le (Heap.lt_size ho) (Nat.le_trans I.sz h)) (Nat.lt_irrefl _)
theorem Inv.cne (I:Inv X pins σ H s):∀ x c,X.env.cells.lookup x=some c→c≠X.env.locals:=fun x c e z=>by
 obtain ⟨v,o,ho,hd⟩:=I.cell x c e
 obtain ⟨m,⟨o',es,ep,ho',hd',_⟩,_⟩:=I.loc
 rw [z,ho'] at ho; cases ho; rw [hd'] at hd; cases hd
theorem Inv.funs (I:Inv X pins σ H s):s.heap.FunFrames X.base X.outer:=by
 have all:∀ (l:List Env),(∀ b∈frs l,b∈X.fs)→X.s₀.heap.FunFrames X.base l→s.heap.FunFrames X.base l:=by
  intro l
  induction l with
  | nil=>intro _ _; trivial
  | cons env r ih =>
   intro hs hl
   obtain ⟨hk,⟨L,o,hf,hn,ho,hd⟩,hr⟩:=hl
   have hL:L∈X.fs:=hs L (by unfold frs; rw [List.filterMap_cons,hf]; exact List.mem_cons_self)
   obtain ⟨sl,e⟩:=I.base.slot L o ho (I.ok.frf L hL) hL fun z=>I.ok.exfs L z hL
   exact ⟨hk,⟨L,_,hf,hn,e,hd⟩,ih (fun b hb=>hs b (by unfold frs; rw [List.filterMap_cons,hf]; exact List.mem_cons_of_mem _ hb)) hr⟩
 exact all X.outer (fun _ hb=>hb) I.ok.funs
theorem Inv.stack (I:Inv X pins σ H s):s.heap.FunFrames X.base X.stack:=by
 rcases I.ok.stk with e | ⟨e,hf⟩
 ·rw [e]; exact I.funs
 ·rw [e]
  obtain ⟨m,hn,_⟩:=I.loc
  refine .cons (by rw [I.ok.kind]; decide) hf hn ?_ I.funs
  exact Heap.get?_none_of_le (Nat.le_trans I.ok.bsz I.ok.above)
theorem Inv.stkSub (I:Inv X pins σ H s):∀ b∈frs X.stack,b∈X.env.locals::X.fs:=fun b hb=>by
 rcases I.ok.stk with e | ⟨e,hf⟩
 ·rw [e] at hb; exact List.mem_cons_of_mem _ hb
 ·rw [e] at hb
  unfold frs at hb
  rw [List.filterMap_cons,hf] at hb
  exact hb
theorem Inv.stkFree (I:Inv X pins σ H s):∀ b∈frs X.stack,H b=none:=fun b hb=>by
 rcases List.mem_cons.mp (I.stkSub b hb) with e | hb
 ·rw [e]; exact I.free
 ·obtain ⟨_,o,ho,_⟩:=I.ok.funs.mem hb
  exact I.base.free b o ho (I.ok.frf b hb) fun z=>I.ok.exfs b z hb
theorem Inv.step {g':Array GenState}{t':Nat}{d':Drawn}{ch:List Addr}(I:Inv X pins σ H s)
  (hch:∀ b∈ch,(b∈X.ex∨X.s₀.heap.objs.size≤b)∧b≠X.env.locals∧(∀ x c,X.env.cells.lookup x=some c→c≠b)∧∀ p∈X.pn++pins,p.1≠b)
  (keep:∀ b o,b≠X.env.locals→b∉X.fs→b∉ch→s.heap.get? b=some o→H b=none→h'.get? b=some o)
  (slot:∀ b o,b≠X.env.locals→b∈X.fs→b∉ch→s.heap.get? b=some o→H b=none→∃ sl,h'.get? b=some { o with slots:=sl }) (free:∀ b o,b∉ch→s.heap.get? b=some o→H b=none→H' b=none)
  (there:∀ b o,b∉ch→s.heap.get? b=some o→∃ o',h'.get? b=some o')
  (tups:∀ b xs,H b=some (.tup xs)→H' b=some (.tup xs)) (frzs:∀ b o u,H b=some (.frz o u)→H' b=some (.frz o u)) (tbls:∀ b ps,H b=some (.tbl ps)→∃ more,H' b=some (.tbl (ps++more)))
  (ns:∀ m,s.heap.Ns X.env.locals m→h'.Ns X.env.locals m) (hok:HOk X.prog X.w H' h') (hg:AllBare g') :
  Inv X pins σ H' { s with heap:=h',gens:=g',drawn:=d',toks:=t' }:=by
 have neL:∀ b o,X.s₀.heap.get? b=some o→b≠X.env.locals:=fun b o e=>Nat.ne_of_lt (Nat.lt_of_lt_of_le (Heap.lt_size e) I.ok.above)
 have neC:∀ b o,X.s₀.heap.get? b=some o→b∉X.ex→b∉ch:=fun b o e hx hb=>by
  rcases (hch b hb).1 with z | z
  ·exact hx z
  ·exact absurd (Nat.lt_of_lt_of_le (Heap.lt_size e) z) (Nat.lt_irrefl _)
 have cellK:∀ x c,X.env.cells.lookup x=some c→∀ v,s.heap.IsCell c v→h'.IsCell c v:=fun x c e v ⟨o,ho,hd⟩=>by
  have nch:c∉ch:=fun z=>(hch c z).2.2.1 x c e rfl
  by_cases hc:c∈X.fs
  ·obtain ⟨sl,q⟩:=slot c o (I.cne x c e) hc nch ho (I.freeC x c e)
   exact ⟨_,q,hd⟩
  ·exact ⟨o,keep c o (I.cne x c e) hc nch ho (I.freeC x c e),hd⟩
 refine ⟨I.ok,I.os,hg,⟨fun b o e n hb hx=>?_,fun b o e n hb hx=>?_,fun b o e n hx=>?_,fun b o e hx=>?_,fun b xs e=>tups b xs (I.base.tups b xs e),fun b o xs e=>frzs b o xs (I.base.frzs b o xs e),fun b ps e=>?_⟩,?_,fun x c e=>?_,?_,fun x c e=>?_,fun p hp=>?_,hok,I.len⟩
 ·exact keep b o (neL b o e) hb (neC b o e hx) (I.base.keep b o e n hb hx) (I.base.free b o e n hx)
 ·obtain ⟨sl,e1⟩:=I.base.slot b o e n hb hx
  obtain ⟨sl',e2⟩:=slot b _ (neL b o e) hb (neC b o e hx) e1 (I.base.free b o e n hx)
  exact ⟨sl',e2⟩
 ·obtain ⟨o',e1⟩:=I.base.there b o e hx
  exact free b o' (neC b o e hx) e1 (I.base.free b o e n hx)
 ·obtain ⟨o',e1⟩:=I.base.there b o e hx
  exact there b o' (neC b o e hx) e1
 ·obtain ⟨m1,e1⟩:=I.base.tbls b ps e
  obtain ⟨m2,e2⟩:=tbls b _ e1
  exact ⟨m1++m2,by rw [e2,Array.append_assoc]⟩
 ·obtain ⟨m,hn,hl⟩:=I.loc
  refine ⟨m,ns m hn,fun i x v e1 e2 e3=>?_⟩
  obtain ⟨u,r,l⟩:=hl i x v e1 e2 e3
  refine ⟨u,r,?_⟩
  rcases l with l | ⟨k,c,e,z⟩
  ·exact .inl l
  ·exact .inr ⟨k,c,e,cellK x c e _ z⟩
 ·obtain ⟨v,z⟩:=I.cell x c e
  exact ⟨v,cellK x c e v z⟩
 ·obtain ⟨m,⟨o,_,_,ho,_⟩,_⟩:=I.loc
  exact free _ o (fun z=>(hch _ z).2.1 rfl) ho I.free
 ·obtain ⟨v,o,ho,hd⟩:=I.cell x c e
  exact free c o (fun z=>(hch c z).2.2.1 x c e rfl) ho (I.freeC x c e)
 ·obtain ⟨e,n,ne,nf,d⟩:=I.pin p hp
  have nch:p.1∉ch:=fun z=>(hch p.1 z).2.2.2 p hp rfl
  exact ⟨keep p.1 p.2 ne nf nch e n,free p.1 p.2 nch e n,ne,nf,d⟩
theorem Inv.un {t':Nat}(I:Inv X pins σ H s) (u:Un X.fs [] H H' s.heap h') (hok:HOk X.prog X.w H' h'):Inv X pins σ H' { s with heap:=h',toks:=t' }:=by
 obtain ⟨m,⟨o,es,ep,ho,r⟩,_⟩:=id I.loc
 obtain ⟨sl,hL⟩:=u.any ho I.free (by simp)
 exact I.step (g':=s.gens) (d':=s.drawn) (ch:=[]) (fun _ z=>nomatch z) (fun b o _ hb _ e n=>u.keep b o e n hb (by simp)) (fun b o _ hb _ e n=>u.slot b o e n hb (by simp)) (fun b o _ e n=>u.free b o e n (by simp)) (fun b o _ e=>u.there b o e (by simp)) u.tups u.frzs u.tbls (fun m' hm=>by
  obtain ⟨o',es',ep',ho',r'⟩:=hm
  rw [ho] at ho'; cases ho'
  exact ⟨_,es',ep',hL,r'⟩) hok I.bare
theorem Inv.call {g':Array GenState}{t':Nat}{d':Drawn}{ch:List Addr}(I:Inv X pins σ H s) (u:Un (frs X.stack) ch H H' s.heap h') (hok:HOk X.prog X.w H' h') (hg:AllBare g')
  (hch:∀ b∈ch,(b∈X.ex∨X.s₀.heap.objs.size≤b)∧b≠X.env.locals∧(∀ x c,X.env.cells.lookup x=some c→c≠b)∧∀ p∈X.pn++pins,p.1≠b) :
  Inv X pins σ H' { s with heap:=h',gens:=g',drawn:=d',toks:=t' }:=by
 obtain ⟨m,⟨o,es,ep,ho,r⟩,_⟩:=id I.loc
 obtain ⟨sl,hL⟩:=u.any ho I.free fun z=>(hch _ z).2.1 rfl
 exact I.step (ch:=ch) hch (fun b o hL hb hc e n=>u.keep b o e n (fun z=>(List.mem_cons.mp (I.stkSub b z)).elim hL hb) hc) (fun b o _ _ hc e n=>u.any e n hc) (fun b o hc e n=>u.free b o e n hc) (fun b o hc e=>u.there b o e hc) u.tups u.frzs u.tbls (fun m' hm=>by
  obtain ⟨o',es',ep',ho',r'⟩:=hm
  rw [ho] at ho'; cases ho'
  exact ⟨_,es',ep',hL,r'⟩) hok hg
theorem Inv.turned {t':Nat}{it:Addr}(I:Inv X pins σ H s) (k:∀ b o,b≠it→s.heap.get? b=some o→h'.get? b=some o) (hn:H it=none) (hL:it≠X.env.locals)
  (h1:it∈X.ex∨X.s₀.heap.objs.size≤it) (h2:∀ x c,X.env.cells.lookup x=some c→c≠it) (h3:∀ p∈X.pn++pins,p.1≠it):Inv X pins σ H { s with heap:=h',toks:=t' }:=by
 have nit:∀ b u,H b=some u→b≠it:=fun b u e z=>by rw [z,hn] at e; cases e
 refine I.step (g':=s.gens) (d':=s.drawn) (ch:=[it]) (fun b hb=>?_) (fun b o _ _ hc e _=>k b o (fun z=>hc (by simp [z])) e) (fun b o _ _ hc e _=>⟨o.slots,k b o (fun z=>hc (by simp [z])) e⟩) (fun _ _ _ _ n=>n)
  (fun b o hc e=>⟨o,k b o (fun z=>hc (by simp [z])) e⟩) (fun _ _ e=>e) (fun _ _ _ e=>e) (fun b ps e=>⟨#[],by rw [e]; simp⟩) (fun m hm=>?_) (fun b u e=>?_) I.bare
 ·have e:b=it:=by simpa using hb
  subst e
  exact ⟨h1,hL,h2,h3⟩
 ·obtain ⟨o,es,ep,ho,r⟩:=hm
  exact ⟨o,es,ep,k _ o (Ne.symm hL) ho,r⟩
 ·refine (I.hok b u e).stay (fun c v hc q=>k c v ?_ q) (fun _ q=>q) fun _ _ q=>q
  rcases hc with z | z
  ·rw [z]; exact nit b u e
  ·exact nit c _ z
theorem Inv.tok (I:Inv X pins σ H s) (t:Nat):Inv X pins σ H { s with toks:=t }:=I.un (h':=s.heap) (t':=t) Un.refl I.hok
theorem Inv.kept {t':Nat}(I:Inv X pins σ H s) (k:∀ b u,s.heap.get? b=some u→h'.get? b=some u):Inv X pins σ H { s with heap:=h',toks:=t' }:=I.un (Un.kept k) (I.hok.kept k)
theorem Inv.laid {a:Addr}{o:HO}{t':Nat}(I:Inv X pins σ H s) (k:∀ b u,s.heap.get? b=some u→h'.get? b=some u) (hp:s.heap.objs.size≤a) (new:ObjOk X.prog X.w (upd H a o) h' a o) :
  Inv X pins σ (upd H a o) { s with heap:=h',toks:=t' }:=I.un (Un.laid k hp (I.hok.fresh hp)) (I.hok.laid k hp new)
theorem Inv.write {x e:Addr}{o:HO}{t':Nat}(I:Inv X pins σ H s) (mu:Mut (H x)) (he:e=x∨H e=some (.own x)) (k:∀ b u,b≠e→s.heap.get? b=some u→h'.get? b=some u) (heo:∃ u,h'.get? e=some u)
  (new:ObjOk X.prog X.w (upd H x o) h' x o):Inv X pins σ (upd H x o) { s with heap:=h',toks:=t' }:=I.un (Un.write mu he k heo) (I.hok.write mu he k heo new)
theorem Inv.pins_of {pins':Pnn}(I:Inv X pins σ H s) (h:∀ p∈pins',s.heap.get? p.1=some p.2∧H p.1=none∧p.1≠X.env.locals∧p.1∉X.fs∧∀ v,p.2.data≠.cell v):Inv X pins' σ H s :=
 ⟨I.ok,I.os,I.bare,I.base,I.loc,I.cell,I.free,I.freeC,fun p hp=>(List.mem_append.mp hp).elim (fun z=>I.pin p (List.mem_append_left _ z)) (h p),I.hok,I.len⟩
theorem zfI_ {N:List Str}(hN:N.Nodup) {i j:Nat}{x:Str}(a:N[i]?=some x) (b:N[j]?=some x):i=j:=by
 obtain ⟨h1,e1⟩:=List.getElem?_eq_some_iff.mp a
 obtain ⟨h2,e2⟩:=List.getElem?_eq_some_iff.mp b
 exact (List.getElem_inj hN).mp (e1.trans e2.symm)
theorem zi8_ {M:Model}{A:Around}{E:Value→Shared→Prop}{i:Nat}{x:Str}{v:V}{u:Value}{Q:Unit→Shared→Prop}(I:Inv X pins σ H s) (hN:X.N.Nodup) (hi:X.N[i]?=some x) (hx:Loc X.env.scope x) (r:RelV v u)
  (h:∀ s',Inv X pins (σ.set i (some v)) H s'→(∃ a,Heap.SameBut a s.heap s'.heap∧(a=X.env.locals∨X.env.cells.lookup x=some a))→Q () s') (hf:X.fn x=true∨X.env.scope.names.lookup x=some .local:=by first | exact .inl rfl | exact .inr rfl | assumption):wpAny M A (storeName X.env x u) Q E s:=by
 obtain ⟨m,hn,hl⟩:=id I.loc
 have hcls:(X.env.scope.kind == .class || (X.env.scope.kind == .module && X.env.locals != X.env.globals))=false:=by rw [I.ok.kind]; rfl
 have hiσ:i<σ.length:=by rw [I.len]; exact (List.getElem?_eq_some_iff.mp hi).1
 have cne:=I.cne
 have tracked:∀ {a:Addr}{h':Heap},(∃ o,s.heap.get? a=some o∧H a=none)→Heap.SameBut a s.heap h'→HOk X.prog X.w H h':=fun {a h'} ha hs b ob e=>by
  obtain ⟨_,_,hfree⟩:=ha
  refine (I.hok b ob e).stay (fun c w' hc q=>(hs.2 c ?_).trans q) (fun _ q=>q) fun _ _ q=>q
  rintro rfl
  rcases hc with rfl | hc
  ·rw [hfree] at e; cases e
  ·rw [hfree] at hc; cases hc
 rcases hx with hk | hk
 ·refine wpAny_storeName_local hk hn (fun h' hn' hs=>?_) hcls
  obtain ⟨oL,_,_,hoL,_⟩:=id hn
  refine h _ ⟨I.ok,I.os,I.bare,⟨fun b o e n hb hx=>?_,fun b o e n hb hx=>?_,I.base.free,fun b o e hx=>?_,I.base.tups,I.base.frzs,I.base.tbls⟩,⟨_,hn',fun j y v' e1 e2 e3=>?_⟩,fun y c e=>?_,I.free,I.freeC,fun p hp=>?_,tracked ⟨oL,hoL,I.free⟩ hs,by simpa using I.len⟩ ⟨_,hs,.inl rfl⟩
  ·exact (hs.2 b (Nat.ne_of_lt (Nat.lt_of_lt_of_le (Heap.lt_size e) I.ok.above))).trans (I.base.keep b o e n hb hx)
  ·obtain ⟨sl,e1⟩:=I.base.slot b o e n hb hx
   exact ⟨sl,(hs.2 b (Nat.ne_of_lt (Nat.lt_of_lt_of_le (Heap.lt_size e) I.ok.above))).trans e1⟩
  ·obtain ⟨o',e1⟩:=I.base.there b o e hx
   exact ⟨o',(hs.2 b (Nat.ne_of_lt (Nat.lt_of_lt_of_le (Heap.lt_size e) I.ok.above))).trans e1⟩
  ·by_cases hj:j=i
   ·subst hj
    rw [hi] at e1; cases e1
    rw [List.getElem?_set_self hiσ] at e2
    cases e2
    exact ⟨u,r,.inl ⟨hk,by simp⟩⟩
   ·rw [List.getElem?_set_ne (Ne.symm hj)] at e2
    obtain ⟨u',r',q⟩:=hl j y v' e1 e2 e3
    refine ⟨u',r',?_⟩
    rcases q with ⟨k,e⟩ | ⟨k,c,e,z⟩
    ·refine .inl ⟨k,?_⟩
     have:y≠x:=fun e=>hj (zfI_ hN e1 (e ▸ hi))
     simp [this,e]
    ·exact .inr ⟨k,c,e,z.sameBut hs (cne y c e)⟩
  ·obtain ⟨w',z⟩:=I.cell y c e
   exact ⟨w',z.sameBut hs (cne y c e)⟩
  ·obtain ⟨e,n,ne,nf,d⟩:=I.pin p hp
   exact ⟨(hs.2 p.1 ne).trans e,n,ne,nf,d⟩
 ·have hfn:X.fn x=true:=by
   rcases hf with z | z
   ·exact z
   ·rw [z] at hk; cases hk
  obtain ⟨c,hc⟩:=I.ok.has x (.inl hk)
  obtain ⟨w',z⟩:=I.cell x c hc
  refine wpAny_storeName_cell I.ok.kind hk hc z (fun h' hc' hs=>?_)
  obtain ⟨oc,hoc,hocd⟩:=id z
  refine h { s with heap:=h' } ⟨I.ok,I.os,I.bare,⟨fun b o e n hb hx=>?_,fun b o e n hb hx=>?_,I.base.free,fun b o e hx=>?_,I.base.tups,I.base.frzs,I.base.tbls⟩,⟨m,hn.sameBut hs (Ne.symm (cne x c hc)),fun j y v' e1 e2 e3=>?_⟩,fun y c' e=>?_,I.free,I.freeC,fun p hp=>?_,tracked ⟨oc,hoc,I.freeC x c hc⟩ hs,by simpa using I.len⟩ ⟨c,hs,.inr hc⟩
  ·exact (hs.2 b (Nat.ne_of_lt (Nat.lt_of_lt_of_le (Heap.lt_size e) (I.ok.cab x c hfn hc)))).trans (I.base.keep b o e n hb hx)
  ·obtain ⟨sl,e1⟩:=I.base.slot b o e n hb hx
   exact ⟨sl,(hs.2 b (Nat.ne_of_lt (Nat.lt_of_lt_of_le (Heap.lt_size e) (I.ok.cab x c hfn hc)))).trans e1⟩
  ·obtain ⟨o',e1⟩:=I.base.there b o e hx
   exact ⟨o',(hs.2 b (Nat.ne_of_lt (Nat.lt_of_lt_of_le (Heap.lt_size e) (I.ok.cab x c hfn hc)))).trans e1⟩
  ·by_cases hj:j=i
   ·subst hj
    rw [hi] at e1; cases e1
    rw [List.getElem?_set_self hiσ] at e2
    cases e2
    exact ⟨u,r,.inr ⟨.inl hk,c,hc,hc'⟩⟩
   ·rw [List.getElem?_set_ne (Ne.symm hj)] at e2
    obtain ⟨u',r',q⟩:=hl j y v' e1 e2 e3
    refine ⟨u',r',?_⟩
    rcases q with q | ⟨k,c',e,z'⟩
    ·exact .inl q
    ·refine .inr ⟨k,c',e,z'.sameBut hs ?_⟩
     rintro rfl
     exact hj (zfI_ hN e1 (I.ok.inj _ _ _ e hc ▸ hi))
  ·by_cases hcc:c'=c
   ·subst hcc; exact ⟨_,hc'⟩
   ·obtain ⟨w2,z2⟩:=I.cell y c' e
    exact ⟨w2,z2.sameBut hs hcc⟩
  ·obtain ⟨e,n,ne,nf,d⟩:=I.pin p hp
   refine ⟨(hs.2 p.1 ?_).trans e,n,ne,nf,d⟩
   intro q
   rw [q,hoc] at e
   have q':oc=p.2:=Option.some.inj e
   exact d w' (by rw [← q']; exact hocd)
theorem zdR_ {M:Model}{A:Around}{E:Value→Shared→Prop}{i:Nat}{x:Str}{v:V}{u:Value}{Q:Unit→Shared→Prop}(I:Inv X pins σ H s) (hN:X.N.Nodup) (hi:X.N[i]?=some x) (hx:Loc X.env.scope x) (r:RelV v u)
  (h:∀ s',Inv X pins (σ.set i (some v)) H s'→Q () s') (hf:X.fn x=true∨X.env.scope.names.lookup x=some .local:=by first | exact .inl rfl | exact .inr rfl | assumption):wpAny M A (storeName X.env x u) Q E s :=
 zi8_ I hN hi hx r (fun s' I' _=>h s' I') hf
theorem Inv.call' {s':Shared}{ch:List Addr}(I:Inv X pins σ H s) (ho:s'.os=s.os) (u:Un (frs X.stack) ch H H' s.heap s'.heap) (hok:HOk X.prog X.w H' s'.heap) (hg:AllBare s'.gens)
  (hch:∀ b∈ch,(b∈X.ex∨X.s₀.heap.objs.size≤b)∧b≠X.env.locals∧(∀ x c,X.env.cells.lookup x=some c→c≠b)∧∀ p∈X.pn++pins,p.1≠b):Inv X pins σ H' s':=by
 obtain ⟨h',g',d',t',o'⟩:=s'
 have e:o'=s.os:=ho
 subst e
 exact I.call (g':=g') (t':=t') (d':=d') u hok hg hch
end
abbrev XK:=Value→Option Addr→Hp→Prop
abbrev St:=List (Option V)
abbrev VK:=V→Hp→Prop
abbrev TE:=St→Hp→VK→Prop
abbrev TT:=St→Hp→(Bool→Hp→Prop)→Prop
abbrev TA:=St→Hp→(List V→Hp→Prop)→Prop
structure Ends where
 nx:St→Hp→Prop
 rt:VK
 bk:St→Hp→Prop:=fun _ _=>False
 ct:St→Hp→Prop:=fun _ _=>False
abbrev TS:=Ends→St→Hp→Prop
def EP (X:Cx) (pins:Pnn) (σ:St) (Q:VK) (u:Value) (s':Shared):Prop:=∃ v H',Inv X pins σ H' s'∧RelV v u∧Q v H'
def TP (X:Cx) (pins:Pnn) (σ:St) (Q:Bool→Hp→Prop) (b:Bool) (s':Shared):Prop:=∃ H',Inv X pins σ H' s'∧Q b H'
def AP (X:Cx) (pins:Pnn) (σ:St) (Q:List V→Hp→Prop) (us:List Value) (s':Shared):Prop:=∃ vs H',Inv X pins σ H' s'∧Vals vs us∧Q vs H'
def SP (X:Cx) (pins:Pnn) (D:Ends) (f:Flow) (s':Shared):Prop :=
 match f with
 | .next=>∃ σ' H',Inv X pins σ' H' s'∧D.nx σ' H'
 | .brk=>∃ σ' H',Inv X pins σ' H' s'∧D.bk σ' H'
 | .cont=>∃ σ' H',Inv X pins σ' H' s'∧D.ct σ' H'
 | .ret u=>∃ v σ' H',Inv X pins σ' H' s'∧RelV v u∧D.rt v H'
def PE (X:Cx) (e:Expr) (t:TE):Prop :=
 ∀ (pins:Pnn) (s:Shared) (σ:St) (H:Hp) (Q:VK),Inv X pins σ H s→t σ H Q→wpAny (model X.prog X.w) X.A (eval e X.env) (EP X pins σ Q) X.xe s
def PT (X:Cx) (e:Expr) (t:TT):Prop :=
 ∀ (pins:Pnn) (s:Shared) (σ:St) (H:Hp) (Q:Bool→Hp→Prop),Inv X pins σ H s→t σ H Q→wpAny (model X.prog X.w) X.A (isTrue e X.env (eval e X.env)) (TP X pins σ Q) X.xe s
def PW (X:Cx) (e:Expr) (t:TT):Prop :=
 ∀ (whole:Sem Value) (pins:Pnn) (s:Shared) (σ:St) (H:Hp) (Q:Bool→Hp→Prop),Inv X pins σ H s→t σ H Q→wpAny (model X.prog X.w) X.A (isTrue e X.env whole) (TP X pins σ Q) X.xe s
theorem PW.pt {X:Cx}{e:Expr}{t:TT}(h:PW X e t):PT X e t:=h _
def PA (X:Cx) (es:List Expr) (t:TA):Prop :=
 ∀ (pos:Pos) (pins:Pnn) (s:Shared) (σ:St) (H:Hp) (Q:List V→Hp→Prop),Inv X pins σ H s→t σ H Q→wpAny (model X.prog X.w) X.A (spliced (backTo pos (starEach es X.env))) (AP X pins σ Q) X.xe s
def PS (X:Cx) (st:Stmt) (t:TS):Prop :=
 ∀ (pins:Pnn) (s:Shared) (σ:St) (H:Hp) (D:Ends),Inv X pins σ H s→t D σ H→wpAny (model X.prog X.w) X.A (exec st X.env) (SP X pins D) X.xe s
def PSs (X:Cx) (st:List Stmt) (t:TS):Prop :=
 ∀ (pins:Pnn) (s:Shared) (σ:St) (H:Hp) (D:Ends),Inv X pins σ H s→t D σ H→wpAny (model X.prog X.w) X.A (execs st X.env) (SP X pins D) X.xe s
theorem thn {α:Type}{t:Sem α}{Q Q':α→Shared→Prop}{M:Model}{A:Around}{E:Value→Shared→Prop}{s:Shared}(h:wpAny M A t Q E s) (hQ:∀ a s,Q a s→Q' a s):wpAny M A t Q' E s:=wpAny_mono h hQ fun _ _ x=>x
end L2
namespace L2
open PySem PySem.Spec PyProof.Rows
section
variable {X:Cx}
theorem bin {a b:Expr}{ta tb:TE}(ha:PE X a ta) (hb:PE X b tb) {pins:Pnn}{s:Shared}{σ:St}{H:Hp}{R:V→V→Hp→Prop}(I:Inv X pins σ H s) (h:ta σ H fun x H1=>tb σ H1 fun y H2=>R x y H2)
  {α:Type}{Q:α→Shared→Prop}{f:Value→Value→Sem α}
  (hf:∀ v u s2 x y H2,Inv X pins σ H2 s2→RelV x v→RelV y u→R x y H2→wpAny (model X.prog X.w) X.A (f v u) Q X.xe s2) :
  wpAny (model X.prog X.w) X.A (eval a X.env) (fun v s₁=>wpAny (model X.prog X.w) X.A (eval b X.env) (fun u s₂=>wpAny (model X.prog X.w) X.A (f v u) Q X.xe s₂) X.xe s₁) X.xe s:=by
 refine thn (ha pins s σ H _ I h) fun v s1 hq_=>?_
 obtain ⟨x,H1,I1,r1,q1⟩:=hq_
 refine thn (hb pins s1 σ H1 _ I1 q1) fun u s2 hq_=>?_
 obtain ⟨y,H2,I2,r2,q2⟩:=hq_
 exact hf v u s2 x y H2 I2 r1 r2 q2
def tVar (i:Nat):TE:=fun σ H Q=>∃ v,σ[i]?=some (some v)∧Q v H
def tC (v:V):TE:=fun _ H Q=>Q v H
theorem zn0_ {i:Nat}{x:Str}{pos:Pos}(hN:X.N[i]?=some x) (hv:Vis X.env.scope x) (hd:(x == ("__debug__" : Str))=false:=by decide) (hcd:(x == ("__classdict__" : Str))=false:=by decide):PE X (.Name x pos) (tVar i):=by
 intro pins s σ H Q I h
 obtain ⟨v,e,h⟩:=h
 obtain ⟨m,hn,hl⟩:=I.loc
 obtain ⟨u,r,l⟩:=hl i x v hN e hv
 have fin:EP X pins σ Q u s:=⟨v,H,I,r,h⟩
 rcases l with ⟨hk,hm⟩ | ⟨hk,c,hc,hcell⟩
 ·exact wpAny_Name (wpAny_loadName_local I.ok.kind hk hn hm fin) hd
 ·rcases hk with hk | hk
  ·exact wpAny_Name (wpAny_loadName_cell I.ok.kind hk hc hcell fin) hd
  ·exact wpAny_Name (wpAny_loadName_free I.ok.kind hk hc hcell fin hcd) hd
theorem zg_ {i j pos}:PE X (.Constant (.int i) j pos) (tC (.int i)):=fun _ _ _ H _ I h=>wpAny_Constant_int ⟨.int i,H,I.tok _,⟨_,rfl⟩,h⟩
theorem zlC_ {b j pos}:PE X (.Constant (.bool b) j pos) (tC (.bl b)):=fun _ _ _ H _ I h=>Constant_bool ⟨.bl b,H,I,rfl,h⟩
theorem zgr_ {j pos}:PE X (.Constant .none j pos) (tC .non):=fun _ _ _ H _ I h=>Constant_none ⟨.non,H,I,rfl,h⟩
theorem zn8_ {x j pos}:PE X (.Constant (.str x) j pos) (tC (.str x)):=fun _ _ _ H _ I h=>Calls.Constant_str ⟨.str x,H,I.tok _,⟨_,rfl⟩,h⟩
def Gl (X:Cx) (x:Str):Prop:=X.env.kindOf x=some .globalImplicit
theorem zcS_ {E:Value→Shared→Prop}{pins:Pnn}{s:Shared}{σ:St}{H:Hp}{x:Str}{u:Value}{pos:Pos}{Q:Value→Shared→Prop}(I:Inv X pins σ H s) (hg:Gl X x) (hm:X.mg x=some u) (h:Q u s)
  (hd:(x == ("__debug__" : Str))=false:=by decide):wpAny (model X.prog X.w) X.A (eval (.Name x pos) X.env) Q E s :=
 Calls.Name_function_global I.ok.kind hg (Calls.loadGlobal_global (by rw [I.ok.glob]; exact I.mod.glob.keeps I.bk) hm h) hd
theorem zhW_ {E:Value→Shared→Prop}{pins:Pnn}{s:Shared}{σ:St}{H:Hp}{x:Str}{u:Value}{pos:Pos}{Q:Value→Shared→Prop}(I:Inv X pins σ H s) (hg:Gl X x) (hm:X.mg x=none) (hv:bootBuiltins x=some u) (h:Q u s)
  (hn:x ≠ "__name__" := by decide) (hd:(x == ("__debug__" : Str))=false:=by decide):wpAny (model X.prog X.w) X.A (eval (.Name x pos) X.env) Q E s:=by
 obtain ⟨mb,h1,h2⟩:=I.mod.blt
 exact Calls.Name_function_global I.ok.kind hg (Calls.loadGlobal_builtin (by rw [I.ok.glob]; exact I.mod.glob.keeps I.bk) hm (by rw [I.ok.blt]; exact h1.keeps I.bk) ((h2 x hn).trans hv) h) hd
theorem zj4_ {x:Str}{v:V}{u:Value}{pos:Pos}(hg:Gl X x) (hm:X.mg x=some u) (r:RelV v u) (hd:(x == ("__debug__" : Str))=false:=by decide):PE X (.Name x pos) (tC v) :=
 fun _ _ _ H _ I h=>zcS_ I hg hm ⟨v,H,I,r,h⟩ hd
theorem znG_ {x:Str}{v:V}{u:Value}{pos:Pos}(hg:Gl X x) (hm:X.mg x=none) (hv:bootBuiltins x=some u) (r:RelV v u) (hn:x ≠ "__name__" := by decide) (hd:(x == ("__debug__" : Str))=false:=by decide):PE X (.Name x pos) (tC v) :=
 fun _ _ _ H _ I h=>zhW_ I hg hm hv ⟨v,H,I,r,h⟩ hn hd
variable {a b:Expr}{ta tb:TE}{pos:Pos}
def PC (X:Cx) (op:CmpOp) (a b:Expr) (t:TE):Prop :=
 ∀ (pins:Pnn) (s:Shared) (σ:St) (H:Hp) (Q:VK),Inv X pins σ H s→t σ H Q →
  wpAny (model X.prog X.w) X.A (eval a X.env) (fun v s₁=>wpAny (model X.prog X.w) X.A (eval b X.env) (fun u s₂=>wpAny (model X.prog X.w) X.A (compareOp op v u) (EP X pins σ Q) X.xe s₂) X.xe s₁) X.xe s
theorem nobehind (b:Expr) {op:CmpOp}(h:op≠.In) (h2:op≠.NotIn):behindInMarks op b=false:=by
 have e1:(op == CmpOp.In)=false:=by cases op<;>first | rfl | exact absurd rfl h
 have e2:(op == CmpOp.NotIn)=false:=by cases op<;>first | rfl | exact absurd rfl h2
 cases b<;>simp [behindInMarks,e1,e2]
variable {tA tB':TT}{rest:List Expr}
def tNot (t:TT):TT:=fun σ H Q=>t σ H fun c H1=>Q (!c) H1
theorem zeU_ (ha:PT X a tA):PW X (.BoolOp .And [a] pos) tA:=by
 intro wh pins s σ H Q I h
 refine isTrue_and (thn (ha pins s σ H Q I h) fun c s1 e=>?_)
 cases c with
 | true=>exact isTrue_and_nil e
 | false=>exact e
theorem zno_ (ha:PT X a tA):PW X (.BoolOp .Or [a] pos) tA:=by
 intro wh pins s σ H Q I h
 refine isTrue_or (thn (ha pins s σ H Q I h) fun c s1 e=>?_)
 cases c with
 | false=>exact isTrue_or_nil e
 | true=>exact e
theorem zko_ (ha:PT X a tA):PT X (.UnaryOp .Not a pos) (tNot tA):=by
 intro pins s σ H Q I h
 exact isTrue_not (ha pins s σ H (fun c H1=>Q (!c) H1) I h)
theorem ziB_ {op} {t:TE}(h:PE X a t):PE X (.BoolOp op [a] pos) t:=fun pins s σ H Q I hw=>BoolOp_one (h pins s σ H Q I hw)
end
end L2
namespace L2
open PySem PySem.Spec PyProof.Rows
def SqL (K:Fgg) (H:Hp) (a:Addr) (xs:List V):Prop :=
 Rd H a (.lst xs) ∨
  ∃ (o:Obj) (its:Array Value) (n:Nat),K.lookup a=some o∧o.cls=.type "list" ∧ o.dict=none∧o.data=.seq its n∧its.size≤sizeLine∧Vals xs its.toList
def SqT (K:Fgg) (H:Hp) (a:Addr) (xs:List V):Prop :=
 Rd H a (.tup xs) ∨
  ∃ (o:Obj) (its:Array Value) (n:Nat),K.lookup a=some o∧o.cls=.type "tuple" ∧ o.data=.seq its n∧its.size≤sizeLine∧Vals xs its.toList
def absV:Value→Option V
 | .none=>some .non
 | .bool b=>some (.bl b)
 | .int i _=>some (.int i)
 | .str x _=>some (.str x)
 | .bytes b _=>some (.byt b)
 | .float b _=>some (.flt b)
 | .ref a=>some (.ref a)
 | .type n=>some (.ty n)
 | _=>none
theorem RelV.abs {x:V}{u:Value}(r:RelV x u):absV u=some x:=by
 cases x with
 | non=>cases r; rfl
 | bl _=>cases r; rfl
 | int _=>obtain ⟨t,rfl⟩:=r; rfl
 | str _=>obtain ⟨t,rfl⟩:=r; rfl
 | byt _=>obtain ⟨t,rfl⟩:=r; rfl
 | flt _=>obtain ⟨t,rfl⟩:=r; rfl
 | ref _=>cases r; rfl
 | ty _=>cases r; rfl
theorem RelV.inj {x y:V}{u:Value}(r:RelV x u) (q:RelV y u):x=y:=Option.some.inj (r.abs.symm.trans q.abs)
theorem Vals.inj:∀ {xs ys:List V}{us:List Value},Vals xs us→Vals ys us→xs=ys
 | _,_,_,.nil,.nil=>rfl
 | _,_,_,.cons r t,.cons r' t'=>by rw [r.inj r',Vals.inj t t']
section
variable {X:Cx}{pins:Pnn}{σ:St}{H:Hp}{s:Shared}{a:Addr}{xs ys:List V}
theorem SqL.of {K:Fgg}(h:H a=some (.lst xs)):SqL K H a xs:=.inl (.inl h)
theorem SqT.of {K:Fgg}(h:H a=some (.tup xs)):SqT K H a xs:=.inl (.inl h)
theorem Inv.list (I:Inv X pins σ H s) (h:SqL X.K H a xs):∃ its:List Value,Vals xs its∧PlainL s.heap a its.toArray∧xs.length≤sizeLine:=by
 rcases h with h | ⟨o,its,n,hk,hc,hd,hs,hz,r⟩
 ·obtain ⟨z,its,n,r,e⟩:=h.ok I.hok
  exact ⟨its,r,⟨_,n,e,rfl,rfl,rfl⟩,z⟩
 ·refine ⟨its.toList,r,⟨o,n,I.kIn a o hk,hc,hd,by simpa using hs⟩,?_⟩
  have e:=r.length
  simp only [Array.length_toList] at e
  lia
theorem Inv.tuple (I:Inv X pins σ H s) (h:SqT X.K H a xs):∃ its:List Value,Vals xs its∧IsTup s.heap a its.toArray∧xs.length≤sizeLine:=by
 rcases h with h | ⟨o,its,n,hk,hc,hs,hz,r⟩
 ·obtain ⟨z,its,r,p⟩:=h.ok I.hok
  exact ⟨its,r,p,z⟩
 ·refine ⟨its.toList,r,⟨o,I.kIn a o hk,hc,n,by simpa using hs⟩,?_⟩
  have e:=r.length
  simp only [Array.length_toList] at e
  lia
theorem Inv.list_inj (I:Inv X pins σ H s) (h:SqL X.K H a xs) (h':SqL X.K H a ys):xs=ys:=by
 obtain ⟨its,r,⟨o,n,e,_,_,d⟩,_⟩:=I.list h
 obtain ⟨its',r',⟨o',n',e',_,_,d'⟩,_⟩:=I.list h'
 rw [e] at e'; cases e'
 rw [d] at d'
 injection d' with d1 _
 have:its=its':=by simpa using congrArg Array.toList d1
 subst this
 exact r.inj r'
theorem Inv.tuple_inj (I:Inv X pins σ H s) (h:SqT X.K H a xs) (h':SqT X.K H a ys):xs=ys:=by
 obtain ⟨its,r,⟨o,e,_,n,d⟩,_⟩:=I.tuple h
 obtain ⟨its',r',⟨o',e',_,n',d'⟩,_⟩:=I.tuple h'
 rw [e] at e'; cases e'
 rw [d] at d'
 injection d' with d1 _
 have:its=its':=by simpa using congrArg Array.toList d1
 subst this
 exact r.inj r'
end
abbrev Cx.wish (X:Cx) (E:Value→Shared→Prop):Cx:={ X with xe:=E }
abbrev Cx.nox (X:Cx):Cx:=X.wish fun _ _=>False
theorem Cx.Ok.wish {X:Cx}(ok:X.Ok) (E:Value→Shared→Prop):(X.wish E).Ok :=
 ⟨ok.mod,ok.kind,ok.glob,ok.blt,ok.above,ok.inj,ok.has,ok.cab,ok.hd,ok.frames,ok.stk,ok.exf,ok.bs,ok.bsz,ok.noex,ok.exfs,ok.funs,ok.frf⟩
theorem Cx.Ok.unwish {X:Cx}{E:Value→Shared→Prop}(ok:(X.wish E).Ok):X.Ok :=
 ⟨ok.mod,ok.kind,ok.glob,ok.blt,ok.above,ok.inj,ok.has,ok.cab,ok.hd,ok.frames,ok.stk,ok.exf,ok.bs,ok.bsz,ok.noex,ok.exfs,ok.funs,ok.frf⟩
section
variable {X:Cx}{pins:Pnn}{σ:St}{H:Hp}{s:Shared}{E:Value→Shared→Prop}
theorem Inv.wish (I:Inv X pins σ H s) (E:Value→Shared→Prop):Inv (X.wish E) pins σ H s:=⟨I.ok.wish E,I.os,I.bare,I.base,I.loc,I.cell,I.free,I.freeC,I.pin,I.hok,I.len⟩
theorem Inv.unwish (I:Inv (X.wish E) pins σ H s):Inv X pins σ H s:=⟨I.ok.unwish,I.os,I.bare,I.base,I.loc,I.cell,I.free,I.freeC,I.pin,I.hok,I.len⟩
theorem SP.unwish {D:Ends}{f:Flow}{s':Shared}(h:SP (X.wish E) pins D f s'):SP X pins D f s':=by
 cases f with
 | next=>obtain ⟨σ',H',I,q⟩:=h; exact ⟨σ',H',I.unwish,q⟩
 | brk=>obtain ⟨σ',H',I,q⟩:=h; exact ⟨σ',H',I.unwish,q⟩
 | cont=>obtain ⟨σ',H',I,q⟩:=h; exact ⟨σ',H',I.unwish,q⟩
 | ret u=>obtain ⟨v,σ',H',I,r,q⟩:=h; exact ⟨v,σ',H',I.unwish,r,q⟩
theorem PSs.nox {st:List Stmt}{t:TS}(h:PSs X.nox st t):PSs X st t:=fun pins s σ H D I hw =>
 wpAny_mono (h pins s σ H D (I.wish _) hw) (fun _ _ q=>q.unwish) fun _ _ z=>False.elim z
end
section
variable {X:Cx}{st:Stmt}{rest:List Stmt}{t u:TS}{e:Expr}{te:TE}{pos:Pos}
def tNext:TS:=fun D σ H=>D.nx σ H
def tSeq (t u:TS):TS:=fun D σ H=>t { D with nx:=u D } σ H
theorem zN_:PSs X [] tNext:=fun _ _ σ H _ I h=>wpAny_execs_nil ⟨σ,H,I,h⟩
theorem zd_ (h1:PS X st t) (h2:PSs X rest u):PSs X (st::rest) (tSeq t u):=by
 intro pins s σ H D I h
 refine wpAny_execs_cons (thn (h1 pins s σ H { D with nx:=u D } I h) fun f s1 q=>?_)
 cases f with
 | next =>
  obtain ⟨σ',H',I',q⟩:=q
  exact h2 pins s1 σ' H' D I' q
 | ret v=>exact q
 | brk=>exact q
 | cont=>exact q
theorem zj_ (h1:PS X st t):PSs X [st] t:=by
 intro pins s σ H D I h
 refine wpAny_execs_cons (thn (h1 pins s σ H D I h) fun f s1 q=>?_)
 cases f with
 | next=>exact wpAny_execs_nil q
 | ret v=>exact q
 | brk=>exact q
 | cont=>exact q
theorem Inv.quiet {pins:Pnn}{σ:St}{H:Hp}{s:Shared}(I:Inv X pins σ H s):interactive X.env=false:=by simp [interactive,I.ok.kind]
def tDrop (te:TE):TS:=fun D σ H=>te σ H fun _ H1=>D.nx σ H1
theorem zaI_ (he:PE X e te) (hs:swapsWith e none pos.line X.env=pure false:=by rfl):PS X (.Expr e pos) (tDrop te):=by
 intro pins s σ H D I h
 exact wpAny_Expr_any (thn (he pins s σ H _ I h) fun v s1 ⟨x,H1,I1,r1,q1⟩=>⟨σ,H1,I1,q1⟩) I.quiet hs
def tRet (te:TE):TS:=fun D σ H=>te σ H D.rt
theorem zx_ (he:PE X e te):PS X (.Return (some e) pos) (tRet te):=by
 intro pins s σ H D I h
 exact wpAny_Return_some (thn (he pins s σ H _ I h) fun v s1 ⟨x,H1,I1,r1,q1⟩=>⟨x,σ,H1,I1,r1,q1⟩)
def tNever:TS:=fun _ _ _=>False
theorem zkQ_:PS X st tNever:=fun _ _ _ _ _ _ h=>h.elim
end
abbrev TG:=V→St→Hp→(St→Hp→Prop)→Prop
abbrev TGs:=List V→St→Hp→(St→Hp→Prop)→Prop
def PG (X:Cx) (target:Expr) (t:TG):Prop :=
 ∀ (pins:Pnn) (s:Shared) (σ:St) (H:Hp) (v:V) (u:Value) (Q:St→Hp→Prop),Inv X pins σ H s→RelV v u→t v σ H Q →
  wpAny (model X.prog X.w) X.A (assign target X.env u) (fun _ s'=>∃ σ' H',Inv X pins σ' H' s'∧Q σ' H') X.xe s
def PGs (X:Cx) (ts:List Expr) (t:TGs):Prop :=
 ∀ (pins:Pnn) (s:Shared) (σ:St) (H:Hp) (vs:List V) (us:List Value) (Q:St→Hp→Prop),Inv X pins σ H s→Vals vs us→t vs σ H Q →
  wpAny (model X.prog X.w) X.A (assignInOrder ((assignEach ts X.env).map (·.2)) us) (fun _ s'=>∃ σ' H',Inv X pins σ' H' s'∧Q σ' H') X.xe s
abbrev TSet:=V→V→V→Hp→(Hp→Prop)→Prop
def PSet (X:Cx) (t:TSet):Prop :=
 ∀ (pins:Pnn) (s:Shared) (σ:St) (H:Hp) (o i v:V) (ov iv u:Value) (Q:Hp→Prop),Inv X pins σ H s→RelV o ov→RelV i iv→RelV v u→t o i v H Q →
  wpAny (model X.prog X.w) X.A (setItem ov iv u) (fun _ s'=>∃ H',Inv X pins σ H' s'∧Q H') X.xe s
section
variable {X:Cx}{pos:Pos}
def gName (i:Nat):TG:=fun v σ H Q=>Q (σ.set i (some v)) H
theorem zjB_ {i:Nat}{x:Str}(hN:X.N.Nodup) (hi:X.N[i]?=some x) (hx:Loc X.env.scope x) (hf:X.fn x=true∨X.env.scope.names.lookup x=some .local:=by first | exact .inl rfl | exact .inr rfl | assumption):PG X (.Name x pos) (gName i):=by
 intro pins s σ H v u Q I r h
 exact wpAny_assign_Name (zdR_ I hN hi hx r (fun s' I'=>⟨_,H,I',h⟩) hf)
def gNil:TGs:=fun vs σ H Q=>vs=[]∧Q σ H
def gCons (t:TG) (u:TGs):TGs:=fun vs σ H Q=>∃ v r,vs=v::r∧t v σ H fun σ' H'=>u r σ' H' Q
theorem zmv_:PGs X [] gNil:=by
 intro pins s σ H vs us Q I r h
 obtain ⟨e,h⟩:=h
 subst e
 cases r
 exact assignInOrder_nil ⟨σ,H,I,h⟩
theorem zlq_ {e:Expr}{es:List Expr}{t:TG}{u:TGs}(h1:PG X e t) (h2:PGs X es u)
  (hs:(assignEach (e::es) X.env).map (·.2)=assign e X.env::(assignEach es X.env).map (·.2):=by rfl):PGs X (e::es) (gCons t u):=by
 intro pins s σ H vs us Q I r h
 obtain ⟨v,vr,e1,h⟩:=h
 subst e1
 cases r with
 | cons r rr =>
  rw [hs]
  refine assignInOrder_cons (thn (h1 pins s σ H _ _ _ I r h) fun _ s1 hq_=>?_)
  obtain ⟨σ1,H1,I1,q1⟩:=hq_
  exact h2 pins s1 σ1 H1 _ _ Q I1 rr q1
def gTup (K:Fgg) (n:Nat) (t:TGs):TG:=fun v σ H Q=>∃ a xs,v=.ref a∧SqT K H a xs∧xs.length=n∧t xs σ H Q
theorem zoO_ {es:List Expr}{k:Nat}{t:TGs}{n:Nat}(hc:X.calm=true) (h:PGs X es t)
  (hn:(assignEach es X.env).length=n:=by rfl) (hst:(assignEach es X.env).findIdx? (·.1)=none:=by rfl):PG X (.Tuple es k pos) (gTup X.K n t):=by
 intro pins s σ H v u Q I r hw
 obtain ⟨a,xs,e1,hq,hl,hw⟩:=hw
 subst e1
 cases r
 obtain ⟨its,rv,ht,hz⟩:=I.tuple hq
 refine assign_Tuple_tuple (I.ok.hd hc) ht (by simp [hn,← hl,rv.length]) hst fun h' hx=>?_
 have I1:Inv X pins σ H { s with heap:=h' }:=I.kept (t':=s.toks) fun b o e=>hx b o (Nat.ne_of_lt (Heap.lt_size e)) e
 exact h pins _ σ H xs _ Q I1 (by simpa using rv) hw
def gSub (to ti:TE) (t:TSet):TG:=fun v σ H Q=>to σ H fun o H1=>ti σ H1 fun i H2=>t o i v H2 fun H3=>Q σ H3
theorem zlU_ {o i:Expr}{to ti:TE}{t:TSet}(ho:PE X o to) (hi:PE X i ti) (hs:PSet X t)
  (ha:∀ v,assign (.Subscript o i pos) X.env v=(do
   let ov ← holding [v] (eval o X.env)
   let iv ← holding [v,ov] (eval i X.env)
   standAt pos
   holding [v,ov,iv] (setItem ov iv v)
   release [v,ov,iv] []):=by intro _; rfl):PG X (.Subscript o i pos) (gSub to ti t):=by
 intro pins s σ H v u Q I r h
 rw [ha]
 refine wpAny_bind (wpAny_holding (thn (ho pins s σ H _ I h) fun ov s1 hq_=>?_))
 obtain ⟨x,H1,I1,r1,q1⟩:=hq_
 refine wpAny_bind (wpAny_holding (thn (hi pins s1 σ H1 _ I1 q1) fun iv s2 hq_=>?_))
 obtain ⟨y,H2,I2,r2,q2⟩:=hq_
 refine wpAny_bind (wpAny_standAt (wpAny_bind (wpAny_holding (thn (hs pins s2 σ H2 x y v ov iv u _ I2 r1 r2 r q2) fun _ s3 hq_=>?_))))
 obtain ⟨H3,I3,q3⟩:=hq_
 exact wpAny_release ⟨σ,H3,I3,q3⟩
def tAsg (te:TE) (g:TG):TS:=fun D σ H=>te σ H fun x H1=>g x σ H1 D.nx
theorem zn9_ {tg e:Expr}{te:TE}{g:TG}(he:PE X e te) (hg:PG X tg g) (hs:swapsWithSole [tg] e pos.line X.env=pure false:=by rfl) (hw:swappedStores [tg] e X.env=pure none:=by rfl)
  (h1:(assignEach [tg] X.env).map (·.2)=[assign tg X.env]:=by rfl):PS X (.Assign [tg] e pos) (tAsg te g):=by
 intro pins s σ H D I h
 refine wpAny_Assign_stores (thn (he pins s σ H _ I h) fun v s1 hq_=>?_) hs hw
 obtain ⟨x,H1,I1,r1,q1⟩:=hq_
 rw [h1]
 exact thn (hg pins s1 σ H1 x v _ I1 r1 q1) fun _ s2 q=>q
theorem zn6_ {i:Nat}{x:Str}{e:Expr}{te:TE}{pos':Pos}(hN:X.N.Nodup) (hi:X.N[i]?=some x) (hx:Loc X.env.scope x) (he:PE X e te) (hs:swapsWith e (some (.Name x pos')) pos.line X.env=pure false:=by rfl) (hf:X.fn x=true∨X.env.scope.names.lookup x=some .local:=by first | exact .inl rfl | exact .inr rfl | assumption) :
  PS X (.Assign [.Name x pos'] e pos) (tAsg te (gName i)):=by
 intro pins s σ H D I h
 refine wpAny_Assign_Name (thn (he pins s σ H _ I h) fun v s1 hq_=>?_) hs
 obtain ⟨y,H1,I1,r1,q1⟩:=hq_
 exact zdR_ I1 hN hi hx r1 (fun s2 I2=>⟨_,H1,I2,q1⟩) hf
end
section
variable {X:Cx}{pos:Pos}
def tWhile (c:TT) (tb:TS):TS:=fun D σ H=>∃ W:Nat→St→Hp→Prop,(∃ m,W m σ H)∧∀ m σ H,W m σ H →
 c σ H fun b H1=>if b=true then ∃ N:St→Hp→Prop,(∀ σ' H',N σ' H'→∃ m',m'<m∧W m' σ' H')∧tb { D with nx:=N,ct:=N,bk:=D.nx } σ H1 else D.nx σ H1
theorem zlg_ {c:Expr}{body:List Stmt}{tc:TT}{tb:TS}(hp:PassesOwn (model X.prog X.w) X.A X.env X.xe) (hc:PT X c tc) (hb:PSs X body tb):PS X (.While c body [] pos) (tWhile tc tb):=by
 intro pins s σ H D I h
 obtain ⟨W,⟨m0,w0⟩,turn⟩:=h
 refine wpAny_While (codeAny_whileLoop (fun n s'=>∃ σ' H',Inv X pins σ' H' s'∧W n σ' H') ?_ m0 ⟨σ,H,I,w0⟩)
 rintro n s1 ⟨σ1,H1,I1,w1⟩
 refine wpAny_passesOwn hp (thn (hc pins s1 σ1 H1 _ I1 (turn n σ1 H1 w1)) fun b s2 hq_=>?_)
 obtain ⟨H2,I2,q2⟩:=hq_
 cases b with
 | true =>
  obtain ⟨N,hN,q2⟩:=q2
  rw [if_pos rfl]
  refine wpAny_passesOwn hp (thn (hb pins s2 σ1 H2 _ I2 q2) fun f s3 q3=>?_)
  cases f with
  | next =>
   obtain ⟨σ3,H3,I3,n3⟩:=q3
   obtain ⟨m',hm,w3⟩:=hN σ3 H3 n3
   exact ⟨m',hm,σ3,H3,I3,w3⟩
  | cont =>
   obtain ⟨σ3,H3,I3,n3⟩:=q3
   obtain ⟨m',hm,w3⟩:=hN σ3 H3 n3
   exact ⟨m',hm,σ3,H3,I3,w3⟩
  | brk=>exact q3
  | ret v=>exact q3
 | false =>
  rw [if_neg Bool.false_ne_true]
  exact wpAny_execs_nil ⟨σ1,H2,I2,q2⟩
end
structure It where
 go:Nat→Hp→Prop
 yld:Nat→Hp→V→Hp→Prop
 stop:Nat→Hp→Prop
def FpOk (X:Cx) (pins:Pnn) (H:Hp) (b:Addr):Prop :=
 H b=none∧b≠X.env.locals∧b∉X.fs∧(b∈X.ex∨X.s₀.heap.objs.size≤b)∧(∀ x c,X.env.cells.lookup x=some c→c≠b)∧∀ p∈X.pn++pins,p.1≠b
theorem Inv.fpOk {X:Cx}{pins:Pnn}{σ:St}{H H':Hp}{s:Shared}{b:Addr}(I:Inv X pins σ H s) (hb:s.heap.objs.size≤b) (hn:H' b=none):FpOk X pins H' b:=by
 refine ⟨hn,Nat.ne_of_gt (Nat.lt_of_lt_of_le I.lt hb),I.nofs hb,.inr (Nat.le_trans I.sz hb),fun x c e z=>?_,fun p hp z=>?_⟩
 ·obtain ⟨v,q⟩:=I.cell x c e
  exact absurd (Nat.lt_of_lt_of_le q.lt (by rw [z]; exact hb)) (Nat.lt_irrefl _)
 ·exact absurd (Nat.lt_of_lt_of_le (Heap.lt_size (I.pin p hp).1) (by rw [z]; exact hb)) (Nat.lt_irrefl _)
structure Turn (P:Program) (w:World) (K:Fgg) (tg:Expr) (J:It) (fp:List Addr) (it:Addr) (tn:Nat→Heap→Prop):Prop where
 mem:it∈fp
 obj:∀ i h,tn i h→∀ b∈fp,∃ o,h.get? b=some o∧∀ v,o.data≠.cell v
 keep:∀ i h h',tn i h→(∀ b∈fp,∀ o,h.get? b=some o→h'.get? b=some o)→tn i h'
 item:∀ (X:Cx),X.prog=P→X.w=w→X.K=K→X.calm=true→∀ (i:Nat) (pins:Pnn) (s:Shared) (σ:St) (H:Hp) (E:Value→Shared→Prop),Inv X pins σ H s→(∀ b∈fp,FpOk X pins H b)→tn i s.heap→J.go i H →
  wpAny (model P w) X.A (pyNext (.ref it)) (fun r s1=>∃ u,r=some u ∧
   wpAny (model P w) X.A (letOwnedTupleGo tg (.ref it) u) (fun _ s2=>∃ x H',Inv X pins σ H' s2∧RelV x u∧J.yld i H x H'∧tn (i+1) s2.heap∧∀ b∈fp,H' b=none) E s1) E s
 done:∀ (X:Cx),X.prog=P→X.w=w→X.K=K→X.calm=true→∀ (i:Nat) (pins:Pnn) (s:Shared) (σ:St) (H:Hp) (E:Value→Shared→Prop),Inv X pins σ H s→(∀ b∈fp,FpOk X pins H b)→tn i s.heap→J.stop i H →
  wpAny (model P w) X.A (pyNext (.ref it)) (fun r s1=>r=none∧Inv X pins σ H s1) E s
 self:∀ (A:Around) (i:Nat) (s:Shared) (Q:Value→Shared→Prop) (E:Value→Shared→Prop),tn i s.heap→Q (.ref it) s→wpAny (model P w) A (pyIter (.ref it)) Q E s
abbrev TI:=St→Hp→(It→Hp→Prop)→Prop
def PIE (X:Cx) (pins:Pnn) (σ:St) (tg:Expr) (R:It→Hp→Prop) (itv:Value) (s2:Shared):Prop :=
 ∃ (it:Addr) (fp:List Addr) (tn:Nat→Heap→Prop) (J:It) (H':Hp),itv=.ref it∧Inv X pins σ H' s2∧Turn X.prog X.w X.K tg J fp it tn∧tn 0 s2.heap∧(∀ b∈fp,FpOk X pins H' b)∧R J H'
def PI (X:Cx) (tg iter:Expr) (wi:TI):Prop :=
 ∀ (pins:Pnn) (s:Shared) (σ:St) (H:Hp) (R:It→Hp→Prop),Inv X pins σ H s→wi σ H R →
  wpAny (model X.prog X.w) X.A (eval iter X.env) (fun v s1=>wpAny (model X.prog X.w) X.A (pyIter v) (PIE X pins σ tg R) X.xe s1) X.xe s
theorem znJ_ {M:Model}{A:Around}{E:Value→Shared→Prop}{s:Shared}{tg:Expr}{it:Addr}{u:Value}{o:Obj}{n:String}{vs:Array Value}{Q:Unit→Shared→Prop}(ho:s.heap.get? it=some o) (hc:o.cls=.type n) (hd:o.data=.fields vs)
  (hn:["enumerate", "zip", "dict_itemiterator", "dict_reverseitemiterator", "odict_iterator", "itertools.zip_longest", "itertools.pairwise"].contains n=false) (hQ:Q () s):wpAny M A (letOwnedTupleGo tg (.ref it) u) Q E s:=by
 unfold letOwnedTupleGo
 cases tg<;>first
  | exact wpAny_pure hQ
  | (cases u<;>first
    | exact wpAny_pure hQ
    | (refine wpAny_bind (wpAny_load ho ?_)
       rw [hc,hd]
       show wpAny M A (if (["enumerate", "zip", "dict_itemiterator", "dict_reverseitemiterator", "odict_iterator", "itertools.zip_longest", "itertools.pairwise"].contains n && vs[0]? == some (rawInt _))=true then _ else _) Q E s
       rw [if_neg (by intro h; rw [hn,Bool.false_and] at h; cases h)]
       exact wpAny_pure hQ))
def Itl (K:Fgg) (a:Addr):It :=
 ⟨fun i H=>∃ xs x,SqL K H a xs∧xs[i]?=some x,fun i H x H'=>H'=H∧∀ xs,SqL K H a xs→xs[i]?=some x,fun i H=>∃ xs,SqL K H a xs∧xs.length≤i⟩
def Itt (K:Fgg) (a:Addr):It :=
 ⟨fun i H=>∃ xs x,SqT K H a xs∧xs[i]?=some x,fun i H x H'=>H'=H∧∀ xs,SqT K H a xs→xs[i]?=some x,fun i H=>∃ xs,SqT K H a xs∧xs.length≤i⟩
def Itr (lo:Int) (n:Nat):It:=⟨fun i _=>i<n,fun i H x H'=>H'=H∧x=.int (lo+i),fun i _=>n≤i⟩
theorem ziy_ {P:Program}{w:World}{K:Fgg}{tg:Expr}(a it:Addr):Turn P w K tg (Itl K a) [it] it (fun i h=>h.IsListIter it a i) where
 mem:=by simp
 obj:=fun i h st b hb=>by
  have e:b=it:=by simpa using hb
  subst e
  obtain ⟨o,e,c,d⟩:=st
  exact ⟨o,e,fun v z=>by rw [d] at z; cases z⟩
 keep:=fun i h h' st k=>st.at fun o e=>k it (by simp) o e
 item:=by
  intro X hP hw hK hc i pins s σ H E I hf st hg
  subst hP hw hK
  obtain ⟨xs,x,hq,hx⟩:=hg
  obtain ⟨its,rv,p,hz⟩:=I.list hq
  obtain ⟨u,hu,ru⟩:=rv.get hx
  obtain ⟨f0,f1,f2,f3,f4,f5⟩:=hf it (by simp)
  refine wpAny_pyNext_list_item st p.isList (x:=u) (by simpa using hu) fun h' st' sb=>?_
  have I1:Inv X pins σ H { s with heap:=h' }:=I.turned (t':=s.toks) (fun b o hb e=>(sb.2 b hb).trans e) f0 f1 f3 f4 f5
  obtain ⟨o,e,c,d⟩:=id st'
  exact ⟨u,rfl,znJ_ (s:={ s with heap:=h' }) e c d (by decide) ⟨x,H,I1,ru,⟨rfl,fun ys hy=>by rw [I.list_inj hy hq]; exact hx⟩,st',fun b hb=>(hf b hb).1⟩⟩
 done:=by
  intro X hP hw hK hc i pins s σ H E I hf st hg
  subst hP hw hK
  obtain ⟨xs,hq,hx⟩:=hg
  obtain ⟨its,rv,p,hz⟩:=I.list hq
  obtain ⟨f0,f1,f2,f3,f4,f5⟩:=hf it (by simp)
  have hl:=rv.length
  exact wpAny_pyNext_list_end (I.ok.hd hc) st p.isList (by simp; lia) fun h' eb=>⟨rfl,I.turned (t':=s.toks) (fun b o hb e=>eb b o hb e) f0 f1 f3 f4 f5⟩
 self:=fun _ _ _ _ _ st h=>wpAny_pyIter_listiter st h
theorem zhx_ {P:Program}{w:World}{K:Fgg}{tg:Expr}(a it:Addr):Turn P w K tg (Itt K a) [it] it (fun i h=>h.IsTupleIter it a i) where
 mem:=by simp
 obj:=fun i h st b hb=>by
  have e:b=it:=by simpa using hb
  subst e
  obtain ⟨o,e,c,d⟩:=st
  exact ⟨o,e,fun v z=>by rw [d] at z; cases z⟩
 keep:=fun i h h' st k=>st.at fun o e=>k it (by simp) o e
 item:=by
  intro X hP hw hK hc i pins s σ H E I hf st hg
  subst hP hw hK
  obtain ⟨xs,x,hq,hx⟩:=hg
  obtain ⟨its,rv,p,hz⟩:=I.tuple hq
  obtain ⟨u,hu,ru⟩:=rv.get hx
  obtain ⟨f0,f1,f2,f3,f4,f5⟩:=hf it (by simp)
  refine wpAny_pyNext_tuple_item st (show s.heap.IsTuple a its.toArray from p) (x:=u) (by simpa using hu) fun h' st' sb=>?_
  have I1:Inv X pins σ H { s with heap:=h' }:=I.turned (t':=s.toks) (fun b o hb e=>(sb.2 b hb).trans e) f0 f1 f3 f4 f5
  obtain ⟨o,e,c,d⟩:=id st'
  exact ⟨u,rfl,znJ_ (s:={ s with heap:=h' }) e c d (by decide) ⟨x,H,I1,ru,⟨rfl,fun ys hy=>by rw [I.tuple_inj hy hq]; exact hx⟩,st',fun b hb=>(hf b hb).1⟩⟩
 done:=by
  intro X hP hw hK hc i pins s σ H E I hf st hg
  subst hP hw hK
  obtain ⟨xs,hq,hx⟩:=hg
  obtain ⟨its,rv,p,hz⟩:=I.tuple hq
  obtain ⟨f0,f1,f2,f3,f4,f5⟩:=hf it (by simp)
  have hl:=rv.length
  exact wpAny_pyNext_tuple_end (I.ok.hd hc) st (show s.heap.IsTuple a its.toArray from p) (by simp; lia) fun h' eb=>⟨rfl,I.turned (t':=s.toks) (fun b o hb e=>eb b o hb e) f0 f1 f3 f4 f5⟩
 self:=fun _ _ _ _ _ st h=>wpAny_pyIter_tupleiter st h
theorem zhz_ {P:Program}{w:World}{K:Fgg}{tg:Expr}(it:Addr) (lo:Int) (n:Nat):Turn P w K tg (Itr lo n) [it] it (fun i h=>IsRangeIter h it (lo+(i:Nat)*1) ((n:Int)-(i:Nat)) 1) where
 mem:=by simp
 obj:=fun i h st b hb=>by
  have e:b=it:=by simpa using hb
  subst e
  exact ⟨_,st,fun v z=>by
   have z':Data.fields _=Data.cell v:=z
   cases z'⟩
 keep:=fun i h h' st k=>k it (by simp) _ st
 item:=by
  intro X hP hw hK hc i pins s σ H E I hf st hg
  subst hP hw hK
  obtain ⟨f0,f1,f2,f3,f4,f5⟩:=hf it (by simp)
  have W:=Walks.range (prog:=X.prog) (w:=X.w) (I.ok.hd hc) it lo 1 n
  refine W.item i s _ _ hg st fun v h' tk hv st' kk=>?_
  obtain ⟨t,rfl⟩:=hv
  have I1:Inv X pins σ H { s with heap:=h',toks:=tk }:=I.turned (fun b o hb e=>kk b o (by simpa using hb) e) f0 f1 f3 f4 f5
  refine ⟨_,rfl,znJ_ (s:={ s with heap:=h',toks:=tk }) (n := "range_iterator") st' rfl rfl (by decide) ⟨.int (lo+i),H,I1,⟨t,?_⟩,⟨rfl,rfl⟩,st',fun b hb=>(hf b hb).1⟩⟩
  rw [Int.mul_one]
 done:=by
  intro X hP hw hK hc i pins s σ H E I hf st hg
  subst hP hw hK
  obtain ⟨f0,f1,f2,f3,f4,f5⟩:=hf it (by simp)
  exact wpAny_pyNext_range_end (I.ok.hd hc) st (by have:n≤i:=hg; lia) fun h' eb=>⟨rfl,I.turned (t':=s.toks) (fun b o hb e=>eb b o hb e) f0 f1 f3 f4 f5⟩
 self:=fun _ _ _ _ _ st h=>wpAny_pyIter_rangeiter st h
end L2
namespace L2
open PySem PySem.Spec PyProof.Rows
section
variable {X:Cx}{tg:Expr}
theorem zh4_ {pins:Pnn}{σ:St}{H:Hp}{s:Shared}{R:It→Hp→Prop}{E:Value→Shared→Prop}{lo hi:Int}{t u v:Tok}{tk:Nat}(I:Inv X pins σ H s) (h1 : -(2 ^ 62)≤lo) (h2:lo<2 ^ 62) (h3 : -(2 ^ 62)≤hi) (h4:hi<2 ^ 62)
  (q:R (Itr lo (hi-lo).toNat) H):wpAny (model X.prog X.w) X.A (pyIter (.ref s.heap.objs.size)) (PIE X pins σ tg R) E { s with heap:=s.heap.push { cls:=.type "range",data:=.fields #[.int lo t,.int hi u,.int 1 v] },toks:=tk }:=by
 refine wpAny_pyIter_range (IsRange.new ..) (small_one h1 h2 h3 h4) ?_
 have I1:Inv X pins σ H { s with heap:=s.heap.push { cls:=.type "range",data:=.fields #[.int lo t,.int hi u,.int 1 v] },toks:=tk }:=I.kept fun b o e=>Heap.get?_push_of_some _ e
 refine ⟨(s.heap.push { cls:=.type "range",data:=.fields #[.int lo t,.int hi u,.int 1 v] }).objs.size,[(s.heap.push { cls:=.type "range",data:=.fields #[.int lo t,.int hi u,.int 1 v] }).objs.size],_,_,H,rfl,
  I1.kept (t':=tk) fun b o e=>Heap.get?_push_of_some _ e,zhz_ _ lo (hi-lo).toNat,?_,fun b hb=>?_,q⟩
 ·have e1:lo+((0:Nat):Int)*1=lo:=by simp
  have e2:(((hi-lo).toNat:Nat):Int)-((0:Nat):Int)=Builtin.Range.rangeSize lo hi 1:=by rw [rangeSize_one]; split<;>omega
  show IsRangeIter _ _ (lo+((0:Nat):Int)*1) ((((hi-lo).toNat:Nat):Int)-((0:Nat):Int)) 1
  rw [e1,e2]
  exact Heap.get?_push_size _ rfl
 ·have e:b=(s.heap.push { cls:=.type "range",data:=.fields #[.int lo t,.int hi u,.int 1 v] }).objs.size:=by simpa using hb
  subst e
  exact I1.fpOk (Nat.le_refl _) (I1.hok.fresh (Nat.le_refl _))
def tFor (wi:TI) (g:TG) (tb:TS):TS:=fun D σ H=>wi σ H fun J H1=>∃ W:Nat→Nat→St→Hp→Prop,(∃ m,W 0 m σ H1)∧∀ i m σ H,W i m σ H →
 (J.stop i H∧D.nx σ H)∨(J.go i H∧∃ N:St→Hp→Prop,(∀ σ' H',N σ' H'→∃ m',m'<m∧W (i+1) m' σ' H')∧∀ x H',J.yld i H x H'→g x σ H' fun σ2 H2=>tb { D with nx:=N,ct:=N,bk:=D.nx } σ2 H2)
def pinsAt (fp:List Addr) (h:Heap):Pnn:=fp.filterMap fun b=>(h.get? b).map fun o=>(b,o)
theorem zbN_ {fp:List Addr}{h:Heap}{b:Addr}{o:Obj}(hb:b∈fp) (e:h.get? b=some o):(b,o)∈pinsAt fp h:=List.mem_filterMap.mpr ⟨b,hb,by rw [e]; rfl⟩
theorem ziX_ {fp:List Addr}{h:Heap}{p:Addr×Obj}(hp:p∈pinsAt fp h):p.1∈fp∧h.get? p.1=some p.2:=by
 obtain ⟨b,hb,e⟩:=List.mem_filterMap.mp hp
 cases q:h.get? b with
 | none=>rw [q] at e; cases e
 | some o =>
  rw [q] at e
  have e':(b,o)=p:=Option.some.inj e
  subst e'
  exact ⟨hb,q⟩
theorem Inv.pinned {pins:Pnn}{σ:St}{H:Hp}{s:Shared}{fp:List Addr}(I:Inv X pins σ H s) (hf:∀ b∈fp,FpOk X pins H b) (ho:∀ b∈fp,∃ o,s.heap.get? b=some o∧∀ v,o.data≠.cell v):Inv X (pins++pinsAt fp s.heap) σ H s :=
 I.pins_of fun p hp=>(List.mem_append.mp hp).elim (fun z=>I.pin p (List.mem_append_right _ z)) fun z=>by
  obtain ⟨hb,e⟩:=ziX_ z
  obtain ⟨f0,f1,f2,_⟩:=hf p.1 hb
  obtain ⟨o,e',d⟩:=ho p.1 hb
  rw [e] at e'; cases e'
  exact ⟨e,f0,f1,f2,d⟩
theorem Inv.unpinned {pins pl:Pnn}{σ:St}{H:Hp}{s:Shared}(I:Inv X (pins++pl) σ H s):Inv X pins σ H s:=I.pins_of fun p hp=>I.pin p (List.mem_append_right _ (List.mem_append_left _ hp))
theorem zc3_ {iter:Expr}{body:List Stmt}{wi:TI}{g:TG}{tb:TS}{pos:Pos}(hp:PassesOwn (model X.prog X.w) X.A X.env X.xe) (hc:X.calm=true) (hi:PI X tg iter wi) (hg:PG X tg g) (hb:PSs X body tb)
  (hs:∀ x,foldedSetIterable iter X.env x=pure x:=by intro _; rfl):PS X (.For tg iter body [] pos) (tFor wi g tb):=by
 intro pins s σ H D I h
 refine wpAny_For (thn (hi pins s σ H _ I h) fun v s1 h1=>thn h1 fun itv s2 h2=>?_) hs
 obtain ⟨it,fp,tn,J,H2,e,I2,T,st2,f2,W,⟨m0,w0⟩,turn⟩:=h2
 subst e
 have stat:∀ {H':Hp},(∀ b∈fp,H' b=none)→∀ b∈fp,FpOk X pins H' b:=fun hn b hb=>⟨hn b hb,(f2 b hb).2⟩
 refine codeAny_forLoop_any (fun n s'=>∃ i σ' H',Inv X pins σ' H' s'∧tn i s'.heap∧(∀ b∈fp,H' b=none)∧W i n σ' H') ?_ m0 ⟨0,σ,H2,I2,st2,fun b hb=>(f2 b hb).1,w0⟩
 rintro n s3 ⟨i,σ3,H3,I3,st3,fr3,w3⟩
 rcases turn i n σ3 H3 w3 with ⟨stop,qn⟩ | ⟨go,N,hN,step⟩
 ·refine wpAny_passesOwn hp (thn (T.done X rfl rfl rfl hc i pins s3 σ3 H3 X.xe I3 (stat fr3) st3 stop) fun r s4 hq_=>?_)
  obtain ⟨hr,I4⟩:=hq_
  subst hr
  exact wpAny_execs_nil ⟨σ3,H3,I4,qn⟩
 ·refine wpAny_passesOwn hp (thn (T.item X rfl rfl rfl hc i pins s3 σ3 H3 X.xe I3 (stat fr3) st3 go) fun r s4 hq_=>?_)
  obtain ⟨u,hr,h4⟩:=hq_
  subst hr
  refine wpAny_passesOwn hp (thn h4 fun _ s5 hq_=>?_)
  obtain ⟨x,H5,I5,r5,y5,st5,fr5⟩:=hq_
  have I5':=I5.pinned (stat fr5) (T.obj _ _ st5)
  refine wpAny_passesOwn hp (thn (hg _ s5 σ3 H5 x u _ I5' r5 (step x H5 y5)) fun _ s6 hq_=>?_)
  obtain ⟨σ6,H6,I6,q6⟩:=hq_
  refine wpAny_passesOwn hp (thn (hb _ s6 σ6 H6 _ I6 q6) fun f s7 q7=>?_)
  have again:∀ {σ7:St}{H7:Hp},Inv X (pins++pinsAt fp s5.heap) σ7 H7 s7→N σ7 H7→∃ m,m<n∧∃ i σ' H',Inv X pins σ' H' s7∧tn i s7.heap∧(∀ b∈fp,H' b=none)∧W i m σ' H':=fun {σ7 H7} I7 n7=>by
   obtain ⟨m',hm,w7⟩:=hN σ7 H7 n7
   refine ⟨m',hm,i+1,σ7,H7,I7.unpinned,T.keep _ _ _ st5 fun b hb o e=>(I7.pin (b,o) (List.mem_append_right _ (List.mem_append_right _ (zbN_ hb e)))).1,fun b hb=>?_,w7⟩
   obtain ⟨o,e,d⟩:=T.obj _ _ st5 b hb
   exact (I7.pin (b,o) (List.mem_append_right _ (List.mem_append_right _ (zbN_ hb e)))).2.1
  cases f with
  | next=>obtain ⟨σ7,H7,I7,n7⟩:=q7; exact again I7 n7
  | cont=>obtain ⟨σ7,H7,I7,n7⟩:=q7; exact again I7 n7
  | brk=>obtain ⟨σ7,H7,I7,q7⟩:=q7; exact ⟨σ7,H7,I7.unpinned,q7⟩
  | ret v=>obtain ⟨x7,σ7,H7,I7,r7,q7⟩:=q7; exact ⟨x7,σ7,H7,I7.unpinned,r7,q7⟩
end
end L2
namespace L2
open PySem PySem.Spec PyProof.Rows
abbrev R2:=V→V→Hp→VK→Prop
def OpR (X:Cx) (f:Value→Value→Sem Value) (r:R2):Prop :=
 ∀ (pins:Pnn) (s:Shared) (σ:St) (H:Hp) (x y:V) (v u:Value) (Q:VK),Inv X pins σ H s→RelV x v→RelV y u→r x y H Q →
  wpAny (model X.prog X.w) X.A (f v u) (EP X pins σ Q) X.xe s
def UnR (X:Cx) (f:Value→Sem Value) (r:V→Hp→VK→Prop):Prop :=
 ∀ (pins:Pnn) (s:Shared) (σ:St) (H:Hp) (x:V) (v:Value) (Q:VK),Inv X pins σ H s→RelV x v→r x H Q →
  wpAny (model X.prog X.w) X.A (f v) (EP X pins σ Q) X.xe s
def CallR (X:Cx) (f:Value) (r:List V→Hp→VK→Prop):Prop :=
 ∀ (pins:Pnn) (s:Shared) (σ:St) (H:Hp) (xs:List V) (us:List Value) (Q:VK),Inv X pins σ H s→Vals xs us→r xs H Q →
  wpAny (model X.prog X.w) X.A (call f us) (EP X pins σ Q) X.xe s
def tOp (r:R2) (ta tb:TE):TE:=fun σ H Q=>ta σ H fun x H1=>tb σ H1 fun y H2=>r x y H2 Q
def tUn (r:V→Hp→VK→Prop) (ta:TE):TE:=fun σ H Q=>ta σ H fun x H1=>r x H1 Q
def rI (C:Int→Int→Prop) (g:Int→Int→V):R2:=fun x y H Q=>∃ i j,x=.int i∧y=.int j∧C i j∧Q (g i j) H
def rI0 (g:Int→Int→V):R2:=fun x y H Q=>∃ i j,x=.int i∧y=.int j∧Q (g i j) H
def rU (g:Int→V):V→Hp→VK→Prop:=fun x H Q=>∃ i,x=.int i∧Q (g i) H
section
variable {X:Cx}{a b c:Expr}{ta tb tc:TE}{pos:Pos}
theorem binT (ha:PE X a ta) (hb:PE X b tb) {pins:Pnn}{s:Shared}{σ:St}{H:Hp}{R:V→V→Hp→Prop}(I:Inv X pins σ H s)
  (h:ta σ H fun x H1=>tb σ H1 fun y H2=>R x y H2) {Q:Value→Shared→Prop}{f:Value→Value→Sem Value}
  (hf:∀ v u s2 x y H2,Inv X pins σ H2 s2→RelV x v→RelV y u→R x y H2→wpAny (model X.prog X.w) X.A (f v u) Q X.xe s2) :
  wpAny (model X.prog X.w) X.A (eval a X.env) (fun v s₁=>wpAny (model X.prog X.w) X.A (eval b X.env) (fun u s₂=>wpAny (model X.prog X.w) X.A (f v u) Q X.xe s₂) X.xe s₁) X.xe s:=by
 refine thn (ha pins s σ H _ I h) fun v s1 hq_=>?_
 obtain ⟨x,H1,I1,r1,q1⟩:=hq_
 refine thn (hb pins s1 σ H1 _ I1 q1) fun u s2 hq_=>?_
 obtain ⟨y,H2,I2,r2,q2⟩:=hq_
 exact hf v u s2 x y H2 I2 r1 r2 q2
theorem zw_ {op:Operator}{r:R2}(ho:OpR X (binaryOp op) r) (ha:PE X a ta) (hb:PE X b tb):PE X (.BinOp a op b pos) (tOp r ta tb):=by
 intro pins s σ H Q I h
 exact wpAny_BinOp (binT ha hb I h fun v u s2 x y H2 I2 rx ry q=>ho pins s2 σ H2 x y v u Q I2 rx ry q)
theorem opI {f:Value→Value→Sem Value}{C:Int→Int→Prop}{g:Int→Int→Int}
  (rule:∀ (i j:Int) (t u:Tok) (s:Shared) (Q:Value→Shared→Prop) (E:Value→Shared→Prop),C i j→Q (.int (g i j) s.toks) { s with toks:=s.toks+1 }→wpAny (model X.prog X.w) X.A (f (.int i t) (.int j u)) Q E s) :
  OpR X f (rI C fun i j=>.int (g i j)):=by
 intro pins s σ H x y v u Q I rx ry h
 obtain ⟨i,j,rfl,rfl,hc,q⟩:=h
 obtain ⟨t,rfl⟩:=rx
 obtain ⟨t',rfl⟩:=ry
 exact rule i j t t' s _ _ hc ⟨.int (g i j),H,I.tok _,⟨_,rfl⟩,q⟩
theorem opI0 {f:Value→Value→Sem Value}{g:Int→Int→Int}
  (rule:∀ (i j:Int) (t u:Tok) (s:Shared) (Q:Value→Shared→Prop) (E:Value→Shared→Prop),Q (.int (g i j) s.toks) { s with toks:=s.toks+1 }→wpAny (model X.prog X.w) X.A (f (.int i t) (.int j u)) Q E s) :
  OpR X f (rI0 fun i j=>.int (g i j)):=by
 intro pins s σ H x y v u Q I rx ry h
 obtain ⟨i,j,rfl,rfl,q⟩:=h
 obtain ⟨t,rfl⟩:=rx
 obtain ⟨t',rfl⟩:=ry
 exact rule i j t t' s _ _ ⟨.int (g i j),H,I.tok _,⟨_,rfl⟩,q⟩
theorem opB0 {f:Value→Value→Sem Value}{g:Int→Int→Bool}
  (rule:∀ (i j:Int) (t u:Tok) (s:Shared) (Q:Value→Shared→Prop) (E:Value→Shared→Prop),Q (.bool (g i j)) s→wpAny (model X.prog X.w) X.A (f (.int i t) (.int j u)) Q E s) :
  OpR X f (rI0 fun i j=>.bl (g i j)):=by
 intro pins s σ H x y v u Q I rx ry h
 obtain ⟨i,j,rfl,rfl,q⟩:=h
 obtain ⟨t,rfl⟩:=rx
 obtain ⟨t',rfl⟩:=ry
 exact rule i j t t' s _ _ ⟨.bl (g i j),H,I,rfl,q⟩
def CDiv (i j:Int):Prop:=0<j∧j<1073741824
def CPow (i j:Int):Prop:=0≤j∧j≤1000000∧i.natAbs<2 ^ 64
def CMul (i j:Int):Prop:=(-(2 ^ 64)<i∧i<2 ^ 64)∨(-(2 ^ 64)<j∧j<2 ^ 64)
theorem CMul.ok {i j:Int}(h:CMul i j):IntMulOk i j:=by
 rcases h with ⟨h1,h2⟩ | ⟨h1,h2⟩
 ·exact .of_left (intBits_le_64 h1 h2)
 ·exact .of_right (intBits_le_64 h1 h2)
theorem zoD_:OpR X (binaryOp .Add) (rI0 fun i j=>.int (i+j)):=opI0 fun _ _ _ _ _ _ _ q=>add_int q
theorem znU_:OpR X (binaryOp .Sub) (rI0 fun i j=>.int (i-j)):=opI0 fun _ _ _ _ _ _ _ q=>sub_int q
theorem zou_:OpR X (binaryOp .Mod) (rI (fun _ j=>0<j) fun i j=>.int (i % j)):=opI fun i j _ _ _ _ _ hc q=>by
 have h1:(0:Int)<j:=hc
 exact mod_int' (by lia) (by rw [Int.fmod_eq_emod_of_nonneg i (by lia)]; exact q)
theorem zoG_:OpR X (binaryOp .Pow) (rI CPow fun i j=>.int (i ^ j.toNat)):=opI fun _ _ _ _ _ _ _ hc q=>pow_int_small hc.1 hc.2.1 hc.2.2 q
theorem unI {f:Value→Sem Value}{g:Int→Int}
  (rule:∀ (i:Int) (t:Tok) (s:Shared) (Q:Value→Shared→Prop) (E:Value→Shared→Prop),Q (.int (g i) s.toks) { s with toks:=s.toks+1 }→wpAny (model X.prog X.w) X.A (f (.int i t)) Q E s) :
  UnR X f (rU fun i=>.int (g i)):=by
 intro pins s σ H x v Q I rx h
 obtain ⟨i,rfl,q⟩:=h
 obtain ⟨t,rfl⟩:=rx
 exact rule i t s _ _ ⟨.int (g i),H,I.tok _,⟨_,rfl⟩,q⟩
theorem znL_:UnR X (unaryOp .USub) (rU fun i=>.int (-i)):=unI fun _ _ _ _ _ q=>neg_int q
end
def scal:V→V→Bool
 | .non,.non=>true | .non,.int _=>true | .int _,.non=>true | .non,.bl _=>true | .bl _,.non=>true | .non,.str _=>true | .str _,.non=>true
 | .int _,.int _=>true | .bl _,.bl _=>true | .str _,.str _=>true | .byt _,.byt _=>true
 | .int _,.str _=>true | .str _,.int _=>true | .bl _,.str _=>true | .str _,.bl _=>true
 | _,_=>false
def rEq:R2:=fun x y H Q=>scal x y=true∧Q (.bl (decide (x=y))) H
def rNe:R2:=fun x y H Q=>scal x y=true∧Q (.bl (!decide (x=y))) H
theorem zjZ_ {i j:Int}:decide (V.int i=V.int j)=(i == j):=by
 rw [Bool.eq_iff_iff]
 simp
theorem zl6_ {i j:Bool}:decide (V.bl i=V.bl j)=(i == j):=by
 rw [Bool.eq_iff_iff]
 simp
theorem zjK_ {i j:Str}:decide (V.str i=V.str j)=(i == j):=by
 rw [Bool.eq_iff_iff]
 simp
theorem zj7_ {i j:Array UInt8}:decide (V.byt i=V.byt j)=(i.toList == j.toList):=by
 rw [Bool.eq_iff_iff]
 cases i
 cases j
 simp
section
variable {X:Cx}{a b c:Expr}{ta tb tc:TE}{pos:Pos}
theorem zL_ {pins:Pnn}{σ:St}{H:Hp}{s:Shared}{Q:VK}{k k':Bool}(I:Inv X pins σ H s) (q:Q (.bl k) H) (e:k=k'):EP X pins σ Q (.bool k') s:=by
 subst e
 exact ⟨.bl k,H,I,rfl,q⟩
theorem op_eq:OpR X (compareOp .Eq) rEq:=by
 intro pins s σ H x y v u Q I rx ry h
 obtain ⟨hs,q⟩:=h
 cases x with
 | non =>
  cases rx
  cases y with
  | non=>cases ry; exact PySem.EqNone.eq_none_none (zL_ I q (by simp))
  | bl j=>cases ry; exact PySem.EqNone.eq_none_bool (zL_ I q (by simp))
  | int j=>obtain ⟨t',rfl⟩:=ry; exact PySem.EqNone.eq_none_int (zL_ I q (by simp))
  | str j=>obtain ⟨t',rfl⟩:=ry; exact PySem.EqNone.eq_none_str (zL_ I q (by simp))
  | _=>exact absurd (show false=true from hs) Bool.false_ne_true
 | bl i =>
  cases rx
  cases y with
  | non=>cases ry; exact PySem.EqNone.eq_bool_none (zL_ I q (by simp))
  | bl j=>cases ry; exact eq_bool (zL_ I q zl6_)
  | str j=>obtain ⟨t',rfl⟩:=ry; exact PySem.EqMixed.eq_bool_str (zL_ I q (by simp))
  | _=>exact absurd (show false=true from hs) Bool.false_ne_true
 | int i =>
  obtain ⟨t,rfl⟩:=rx
  cases y with
  | non=>cases ry; exact PySem.EqNone.eq_int_none (zL_ I q (by simp))
  | int j=>obtain ⟨t',rfl⟩:=ry; exact eq_int (zL_ I q zjZ_)
  | str j=>obtain ⟨t',rfl⟩:=ry; exact PySem.EqMixed.eq_int_str (zL_ I q (by simp))
  | _=>exact absurd (show false=true from hs) Bool.false_ne_true
 | str i =>
  obtain ⟨t,rfl⟩:=rx
  cases y with
  | non=>cases ry; exact PySem.EqNone.eq_str_none (zL_ I q (by simp))
  | bl j=>cases ry; exact PySem.EqMixed.eq_str_bool (zL_ I q (by simp))
  | int j=>obtain ⟨t',rfl⟩:=ry; exact PySem.EqMixed.eq_str_int (zL_ I q (by simp))
  | str j=>obtain ⟨t',rfl⟩:=ry; exact eq_str (zL_ I q zjK_)
  | _=>exact absurd (show false=true from hs) Bool.false_ne_true
 | byt i =>
  obtain ⟨t,rfl⟩:=rx
  cases y with
  | byt j=>obtain ⟨t',rfl⟩:=ry; exact PySem.W.eq_bytes (zL_ I q zj7_)
  | _=>exact absurd (show false=true from hs) Bool.false_ne_true
 | _=>cases y<;>exact absurd (show false=true from hs) Bool.false_ne_true
theorem op_ne:OpR X (compareOp .NotEq) rNe:=by
 intro pins s σ H x y v u Q I rx ry h
 obtain ⟨hs,q⟩:=h
 cases x with
 | non =>
  cases rx
  cases y with
  | non=>cases ry; exact PySem.EqNone.ne_none_none (zL_ I q (by simp))
  | bl j=>cases ry; exact PySem.EqNone.ne_none_bool (zL_ I q (by simp))
  | int j=>obtain ⟨t',rfl⟩:=ry; exact PySem.EqNone.ne_none_int (zL_ I q (by simp))
  | str j=>obtain ⟨t',rfl⟩:=ry; exact PySem.EqNone.ne_none_str (zL_ I q (by simp))
  | _=>exact absurd (show false=true from hs) Bool.false_ne_true
 | bl i =>
  cases rx
  cases y with
  | non=>cases ry; exact PySem.EqNone.ne_bool_none (zL_ I q (by simp))
  | bl j=>cases ry; exact ne_bool (zL_ I q (congrArg not zl6_))
  | str j=>obtain ⟨t',rfl⟩:=ry; exact PySem.EqMixed.ne_bool_str (zL_ I q (by simp))
  | _=>exact absurd (show false=true from hs) Bool.false_ne_true
 | int i =>
  obtain ⟨t,rfl⟩:=rx
  cases y with
  | non=>cases ry; exact PySem.EqNone.ne_int_none (zL_ I q (by simp))
  | int j=>obtain ⟨t',rfl⟩:=ry; exact ne_int (zL_ I q (congrArg not zjZ_))
  | str j=>obtain ⟨t',rfl⟩:=ry; exact PySem.EqMixed.ne_int_str (zL_ I q (by simp))
  | _=>exact absurd (show false=true from hs) Bool.false_ne_true
 | str i =>
  obtain ⟨t,rfl⟩:=rx
  cases y with
  | non=>cases ry; exact PySem.EqNone.ne_str_none (zL_ I q (by simp))
  | bl j=>cases ry; exact PySem.EqMixed.ne_str_bool (zL_ I q (by simp))
  | int j=>obtain ⟨t',rfl⟩:=ry; exact PySem.EqMixed.ne_str_int (zL_ I q (by simp))
  | str j=>obtain ⟨t',rfl⟩:=ry; exact ne_str (zL_ I q (congrArg not zjK_))
  | _=>exact absurd (show false=true from hs) Bool.false_ne_true
 | byt i =>
  obtain ⟨t,rfl⟩:=rx
  cases y with
  | byt j=>obtain ⟨t',rfl⟩:=ry; exact PySem.W.ne_bytes (zL_ I q (congrArg not zj7_))
  | _=>exact absurd (show false=true from hs) Bool.false_ne_true
 | _=>cases y<;>exact absurd (show false=true from hs) Bool.false_ne_true
theorem op_lt:OpR X (compareOp .Lt) (rI0 fun i j=>.bl (decide (i<j))):=opB0 fun _ _ _ _ _ _ _ q=>lt_int q
theorem op_gt:OpR X (compareOp .Gt) (rI0 fun i j=>.bl (decide (j<i))):=opB0 fun _ _ _ _ _ _ _ q=>gt_int q
theorem zjl_:OpR X (compareOp .Lt) (fun x y H Q=>∃ i j,x=.str i∧y=.str j∧Q (.bl (decide (i.cps.toList<j.cps.toList))) H):=by
 intro pins s σ H x y v u Q I rx ry h
 obtain ⟨i,j,rfl,rfl,q⟩:=h
 obtain ⟨t,rfl⟩:=rx
 obtain ⟨t',rfl⟩:=ry
 exact lt_str (zL_ I q rfl)
theorem zjp_:OpR X (compareOp .In) (fun x y H Q=>∃ i j,x=.str i∧y=.str j∧Q (.bl (!(Builtin.Str.occurrences j i 0 j.length 1).isEmpty)) H):=by
 intro pins s σ H x y v u Q I rx ry h
 obtain ⟨i,j,rfl,rfl,q⟩:=h
 obtain ⟨t,rfl⟩:=rx
 obtain ⟨t',rfl⟩:=ry
 exact in_str (zL_ I q rfl)
theorem zm9_:OpR X (compareOp .IsNot) (fun x y H Q=>y=.non∧Q (.bl (!decide (x=.non))) H):=by
 intro pins s σ H x y v u Q I rx ry h
 obtain ⟨rfl,q⟩:=h
 cases ry
 refine isnot_none_gen (zL_ I q ?_)
 cases x<;>first
  | (cases rx; rfl)
  | (obtain ⟨t,rfl⟩:=rx; rfl)
theorem zfx_:OpR X (compareOp .NotIn) (fun x y H Q=>∃ i j,x=.str i∧y=.str j∧Q (.bl (!(!(Builtin.Str.occurrences j i 0 j.length 1).isEmpty))) H):=by
 intro pins s σ H x y v u Q I rx ry h
 obtain ⟨i,j,rfl,rfl,q⟩:=h
 obtain ⟨t,rfl⟩:=rx
 obtain ⟨t',rfl⟩:=ry
 exact notIn_str (zL_ I q rfl)
theorem zmT_ {op:CmpOp}{r:R2}(ho:OpR X (compareOp op) r) (ha:PE X a ta) (hb:PE X b tb) (hm:behindInMarks op b=false):PE X (.Compare a [op] [b] pos) (tOp r ta tb):=by
 intro pins s σ H Q I h
 exact wpAny_Compare1 (binT ha hb I h fun v u s2 x y H2 I2 rx ry q=>ho pins s2 σ H2 x y v u Q I2 rx ry q) hm
theorem line63:(sizeLine:Nat)<2 ^ 63:=by rw [sizeLine_eq]; decide
theorem zik_:OpR X (binaryOp .Add) (fun x y H Q=>∃ i j,x=.str i∧y=.str j∧i.length+j.length≤sizeLine∧Q (.str (i++j)) H):=by
 intro pins s σ H x y v u Q I rx ry h
 obtain ⟨i,j,rfl,rfl,hz,q⟩:=h
 obtain ⟨t,rfl⟩:=rx
 obtain ⟨t',rfl⟩:=ry
 exact add_str (fun t' tk=>⟨.str (i++j),H,I.tok _,⟨_,rfl⟩,q⟩) hz
theorem vals1 {x:V}{us:List Value}(r:Vals [x] us):∃ u,us=[u]∧RelV x u:=by
 cases r with
 | cons r1 r2=>cases r2; exact ⟨_,rfl,r1⟩
theorem vals2 {x y:V}{us:List Value}(r:Vals [x,y] us):∃ u w',us=[u,w']∧RelV x u∧RelV y w':=by
 cases r with
 | cons r1 r2 =>
  cases r2 with
  | cons r3 r4=>cases r4; exact ⟨_,_,rfl,r1,r3⟩
end
end L2
namespace L2
open PySem PySem.Spec PyProof.Rows
structure ObjM (h:Heap) (x dx C:Addr) (mA:Str→Option Value):Prop where
 obj:h.get? x=some (PySem.W.instObj C dx)
 ns:h.Ns1 dx mA
 ne:dx≠x
theorem zjx_ {h:Heap}{dx:Addr}{mA:Str→Option Value}(n:h.Ns1 dx mA):∃ od,h.get? dx=some od∧∀ name,PySem.W.lookIn name od=some (mA name):=by
 obtain ⟨o,es,ep,ho,hd,hk,_,hm⟩:=n
 refine ⟨o,ho,fun name=>?_⟩
 have e:=hm name
 unfold nsFind findBy at e
 rw [← Array.find?_toList] at e
 unfold PySem.W.lookIn
 rw [hd]
 dsimp only
 split
 ·rename_i y q
  rw [q] at e
  exact congrArg some e
 ·rename_i q
  rw [q] at e
  have a:es.toList.any (·.refKey)=false:=by
   rw [List.any_eq_false]
   intro y hy
   obtain ⟨z,t,hkey⟩:=hk y (Array.mem_toList_iff.mp hy)
   simp [DictEntry.refKey,hkey]
  have a':¬ es.toList.any (·.refKey)=true:=by rw [a]; exact Bool.false_ne_true
  rw [if_neg a']
  exact congrArg some e
theorem ObjM.look {h:Heap}{x dx C:Addr}{mA:Str→Option Value}(I:ObjM h x dx C mA):∃ od,PySem.W.InstAt h x (PySem.W.instObj C dx) C (some od)∧∀ name,PySem.W.lookIn name od=some (mA name) :=
 let ⟨od,ho,hl⟩:=zjx_ I.ns
 ⟨od,⟨I.obj,rfl,rfl,ho⟩,hl⟩
section
variable {prog:Program}{w:World}{A:Around}{E:Value→Shared→Prop}{s:Shared}{K:Fgg}{x dx C f:Addr}{mA:Str→Option Value}{name:Str}{v:Value}
end
def putF (f:Str) (v:V):List (Str×V)→List (Str×V)
 | []=>[(f,v)]
 | (g,x)::r=>if g=f then (g,v)::r else (g,x)::putF f v r
theorem zdj_ (f g:Str) (v:V):∀ fs:List (Str×V),(putF f v fs).lookup g=if g=f then some v else fs.lookup g
 | []=>by
  show List.lookup g [(f,v)]=_
  by_cases h:g=f
  ·have hb:(g == f)=true:=beq_iff_eq.mpr h
   simp only [List.lookup,hb,if_pos h]
  ·have hb:(g == f)=false:=beq_eq_false_iff_ne.mpr h
   simp only [List.lookup,hb,if_neg h]
 | (k,x)::r=>by
  have ih:=zdj_ f g v r
  rw [show putF f v ((k,x)::r)=(if k=f then (k,v)::r else (k,x)::putF f v r) from rfl]
  by_cases hk:k=f
  ·rw [if_pos hk]
   by_cases h:g=k
   ·have hb:(g == k)=true:=beq_iff_eq.mpr h
    simp only [List.lookup,hb,if_pos (h.trans hk)]
   ·have hb:(g == k)=false:=beq_eq_false_iff_ne.mpr h
    simp only [List.lookup,hb,if_neg (fun e:g=f=>h (e.trans hk.symm))]
  ·rw [if_neg hk]
   by_cases h:g=k
   ·have hb:(g == k)=true:=beq_iff_eq.mpr h
    simp only [List.lookup,hb,if_neg (fun e:g=f=>hk (h.symm.trans e))]
   ·have hb:(g == k)=false:=beq_eq_false_iff_ne.mpr h
    simp only [List.lookup,hb]
    exact ih
theorem zdx_ (f:Str) (v:V):∀ fs:List (Str×V),f∈(putF f v fs).map (·.1)∧∀ g,g∈fs.map (·.1)→g∈(putF f v fs).map (·.1)
 | []=>⟨by simp [putF],fun g h=>by simp at h⟩
 | (k,x)::r=>by
  obtain ⟨i1,i2⟩:=zdx_ f v r
  rw [show putF f v ((k,x)::r)=(if k=f then (k,v)::r else (k,x)::putF f v r) from rfl]
  by_cases hk:k=f
  ·rw [if_pos hk]
   subst hk
   exact ⟨by simp,fun g h=>by simpa using h⟩
  ·rw [if_neg hk]
   refine ⟨?_,fun g h=>?_⟩
   ·rw [List.map_cons]
    exact List.mem_cons_of_mem _ i1
   ·rw [List.map_cons] at h ⊢
    rcases List.mem_cons.mp h with e | e
    ·exact List.mem_cons.mpr (.inl e)
    ·exact List.mem_cons_of_mem _ (i2 g e)
theorem RelO.some_of {v:V}{o:Option Value}(r:RelO (some v) o):∃ u,o=some u∧RelV v u:=by
 cases o with
 | none=>exact (show False from r).elim
 | some u=>exact ⟨u,rfl,r⟩
theorem zjj_ {v:V}{u:Value}(r:RelV v u):PySem.W.handedIn u=true:=by
 cases v with
 | non=>cases (show u=Value.none from r); rfl
 | bl b=>cases (show u=Value.bool b from r); rfl
 | int i=>obtain ⟨t,e⟩:=(show ∃ t,u=Value.int i t from r); cases e; rfl
 | str x=>obtain ⟨t,e⟩:=(show ∃ t,u=Value.str x t from r); cases e; rfl
 | byt b=>obtain ⟨t,e⟩:=(show ∃ t,u=Value.bytes b t from r); cases e; rfl
 | flt b=>obtain ⟨t,e⟩:=(show ∃ t,u=Value.float b t from r); cases e; rfl
 | ref a=>cases (show u=Value.ref a from r); rfl
 | ty n=>cases (show u=Value.type n from r); rfl
section
variable {P:Program}{w:World}{H H':Hp}{h h':Heap}{a C dx:Addr}{fs fs':List (Str×V)}
theorem znA_ (hok:HOk P w H h) (e:H a=some (.ins C dx fs)):∃ mA,ObjM h a dx C mA∧(∀ f,RelO (fs.lookup f) (mA f))∧PySem.Within mA (fs.map (·.1))∧fs.length≤1000∧H dx=some (.own a):=by
 obtain ⟨d,z,ne,ob,mA,n,r,q⟩:=(show ObjOk P w H h a (.ins C dx fs) from hok a _ e)
 exact ⟨mA,⟨ob,n,ne⟩,r,q,z,d⟩
end
structure Cls (K:Fgg) (C:Addr):Prop where
 pg:PySem.W.plainGet K C Str.empty=true
 hd:PySem.W.hasDictIn K C=true
 po:PySem.W.plainOver K C=true
 sa:PySem.W.findIn K (.ref C) "__setattr__" = some (some (.builtin "object.__setattr__"))
theorem Cls.get {K:Fgg}{C:Addr}(c:Cls K C) (f:Str):PySem.W.plainGet K C f=true:=c.pg
section
variable {X:Cx}{pins:Pnn}{σ:St}{H:Hp}{s:Shared}{a C dx:Addr}{fs:List (Str×V)}{f:Str}{v:V}{A:Around}{E:Value→Shared→Prop}
theorem zmI_ {prog:Program}{w:World}{env:Env}{e:Expr}{f:Str}{pos:Pos}{s:Shared}{Q:Value→Shared→Prop}(hb:attributeBase e f env (eval e env)=eval e env)
  (h:wpAny (model prog w) A (eval e env) (fun o s₁=>wpAny (model prog w) A (getAttr o f true) Q E s₁) E s):wpAny (model prog w) A (eval (.Attribute e f pos) env) Q E s :=
 Attribute_any_ h (by rw [arm_eval_Attribute,hb])
end
section
variable {X:Cx}{o e value:Expr}{f:Str}{pos pos' tpos:Pos}{ta tv:TE}
end
section
variable {X:Cx}{pins:Pnn}{σ:St}{H:Hp}{s:Shared}{A:Around}{E:Value→Shared→Prop}{Q:Value→Shared→Prop}{c:Value}{b:Bool}
inductive TyOf (K:Fgg) (H:Hp):V→Value→Prop where
 | non:TyOf K H .non (.type "NoneType")
 | bl (x:Bool):TyOf K H (.bl x) (.type "bool")
 | int (i:Int):TyOf K H (.int i) (.type "int")
 | str (x:Str):TyOf K H (.str x) (.type "str")
 | flt (x:UInt64):TyOf K H (.flt x) (.type "float")
 | lst {a:Addr}{xs:List V}(e:H a=some (.lst xs)):TyOf K H (.ref a) (.type "list")
 | frz {a:Addr}{o:Obj}{xs:List V}(e:H a=some (.frz o (.lst xs))):TyOf K H (.ref a) (.type "list")
 | tup {a:Addr}{xs:List V}(e:H a=some (.tup xs)):TyOf K H (.ref a) (.type "tuple")
 | dK {a:Addr}{kvs:List (Key×V)}(e:H a=some (.dK kvs)):TyOf K H (.ref a) (.type "dict")
 | dT {a:Addr}{kvs:List (List Key×V)}(e:H a=some (.dT kvs)):TyOf K H (.ref a) (.type "dict")
 | ins {a C dx:Addr}{fs:List (Str×V)}(e:H a=some (.ins C dx fs)) (cl:Cls K C) (ha:PySem.W.findIn K (.ref C) "__class__" = some (some (.builtin "object.__class__")))
   (hn:PySem.W.specialIn K (.builtin "object.__class__") "__get__" = some (some (.builtin "getset_descriptor.__get__"))) (htk:PySem.W.takesIn K (.builtin "object.__class__")=some true)
   (hm:PySem.W.mroIn K C (.type "object")=some true):TyOf K H (.ref a) (.ref C)
theorem zjq_ {x:V}{u t:Value}(I:Inv X pins σ H s) (rx:RelV x u) (ty:TyOf X.K H x t) (e:PySem.W.kitOne X.K t c=some b) (h:∀ tk,Q (.bool b) { s with toks:=tk }) :
  wpAny (model X.prog X.w) A (call (.builtin "isinstance") [u,c]) Q E s:=by
 cases ty with
 | non=>cases (show u=Value.none from rx); exact PySem.W.kia_one PySem.W.kitx_none I.kIn True.intro e (fun z=>nomatch z) h
 | bl y=>cases (show u=Value.bool y from rx); exact PySem.W.kia_one PySem.W.kitx_bool I.kIn True.intro e (fun z=>nomatch z) h
 | int i=>obtain ⟨t,q⟩:=(show ∃ t,u=Value.int i t from rx); cases q; exact PySem.W.kia_one PySem.W.kitx_int I.kIn True.intro e (fun z=>nomatch z) h
 | str y=>obtain ⟨t,q⟩:=(show ∃ t,u=Value.str y t from rx); cases q; exact PySem.W.kia_one PySem.W.kitx_str I.kIn True.intro e (fun z=>nomatch z) h
 | flt y=>obtain ⟨t,q⟩:=(show ∃ t,u=Value.float y t from rx); cases q; exact PySem.W.kia_one PySem.W.kitx_float I.kIn True.intro e (fun z=>nomatch z) h
 | @lst a xs ea =>
  cases (show u=Value.ref a from rx)
  obtain ⟨_,_,n,_,h1⟩:=(show ObjOk X.prog X.w H s.heap a (.lst xs) from I.hok a _ ea)
  exact PySem.W.kia_one PySem.W.kitx_list I.kIn ⟨_,h1,rfl⟩ e (fun z=>nomatch z) h
 | @frz a ob xs ea =>
  cases (show u=Value.ref a from rx)
  obtain ⟨_,_,_,n,_,h1⟩:=(show ObjOk X.prog X.w H s.heap a (.frz ob (.lst xs)) from I.hok a _ ea)
  exact PySem.W.kia_one PySem.W.kitx_list I.kIn ⟨_,h1,rfl⟩ e (fun z=>nomatch z) h
 | @tup a xs ea =>
  cases (show u=Value.ref a from rx)
  obtain ⟨_,_,_,p⟩:=(show ObjOk X.prog X.w H s.heap a (.tup xs) from I.hok a _ ea)
  obtain ⟨o,h1,h2,_⟩:=p
  exact PySem.W.kia_one PySem.W.kitx_tuple I.kIn ⟨o,h1,h2⟩ e (fun z=>nomatch z) h
 | @dK a kvs ea =>
  cases (show u=Value.ref a from rx)
  obtain ⟨_,_,vs,_,p⟩:=(show ObjOk X.prog X.w H s.heap a (.dK kvs) from I.hok a _ ea)
  obtain ⟨o,es,ep,h1,h2,_⟩:=p
  exact PySem.W.kia_one PySem.W.kitx_dict I.kIn ⟨o,h1,h2.1⟩ e (fun z=>nomatch z) h
 | @dT a kvs ea =>
  cases (show u=Value.ref a from rx)
  obtain ⟨_,_,xs,_,o,es,ep,h1,h2,_⟩:=(show ObjOk X.prog X.w H s.heap a (.dT kvs) from I.hok a _ ea)
  exact PySem.W.kia_one PySem.W.kitx_dict I.kIn ⟨o,h1,h2.1⟩ e (fun z=>nomatch z) h
 | @ins a C dx fs ea cl ha hn htk hm =>
  cases (show u=Value.ref a from rx)
  obtain ⟨mA,O,_⟩:=znA_ I.hok ea
  obtain ⟨od,J,_⟩:=O.look
  exact PySem.W.kia_one (PySem.W.kitx_own (cl.get _) cl.hd ha hn htk hm) I.kIn J e (fun z=>nomatch z) h
end
end L2
namespace L2
open PySem PySem.Spec PyProof.Rows
structure Room (k:Nat) (A:Around):Prop where
 hd:A.handled=none
 dp:A.depth+3*k+5<recursionLimit
 un:A.units+16*k+200<cLine
theorem Room.mono {j k:Nat}{A:Around}(r:Room k A) (h:j≤k):Room j A:=⟨r.hd,by have:=r.dp; lia,by have:=r.un; lia⟩
theorem Room.deeper {k:Nat}{A:Around}(r:Room (k+1) A) (env:Env):Room k (A.deeper env) :=
 ⟨r.hd,by have:=r.dp; show A.depth+1+3*k+5<_; lia,by have:=r.un; show A.units+3+16*k+200<_; lia⟩
theorem zhi_ {A:Around}{C:Addr}{us:List Value}{kw:List (Str×Value)}:(A.under (.builtin "type.__call__" ⟨.ref C::us,kw⟩)).depth=A.depth+1:=by
 first | rfl | simp [Around.under,Code.weight,Code.isCreation,Code.isGuard,Code.isCaller,Code.frames,Code.isFrame,guardIds]
theorem zh7_ {A:Around}{C:Addr}{us:List Value}{kw:List (Str×Value)}:(A.under (.builtin "type.__call__" ⟨.ref C::us,kw⟩)).units=A.units+1:=by
 first | rfl | simp [Around.under,Code.cUnits,Code.frames,Code.isFrame]
theorem Room.make {k:Nat}{A:Around}(r:Room (k+1) A) (C:Addr) (us:List Value) (kw:List (Str×Value)):Room k (A.under (.builtin "type.__call__" ⟨.ref C::us,kw⟩)) :=
 ⟨r.hd,by have:=r.dp; rw [zhi_]; lia,by have:=r.un; rw [zh7_]; lia⟩
theorem Room.depth {k:Nat}{A:Around}(r:Room k A):A.depth<recursionLimit:=by have:=r.dp; lia
theorem Room.units {k:Nat}{A:Around}(r:Room k A):A.units+64<cLine:=by have:=r.un; lia
def tNil:TA:=fun _ H Q=>Q [] H
def tCons (ta:TE) (tr:TA):TA:=fun σ H Q=>ta σ H fun x H1=>tr σ H1 fun xs H2=>Q (x::xs) H2
section
variable {X:Cx}{e:Expr}{es:List Expr}{te:TE}{t:TA}{pos:Pos}
theorem zh_:PA X [] tNil:=fun _ _ _ _ H Q I h=>Calls.spliced_nil ⟨[],H,I,.nil,h⟩
theorem zb_ (ha:PE X e te) (hr:PA X es t) (hs:starEach (e::es) X.env=(false,eval e X.env)::starEach es X.env:=by rfl):PA X (e::es) (tCons te t):=by
 intro pos pins s σ H Q I h
 rw [hs]
 show wpAny _ _ (spliced ((false,eval e X.env)::backTo pos (starEach es X.env))) _ _ s
 refine Calls.spliced_cons (thn (ha pins s σ H _ I h) fun u s1 hq_=>?_)
 obtain ⟨x,H1,I1,r1,q1⟩:=hq_
 exact thn (hr pos pins s1 σ H1 _ I1 q1) fun us s2 ⟨xs,H2,I2,r2,q2⟩=>⟨x::xs,H2,I2,.cons r1 r2,q2⟩
def tTup (t:TA):TE:=fun σ H Q=>t σ H fun xs H1=>xs.length≤sizeLine∧∀ p,H1 p=none→Q (.ref p) (upd H1 p (.tup xs))
def tLst (t:TA):TE:=fun σ H Q=>t σ H fun xs H1=>xs.length≤sizeLine∧∀ p,H1 p=none→Q (.ref p) (upd H1 p (.lst xs))
theorem zdt_ {x1} (h:PA X es t):PE X (.Tuple es x1 pos) (tTup t):=by
 intro pins s σ H Q I hq
 refine wpAny_Tuple_spliced (thn (h pos pins s σ H _ I hq) fun us s1 ⟨xs,H1,I1,r,z,q⟩=>⟨by rw [← r.length]; exact z,?_⟩)
 have hf:H1 s1.heap.objs.size=none:=I1.hok.fresh (Nat.le_refl _)
 refine ⟨.ref s1.heap.objs.size,upd H1 s1.heap.objs.size (.tup xs),I1.laid (t':=s1.toks) (fun b u e=>Heap.get?_push_of_some _ e) (Nat.le_refl _) ?_,rfl,q _ hf⟩
 exact ⟨z,us,r,⟨_,Heap.get?_push_size _ rfl,rfl,_,rfl⟩⟩
theorem zaD_ (h:PA X es t):PE X (.List es pos) (tLst t):=by
 intro pins s σ H Q I hq
 refine wpAny_List_spliced (thn (h pos pins s σ H _ I hq) fun us s1 ⟨xs,H1,I1,r,z,q⟩=>⟨by rw [← r.length]; exact z,?_⟩)
 have hf:H1 s1.heap.objs.size=none:=I1.hok.fresh (Nat.le_refl _)
 refine ⟨.ref s1.heap.objs.size,upd H1 s1.heap.objs.size (.lst xs),I1.laid (t':=s1.toks) (fun b u e=>Heap.get?_push_of_some _ e) (Nat.le_refl _) ?_,rfl,q _ hf⟩
 exact ⟨z,us,0,r,Heap.get?_push_size _ rfl⟩
end
abbrev Sp:=List V→Hp→VK→XK→Prop
abbrev CXT:=List Env→Hp→Shared→XK→Value→Shared→Prop
structure Env0 (P:Program) (w:World) (K:Fgg) (mg:Str→Option Value) (base:Heap) (A:Around) (outer:List Env) (s:Shared) (H:Hp):Prop where
 frames:A.frames=some outer
 mod:Mod K mg base
 bs:∀ b o,base.get? b=some o→s.heap.get? b=some o∧H b=none
 bsz:base.objs.size≤s.heap.objs.size
 funs:s.heap.FunFrames base outer
 frf:∀ b∈frs outer,H b=none
 hok:HOk P w H s.heap
 bare:AllBare s.gens
def CE (outer:List Env) (P:Program) (w:World) (H:Hp) (s:Shared) (Q:VK) (u:Value) (s':Shared):Prop :=
 ∃ v H',s'.os=s.os∧AllBare s'.gens∧Un (frs outer) [] H H' s.heap s'.heap∧HOk P w H' s'.heap∧RelV v u∧Q v H'
def CR (CX:CXT) (outer:List Env) (P:Program) (w:World) (H:Hp) (s:Shared) (Q:VK) (E:XK) (r:Result) (s':Shared):Prop :=
 match r with
 | .ok (.ret u)=>CE outer P w H s Q u s'
 | .ok _=>False
 | .error e=>CX outer H s E e s'
structure FnOk (P:Program) (w:World) (K:Fgg) (mg:Str→Option Value) (base:Heap) (CX:CXT) (k:Nat) (f:Addr) (fd:FuncData) (ps:List Str) (sp:Sp):Prop where
 len:∀ vs H Q E,sp vs H Q E→vs.length=ps.length
 run:∀ (A:Around) (outer:List Env) (s:Shared) (H:Hp) (args:Args) (us:List Value) (vs:List V) (Q:VK) (E:XK),Room k A→Env0 P w K mg base A outer s H→BindsTo s fd args (ps.zip us)→Vals vs us→sp vs H Q E →
  codeAny (model P w) A (.call (.ref f) args) (CR CX outer P w H s Q E) s
theorem Env0.make {P:Program}{w:World}{K:Fgg}{mg:Str→Option Value}{base:Heap}{A:Around}{outer:List Env}{s:Shared}{H:Hp}(e:Env0 P w K mg base A outer s H) (C:Addr) (us:List Value) (kw:List (Str×Value)) :
  Env0 P w K mg base (A.under (.builtin "type.__call__" ⟨.ref C::us,kw⟩)) outer s H:=⟨by first | exact e.frames | (simpa [Around.under,Code.envs,Code.isFrame,pushEnvs] using e.frames),e.mod,e.bs,e.bsz,e.funs,e.frf,e.hok,e.bare⟩
section
variable {X:Cx}{pins:Pnn}{σ:St}{H:Hp}{s s':Shared}
theorem Inv.env0 (I:Inv X pins σ H s):Env0 X.prog X.w X.K X.mg X.base X.A X.stack s H :=
 ⟨I.ok.frames,I.ok.mod,I.bs,Nat.le_trans I.ok.bsz I.sz,I.stack,I.stkFree,I.hok,I.bare⟩
theorem Inv.after {Q:VK}{u:Value}(I:Inv X pins σ H s) (h:CE X.stack X.prog X.w H s Q u s'):EP X pins σ Q u s':=by
 obtain ⟨v,H',os,bare,un,hok,r,q⟩:=h
 obtain ⟨hh,g,d,t,os'⟩:=s'
 obtain rfl:os'=s.os:=os
 exact ⟨v,H',I.call (h':=hh) (g':=g) (d':=d) (t':=t) (ch:=[]) un hok bare (fun b z=>absurd z (by simp)),r,q⟩
end
def tCall (sp:Sp) (dvs:List V) (E:XK) (t:TA):TE:=fun σ H Q=>t σ H fun vs H1=>sp (vs++dvs) H1 Q E
def Binds (K:Fgg) (fd:FuncData) (ps:List Str) (ds:List Value):Prop :=
 ∀ (s:Shared) (us:List Value),K.In s.heap→(us++ds).length=ps.length→BindsTo s fd ⟨us,[]⟩ (ps.zip (us++ds))
theorem Binds.all {K:Fgg}{fd:FuncData}{ps:List Str}(h:∀ us:List Value,us.length=ps.length→bindArgs fd ⟨us,[]⟩=pure (ps.zip us)):Binds K fd ps []:=fun s us _ hl=>by
 rw [List.append_nil] at hl ⊢
 exact .of_eq (h us hl)
def Passes (CX:CXT) (X:Cx) (E:XK):Prop:=∀ (pins:Pnn) (σ:St) (H:Hp) (s:Shared) (e:Value) (s':Shared),Inv X pins σ H s→CX X.stack H s E e s'→X.xe e s'
section
variable {X:Cx}{CX:CXT}{k:Nat}{f C:Addr}{fd:FuncData}{ps:List Str}{sp:Sp}{dvs:List V}{ds:List Value}{E:XK}{x m:Str}{p pos apos:Pos}{e o:Expr}{es:List Expr}{ta:TE}{t:TA}
theorem znK_ {pins:Pnn}{σ:St}{H:Hp}{s:Shared}{Q:VK}{us:List Value}{vs:List V}(F:FnOk X.prog X.w X.K X.mg X.base CX k f fd ps sp) (hr:Room k X.A) (hb:Binds X.K fd ps ds) (hd:Vals dvs ds) (hx:Passes CX X E)
  (I:Inv X pins σ H s) (r:Vals vs us) (h:sp (vs++dvs) H Q E):wpAny (model X.prog X.w) X.A (call (.ref f) us) (EP X pins σ Q) X.xe s:=by
 have r2:Vals (vs++dvs) (us++ds):=r.append hd
 have hl:(us++ds).length=ps.length:=by rw [← r2.length]; exact F.len _ _ _ _ h
 refine wpAny_call (codeAny_mono (F.run X.A X.stack s H ⟨us,[]⟩ (us++ds) (vs++dvs) Q E hr I.env0 (hb s us I.kIn hl) r2 h) fun r s' hq=>?_)
 cases r with
 | error e=>exact hx pins σ H s e s' I hq
 | ok fl =>
  cases fl with
  | ret u=>exact I.after hq
  | next=>exact False.elim hq
  | brk=>exact False.elim hq
  | cont=>exact False.elim hq
theorem zjH_ (F:FnOk X.prog X.w X.K X.mg X.base CX k f fd ps sp) (hr:Room k X.A) (hg:Gl X x) (hm:X.mg x=some (.ref f)) (hk:PySem.W.keepIn X.K (.ref f)=true) (hb:Binds X.K fd ps ds) (hd:Vals dvs ds) (hx:Passes CX X E)
  (ha:PA X (e::es) t) (hdb:(x == ("__debug__" : Str))=false:=by decide) (he:starEach (e::es) X.env=(false,eval e X.env)::starEach es X.env:=by rfl) (hpl:(backTo pos (starEach es X.env)).any (·.1)=false:=by rfl) :
  PE X (.Call (.Name x p) (e::es) [] pos) (tCall sp dvs E t):=by
 intro pins s σ H Q I h
 refine wpAny_Call_Name_kw (zcS_ I hg hm ?_ hdb)
 refine PySem.W.callWith_K (h₀:=X.base) I.ok.mod.kin hk (thn (ha pos pins s σ H _ I h) fun us s1 ⟨vs,H1,I1,r,q⟩=>⟨I1.kIn,?_⟩) he hpl
 exact znK_ F hr hb hd hx I1 r q
end
section
variable {X:Cx}{CX:CXT}{k:Nat}{f C:Addr}{fd:FuncData}{ps ks:List Str}{sp:Sp}{E:XK}{x m:Str}{p pos apos kpos:Pos}{e o:Expr}{es:List Expr}{kws:List Keyword}{te ta:TE}{t tk:TA}{nm:Option Str}
variable {g:List Value→List Value→List Value}{gV:List V→List V→List V}
end
structure FnScope (N P:List Str) (sc:Scope):Prop where
 kind:sc.kind=.function
 co:sc.isCoroutine=false
 gen:sc.isGenerator=false
 nd:N.Nodup
 pre:N.take P.length=P
 par:∀ x∈P,sc.names.lookup x=some .local∨sc.names.lookup x=some .cell
 nofree:∀ y∈sc.names,y.2≠.free
theorem zfM_ {kindOf:Str→Option NameKind}{x:Str}:∀ {binds:List (Str×Value)}{m:Str→Option Value},(∀ v,(x,v)∉binds)→bindL kindOf binds m x=m x
 | [],_,_=>rfl
 | (n,v)::r,m,h=>by
  unfold bindL
  rw [zfM_ fun w hw=>h w (List.mem_cons_of_mem _ hw)]
  split
  ·have:x≠n:=by rintro rfl; exact h v List.mem_cons_self
   simp [this]
  ·rfl
theorem zgf_ {kindOf:Str→Option NameKind}{x:Str}:∀ {binds:List (Str×Value)}{m:Str→Option Value},(∀ v,(x,v)∉binds)→bindC kindOf binds m x=m x
 | [],_,_=>rfl
 | (n,v)::r,m,h=>by
  unfold bindC
  rw [zgf_ fun w hw=>h w (List.mem_cons_of_mem _ hw)]
  split
  ·rfl
  ·have:x≠n:=by rintro rfl; exact h v List.mem_cons_self
   simp [this]
theorem zf2_ {kindOf:Str→Option NameKind}{x:Str}{v:Value}:∀ {P:List Str}{vs:List Value}{i:Nat}{m:Str→Option Value},P.Nodup→P[i]?=some x→vs[i]?=some v→kindOf x=some .local →
  bindL kindOf (P.zip vs) m x=some v
 | [],_,_,_,_,h,_,_=>by simp at h
 | _::_,[],_,_,_,_,h,_=>by simp at h
 | p::P,w::vs,0,m,nd,h1,h2,hk=>by
  simp at h1 h2; subst h1; subst h2
  show bindL kindOf ((p,w)::P.zip vs) m p=_
  unfold bindL
  rw [zfM_ fun v hv=>(List.nodup_cons.mp nd).1 (List.of_mem_zip hv).1,if_pos hk]
  simp
 | p::P,w::vs,i+1,m,nd,h1,h2,hk=>by
  show bindL kindOf ((p,w)::P.zip vs) m x=_
  unfold bindL
  exact zf2_ (i:=i) (List.nodup_cons.mp nd).2 (by simpa using h1) (by simpa using h2) hk
theorem zfX_ {kindOf:Str→Option NameKind}{x:Str}{v:Value}:∀ {P:List Str}{vs:List Value}{i:Nat}{m:Str→Option Value},P.Nodup→P[i]?=some x→vs[i]?=some v→kindOf x≠some .local →
  bindC kindOf (P.zip vs) m x=some v
 | [],_,_,_,_,h,_,_=>by simp at h
 | _::_,[],_,_,_,_,h,_=>by simp at h
 | p::P,w::vs,0,m,nd,h1,h2,hk=>by
  simp at h1 h2; subst h1; subst h2
  show bindC kindOf ((p,w)::P.zip vs) m p=_
  unfold bindC
  rw [zgf_ fun v hv=>(List.nodup_cons.mp nd).1 (List.of_mem_zip hv).1,if_neg hk]
  simp
 | p::P,w::vs,i+1,m,nd,h1,h2,hk=>by
  show bindC kindOf ((p,w)::P.zip vs) m x=_
  unfold bindC
  exact zfX_ (i:=i) (List.nodup_cons.mp nd).2 (by simpa using h1) (by simpa using h2) hk
def start (N:List Str) (vs:List V):St:=vs.map some++List.replicate (N.length-vs.length) none
def cxOf (CX:CXT) (P:Program) (w:World) (K:Fgg) (mg:Str→Option Value) (base:Heap) (N:List Str) (qual:Str) (scope:Scope) (f:Addr) (cd:Value) (A:Around) (outer:List Env) (s:Shared) (H:Hp) (E:XK):Cx where
 prog:=P
 w:=w
 K:=K
 mg:=mg
 base:=base
 A:=A.deeper (envOfC qual scope s.heap.objs.size f cd)
 N:=N
 s₀:=s
 H₀:=H
 env:=envOfC qual scope s.heap.objs.size f cd
 outer:=outer
 stack:=envOfC qual scope s.heap.objs.size f cd::outer
 ex:=[]
 calm:=true
 fn:=fun _=>true
 pn:=[]
 xe:=fun e s'=>wpAny (model P w) (A.deeper (envOfC qual scope s.heap.objs.size f cd)) (leaving (envOfC qual scope s.heap.objs.size f cd) e) (fun _ s''=>CX outer H s E e s'') (fun e' s''=>CX outer H s E e' s'') s'
theorem zhI_ {sc:Scope}{n:Nat}{x:Str}(h:sc.names.lookup x=some .cell):∃ c,(cellsFrom n sc.names []).lookup x=some c:=by
 have q:=PySem.W.cellsFrom_some sc.names n [] (.inl h)
 exact Option.isSome_iff_exists.mp q
theorem zf0_ {CX:CXT}{P:Program}{w:World}{K:Fgg}{mg:Str→Option Value}{base:Heap}{N ps:List Str}{qual:Str}{scope:Scope}{f:Addr}{cd:Value}{A:Around}{outer:List Env}{s s1:Shared}{H:Hp}{E:XK}{us:List Value}{vs:List V}
  (S:FnScope N ps scope) (hd:A.handled=none) (e0:Env0 P w K mg base A outer s H) (hl:vs.length=ps.length) (r:Vals vs us)
  (x:InCallC s s.heap.objs.size (bindL (envOfC qual scope s.heap.objs.size f cd).kindOf (ps.zip us) fun _=>none) (cellsFrom (s.heap.objs.size+1) scope.names []) (bindC (envOfC qual scope s.heap.objs.size f cd).kindOf (ps.zip us) fun _=>none) s1) :
  Inv (cxOf CX P w K mg base N qual scope f cd A outer s H E) [] (start N vs) H s1:=by
 have hpl:ps.length≤N.length:=by have:=congrArg List.length S.pre; rw [List.length_take] at this; lia
 obtain ⟨h1,tk,rfl,hk⟩:=x.done
 have noA:∀ b:Addr,b∉(cxOf CX P w K mg base N qual scope f cd A outer s H E).ex:=fun b z=>absurd (show b∈([]:List Addr) from z) (by simp)
 refine ⟨⟨e0.mod,S.kind,rfl,rfl,Nat.le_refl _,fun y z c h1 h2=>?_,fun y hy=>?_,fun y c _ h=>?_,fun _=>hd,Around.frames_deeper e0.frames,.inr ⟨rfl,rfl⟩,fun b z=>absurd z (noA b),e0.bs,e0.bsz,fun b _ _=>noA b,fun b z=>absurd z (noA b),e0.funs,e0.frf⟩,
  rfl,e0.bare,Un.kept hk,⟨_,x.toInCall.ns,fun i y v h1 h2 h3=>?_⟩,fun y c h=>⟨_,x.cell y c h⟩,e0.hok.fresh (Nat.le_refl _),fun y c h=>?_,fun p hp=>absurd (show p∈([]:Pnn) from hp) (by simp),e0.hok.kept hk,?_⟩
 ·exact name_of_addr x.apart (PySem.mem_of_lookup h1) (PySem.mem_of_lookup h2)
 ·have hy:scope.names.lookup y=some .cell∨scope.names.lookup y=some .free:=hy
  rcases hy with hy | hy
  ·exact zhI_ hy
  ·exact absurd rfl (S.nofree _ (PySem.mem_of_lookup hy))
 ·exact Nat.le_of_lt (x.above y c (PySem.mem_of_lookup h))
 ·have hi:i<vs.length:=by
   unfold start at h2
   by_cases hi:i<vs.length
   ·exact hi
   ·rw [List.getElem?_append_right (by simpa using hi)] at h2
    rw [List.getElem?_replicate] at h2
    split at h2<;>cases h2
  have ha:vs[i]?=some v:=by
   unfold start at h2
   rw [List.getElem?_append_left (by simpa using hi),List.getElem?_map] at h2
   cases e:vs[i]? with
   | none=>rw [e] at h2; cases h2
   | some a=>rw [e] at h2; cases h2; rfl
  obtain ⟨u,hu,rv⟩:=r.get ha
  have hp:ps[i]?=some y:=by
   rw [← S.pre,List.getElem?_take_of_lt (by lia)]; exact h1
  have ndP:ps.Nodup:=by rw [← S.pre]; exact S.nd.sublist (List.take_sublist _ _)
  refine ⟨u,rv,?_⟩
  rcases S.par y (List.mem_of_getElem? hp) with k | k
  ·exact .inl ⟨k,zf2_ ndP hp hu k⟩
  ·obtain ⟨c,e⟩:=zhI_ (n:=s.heap.objs.size+1) k
   refine .inr ⟨.inl k,c,e,?_⟩
   have q:=x.cell y c e
   rw [zfX_ ndP hp hu (by show scope.names.lookup y≠_; rw [k]; decide)] at q
   exact q
 ·exact e0.hok.fresh (Nat.le_of_lt (x.above y c (PySem.mem_of_lookup h)))
 ·unfold start
  show _=N.length
  rw [List.length_append,List.length_map,List.length_replicate]
  lia
theorem fn_of {CX:CXT}{P:Program}{w:World}{K:Fgg}{mg:Str→Option Value}{base:Heap}{k:Nat}{f:Addr}{name qual:Str}{params:Arguments}{body:List Stmt}{scope:Scope}{dV kV doc pm cdv ct oc:Value}{an od:Option Addr}
  {osl:Array (Option Value)}{N ps:List Str}{sp:Sp}(lk:K.lookup f=some ⟨oc,od,.func (PySem.W.fnOf name qual params body scope dV kV doc pm an cdv ct),osl⟩) (hcd:PySem.W.codeIn K cdv qual=true) (S:FnScope N ps scope)
  (len:∀ vs H Q E,sp vs H Q E→vs.length=ps.length)
  (hbody:∀ (A:Around) (outer:List Env) (s:Shared) (H:Hp) (vs:List V) (Q:VK) (E:XK),Room k (A.deeper (envOfC qual scope s.heap.objs.size f cdv))→sp vs H Q E →
   ∃ t,PSs (cxOf CX P w K mg base N qual scope f cdv A outer s H E) body t∧t { nx:=fun _ H'=>Q .non H',rt:=Q } (start N vs) H) :
  FnOk P w K mg base CX (k+1) f (PySem.W.fnOf name qual params body scope dV kV doc pm an cdv ct) ps sp:=by
 refine ⟨len,fun A outer s H args us vs Q E hr e0 hb r hsp=>?_⟩
 have hl:=len _ _ _ _ hsp
 have KX:K.In s.heap:=e0.mod.kin.keeps fun b o e=>(e0.bs b o e).1
 have lim:s.heap.NoLimit:=e0.mod.nolimit.keeps fun b o e=>(e0.bs b o e).1
 have hkind:∀ y∈ps.zip us,scope.names.lookup y.1=some .local∨(scope.names.lookup y.1=some .cell∧((cellsFrom (s.heap.objs.size+1) scope.names []).lookup y.1).isSome=true):=fun ⟨n,v⟩ hy=>by
  rcases S.par n (List.of_mem_zip hy).1 with q | q
  ·exact .inl q
  ·exact .inr ⟨q,PySem.W.cellsFrom_some _ _ _ (.inl q)⟩
 refine codeAny_call_function hr.depth (KX _ _ lk) rfl S.co S.gen rfl (PySem.W.codeRec_of KX hcd) (hb _ _ _ _ ?_)
 refine wpAny_newFunctionEnv_cells S.kind hkind fun env he s1 x=>?_
 subst he
 refine ⟨lim.keeps x.toInCall.keep,codeAny_func ?_⟩
 obtain ⟨t,ht,hq⟩:=hbody A outer s H vs Q E (hr.deeper _) hsp
 have I:Inv (cxOf CX P w K mg base N qual scope f cdv A outer s H E) [] (start N vs) H s1:=zf0_ S hr.hd e0 hl r x
 refine wpAny_mono (ht [] s1 (start N vs) H _ I hq) (fun fl s' hs=>?_) fun e s' hs=>hs
 have fin:∀ {σ':St}{H':Hp}{v:V}{u:Value},Inv (cxOf CX P w K mg base N qual scope f cdv A outer s H E) [] σ' H' s'→RelV v u→Q v H'→CE outer P w H s Q u s' :=
  fun {σ' H' v u} J rv q=>⟨v,H',J.os,J.bare,J.base,J.hok,rv,q⟩
 cases fl with
 | ret u =>
  obtain ⟨v,σ',H',J,rv,q⟩:=hs
  exact fin J rv q
 | next =>
  obtain ⟨σ',H',J,q⟩:=hs
  exact fin (v:=V.non) (u:=Value.none) J rfl q
 | brk =>
  obtain ⟨_,_,_,q⟩:=hs
  exact False.elim q
 | cont =>
  obtain ⟨_,_,_,q⟩:=hs
  exact False.elim q
end L2
namespace L2
open PySem PySem.Spec PyProof.Rows
section
variable {X:Cx}{x:Str}{p pos:Pos}{e:Expr}{es:List Expr}{t:TA}{id T:String}{r:List V→Hp→VK→Prop}
def tCB (r:List V→Hp→VK→Prop) (t:TA):TE:=fun σ H Q=>t σ H fun vs H1=>r vs H1 Q
theorem zlN_ (hc:CallR X (.builtin id) r) (hg:Gl X x) (hm:X.mg x=none) (hv:bootBuiltins x=some (.builtin id)) (ha:PA X (e::es) t) (hn:x ≠ "__name__" := by decide) (hdb:(x == ("__debug__" : Str))=false:=by decide)
  (he:starEach (e::es) X.env=(false,eval e X.env)::starEach es X.env:=by rfl) (hpl:(backTo pos (starEach es X.env)).any (·.1)=false:=by rfl):PE X (.Call (.Name x p) (e::es) [] pos) (tCB r t):=by
 intro pins s σ H Q I h
 refine wpAny_Call_Name_kw (zhW_ I hg hm hv ?_ hn hdb)
 exact PyProof.Rows.callWith_builtin1 (thn (ha pos pins s σ H _ I h) fun us s1 ⟨vs,H1,I1,r1,q1⟩=>hc pins s1 σ H1 vs us Q I1 r1 q1) he hpl
theorem zjg_ (hc:CallR X (.type T) r) (hg:Gl X x) (hm:X.mg x=none) (hv:bootBuiltins x=some (.type T)) (ha:PA X (e::es) t) (hn:x ≠ "__name__" := by decide) (hdb:(x == ("__debug__" : Str))=false:=by decide)
  (he:starEach (e::es) X.env=(false,eval e X.env)::starEach es X.env:=by rfl) (hpl:(backTo pos (starEach es X.env)).any (·.1)=false:=by rfl):PE X (.Call (.Name x p) (e::es) [] pos) (tCB r t):=by
 intro pins s σ H Q I h
 refine wpAny_Call_Name_kw (zhW_ I hg hm hv ?_ hn hdb)
 exact PyProof.Rows.callWith_type1 (thn (ha pos pins s σ H _ I h) fun us s1 ⟨vs,H1,I1,r1,q1⟩=>hc pins s1 σ H1 vs us Q I1 r1 q1) he hpl
end
end L2
namespace HT
open PySem PyProof.Rows
def lexLt:List Int→List Int→Bool
 | [],[]=>false
 | [],_::_=>true
 | _::_,[]=>false
 | x::xs,y::ys=>if x=y then lexLt xs ys else decide (x<y)
theorem lexLt_cons (x y:Int) (xs ys:List Int):lexLt (x::xs) (y::ys)=if x=y then lexLt xs ys else decide (x<y):=rfl
theorem eqAt_int (A:Around) (s:Shared) (a:Int) (t:Tok) (c:Int) (u:Tok):∃ e,SeqAt.EqAt A s (.int a t) (.int c u) e∧(e=true↔a=c) :=
 ⟨(a == c),SeqAt.EqAt.int_int a t c u,by simp⟩
theorem rcLt_int (A:Around) (s:Shared) (a:Int) (t:Tok) (c:Int) (u:Tok) (prog:Program) (w:World) (E:Value→Shared→Prop) (Q:Value→Shared→Prop) (h:Q (.bool (decide (a<c))) s) :
  wpAny (model prog w) A (richCompare .Lt (.int a t) (.int c u)) Q E s :=
 (PyProof.Rows.lt_int h:wpAny (model prog w) A (compareOp .Lt (.int a t) (.int c u)) Q E s)
section
open PySem.SeqAt
open PySem.AutoSeq1 (wpAny_loadPart')
open PySem.MeetsSeq PySem.MeetsSeq2 PySem.MeetsSeq3
end
section
variable {prog:Program}{w:World}{A:Around}{E:Value→Shared→Prop}{s:Shared}
def sIx (n d:Nat):Option Int→Nat
 | none=>d
 | some v=>if v<0 then (v+(n:Int)).toNat else min v.toNat n
theorem sIx_le (n d:Nat) (hd:d≤n) (o:Option Int):sIx n d o≤n:=by
 cases o with
 | none=>exact hd
 | some v =>
  show (if v<0 then (v+(n:Int)).toNat else min v.toNat n)≤n
  by_cases hv:v<0
  ·rw [if_pos hv]; lia
  ·rw [if_neg hv]; exact Nat.min_le_right _ _
end
end HT
namespace L2
open PySem PySem.Spec PyProof.Rows
abbrev TO:=St→Hp→(Option Int→Hp→Prop)→Prop
def PO (X:Cx) (e:Option Expr) (t:TO):Prop :=
 ∀ (pins:Pnn) (s:Shared) (σ:St) (H:Hp) (Q:Option Int→Hp→Prop),Inv X pins σ H s→t σ H Q →
  wpAny (model X.prog X.w) X.A (evalPart e X.env) (fun u s'=>∃ o H',Inv X pins σ H' s'∧IsPart u o∧Q o H') X.xe s
def tNoPart:TO:=fun _ H Q=>Q none H
theorem zd8_ {ns:List Int}:∀ {us:List Value},Vals (ns.map V.int) us→IntsAre us ns:=by
 induction ns with
 | nil=>intro us r; rw [List.map_nil] at r; cases r; exact .nil
 | cons n ns ih =>
  intro us r
  rw [List.map_cons] at r
  cases r with
  | cons r1 r2 =>
   obtain ⟨t,e⟩:=r1
   subst e
   exact .cons n t (ih r2)
section
variable {X:Cx}{e:Expr}{te:TE}{lo hi:Option Expr}{tl th:TO}{pos p2:Pos}
theorem zcD_:PO X none tNoPart:=by
 intro pins s σ H Q I h
 rw [evalPart_none]
 exact wpAny_pure ⟨none,H,I,.none,h⟩
def SlR (X:Cx) (r:V→Option Int→Option Int→Hp→VK→Prop):Prop :=
 ∀ (pins:Pnn) (s:Shared) (σ:St) (H:Hp) (x:V) (v vl vu:Value) (lo hi:Option Int) (sl:Addr) (Q:VK),Inv X pins σ H s→RelV x v→s.heap.IsSliceOf sl vl vu .none→IsPart vl lo→IsPart vu hi→r x lo hi H Q →
  ∃ T id,typeLookup (.type T) "__getitem__" = pure (some (.builtin id))∧s.TypeIs v T∧wpAny (model X.prog X.w) X.A (getItem v (.ref sl)) (EP X pins σ Q) X.xe s
def tSl (r:V→Option Int→Option Int→Hp→VK→Prop) (te:TE) (tl th:TO):TE:=fun σ H Q=>te σ H fun x H1=>tl σ H1 fun l H2=>th σ H2 fun u H3=>r x l u H3 Q
theorem zaa_ {r:V→Option Int→Option Int→Hp→VK→Prop}(hr:SlR X r) (he:PE X e te) (hl:PO X lo tl) (hu:PO X hi th):PE X (.Subscript e (.Slice lo hi none p2) pos) (tSl r te tl th):=by
 intro pins s σ H Q I h
 refine Subscript_ (thn (he pins s σ H _ I h) fun v s1 hq_=>?_)
 obtain ⟨x,H1,I1,r1,q1⟩:=hq_
 refine wpAny_Slice (thn (hl pins s1 σ H1 _ I1 q1) fun vl s2 ⟨l,H2,I2,pl,q2⟩=>thn (hu pins s2 σ H2 _ I2 q2) fun vu s3 hq_=>?_)
 obtain ⟨u,H3,I3,pu,q3⟩:=hq_
 rw [evalPart_none]
 refine wpAny_pure ?_
 have I4:Inv X pins σ H3 { s3 with heap:=s3.heap.push { cls:=.type "slice",data:=.fields #[vl,vu,.none] } }:=I3.kept (t':=s3.toks) fun b ob q=>Heap.get?_push_of_some _ q
 obtain ⟨T,id,hT,ht,hg⟩:=hr pins { s3 with heap:=s3.heap.push { cls:=.type "slice",data:=.fields #[vl,vu,.none] } } σ H3 x v vl vu l u s3.heap.objs.size Q I4 r1 (Heap.IsSliceOf.new ..) pl pu q3
 show wpAny (model X.prog X.w) X.A (subscriptTail e (.Slice lo hi none p2) v (.ref s3.heap.objs.size)) (EP X pins σ Q) X.xe { s3 with heap:=s3.heap.push { cls:=.type "slice",data:=.fields #[vl,vu,.none] } }
 exact tail_any (ops:=[.ref s3.heap.objs.size,v]) ht hT hg (by with_unfolding_all rfl)
def cutV (xs:List V) (lo hi:Option Int):List V:=(xs.drop (HT.sIx xs.length 0 lo)).take (HT.sIx xs.length xs.length hi-HT.sIx xs.length 0 lo)
theorem zgq_ (xs:List V) (lo hi:Option Int):(cutV xs lo hi).length≤xs.length:=by
 unfold cutV
 rw [List.length_take,List.length_drop]
 lia
end
end L2
namespace L2
open PySem PySem.Spec PyProof.Rows
def ixN (n:Nat) (i:Int):Option Nat:=if 0≤i then (if i<n then some i.toNat else none) else if -(n:Int)≤i then some (i+n).toNat else none
def atI {α:Type}(xs:List α) (i:Int):Option α:=(ixN xs.length i).bind fun j=>xs[j]?
theorem zj8_ {n:Nat}{i:Int}{j:Nat}(h:ixN n i=some j):seqIndex? i n=some j∧j<n ∧ -(n:Int)≤i∧i<n:=by
 unfold ixN at h
 by_cases h0:0≤i
 ·rw [if_pos h0] at h
  by_cases h1:i<n
  ·rw [if_pos h1] at h
   have e:i.toNat=j:=Option.some.inj h
   exact ⟨by rw [seqIndex_of h0 h1,e],by lia,by lia,h1⟩
  ·rw [if_neg h1] at h; cases h
 ·rw [if_neg h0] at h
  by_cases h1 : -(n:Int)≤i
  ·rw [if_pos h1] at h
   have e:(i+n).toNat=j:=Option.some.inj h
   exact ⟨by rw [seqIndex_neg (by lia) h1,e],by lia,h1,by lia⟩
  ·rw [if_neg h1] at h; cases h
theorem zic_ {α:Type}{xs:List α}{i:Int}{v:α}(h:atI xs i=some v):∃ j,seqIndex? i xs.length=some j∧xs[j]?=some v∧j<xs.length ∧ -(xs.length:Int)≤i∧i<xs.length:=by
 unfold atI at h
 cases e:ixN xs.length i with
 | none=>rw [e] at h; cases h
 | some j =>
  rw [e] at h
  obtain ⟨h1,h2,h3,h4⟩:=zj8_ e
  exact ⟨j,h1,h,h2,h3,h4⟩
def PlainIx (b:Expr):Prop:=∀ o i,subscripted b false o i=operate [o,i] (getItem o i)
def IxR (X:Cx) (r:R2):Prop :=
 ∀ (value slice:Expr) (pins:Pnn) (s:Shared) (σ:St) (H:Hp) (x y:V) (v u:Value) (Q:VK),Inv X pins σ H s→RelV x v→RelV y u→r x y H Q →
  subscripted slice false v u=operate [v,u] (getItem v u)→wpAny (model X.prog X.w) X.A (subscriptTail value slice v u) (EP X pins σ Q) X.xe s
def MtR (X:Cx) (id:String) (r:V→List V→Hp→VK→Prop):Prop :=
 ∀ (pins:Pnn) (s:Shared) (σ:St) (H:Hp) (x:V) (xs:List V) (v:Value) (us:List Value) (Q:VK),Inv X pins σ H s→RelV x v→Vals xs us→r x xs H Q →
  wpAny (model X.prog X.w) X.A (call (.builtin id) (v::us)) (EP X pins σ Q) X.xe s
section
variable {X:Cx}{a b:Expr}{ta tb:TE}{pos:Pos}
theorem zO_ {r:R2}(hr:IxR X r) (ha:PE X a ta) (hb:PE X b tb) (hs:PlainIx b):PE X (.Subscript a b pos) (tOp r ta tb):=by
 intro pins s σ H Q I h
 exact Subscript_ (binT ha hb I h fun v u s2 x y H2 I2 rx ry q=>hr a b pins s2 σ H2 x y v u Q I2 rx ry q (hs _ _))
def rIxL (K:Fgg):R2:=fun x y H Q=>∃ p xs i v,x=.ref p∧y=.int i∧SqL K H p xs∧atI xs i=some v∧Q v H
def rIxT (K:Fgg):R2:=fun x y H Q=>∃ p xs i v,x=.ref p∧y=.int i∧SqT K H p xs∧atI xs i=some v∧Q v H
def rIxS:R2:=fun x y H Q=>∃ z i c,x=.str z∧y=.int i∧z.length≤sizeLine∧atI z.cps.toList i=some c∧Q (.str ⟨#[c]⟩) H
theorem zmt_:IxR X (rIxL X.K):=by
 intro value slice pins s σ H x y v u Q I rx ry h hs
 obtain ⟨p,xs,i,z,rfl,rfl,hq,he,q⟩:=h
 cases rx
 obtain ⟨t,rfl⟩:=ry
 obtain ⟨its,r,pl,hz⟩:=I.list hq
 obtain ⟨j,h1,h2,h3,h4,h5⟩:=zic_ he
 obtain ⟨w,ew,rw'⟩:=r.get h2
 have hl:=r.length
 have hn:=line63
 have fin:EP X pins σ Q w s:=⟨z,H,I,rw',q⟩
 by_cases h0:0≤i
 ·have hj:i.toNat=j:=by
   rw [seqIndex_of h0 h5] at h1
   exact Option.some.inj h1
  exact item_listR pl.isList h0 (by lia) (by rw [hj]; simpa using ew) fin hs
 ·have hj:(i+(its.toArray.size:Int)).toNat=j:=by
   rw [seqIndex_neg (by lia) h4] at h1
   rw [List.size_toArray,← hl]
   exact Option.some.inj h1
  exact subscriptTail_builtinR (x:=w) pl.isList.typeIs slot_list_getitem.lookup
   (wpAny_getItem_list_neg (Q:=fun r s'=>r=w∧EP X pins σ Q r s') pl.isList (by lia) (by rw [List.size_toArray]<;>lia) (by lia) (by rw [hj]; simpa using ew) ⟨rfl,fin⟩) hs
theorem znP_:IxR X (rIxT X.K):=by
 intro value slice pins s σ H x y v u Q I rx ry h hs
 obtain ⟨p,xs,i,z,rfl,rfl,hq,he,q⟩:=h
 cases rx
 obtain ⟨t,rfl⟩:=ry
 obtain ⟨its,r,pl,hz⟩:=I.tuple hq
 obtain ⟨j,h1,h2,h3,h4,h5⟩:=zic_ he
 obtain ⟨w,ew,rw'⟩:=r.get h2
 have hl:=r.length
 have hn:=line63
 have fin:EP X pins σ Q w s:=⟨z,H,I,rw',q⟩
 exact subscriptTail_builtinR (x:=w) pl.typeIs slot_tuple_getitem.lookup
  (getItem_tuple (j:=j) (Q:=fun r s'=>r=w∧EP X pins σ Q r s') pl (by lia) (by lia) (by rw [List.size_toArray,← hl]; exact h1) (by simpa using ew) ⟨rfl,fin⟩) hs
theorem zn5_:IxR X rIxS:=by
 intro value slice pins s σ H x y v u Q I rx ry h hs
 obtain ⟨z,i,c,rfl,rfl,hz,he,q⟩:=h
 obtain ⟨t,rfl⟩:=rx
 obtain ⟨t',rfl⟩:=ry
 obtain ⟨j,h1,h2,h3,h4,h5⟩:=zic_ he
 have hl:z.cps.toList.length=z.length:=by simp [Str.length]
 rw [hl] at h1 h4 h5
 have hn:=line63
 exact tail_any (typeIs_str s z t) slot_str_getitem.lookup (getItem_str (c:=c) (by
  have e1:decide (i < -(2 ^ 63:Int))=false:=decide_eq_false (by lia)
  have e2:decide (i ≥ 2 ^ 63)=false:=decide_eq_false (by lia)
  rw [e1,e2,Bool.or_false]) (by rw [h1]; simpa using h2) ⟨.str ⟨#[c]⟩,H,I.tok _,⟨_,rfl⟩,q⟩) hs
theorem zgQ_ (its:List Value) (n j:Nat) (u:Value):Obj.mapSeq (·.setIfInBounds j u) { cls:=.type "list",data:=.seq its.toArray n }={ cls:=.type "list",data:=.seq (its.set j u).toArray n }:=by
 simp [Obj.mapSeq]
theorem Inv.lst {pins:Pnn}{σ:St}{H:Hp}{s:Shared}{p:Addr}{xs:List V}(I:Inv X pins σ H s) (h:H p=some (.lst xs)) :
  ∃ (its:List Value) (n:Nat),Vals xs its∧s.heap.get? p=some { cls:=.type "list",data:=.seq its.toArray n }∧xs.length≤sizeLine:=by
 obtain ⟨z,its,n,r,e⟩:=I.hok p _ h
 exact ⟨its,n,r,e,z⟩
theorem Inv.lstUpd {pins:Pnn}{σ:St}{H:Hp}{s:Shared}{p:Addr}{xs ys:List V}{its its':List Value}{n n':Nat}{f:Obj→Obj}(I:Inv X pins σ H s) (h:H p=some (.lst xs))
  (ho:s.heap.get? p=some { cls:=.type "list",data:=.seq its.toArray n }) (hf:f { cls:=.type "list",data:=.seq its.toArray n }={ cls:=.type "list",data:=.seq its'.toArray n' }) (r:Vals ys its') (hz:ys.length≤sizeLine) (t:Nat) :
  Inv X pins σ (upd H p (.lst ys)) { s with heap:=s.heap.update p f,toks:=t }:=by
 have e:(s.heap.update p f).get? p=some { cls:=.type "list",data:=.seq its'.toArray n' }:=by
  rw [Heap.get?_update_self f ho (by rw [hf]<;>rfl),hf]
 refine I.write (x:=p) (e:=p) (by rw [h]; trivial) (.inl rfl) (fun b u hb q=>(Heap.get?_update_other _ _ (Ne.symm hb)).trans q) ⟨_,e⟩ ?_
 exact ⟨hz,its',n',r,e⟩
def rSetL:V→V→V→Hp→(Hp→Prop)→Prop:=fun o i v H Q=>∃ p xs k j,o=.ref p∧i=.int k∧H p=some (.lst xs)∧ixN xs.length k=some j∧Q (upd H p (.lst (xs.set j v)))
theorem zlc_:PSet X rSetL:=by
 intro pins s σ H o i v ov iv u Q I ro ri rv h
 obtain ⟨p,xs,k,j,rfl,rfl,hp,hj,q⟩:=h
 cases ro
 obtain ⟨t,rfl⟩:=ri
 obtain ⟨its,n,r,ho,hz⟩:=I.lst hp
 obtain ⟨h1,h2,h3,h4⟩:=zj8_ hj
 have hl:=r.length
 have hn:=line63
 have I':Inv X pins σ (upd H p (.lst (xs.set j v))) { s with heap:=s.heap.update p (Obj.mapSeq (·.setIfInBounds j u)) } :=
  I.lstUpd hp ho (zgQ_ its n j u) (r.set rv j) (by rw [List.length_set]; exact hz) s.toks
 by_cases h0:0≤k
 ·have hk:k.toNat=j:=by
   rw [seqIndex_of h0 h4] at h1
   exact Option.some.inj h1
  exact PySem.W.ki_setAt ho h0 (by lia) (by rw [List.size_toArray,← hl]; exact h4) (by rw [hk]; exact ⟨_,I',q⟩)
 ·have hk:(k+(its.toArray.size:Int)).toNat=j:=by
   rw [seqIndex_neg (by lia) h3] at h1
   rw [List.size_toArray,← hl]
   exact Option.some.inj h1
  exact PySem.W.ki_setBack ho (by lia) (by rw [List.size_toArray,← hl]; exact h3) (by lia) (by rw [hk]; exact ⟨_,I',q⟩)
theorem zfB_ (lo hi:Option Int) (n:Nat):(sliceBounds lo hi none n).1=((HT.sIx n 0 lo:Nat):Int)∧(sliceBounds lo hi none n).2.1=((HT.sIx n n hi:Nat):Int)∧(sliceBounds lo hi none n).2.2=1:=by
 refine ⟨?_,?_,rfl⟩
 ·cases lo with
  | none=>simp [sliceBounds,HT.sIx]
  | some i =>
   simp only [sliceBounds,HT.sIx,Option.getD_none,show (1:Int) > 0 by decide,if_true]
   by_cases h:i<0
   ·simp only [h,if_true]<;>lia
   ·simp only [h,if_false]<;>lia
 ·cases hi with
  | none=>simp [sliceBounds,HT.sIx]
  | some i =>
   simp only [sliceBounds,HT.sIx,Option.getD_none,show (1:Int) > 0 by decide,if_true]
   by_cases h:i<0
   ·simp only [h,if_true]<;>lia
   ·simp only [h,if_false]<;>lia
theorem zeJ_ (its:List Value) (lo hi:Option Int):slicePick its.toArray lo hi none=((its.drop (HT.sIx its.length 0 lo)).take (HT.sIx its.length its.length hi-HT.sIx its.length 0 lo)).toArray:=by
 obtain ⟨h1,h2,h3⟩:=zfB_ lo hi its.toArray.size
 unfold slicePick
 rw [h1,h2,h3]
 simp only [sliceRange_one,pick_run,List.size_toArray]<;>rfl
def rSlL (K:Fgg):V→Option Int→Option Int→Hp→VK→Prop:=fun x lo hi H Q=>∃ a xs,x=.ref a∧SqL K H a xs∧∀ p,H p=none→Q (.ref p) (upd H p (.lst (cutV xs lo hi)))
theorem zm4_:SlR X (rSlL X.K):=by
 intro pins s σ H x v vl vu lo hi sl Q I rx hs pl pu h
 obtain ⟨a,xs,rfl,hx,q⟩:=h
 cases rx
 obtain ⟨its,r,ht,hz⟩:=I.list hx
 have hlen:=r.length
 refine ⟨"list",_,slot_list_getitem.lookup,ht.isList.typeIs,?_⟩
 refine wpAny_getItem_list_slice ht.isList hs pl pu .none (by simp) ?_ (by rw [List.size_toArray]<;>lia)
 rw [zeJ_,← hlen]
 refine ⟨.ref s.heap.objs.size,_,I.laid (t':=s.toks) (o:=.lst (cutV xs lo hi)) (fun b ob q=>Heap.get?_push_of_some _ q) (Nat.le_refl _) ?_,rfl,q _ (I.hok.fresh (Nat.le_refl _))⟩
 exact ⟨Nat.le_trans (zgq_ xs lo hi) hz,_,0,(r.drop (HT.sIx xs.length 0 lo)).take (HT.sIx xs.length xs.length hi-HT.sIx xs.length 0 lo),Heap.get?_push_size _ rfl⟩
def flatV:V→Bool
 | .non=>true
 | .bl _=>true
 | .int _=>true
 | .str _=>true
 | _=>false
def eqV:V→V→Bool
 | .non,.non=>true
 | .bl a,.bl b=>a == b
 | .bl a,.int b=>(if a then 1 else 0) == b
 | .int a,.bl b=>a == (if b then 1 else 0)
 | .int a,.int b=>a == b
 | .str a,.str b=>a == b
 | _,_=>false
theorem zmy_ {A:Around}{s:Shared}{y x:V}{u v:Value}(ry:RelV y u) (rx:RelV x v) (fy:flatV y=true) (fx:flatV x=true):SeqAt.EqAt A s u v (eqV y x):=by
 cases y with
 | non =>
  cases ry
  cases x with
  | non=>cases rx; exact SeqAt.EqAt.same _
  | bl b=>cases rx; exact SeqAt.EqAt.none_bool b
  | int b=>obtain ⟨t,rfl⟩:=rx; exact SeqAt.EqAt.none_int b t
  | str b=>obtain ⟨t,rfl⟩:=rx; exact SeqAt.EqAt.none_str b t
  | _=>exact absurd (show false=true from fx) Bool.false_ne_true
 | bl a =>
  cases ry
  cases x with
  | non=>cases rx; exact SeqAt.EqAt.bool_none a
  | bl b=>cases rx; exact SeqAt.EqAt.bool_bool a b
  | int b=>obtain ⟨t,rfl⟩:=rx; exact SeqAt.EqAt.bool_int a b t
  | str b=>obtain ⟨t,rfl⟩:=rx; exact SeqAt.EqAt.bool_str a b t
  | _=>exact absurd (show false=true from fx) Bool.false_ne_true
 | int a =>
  obtain ⟨t',rfl⟩:=ry
  cases x with
  | non=>cases rx; exact SeqAt.EqAt.int_none a t'
  | bl b=>cases rx; exact SeqAt.EqAt.int_bool a t' b
  | int b=>obtain ⟨t,rfl⟩:=rx; exact SeqAt.EqAt.int_int a t' b t
  | str b=>obtain ⟨t,rfl⟩:=rx; exact SeqAt.EqAt.int_str a t' b t
  | _=>exact absurd (show false=true from fx) Bool.false_ne_true
 | str a =>
  obtain ⟨t',rfl⟩:=ry
  cases x with
  | non=>cases rx; exact SeqAt.EqAt.str_none a t'
  | bl b=>cases rx; exact SeqAt.EqAt.str_bool a t' b
  | int b=>obtain ⟨t,rfl⟩:=rx; exact SeqAt.EqAt.str_int a t' b t
  | str b=>obtain ⟨t,rfl⟩:=rx; exact SeqAt.EqAt.str_str a t' b t
  | _=>exact absurd (show false=true from fx) Bool.false_ne_true
 | _=>exact absurd (show false=true from fy) Bool.false_ne_true
def eqU (x:V) (u:Value):Bool:=match u with
 | .none=>eqV .non x
 | .bool b=>eqV (.bl b) x
 | .int i _=>eqV (.int i) x
 | .str z _=>eqV (.str z) x
 | _=>false
theorem zmM_ {x y:V}{u:Value}(r:RelV y u) (f:flatV y=true):eqU x u=eqV y x:=by
 cases y with
 | non=>cases r; rfl
 | bl b=>cases r; rfl
 | int i=>obtain ⟨t,rfl⟩:=r; rfl
 | str z=>obtain ⟨t,rfl⟩:=r; rfl
 | _=>exact absurd (show false=true from f) Bool.false_ne_true
theorem zeu_ {x:V}:∀ {xs:List V}{us:List Value},Vals xs us→xs.all flatV=true→us.any (eqU x)=xs.any fun y=>eqV y x
 | _,_,.nil,_=>rfl
 | y::xs,u::us,.cons r t,f=>by
  rw [List.all_cons,Bool.and_eq_true] at f
  rw [List.any_cons,List.any_cons,zmM_ r f.1,zeu_ t f.2]
theorem zc0_ {A:Around}{s:Shared}{x:V}{v:Value}(rx:RelV x v) (fx:flatV x=true):∀ {xs:List V}{us:List Value},Vals xs us→xs.all flatV=true→∀ u∈us,SeqAt.EqAt A s u v (eqU x u)
 | _,_,.nil,_=>fun u hu=>by cases hu
 | y::xs,u::us,.cons r t,f=>fun u' hu=>by
  rw [List.all_cons,Bool.and_eq_true] at f
  rcases List.mem_cons.mp hu with rfl | hu
  ·rw [zmM_ r f.1]; exact zmy_ r rx f.1 fx
  ·exact zc0_ rx fx t f.2 u' hu
def inV (x:V) (xs:List V):Bool:=xs.any fun y=>eqV y x
def rIn (K:Fgg) (neg:Bool):R2:=fun x y H Q=>∃ p xs,y=.ref p∧(SqL K H p xs∨SqT K H p xs)∧flatV x=true∧xs.all flatV=true∧Q (.bl (if neg then !inV x xs else inV x xs)) H
theorem zjr_:OpR X (compareOp .In) (rIn X.K false):=by
 intro pins s σ H x y v u Q I rx ry h
 obtain ⟨p,xs,rfl,hq,fx,fs,q⟩:=h
 cases ry
 rcases hq with hq | hq
 ·obtain ⟨its,r,pl,hz⟩:=I.list hq
  refine SeqAt.in_listAt (eqU x) pl.isList (fun w hw=>zc0_ rx fx r fs w (by simpa using hw)) ⟨.bl _,H,I,rfl,?_⟩
  rw [show its.toArray.any (eqU x)=its.any (eqU x) by simp,zeu_ r fs]
  exact q
 ·obtain ⟨its,r,pl,hz⟩:=I.tuple hq
  refine SeqAt.in_tupleAt (eqU x) pl (fun w hw=>zc0_ rx fx r fs w (by simpa using hw)) ⟨.bl _,H,I,rfl,?_⟩
  rw [show its.toArray.any (eqU x)=its.any (eqU x) by simp,zeu_ r fs]
  exact q
theorem zfu_:OpR X (compareOp .NotIn) (rIn X.K true):=by
 intro pins s σ H x y v u Q I rx ry h
 obtain ⟨p,xs,rfl,hq,fx,fs,q⟩:=h
 cases ry
 rcases hq with hq | hq
 ·obtain ⟨its,r,pl,hz⟩:=I.list hq
  refine SeqAt.notIn_listAt (eqU x) pl.isList (fun w hw=>zc0_ rx fx r fs w (by simpa using hw)) ⟨.bl _,H,I,rfl,?_⟩
  rw [show its.toArray.any (eqU x)=its.any (eqU x) by simp,zeu_ r fs]
  exact q
 ·obtain ⟨its,r,pl,hz⟩:=I.tuple hq
  refine SeqAt.notIn_tupleAt (eqU x) pl (fun w hw=>zc0_ rx fx r fs w (by simpa using hw)) ⟨.bl _,H,I,rfl,?_⟩
  rw [show its.toArray.any (eqU x)=its.any (eqU x) by simp,zeu_ r fs]
  exact q
theorem zfk_:CallR X (.builtin "len") (fun xs H Q=>∃ p ys,xs=[.ref p]∧(SqL X.K H p ys∨SqT X.K H p ys)∧Q (.int ys.length) H):=by
 intro pins s σ H xs us Q I r h
 obtain ⟨p,ys,rfl,hq,q⟩:=h
 obtain ⟨u,rfl,rx⟩:=vals1 r
 cases rx
 have hn:=line63
 rcases hq with hq | hq
 ·obtain ⟨its,r',pl,hz⟩:=I.list hq
  have hlen:=r'.length
  exact Calls.call_len_list pl.isList (by simp only [List.size_toArray]<;>lia) ⟨.int ys.length,H,I.tok _,⟨s.toks+1,by rw [List.size_toArray,hlen]⟩,q⟩
 ·obtain ⟨its,r',pl,hz⟩:=I.tuple hq
  have hlen:=r'.length
  exact len_tuple pl (by simp only [List.size_toArray]<;>lia) ⟨.int ys.length,H,I.tok _,⟨s.toks+1,by rw [List.size_toArray,hlen]⟩,q⟩
theorem ze9_:CallR X (.builtin "len") (fun xs H Q=>∃ z,xs=[.str z]∧z.length≤sizeLine∧Q (.int z.length) H):=by
 intro pins s σ H xs us Q I r h
 obtain ⟨z,rfl,hz,q⟩:=h
 obtain ⟨u,rfl,t,rfl⟩:=vals1 r
 have hn:=line63
 exact len_str (by lia) ⟨.int z.length,H,I.tok _,⟨_,rfl⟩,q⟩
theorem zfd_:CallR X (.type "list") (fun xs H Q=>∃ p ys,xs=[.ref p]∧(SqL X.K H p ys∨SqT X.K H p ys)∧∀ l,H l=none→Q (.ref l) (upd H l (.lst ys))):=by
 intro pins s σ H xs us Q I r h
 obtain ⟨p,ys,rfl,hq,q⟩:=h
 obtain ⟨u,rfl,rx⟩:=vals1 r
 cases rx
 have fin:∀ (its:List Value),Vals ys its→ys.length≤sizeLine→∀ (h':Heap) (c':Nat),(∀ b o',s.heap.get? b=some o'→h'.get? b=some o') →
   h'.get? s.heap.objs.size=some { cls:=.type "list",dict:=none,data:=.seq its.toArray c',slots:=#[] }→EP X pins σ Q (.ref s.heap.objs.size) { s with heap:=h' }:=fun its r' hz h' c' kp e =>
  ⟨.ref s.heap.objs.size,_,I.laid (t':=s.toks) kp (Nat.le_refl _) (show ObjOk X.prog X.w _ h' _ (.lst ys) from ⟨hz,its,c',r',e⟩),rfl,q _ (I.hok.fresh (Nat.le_refl _))⟩
 rcases hq with hq | hq
 ·obtain ⟨its,r',pl,hz⟩:=I.list hq
  have hlen:=r'.length
  obtain ⟨o,ho,hc,n,hd⟩:=pl.isList
  exact call_list_seq p (.inl rfl) ho hc hd (fun h' c' kp e=>fin its r' hz h' c' kp e) (by simp only [List.size_toArray]<;>lia)
 ·obtain ⟨its,r',pl,hz⟩:=I.tuple hq
  have hlen:=r'.length
  obtain ⟨o,ho,hc,n,hd⟩:=pl
  exact call_list_seq p (.inr rfl) ho hc hd (fun h' c' kp e=>fin its r' hz h' c' kp e) (by simp only [List.size_toArray]<;>lia)
def tyV (K:Fgg) (T:String) (x:V) (H:Hp):Prop:=match x with
 | .str _=>T = "str"
 | .int _=>T = "int"
 | .ref p=>(T = "list" ∧ ∃ xs,SqL K H p xs)∨(T = "tuple" ∧ ∃ o,K.lookup p=some o∧o.cls=.type "tuple" ∧ o.dict=none) ∨
   (T = "dict" ∧ ((∃ kvs,H p=some (.dK kvs))∨∃ kvs,H p=some (.dT kvs)))∨(T = "set" ∧ ∃ S n,H p=some (.set S n))
 | _=>False
theorem znc_ {pins:Pnn}{σ:St}{H:Hp}{s:Shared}{T:String}{x:V}{v:Value}(I:Inv X pins σ H s) (r:RelV x v) (ty:tyV X.K T x H) :
  s.TypeIs v T∧∀ a,v=.ref a→∃ ob,s.heap.get? a=some ob∧ob.dict=none:=by
 cases x with
 | str z =>
  obtain ⟨t,rfl⟩:=r
  cases (show T = "str" from ty)
  exact ⟨typeIs_str s z t,fun _ e=>nomatch e⟩
 | int i =>
  obtain ⟨t,rfl⟩:=r
  cases (show T = "int" from ty)
  exact ⟨typeIs_int s i t,fun _ e=>nomatch e⟩
 | ref p =>
  cases r
  rcases ty with ⟨rfl,xs,hq⟩ | ⟨rfl,o,hk,hc,hd⟩ | ⟨rfl,hk⟩ | ⟨rfl,S,n,hk⟩
  ·obtain ⟨its,_,pl,_⟩:=I.list hq
   refine ⟨pl.isList.typeIs,fun a e=>?_⟩
   cases e
   obtain ⟨o,n,e,c,hd,_⟩:=pl
   exact ⟨o,e,hd⟩
  ·refine ⟨⟨o,I.kIn p o hk,hc⟩,fun a e=>?_⟩
   cases e
   exact ⟨o,I.kIn _ o hk,hd⟩
  ·have z:∃ o,s.heap.get? p=some o∧o.ExactDict:=by
    rcases hk with ⟨kvs,hk⟩ | ⟨kvs,hk⟩
    ·obtain ⟨_,_,_,_,o,_,_,e,ex,_⟩:=I.hok p _ hk
     exact ⟨o,e,ex⟩
    ·obtain ⟨_,_,_,_,o,_,_,e,ex,_⟩:=I.hok p _ hk
     exact ⟨o,e,ex⟩
   obtain ⟨o,e,ex⟩:=z
   refine ⟨⟨o,e,ex.1⟩,fun a e2=>?_⟩
   cases e2
   exact ⟨o,e,ex.2.1⟩
  ·obtain ⟨o,_,_,_,e,ex,_⟩:=I.hok p _ hk
   refine ⟨⟨o,e,ex.1⟩,fun a e2=>?_⟩
   cases e2
   exact ⟨o,e,ex.2.1⟩
 | _=>exact False.elim ty
def tBM0 (K:Fgg) (T:String) (r:V→List V→Hp→VK→Prop) (to:TE):TE:=fun σ H Q=>to σ H fun x H1=>tyV K T x H1∧r x [] H1 Q
def tBM (K:Fgg) (T:String) (r:V→List V→Hp→VK→Prop) (to:TE) (t:TA):TE:=fun σ H Q=>to σ H fun x H1=>tyV K T x H1∧t σ H1 fun xs H2=>r x xs H2 Q
variable {o e:Expr}{es:List Expr}{to:TE}{t:TA}{name:Str}{apos cpos:Pos}{T id:String}{r:V→List V→Hp→VK→Prop}
theorem znM_ (pa:PlainAttrs T) (slot:Slot T name id) (hty:typeOf (.builtin id)=pure (.type "method_descriptor")) (hm:MtR X id r) (ho:PE X o to)
  (hbase:attributeBase o name X.env (eval o X.env)=eval o X.env:=by rfl) (hline:(apos.endLine == cpos.line)=true:=by rfl):PE X (.Call (.Attribute o name apos) [] [] cpos) (tBM0 X.K T r to):=by
 intro pins s σ H Q I h
 refine wpAny_Call_method0_late hbase hline (thn (ho pins s σ H _ I h) fun v s1 hq_=>?_)
 obtain ⟨x,H1,I1,r1,ty,q1⟩:=hq_
 obtain ⟨h1,h2⟩:=znc_ I1 r1 ty
 exact ⟨T,id,pa,slot,hty,h1,h2,Calls.callWith_builtin rfl (PySem.evalArgs_none (hm pins s1 σ H1 x [] v [] Q I1 r1 .nil q1))⟩
theorem zka_ (pa:PlainAttrs T) (slot:Slot T name id) (hty:typeOf (.builtin id)=pure (.type "method_descriptor")) (hm:MtR X id r) (ho:PE X o to) (ha:PA X (e::es) t)
  (hbase:attributeBase o name X.env (eval o X.env)=eval o X.env:=by rfl)
  (hfew:((backTo cpos (starEach (e::es) X.env)).all (fun x=>!x.1) && (backToKw cpos (keywordEach [] X.env)).all (fun x=>x.1.isSome)
   && decide ((e::es).length+([]:List Keyword).length+(if ([]:List Keyword).isEmpty then 0 else 1)<30))=true:=by rfl)
  (hline:(apos.endLine == cpos.line)=true:=by rfl) (hs:starEach (e::es) X.env=(false,eval e X.env)::starEach es X.env:=by rfl) (hplain:(backTo cpos (starEach es X.env)).any (·.1)=false:=by rfl) :
  PE X (.Call (.Attribute o name apos) (e::es) [] cpos) (tBM X.K T r to t):=by
 intro pins s σ H Q I h
 refine wpAny_Call_method_late hbase hfew hline rfl (thn (ho pins s σ H _ I h) fun v s1 hq_=>?_)
 obtain ⟨x,H1,I1,r1,ty,q1⟩:=hq_
 obtain ⟨h1,h2⟩:=znc_ I1 r1 ty
 refine ⟨T,id,pa,slot,hty,h1,h2,?_⟩
 have hA:=ha cpos pins s1 σ H1 _ I1 q1
 rw [hs] at hA ⊢
 refine Calls.callWith_builtin (by show (false || (backTo cpos (starEach es X.env)).any (·.1))=false; rw [hplain]<;>rfl) (Calls.evalArgs_plain ?_)
 exact thn hA fun us s2 ⟨vs,H2,I2,r2,q2⟩=>hm pins s2 σ H2 x vs v us Q I2 r1 r2 q2
end
end L2
namespace L2
open PySem PySem.Spec PyProof.Rows
def MtM (X:Cx) (id:String) (r:V→List V→Hp→VK→Prop):Prop :=
 ∀ (pins:Pnn) (s:Shared) (σ:St) (H:Hp) (x:V) (xs:List V) (v:Value) (us:List Value) (Q:VK),Inv X pins σ H s→RelV x v→Vals xs us→r x xs H Q →
  wpAny (model X.prog X.w) X.A (call (.builtin id) (v::us)) (EP X pins σ Q) X.xe s
theorem Vals.one:∀ {x:V}{us:List Value},Vals [x] us→∃ u,us=[u]∧RelV x u
 | _,_,.cons r .nil=>⟨_,rfl,r⟩
theorem Vals.zero:∀ {us:List Value},Vals [] us→us=[]
 | _,.nil=>rfl
theorem Vals.dropLast {xs:List V}{us:List Value}(h:Vals xs us):Vals xs.dropLast us.dropLast:=by
 induction h with
 | nil=>exact .nil
 | cons r t ih =>
  cases t with
  | nil=>exact .nil
  | cons q t'=>exact .cons r ih
theorem Vals.rep {xs:List V}{us:List Value}(h:Vals xs us):∀ k:Nat,Vals (List.replicate k xs).flatten (List.replicate k us).flatten
 | 0=>.nil
 | k+1=>by
  rw [List.replicate_succ,List.replicate_succ,List.flatten_cons,List.flatten_cons]
  exact Vals.append h (Vals.rep h k)
theorem zii_ {α:Type}(l:List α):l.eraseIdx (l.length-1)=l.dropLast:=by
 induction l with
 | nil=>rfl
 | cons a r ih =>
  cases r with
  | nil=>rfl
  | cons b r =>
   have e:(a::b::r).length-1=((b::r).length-1)+1:=by
    have h1:(a::b::r).length=r.length+2:=rfl
    have h2:(b::r).length=r.length+1:=rfl
    lia
   rw [e,List.eraseIdx_cons_succ,ih]
   all_goals rfl
theorem zf7_ (its:List Value):∀ (k:Nat) (acc:List Value),
  List.foldl (fun x1 x2=>x1++x2) acc.toArray (List.replicate k its.toArray)=(acc++(List.replicate k its).flatten).toArray
 | 0,acc=>by simp
 | k+1,acc=>by
  have e:acc.toArray++its.toArray=(acc++its).toArray:=by simp
  have e2:(acc++its)++(List.replicate k its).flatten=acc++(List.replicate (k+1) its).flatten:=by
   rw [List.replicate_succ,List.flatten_cons,List.append_assoc]
  rw [← e2,← zf7_ its k (acc++its),← e,List.replicate_succ,List.foldl_cons]
section
variable {X:Cx}{pins:Pnn}{σ:St}{H:Hp}{s:Shared}{l b:Addr}{xs ys zs:List V}
theorem Inv.lset {its its':List Value}{n:Nat}{f:Array Value→Array Value}{t':Nat}(I:Inv X pins σ H s) (hH:H l=some (.lst xs))
  (e:s.heap.get? l=some { cls:=.type "list",data:=.seq its.toArray n }) (hf:f its.toArray=its'.toArray) (hv:Vals ys its') (hz:ys.length≤sizeLine) :
  Inv X pins σ (upd H l (.lst ys)) { s with heap:=s.heap.update l (Obj.mapSeq f),toks:=t' }:=by
 have q:=PySem.IsL.update e f
 rw [hf] at q
 refine I.write (x:=l) (e:=l) (by rw [hH]; exact trivial) (.inl rfl) (fun b' u hb hu=>(Heap.get?_update_other s.heap (Obj.mapSeq f) (Ne.symm hb)).trans hu) ⟨_,q⟩ ?_
 exact ⟨hz,its',_,hv,q⟩
theorem Inv.lnew {its:List Value}{t':Nat}(I:Inv X pins σ H s) (hv:Vals ys its) (hz:ys.length≤sizeLine) :
  Inv X pins σ (upd H s.heap.objs.size (.lst ys)) { s with heap:=s.heap.push { cls:=.type "list",data:=.seq its.toArray },toks:=t' } :=
 I.laid (fun _ _ q=>Heap.get?_push_of_some _ q) (Nat.le_refl _) ⟨hz,its,0,hv,Heap.get?_push_size _ rfl⟩
theorem Inv.fresh (I:Inv X pins σ H s):H s.heap.objs.size=none:=I.hok.fresh (Nat.le_refl _)
theorem Inv.lstM (I:Inv X pins σ H s) (hH:H l=some (.lst xs)):xs.length≤sizeLine∧∃ (its:List Value) (n:Nat),Vals xs its∧xs.length=its.length∧s.heap.get? l=some { cls:=.type "list",data:=.seq its.toArray n }:=by
 obtain ⟨z,its,n,r,e⟩:=I.hok l _ hH
 exact ⟨z,its,n,r,r.length,e⟩
theorem notLongL {n:Nat}(h:n≤sizeLine):Builtin.List.listTooLong n=false:=by
 unfold Builtin.List.listTooLong
 exact decide_eq_false (by lia)
end
section
variable {X:Cx}
def rAppend:V→List V→Hp→VK→Prop:=fun x vs H Q=>∃ l xs y,x=.ref l∧vs=[y]∧H l=some (.lst xs)∧xs.length<sizeLine∧Q .non (upd H l (.lst (xs++[y])))
theorem zbr_:MtM X "list.append" rAppend:=by
 intro pins s σ H x vs v us Q I rx rv h
 obtain ⟨l,xs,y,rfl,rfl,hH,hz,q⟩:=h
 cases rx
 obtain ⟨u,rfl,ru⟩:=rv.one
 obtain ⟨z,its,n,r,hl,e⟩:=I.lstM hH
 refine call_meets F.slot_list_append ⟨_,e,rfl⟩ F.entry_list_append (F.args_list_append_2 _ _) (PySem.list_append l its.toArray n u (by rw [List.size_toArray]; lia)) ⟨e,?_⟩
 refine ⟨.non,_,I.lset (its':=its++[u]) hH e (by simp) (r.append (.cons ru .nil)) ?_,rfl,q⟩
 rw [List.length_append,List.length_singleton]
 lia
def rExtend:V→List V→Hp→VK→Prop:=fun x vs H Q=>∃ l b xs zs,x=.ref l∧vs=[.ref b]∧H l=some (.lst xs)∧H b=some (.lst zs)∧xs.length+zs.length≤sizeLine∧Q .non (upd H l (.lst (xs++zs)))
theorem zfU_:MtM X "list.extend" rExtend:=by
 intro pins s σ H x vs v us Q I rx rv h
 obtain ⟨l,b,xs,zs,rfl,rfl,hH,hB,hz,q⟩:=h
 cases rx
 obtain ⟨u,rfl,ru⟩:=rv.one
 cases ru
 obtain ⟨z,its,n,r,hl,e⟩:=I.lstM hH
 obtain ⟨z2,its2,n2,r2,hl2,e2⟩:=I.lstM hB
 have hsz:its.toArray.size+its2.toArray.size≤sizeLine:=by rw [List.size_toArray,List.size_toArray]; lia
 have hlong:¬ (!its.toArray.isEmpty && Builtin.List.listTooLong (its.toArray.size+its2.toArray.size))=true:=by
  rw [notLongL hsz,Bool.and_false]
  exact Bool.false_ne_true
 refine call_meets F.slot_list_extend ⟨_,e,rfl⟩ F.entry_list_extend (F.args_list_extend_2 _ _)
  (AutoSeq1.list_extend_list_list_0 l its.toArray n b its2.toArray n2 hlong (by rw [List.size_toArray]; lia) (by lia)) ⟨e,e2,?_⟩
 refine ⟨.non,_,I.lset (its':=its++its2) hH e (by simp) (r.append r2) ?_,rfl,q⟩
 rw [List.length_append]
 lia
def rPop:V→List V→Hp→VK→Prop:=fun x vs H Q=>∃ l xs y,x=.ref l∧vs=[]∧H l=some (.lst xs)∧xs[xs.length-1]?=some y∧Q y (upd H l (.lst xs.dropLast))
theorem mt_pop:MtM X "list.pop" rPop:=by
 intro pins s σ H x vs v us Q I rx rv h
 obtain ⟨l,xs,y,rfl,rfl,hH,hy,q⟩:=h
 cases rx
 have hus:=rv.zero
 subst hus
 obtain ⟨z,its,n,r,hl,e⟩:=I.lstM hH
 obtain ⟨u,hu,ru⟩:=r.get hy
 have hy':its.toArray[its.toArray.size-1]?=some u:=by
  show its.toArray[its.length-1]?=some u
  rw [← Array.getElem?_toList,← hl]
  exact hu
 refine call_meets F.slot_list_pop ⟨_,e,rfl⟩ F.entry_list_pop (F.args_list_pop_1 _) (MeetsSeq.list_pop_last l its.toArray n u hy' (by rw [List.size_toArray]; lia)) ⟨e,?_⟩
 refine ⟨y,_,I.lset (its':=its.dropLast) hH e ?_ r.dropLast ?_,ru,q⟩
 ·show its.toArray.eraseIdxIfInBounds (its.toArray.size-1)=its.dropLast.toArray
  rw [List.size_toArray,List.eraseIdxIfInBounds_toArray,zii_]
 ·rw [List.length_dropLast]
  lia
def rClear:V→List V→Hp→VK→Prop:=fun x vs H Q=>∃ l xs,x=.ref l∧vs=[]∧H l=some (.lst xs)∧Q .non (upd H l (.lst []))
theorem zkU_:MtM X "list.clear" rClear:=by
 intro pins s σ H x vs v us Q I rx rv h
 obtain ⟨l,xs,rfl,rfl,hH,q⟩:=h
 cases rx
 have hus:=rv.zero
 subst hus
 obtain ⟨z,its,n,r,hl,e⟩:=I.lstM hH
 refine call_meets F.slot_list_clear ⟨_,e,rfl⟩ F.entry_list_clear (F.args_list_clear_1 _) (AutoSeq1.list_clear_list_0 l its.toArray n (by rw [List.size_toArray]; lia)) ⟨e,?_⟩
 exact ⟨.non,_,I.lset (its':=[]) (ys:=[]) hH e rfl .nil (Nat.zero_le _),rfl,q⟩
def rCat:R2:=fun x y H Q=>∃ l b xs zs,x=.ref l∧y=.ref b∧H l=some (.lst xs)∧H b=some (.lst zs)∧xs.length+zs.length≤sizeLine∧∀ p,H p=none→Q (.ref p) (upd H p (.lst (xs++zs)))
theorem zog_:OpR X (binaryOp .Add) rCat:=by
 intro pins s σ H x y v u Q I rx ry h
 obtain ⟨l,b,xs,zs,rfl,rfl,hH,hB,hz,q⟩:=h
 cases rx
 cases ry
 obtain ⟨z,its,n,r,hl,e⟩:=I.lstM hH
 obtain ⟨z2,its2,n2,r2,hl2,e2⟩:=I.lstM hB
 refine PySem.P.add_list e e2 ?_ (by rw [List.size_toArray,List.size_toArray]; lia)
 have ea:its.toArray++its2.toArray=(its++its2).toArray:=by simp
 rw [ea]
 exact ⟨.ref _,_,I.lnew (t':=s.toks) (r.append r2) (by rw [List.length_append]; lia),rfl,q _ I.fresh⟩
def rRep:R2:=fun x y H Q=>∃ l k xs,x=.ref l∧y=.int k∧H l=some (.lst xs) ∧ -(2 ^ 63)≤k∧k<2 ^ 63∧xs.length*k.toNat≤sizeLine ∧
 ∀ p,H p=none→Q (.ref p) (upd H p (.lst (List.replicate k.toNat xs).flatten))
theorem zjM_ {α:Type}(xs:List α) (k:Nat):(List.replicate k xs).flatten.length=k*xs.length:=by
 induction k with
 | zero=>simp
 | succ k ih=>rw [List.replicate_succ,List.flatten_cons,List.length_append,ih,Nat.succ_mul,Nat.add_comm]
theorem zow_:OpR X (binaryOp .Mult) rRep:=by
 intro pins s σ H x y v u Q I rx ry h
 obtain ⟨l,k,xs,rfl,rfl,hH,h1,h2,hz,q⟩:=h
 cases rx
 obtain ⟨t,rfl⟩:=ry
 obtain ⟨z,its,n,r,hl,e⟩:=I.lstM hH
 have hlen:its.toArray.size*k.toNat≤sizeLine:=by rw [List.size_toArray,← hl]; exact hz
 have hcap:¬ its.toArray.size*k.toNat > (2 ^ 63-1) / 8:=by
  have:(sizeLine:Nat)≤(2 ^ 63-1) / 8:=by decide
  lia
 have hfit:¬ (!Builtin.List.listFitsIndex k)=true:=by
  rw [fitsIndex_both h1 h2]
  exact Bool.false_ne_true
 have hlong:¬ Builtin.List.listTooLong (its.toArray.size*k.toNat)=true:=by
  rw [notLongL hlen]
  exact Bool.false_ne_true
 have hnew:List.foldl (fun x1 x2=>x1++x2) #[] (List.replicate (if its.toArray.isEmpty=true then 0 else k.toNat) its.toArray)=(List.replicate k.toNat its).flatten.toArray:=by
  have f0:∀ m:Nat,List.foldl (fun x1 x2=>x1++x2) #[] (List.replicate m its.toArray)=(List.replicate m its).flatten.toArray:=fun m=>by
   have:=zf7_ its m []
   rw [List.nil_append] at this
   exact this
  rw [f0]
  cases its with
  | nil=>simp
  | cons a r'=>rw [if_neg (by simp)]
 refine wpAny_binaryOp_repeat_ref (T := "list") (U := "int") (by decide) ⟨_,e,rfl⟩ (fun s'=>typeIs_int s' k t) noFill_list_mul F.fills_int_mul F.slot_int_rmul repeat_list F.slot_int_index.lookup
  (call_meets F.slot_int_rmul (typeIs_int s k t) F.entry_int_rmul (F.args_int_rmul_2 _ _) (int___rmul___int_list k t l its.toArray n)
   ⟨e,rfl,⟨_,e,rfl⟩,call_meets F.slot_list_mul ⟨_,e,rfl⟩ F.entry_list_mul (F.args_list_mul_2 _ _) (AutoListH.list___mul___list_int_3 l its.toArray n k t hfit hcap hlong) ⟨e,?_⟩⟩)
 rw [hnew]
 exact ⟨.ref _,_,I.lnew (t':=s.toks) (r.rep k.toNat) (by rw [zjM_,Nat.mul_comm]; exact hz),rfl,q _ I.fresh⟩
end
section
variable {prog:Program}{w:World}{A:Around}{E:Value→Shared→Prop}{s:Shared}
end
section
variable {X:Cx}
end
end L2
namespace Att
open PySem PySem.W PySem.Calls PyProof.Rows
theorem zc8_ {P:Params}{h:Heap}:∀ (ns:List Int) (vs:List Value),WellAll P h vs (ns.map WData.int)→IntsAre vs ns:=by
 intro ns
 induction ns with
 | nil =>
  intro vs w
  rw [List.map_nil] at w
  cases w
  exact .nil
 | cons n ns ih =>
  intro vs w
  rw [List.map_cons] at w
  cases w with
  | cons a b =>
   cases a
   exact .cons _ _ (ih _ b)
theorem ziR_ {l:OpenLaw}{n:Nat}(hn:l.most=some n) {P:Params}{h:Heap}{args:List WData}{vals:List Value}
  (hpre:l.row.toRowW.claim.pre args=true) (hwl:WellAll P h vals args) :
  ∃ a vs ns,vals=[Value.ref a]∧args=[WData.list (ns.map WData.int)]∧h.get? a=some { cls:=.type "list",data:=.seq vs.toArray }∧IntsAre vs ns∧ns.length≤n:=by
 have hsh:WShape.hasAll [] args [.list .int]=true:=(pre_splitW hpre).1
 have hc:l.pre.holds [] { args:=args }=true:=(pre_splitW hpre).2
 obtain ⟨d,r,rfl,h1,h2⟩:=hasAllW_cons hsh
 obtain rfl:=hasAllW_nil h2
 obtain ⟨xs,rfl,h3⟩:=hasW_list h1
 obtain ⟨ns,rfl⟩:=items_int h3
 have hlen:ns.length≤n:=by
  unfold OpenLaw.pre at hc
  have h4:(WTm.not (.lt (.lit (.int (n:Int))) (.len (.arg 0)))).holds [] { args:=[.list (ns.map .int)] }=true:=by
   have h4:=(holds_andW hc).1
   rw [hn] at h4
   exact h4
  have h5:=condW_of h4 (w_not (w_lt w_lit (w_len_list (w_arg rfl))))
  rw [List.length_map] at h5
  refine Nat.le_of_not_lt fun q=>?_
  have q':(n:Int)<((ns.length:Nat):Int):=by lia
  first
   | (rw [decide_eq_true q'] at h5; exact absurd h5 (by decide))
   | (simp at h5; lia)
 cases hwl with
 | cons w1 w2 =>
  cases w2
  cases w1 with
  | list ho hall=>exact ⟨_,_,ns,rfl,rfl,ho,zc8_ ns _ hall,hlen⟩
theorem ziA_ (l:OpenLaw) (args:List WData):l.row.toRowW.claim.post args (.bool true) args=true :=
 postW_of (r:=l.row.toRowW) (X:=(true == true))
  (show WShape.has [] (.bool true) .bool=true by first | rfl | decide | simp [WShape.has,WShape.arms,WShape.armsAll])
  (show (WTm.eq .res (.lit (.bool true))).value [] { args:=args,res:=some (.bool true),after:=args }=some (.bool (true == true)) from w_eq_bool (w_res rfl) w_lit) rfl
section
variable {prog:Program}{w:World}{A:Around}{E:Value→Shared→Prop}{s:Shared}{K:Frag}
end
end Att
namespace L2
open PySem PySem.Spec PyProof.Rows
theorem zfR_:∀ {vs:List Value}{ns:List Int},IntsAre vs ns→Vals (ns.map V.int) vs
 | _,_,.nil=>.nil
 | _,_,.cons n t h=>.cons ⟨t,rfl⟩ (zfR_ h)
def Only (H:Hp):Prop:=∀ b,H b=none∨∃ o xs,H b=some (.frz o (.lst xs))
theorem zkL_ {P:Program}{w:World}{K:Fgg}{mg mb:Str→Option Value}{CX:CXT}{k:Nat}{fa a:Addr}{fd:FuncData}{x:Str}{sp:Sp}{s₁:Shared}{vs:List Value}{ns:List Int}
  (KX:K.In s₁.heap) (hns:s₁.heap.Ns mainGlobals mg) (hb:s₁.heap.Ns builtinsNs mb) (hbb:∀ x:Str,x ≠ "__name__" → mb x=bootBuiltins x) (hlim:s₁.heap.NoLimit) (hg:s₁.gens=#[])
  (ha:s₁.heap.get? a=some { cls:=.type "list",data:=.seq vs.toArray }) (hi:IntsAre vs ns) (hl:ns.length≤sizeLine) (hr:Room k callerA)
  (F:∀ base:Heap,K.In base→base.Ns mainGlobals mg→FnOk P w K mg base CX k fa fd [x] sp) (hbind:∀ (s:Shared) (u:Value),BindsTo s fd ⟨[u],[]⟩ [(x,u)])
  (hsp:∀ H:Hp,Only H→SqL K H a (ns.map V.int)→sp [.ref a] H (fun v _=>v=.bl true) fun _ _ _=>False)
  (hCX:∀ H e s',CX [] H s₁ (fun _ _ _=>False) e s'→False) :
  codeAny (model P w) callerA (.call (.ref fa) ⟨[.ref a],[]⟩) (fun r s'=>r=.ok (.ret (.bool true))∧OldK s₁.heap s'.heap∧s'.os=s₁.os∧AllBare s'.gens) s₁:=by
 have rv:=zfR_ hi
 have lenV:=hi.length
 have core:∀ H:Hp,Only H→SqL K H a (ns.map V.int)→HOk P w H s₁.heap→(∀ b,H b≠none→b=a)→(H a≠none→K.lookup a=none) →
   codeAny (model P w) callerA (.call (.ref fa) ⟨[.ref a],[]⟩) (fun r s'=>r=.ok (.ret (.bool true))∧OldK s₁.heap s'.heap∧s'.os=s₁.os∧AllBare s'.gens) s₁:=by
  intro H hO hS hok hA hK
  have base_of:∀ {b:Addr}{o:Obj},s₁.heap.get? b=some o→H b=none→(hidT s₁.heap H).get? b=some o:=fun e n=>zlP_ e n
  have noA:∀ {b:Addr}{o:Obj}{es:Array DictEntry}{ep:Nat},s₁.heap.get? b=some o→o.data=.dict es ep→H b=none:=fun {b o es ep} e d=>by
   cases q:H b with
   | none=>rfl
   | some u =>
    have e':b=a:=hA b (by rw [q]; simp)
    subst e'
    rw [ha] at e; cases e
    have d':Data.seq vs.toArray _=Data.dict es ep:=d
    cases d'
  have nsK:∀ {b:Addr}{m:Str→Option Value},s₁.heap.Ns b m→(hidT s₁.heap H).Ns b m:=fun {b m} ⟨o,es,ep,e,d,r⟩=>⟨o,es,ep,base_of e (noA e d),d,r⟩
  have hKb:K.In (hidT s₁.heap H):=fun b o e=>base_of (KX b o e) (by
   cases q:H b with
   | none=>rfl
   | some u =>
    have e':b=a:=hA b (by rw [q]; simp)
    subst e'
    rw [hK (by rw [q]; simp)] at e; cases e)
  have hM:Mod K mg (hidT s₁.heap H):=⟨hKb,nsK hns,⟨mb,nsK hb,hbb⟩,let ⟨mc,h1,h2⟩:=hlim; ⟨mc,nsK h1,h2⟩⟩
  have e0:Env0 P w K mg (hidT s₁.heap H) callerA [] s₁ H:=⟨rfl,hM,fun b o e=>zmk_ e,Nat.le_of_eq (zjm_ _ _),trivial,fun b hb=>absurd (show b∈([]:List Addr) from hb) (by simp),hok,.of_eq hg⟩
  refine codeAny_mono ((F _ hKb (nsK hns)).run callerA [] s₁ H ⟨[.ref a],[]⟩ [.ref a] [.ref a] _ _ hr e0 (hbind s₁ (.ref a)) (.cons rfl .nil) (hsp H hO hS)) fun r s' h=>?_
  cases r with
  | error e=>exact (hCX H e s' h).elim
  | ok fl =>
   cases fl with
   | next=>exact False.elim h
   | brk=>exact False.elim h
   | cont=>exact False.elim h
   | ret u =>
    obtain ⟨v,H',os,bare,un,hok',r',q⟩:=h
    have q':v=.bl true:=q
    subst q'
    obtain rfl:u=Value.bool true:=r'
    refine ⟨rfl,OldK.of_keep fun b o e=>?_,os,bare⟩
    cases q:H b with
    | none=>exact un.keep b o e q (by intro z; exact absurd (show b∈([]:List Addr) from z) (by simp)) (by simp)
    | some u =>
     rcases hO b with z | ⟨ob,xs,z⟩
     ·rw [q] at z; cases z
     ·have z2:=un.frzs b ob _ z
      obtain ⟨e1,_⟩:=hok b _ z
      obtain ⟨e2,_⟩:=hok' b _ z2
      rw [e] at e1; cases e1
      exact e2
 cases hk:K.lookup a with
 | some o =>
  have e:=KX a o hk
  rw [ha] at e
  cases e
  refine core (fun _=>none) (fun _=>.inl rfl) (.inr ⟨_,vs.toArray,_,hk,rfl,rfl,rfl,by rw [List.size_toArray,lenV]; exact hl,by simpa using rv⟩) (fun b u z=>by have z':(none:Option HO)=some u:=z; cases z') (fun b z=>absurd rfl z) fun z=>absurd rfl z
 | none =>
  refine core (fun b=>if b=a then some (.frz { cls:=.type "list",data:=.seq vs.toArray } (.lst (ns.map V.int))) else none) (fun b=>?_) (.inl (.inr ⟨{ cls:=.type "list",data:=.seq vs.toArray },if_pos rfl⟩)) (fun b u z=>?_) (fun b z=>?_) fun _=>hk
  ·by_cases hb:b=a
   ·exact .inr ⟨_,_,if_pos hb⟩
   ·exact .inl (if_neg hb)
  ·by_cases hb:b=a
   ·have z':=(if_pos hb).symm.trans z
    cases z'
    subst hb
    exact ⟨ha,by rw [List.length_map]; exact hl,vs,_,rv,ha⟩
   ·have z':=(if_neg hb).symm.trans z
    cases z'
  ·by_cases hb:b=a
   ·exact hb
   ·exact absurd (if_neg hb) z
end L2
namespace L2
open PySem PySem.Spec PyProof.Rows
end L2
namespace L2
open PySem PySem.Spec PyProof.Rows
def inClass (s:Stmt) (j:Nat):Stmt:=match s with
 | .ClassDef _ _ _ body _ _ _ _ _ _ _=>body.getD j (.Pass ⟨0,0,0,0⟩)
 | _=>.Pass ⟨0,0,0,0⟩
def defArgs (s:Stmt):Arguments:=match s with
 | .FunctionDef _ a _ _ _ _ _ _ _ _=>a
 | _=>{ posonlyargs:=[],args:=[],vararg:=none,kwonlyargs:=[],kw_defaults:=[],kwarg:=none,defaults:=[] }
def defBody (s:Stmt):List Stmt:=match s with
 | .FunctionDef _ _ b _ _ _ _ _ _ _=>b
 | _=>[]
def defScope (s:Stmt):Scope:=match s with
 | .FunctionDef _ _ _ _ _ _ sc _ _ _=>sc
 | _=>{ kind:=.function,names:=[],isGenerator:=false,isCoroutine:=false }
abbrev CX0:CXT:=fun _ _ _ _ _ _=>False
abbrev E0:XK:=fun _ _ _=>False
theorem pass0 {X:Cx}:Passes CX0 X E0:=fun _ _ _ _ _ _ _ h=>h.elim
structure Fun (K:Fgg) (x qual:Str) (st:Stmt) (f:Addr) (fd:FuncData):Prop where
 ex:∃ (oc:Value) (od:Option Addr) (kV doc pm:Value) (an:Option Addr) (cdv ct:Value) (osl:Array (Option Value)),
  fd=PySem.W.fnOf x qual (defArgs st) (defBody st) (defScope st) .none kV doc pm an cdv ct∧K.lookup f=some ⟨oc,od,.func fd,osl⟩∧PySem.W.codeIn K cdv qual=true
 kp:PySem.W.keepIn K (.ref f)=true
section
variable {P:Program}{w:World}{K:Fgg}{mg:Str→Option Value}{base:Heap}
theorem Fun.ok {x qual:Str}{st:Stmt}{f:Addr}{fd:FuncData}{N ps:List Str}{k:Nat}{sp:Sp}(F:Fun K x qual st f fd) (S:FnScope N ps (defScope st)) (len:∀ vs H Q E,sp vs H Q E→vs.length=ps.length)
  (hbody:∀ (cdv:Value) (A:Around) (outer:List Env) (s:Shared) (H:Hp) (vs:List V) (Q:VK) (E:XK),Room k (A.deeper (envOfC qual (defScope st) s.heap.objs.size f cdv))→sp vs H Q E →
   ∃ t,PSs (cxOf CX0 P w K mg base N qual (defScope st) f cdv A outer s H E).nox (defBody st) t∧t { nx:=fun _ H'=>Q .non H',rt:=Q } (start N vs) H):FnOk P w K mg base CX0 (k+1) f fd ps sp:=by
 obtain ⟨oc,od,kV,doc,pm,an,cdv,ct,osl,rfl,lk,hcd⟩:=F.ex
 refine fn_of lk hcd S len fun A outer s H vs Q E hr hsp=>?_
 obtain ⟨t,h,q⟩:=hbody cdv A outer s H vs Q E hr hsp
 exact ⟨t,h.nox,q⟩
theorem Fun.binds {x qual:Str}{st:Stmt}{f:Addr}{fd:FuncData}{ps:List Str}(F:Fun K x qual st f fd)
  (h:∀ (kV doc pm:Value) (an:Option Addr) (cdv ct:Value) (us:List Value),us.length=ps.length→bindArgs (PySem.W.fnOf x qual (defArgs st) (defBody st) (defScope st) .none kV doc pm an cdv ct) ⟨us,[]⟩=pure (ps.zip us)):Binds K fd ps []:=by
 obtain ⟨oc,od,kV,doc,pm,an,cdv,ct,osl,rfl,lk,hcd⟩:=F.ex
 exact .all (h kV doc pm an cdv ct)
theorem zm8_ {x qual:Str}{st:Stmt}{f:Addr}{oc:Value}{od an:Option Addr}{osl:Array (Option Value)}{kV doc pm cdv ct:Value}(l:K.lookup f=some ⟨oc,od,.func (PySem.W.fnOf x qual (defArgs st) (defBody st) (defScope st) .none kV doc pm an cdv ct),osl⟩)
  (c:PySem.W.codeIn K cdv qual=true) (k:PySem.W.keepIn K (.ref f)=true):Fun K x qual st f (PySem.W.fnOf x qual (defArgs st) (defBody st) (defScope st) .none kV doc pm an cdv ct):=⟨⟨oc,od,kV,doc,pm,an,cdv,ct,osl,rfl,l,c⟩,k⟩
end
section
variable {X:Cx}
end
def Same (H H':Hp):Prop:=∀ b o,H b=some o→H' b=some o
theorem Same.refl (H:Hp):Same H H:=fun _ _ h=>h
theorem Same.trans {H H1 H2:Hp}(a:Same H H1) (b:Same H1 H2):Same H H2:=fun c o h=>b c o (a c o h)
theorem Same.free {H H':Hp}(e:Same H H') {l:Addr}(h:H' l=Option.none):H l=Option.none:=by
 cases q:H l with
 | none=>rfl
 | some o =>
  rw [e l o q] at h
  cases h
theorem Same.seq {K:Fgg}{H H':Hp}{a:Addr}{xs:List V}(e:Same H H') (h:SqL K H a xs):SqL K H' a xs:=by
 rcases h with (h | ⟨o,h⟩) | h
 ·exact .inl (.inl (e _ _ h))
 ·exact .inl (.inr ⟨o,e _ _ h⟩)
 ·exact .inr h
end L2
namespace L2
open PySem PySem.Spec PyProof.Rows
def Itp (n:Nat) (f:Nat→V):It:=⟨fun i _=>i<n,fun i H x H'=>H'=H∧x=f i,fun i _=>n≤i⟩
def ownTups:List String:=["enumerate", "zip", "dict_itemiterator", "dict_reverseitemiterator", "odict_iterator", "itertools.zip_longest", "itertools.pairwise"]
theorem zjs_ {P:Program}{w:World}{K:Fgg}{tg:Expr}{it:Addr}{n:Nat}{f:Nat→V}{Pw:Nat→Value→Prop}{St:Nat→Heap→Prop}
  (W:∀ A:Around,A.handled=none→Walks P w A it [it] [it] n Pw St) (hv:∀ i v,i<n→Pw i v→RelV (f i) v)
  (ho:∀ i h,St i h→∃ o nm vs,h.get? it=some o∧o.cls=.type nm∧o.data=.fields vs∧ownTups.contains nm=false)
  (hself:∀ (A:Around) (i:Nat) (s:Shared) (Q:Value→Shared→Prop) (E:Value→Shared→Prop),St i s.heap→Q (.ref it) s→wpAny (model P w) A (pyIter (.ref it)) Q E s)
  (hkeep:∀ i h h',St i h→(∀ b∈[it],∀ o,h.get? b=some o→h'.get? b=some o)→St i h') :
  Turn P w K tg (Itp n f) [it] it (fun i h=>i≤n∧St i h) where
 mem:=by simp
 obj:=fun i h st b hb=>by
  have e:b=it:=by simpa using hb
  subst e
  obtain ⟨o,nm,vs,e,c,d,_⟩:=ho i h st.2
  exact ⟨o,e,fun v z=>by rw [d] at z; cases z⟩
 keep:=fun i h h' st k=>⟨st.1,hkeep i h h' st.2 k⟩
 item:=by
  intro X hP hw hK hc i pins s σ H E I hf st hg
  subst hP hw hK
  obtain ⟨f0,f1,f2,f3,f4,f5⟩:=hf it (by simp)
  have hi:i<n:=hg
  refine (W X.A (I.ok.hd hc)).item i s _ _ hi st.2 fun v h' tk hv' st' kk=>?_
  have I1:Inv X pins σ H { s with heap:=h',toks:=tk }:=I.turned (fun b o hb e=>kk b o (by simpa using hb) e) f0 f1 f3 f4 f5
  obtain ⟨o,nm,vs,e,c,d,hn⟩:=ho _ _ st'
  exact ⟨_,rfl,znJ_ (s:={ s with heap:=h',toks:=tk }) (n:=nm) e c d hn ⟨f i,H,I1,hv i v hi hv',⟨rfl,rfl⟩,⟨hi,st'⟩,fun b hb=>(hf b hb).1⟩⟩
 done:=by
  intro X hP hw hK hc i pins s σ H E I hf st hg
  subst hP hw hK
  obtain ⟨f0,f1,f2,f3,f4,f5⟩:=hf it (by simp)
  have hi:n≤i:=hg
  have e:i=n:=Nat.le_antisymm st.1 hi
  subst e
  exact (W X.A (I.ok.hd hc)).done s _ _ st.2 fun h' tk kk=>⟨rfl,I.turned (fun b o hb e=>kk b o (by simpa using hb) e) f0 f1 f3 f4 f5⟩
 self:=fun A i s Q E st h=>hself A i s Q E st.2 h
def sgn (x:Str) (i:Nat):V:=.str ⟨#[x.cps.getD i 0]⟩
theorem zi4_ {P:Program}{w:World}{it:Addr}{x:Str}{t:Tok}(A:Around) (hA:A.handled=none):Walks P w A it [it] [it] x.cps.size (SignAt x) (fun i h=>h.IsStrIter it (strIterType x) x t i):=by
 cases ha:x.cps.all (·<128)
 ·have e:strIterType x = "str_iterator" := by simp [strIterType,ha]
  rw [e]; exact Walks.strWide hA it x t
 ·have e:strIterType x = "str_ascii_iterator" := by simp [strIterType,ha]
  rw [e]; exact Walks.strAscii hA it x t
theorem zhB_ {x:Str}{i:Nat}{v:Value}(h:SignAt x i v):RelV (sgn x i) v:=by
 obtain ⟨c,u,e,rfl⟩:=h
 refine ⟨u,?_⟩
 have:x.cps.getD i 0=c:=by simp [Array.getD_eq_getD_getElem?,e]
 rw [this]
theorem zdJ_ (x:Str):ownTups.contains (strIterType x)=false:=by
 unfold strIterType; split<;>decide
theorem zlB_ {P:Program}{w:World}{K:Fgg}{tg:Expr}(it:Addr) (x:Str) (t:Tok):Turn P w K tg (Itp x.cps.size (sgn x)) [it] it (fun i h=>i≤x.cps.size∧h.IsStrIter it (strIterType x) x t i):=by
 refine zjs_ (Pw:=SignAt x) (fun A hA=>zi4_ A hA) (fun i v _ h=>zhB_ h) (fun i h st=>?_) (fun A i s Q E st h=>?_) (fun i h h' st k=>?_)
 ·obtain ⟨o,e,c,d⟩:=st
  exact ⟨o,_,_,e,c,d,zdJ_ x⟩
 ·cases ha:x.cps.all (·<128)
  ·have e:strIterType x = "str_iterator" := by simp [strIterType,ha]
   rw [e] at st; exact wpAny_pyIter_striter_wide st h
  ·have e:strIterType x = "str_ascii_iterator" := by simp [strIterType,ha]
   rw [e] at st; exact wpAny_pyIter_striter_ascii st h
 ·obtain ⟨o,e,r⟩:=st
  exact ⟨o,k it (by simp) o e,r⟩
section
variable {X:Cx}{tg:Expr}
end
end L2
namespace L2
open PySem PySem.Spec PyProof.Rows
section
variable {X:Cx}{elts:List Expr}{kk:Nat}{tpos:Pos}
end
end L2
namespace L2
open PySem PySem.Spec PyProof.Rows
section
variable {prog:Program}{w:World}{A:Around}{R:Result→Shared→Prop}{s:Shared}
theorem zgu_ {elt target iter:Expr}{ifs:List Expr}{scope:Scope}{pos:Pos}{it acc:Value}{env:Env}(I:Nat→Shared→Prop)
  (turn:∀ n s,I n s→wpAny (model prog w) A (pyNext it) (fun r s₁=>match r with
   | none=>R (.ok .next) s₁
   | some v=>wpAny (model prog w) A (letOwnedTupleGo target it v) (fun _ s₂=>wpAny (model prog w) A (assign target env v) (fun _ s₃ =>
     wpAny (model prog w) A (forIn ifs true fun c r=>if r=true then do let ok ← isTrue c env (eval c env); pure (ForInStep.yield ok) else pure (ForInStep.yield r)) (fun ok s₄ =>
      if ok=true then wpAny (model prog w) A (eval elt env) (fun x s₅ =>
       wpAny (model prog w) A (call (.builtin "list.append") [acc,x]) (fun _ s₆=>∃ m,m<n∧I m s₆) (fun _ _=>False) s₅) (fun _ _=>False) s₄
      else ∃ m,m<n∧I m s₄) (fun _ _=>False) s₃) (fun _ _=>False) s₂) (fun _ _=>False) s₁) (fun _ _=>False) s)
  (n:Nat) (h:I n s) :
  codeAny (model prog w) A (.compLoop (.ListComp elt [⟨target,iter,ifs,0⟩] scope pos) 0 it acc env) R s:=by
 refine codeAny_loop rfl I (fun n s hI=>?_) n h
 show wpAny _ A ((compTurn (.ListComp elt [⟨target,iter,ifs,0⟩] scope pos) 0 it acc env).onRaise (fun x=>do noteFrame x env; theTreesLotGoes x)) _ _ s
 refine wpAny_noted ?_
 rw [compTurn_list]
 refine wpAny_bind (wpAny_standAt (wpAny_bind (wpAny_mono (turn n s hI) (fun r s₁ h₁=>?_) fun _ _ h'=>h'.elim)))
 cases r with
 | none=>exact wpAny_pure h₁
 | some v =>
  refine wpAny_bind (wpAny_mono h₁ (fun _ s₂ h₂=>?_) fun _ _ h'=>h'.elim)
  refine wpAny_bind (wpAny_mono h₂ (fun _ s₃ h₃=>wpAny_bind (wpAny_mono h₃ (fun ok s₄ h₄=>?_) fun _ _ h'=>h'.elim)) fun _ _ h'=>h'.elim)
  cases ok with
  | false=>exact wpAny_pure ⟨rfl,h₄⟩
  | true =>
   exact wpAny_bind (wpAny_bind (wpAny_mono h₄ (fun x s₅ h₅=>wpAny_bind (wpAny_mono h₅ (fun _ s₆ h₆=>wpAny_pure (wpAny_pure ⟨rfl,h₆⟩)) fun _ _ h'=>h'.elim)) fun _ _ h'=>h'.elim))
end
def closeL (cells:List (Str×Addr)):List (Str×NameKind)→List (Str×Addr)→Option (List (Str×Addr))
 | [],acc=>some acc
 | (n,k)::r,acc=>if (k == .free)=true then (match cells.lookup n with | some c=>closeL cells r ((n,c)::acc) | none=>none) else closeL cells r acc
theorem zcI_ {env:Env}{f:Str×NameKind→List (Str×Addr)→Sem (ForInStep (List (Str×Addr)))}
  (hf:∀ n k cs,f (n,k) cs=if (k == NameKind.free)=true then (do let c ← cellOf env n; pure (ForInStep.yield ((n,c)::cs))) else pure (ForInStep.yield cs)) :
  ∀ (names:List (Str×NameKind)) (acc cl:List (Str×Addr)),closeL env.cells names acc=some cl→(forIn names acc f:Sem (List (Str×Addr)))=pure cl
 | [],acc,cl,h=>by cases h; rfl
 | (n,k)::r,acc,cl,h=>by
  rw [List.forIn_cons,hf]
  unfold closeL at h
  by_cases hk:(k == NameKind.free)=true
  ·rw [if_pos hk] at h
   rw [if_pos hk]
   cases hc:env.cells.lookup n with
   | none=>rw [hc] at h; cases h
   | some c =>
    rw [hc] at h
    have e:cellOf env n=pure c:=by unfold cellOf; rw [hc]
    rw [e]
    simp only [pure_bind]
    exact zcI_ hf r _ cl h
  ·rw [if_neg hk] at h
   rw [if_neg hk]
   simp only [pure_bind]
   exact zcI_ hf r _ cl h
theorem zgh_ {env:Env}{scope:Scope}{cl:List (Str×Addr)}(h:closeL env.cells scope.names []=some cl):closureFor scope env=pure cl:=by
 unfold closureFor
 dsimp only
 rw [zcI_ (env:=env) (fun n k cs=>rfl) scope.names [] cl h]
 rfl
theorem zbS_ {cells:List (Str×Addr)}:∀ (names:List (Str×NameKind)) (acc cl:List (Str×Addr)),closeL cells names acc=some cl→(∀ x c,acc.lookup x=some c→cells.lookup x=some c) →
  (∀ x c,cl.lookup x=some c→cells.lookup x=some c)
 | [],acc,cl,h,ha=>by cases h; exact ha
 | (n,k)::r,acc,cl,h,ha=>by
  unfold closeL at h
  by_cases hk:(k == NameKind.free)=true
  ·rw [if_pos hk] at h
   cases hc:cells.lookup n with
   | none=>rw [hc] at h; cases h
   | some c =>
    rw [hc] at h
    refine zbS_ r _ cl h fun x c' e=>?_
    rw [List.lookup_cons] at e
    cases hx:x == n with
    | true=>rw [hx] at e; cases e; rw [eq_of_beq hx]; exact hc
    | false=>rw [hx] at e; exact ha x c' e
  ·rw [if_neg hk] at h
   exact zbS_ r _ cl h ha
theorem zcJ_ {cells:List (Str×Addr)}:∀ (names:List (Str×NameKind)) (acc cl:List (Str×Addr)),closeL cells names acc=some cl→∀ x,((x,NameKind.free)∈names∨∃ c,acc.lookup x=some c)→∃ c,cl.lookup x=some c
 | [],acc,cl,h,x,hx=>by
  cases h
  rcases hx with hx | hx
  ·cases hx
  ·exact hx
 | (n,k)::r,acc,cl,h,x,hx=>by
  unfold closeL at h
  by_cases hk:(k == NameKind.free)=true
  ·rw [if_pos hk] at h
   cases hc:cells.lookup n with
   | none=>rw [hc] at h; cases h
   | some c =>
    rw [hc] at h
    refine zcJ_ r _ cl h x ?_
    rcases hx with hx | ⟨c',e⟩
    ·rcases List.mem_cons.mp hx with e | hx
     ·cases e; exact .inr ⟨c,by rw [List.lookup_cons,beq_self_eq_true]⟩
     ·exact .inl hx
    ·refine .inr ?_
     rw [List.lookup_cons]
     cases hxn:x == n with
     | true=>exact ⟨c,rfl⟩
     | false=>exact ⟨c',e⟩
  ·rw [if_neg hk] at h
   refine zcJ_ r _ cl h x ?_
   rcases hx with hx | hx
   ·rcases List.mem_cons.mp hx with e | hx
    ·cases e; exact absurd rfl hk
    ·exact .inl hx
   ·exact .inr hx
theorem zdl_ {scope:Scope}{env:Env}{x:Str}{k:NameKind}(h:(relabel scope env).names.lookup x=some k) (hk:k=.cell∨k=.free) (hcell:∀ y∈scope.names,y.2≠.cell):(x,NameKind.free)∈scope.names:=by
 have m:=PySem.mem_of_lookup h
 obtain ⟨⟨n,k0⟩,hm,e⟩:=List.mem_map.mp m
 dsimp only at e
 split at e
 ·rename_i hc
  cases e
  have:k0=.free:=by
   simp only [Bool.and_eq_true,beq_iff_eq] at hc
   exact hc.1.1
  subst this; exact hm
 ·cases e
  rcases hk with rfl | rfl
  ·exact absurd rfl (hcell _ hm)
  ·exact hm
def cxComp (X:Cx) (scope:Scope) (cl:List (Str×Addr)) (C:Addr) (N:List Str) (fp:List Addr) (s2:Shared) (H2:Hp):Cx where
 prog:=X.prog
 w:=X.w
 K:=X.K
 mg:=X.mg
 base:=X.base
 A:=X.A
 N:=N
 s₀:=s2
 H₀:=H2
 env:=compEnvC scope cl C X.env
 outer:=X.stack
 stack:=X.stack
 ex:=fp
 fn:=fun _=>false
 calm:=X.calm
 pn:=[]
 xe:=fun _ _=>False
structure CScope (X:Cx) (scope:Scope) (cl:List (Str×Addr)) (lv:List Str) (fr:List (Str×Nat)):Prop where
 clos:closeL X.env.cells scope.names []=some cl
 cell:∀ y∈scope.names,y.2≠.cell
 kind:scope.kind=.function
 names:∀ z∈scope.names,z.2=.local→scope.names.lookup z.1=some .local
 fr:∀ q∈fr,X.N[q.2]?=some q.1∧(q.1,NameKind.free)∈scope.names∧(X.env.kindOf q.1=some .cell∨X.env.kindOf q.1=some .free) ∧
  ((relabel scope X.env).names.lookup q.1=some .cell∨(relabel scope X.env).names.lookup q.1=some .free)
def cN (lv:List Str) (fr:List (Str×Nat)):List Str:=lv++fr.map (·.1)
def cS (lv:List Str) (fr:List (Str×Nat)) (σ:St):St:=lv.map (fun _=>none)++fr.map fun q=>(σ[q.2]?).join
theorem zlr_ {X:Cx}{pins:Pnn}{σ:St}{H2:Hp}{s2:Shared}{scope:Scope}{cl:List (Str×Addr)}{lv:List Str}{fr:List (Str×Nat)}{fp:List Addr}{h4:Heap}{tk:Nat}{m:Str→Option Value}{n:Nat}
  (I:Inv X pins σ H2 s2) (S:CScope X scope cl lv fr) (hf:∀ b∈fp,FpOk X pins H2 b) (hlt:∀ b∈fp,b<s2.heap.objs.size) (hC:h4.Ns (s2.heap.objs.size+1) m) (hD:h4.get? s2.heap.objs.size=some { cls:=.type "list",data:=.seq #[] n })
  (hk:∀ b o,s2.heap.get? b=some o→h4.get? b=some o) :
  Inv (cxComp X scope cl (s2.heap.objs.size+1) (cN lv fr) fp s2 H2) [] (cS lv fr σ) (upd H2 s2.heap.objs.size (.lst [])) { s2 with heap:=h4,toks:=tk }:=by
 have hcl:=zbS_ scope.names [] cl S.clos (fun x c e=>by cases e)
 have hhas:=zcJ_ scope.names [] cl S.clos
 have hDn:H2 s2.heap.objs.size=none:=I.hok.fresh (Nat.le_refl _)
 have hCn:H2 (s2.heap.objs.size+1)=none:=I.hok.fresh (Nat.le_succ _)
 have hCD:s2.heap.objs.size+1≠s2.heap.objs.size:=Nat.ne_of_gt (Nat.lt_succ_self _)
 have fpC:∀ b∈fp,(b∈X.ex∨X.s₀.heap.objs.size≤b):=fun b hb=>(hf b hb).2.2.2.1
 have cellLt:∀ x c,cl.lookup x=some c→c<s2.heap.objs.size:=fun x c e=>by
  obtain ⟨v,o,ho,_⟩:=I.cell x c (hcl x c e)
  exact Heap.lt_size ho
 refine ⟨⟨I.ok.mod,S.kind,I.ok.glob,I.ok.blt,Nat.le_succ _,fun x y c h1 h2=>I.ok.inj x y c (hcl x c h1) (hcl y c h2),fun x hx=>?_,fun x c hfn=>(by cases hfn),I.ok.hd,I.ok.frames,.inl rfl,fun b hb=>?_,I.bs,Nat.le_trans I.ok.bsz I.sz,fun b o e hb=>?_,fun b hb z=>?_,I.stack,I.stkFree⟩,
  rfl,I.bare,?_,⟨m,hC,fun i x v h1 h2 h3=>?_⟩,fun x c e=>?_,?_,fun x c e=>?_,fun p hp=>absurd (show p∈([]:Pnn) from hp) (by simp),?_,?_⟩
 ·-- has
  have hx':(relabel scope X.env).names.lookup x=some .cell∨(relabel scope X.env).names.lookup x=some .free:=hx
  have hm:(x,NameKind.free)∈scope.names:=hx'.elim (fun z=>zdl_ z (.inl rfl) S.cell) fun z=>zdl_ z (.inr rfl) S.cell
  exact hhas x (.inl hm)
 ·-- exf
  obtain ⟨f0,f1,f2,f3,f4,f5⟩:=hf b hb
  refine ⟨fun z=>?_,fun x c e=>f4 x c (hcl x c e)⟩
  have z':b=s2.heap.objs.size+1:=z
  have:=hlt b hb
  rw [z'] at this
  exact absurd this (Nat.not_lt.mpr (Nat.le_succ _))
 ·rcases fpC b hb with z | z
  ·exact I.ok.noex b o e z
  ·exact absurd (Nat.lt_of_lt_of_le (Nat.lt_of_lt_of_le (Heap.lt_size e) I.ok.bsz) z) (Nat.lt_irrefl _)
 ·obtain ⟨f0,f1,f2,_⟩:=hf b hb
  rcases List.mem_cons.mp (I.stkSub b z) with q | q
  ·exact f1 q
  ·exact f2 q
 ·exact Un.laid hk (Nat.le_refl _) hDn
 ·-- loc
  have h1':(lv++fr.map (·.1))[i]?=some x:=h1
  have h2':(lv.map (fun _=>none)++fr.map fun q=>(σ[q.2]?).join:St)[i]?=some (some v):=h2
  by_cases hi:i<lv.length
  ·rw [List.getElem?_append_left (by simpa using hi),List.getElem?_map] at h2'
   cases hq:lv[i]? with
   | none=>rw [hq] at h2'; cases h2'
   | some z=>rw [hq] at h2'; cases h2'
  ·rw [List.getElem?_append_right (by simpa using hi),List.getElem?_map] at h2'
   rw [List.getElem?_append_right (by lia),List.getElem?_map] at h1'
   simp only [List.length_map] at h2'
   cases hq:fr[i-lv.length]? with
   | none=>rw [hq] at h1'; cases h1'
   | some q =>
    rw [hq] at h1' h2'
    have e1:q.1=x:=Option.some.inj h1'
    have e2:(σ[q.2]?).join=some v:=Option.some.inj h2'
    have e3:σ[q.2]?=some (some v):=by
     cases hz:σ[q.2]? with
     | none=>rw [hz] at e2; cases e2
     | some z=>rw [hz] at e2; exact congrArg some e2
    obtain ⟨g1,g2,g3,g4⟩:=S.fr q (List.mem_of_getElem? hq)
    obtain ⟨m0,hn0,hl0⟩:=I.loc
    have vis:Vis X.env.scope q.1:=by
     rcases g3 with g3 | g3
     ·exact .inr (.inl g3)
     ·exact .inr (.inr g3)
    obtain ⟨u,r,l⟩:=hl0 q.2 q.1 v g1 e3 vis
    refine ⟨u,r,.inr ⟨?_,?_⟩⟩
    ·rw [← e1]; exact g4
    ·rcases l with ⟨lk,_⟩ | ⟨_,c,ec,ic⟩
     ·rcases g3 with g3 | g3<;>(rw [lk] at g3; cases g3)
     ·obtain ⟨c',ec'⟩:=hhas q.1 (.inl g2)
      have:c'=c:=by
       have:=hcl q.1 c' ec'
       rw [ec] at this; exact (Option.some.inj this).symm
      subst this
      obtain ⟨o,ho,hd⟩:=ic
      exact ⟨c',by rw [← e1]; exact ec',o,hk _ _ ho,hd⟩
 ·obtain ⟨v,o,ho,hd⟩:=I.cell x c (hcl x c e)
  exact ⟨v,o,hk _ _ ho,hd⟩
 ·show upd H2 _ _ (s2.heap.objs.size+1)=none
  rw [zI_ hCD]; exact hCn
 ·have:=cellLt x c e
  rw [zI_ (Nat.ne_of_lt this)]
  exact I.freeC x c (hcl x c e)
 ·exact I.hok.laid hk (Nat.le_refl _) ⟨Nat.zero_le _,[],n,.nil,hD⟩
 ·show (cS lv fr σ).length=(cN lv fr).length
  simp [cS,cN]
end L2
namespace L2
open PySem PySem.Spec PyProof.Rows
def PIf (X:Cx) (ifs:List Expr) (t:TT):Prop :=
 ∀ (pins:Pnn) (s:Shared) (σ:St) (H:Hp) (Q:Bool→Hp→Prop),Inv X pins σ H s→t σ H Q →
  wpAny (model X.prog X.w) X.A (forIn ifs true fun c r=>if r=true then do let ok ← isTrue c X.env (eval c X.env); pure (ForInStep.yield ok) else pure (ForInStep.yield r)) (TP X pins σ Q) X.xe s
def tTrue:TT:=fun _ H Q=>Q true H
theorem zeR_ {X:Cx}:PIf X [] tTrue:=fun pins s σ H Q I h=>wpAny_tests_nil ⟨H,I,h⟩
theorem zjR_ {X:Cx}{c:Expr}{t:TT}(h:PT X c t):PIf X [c] t:=fun pins s σ H Q I hw=>wpAny_tests_one (h pins s σ H Q I hw)
def tCompR (J:It) (g:TG) (tt:TT) (te:TE) (σ0:St) (H1:Hp) (Q:VK):Prop :=
 ∀ D,H1 D=none→∃ W:Nat→Nat→List V→St→Hp→Prop,(∃ m,W 0 m [] σ0 (upd H1 D (.lst [])))∧∀ i m ys σ H,W i m ys σ H →
  (J.stop i H∧Q (.ref D) H)∨(J.go i H∧∃ N:List V→St→Hp→Prop,(∀ ys' σ' H',N ys' σ' H'→∃ m',m'<m∧W (i+1) m' ys' σ' H') ∧
   ∀ x H',J.yld i H x H'→g x σ H' fun σ2 H2=>tt σ2 H2 fun b H3=>if b=true then te σ2 H3 fun v H4=>H4 D=some (.lst ys)∧ys.length<sizeLine∧N (ys++[v]) σ2 (upd H4 D (.lst (ys++[v]))) else N ys σ2 H3)
section
variable {X:Cx}{scope:Scope}{cl:List (Str×Addr)}{lv:List Str}{fr:List (Str×Nat)}{elt tg iter:Expr}{ifs:List Expr}{pos:Pos}{g:TG}{tt:TT}{te:TE}
theorem zep_ {pins:Pnn}{σ:St}{H2:Hp}{s2:Shared}{it:Addr}{fp:List Addr}{tn:Nat→Heap→Prop}{J:It}{Q:VK}{E:Value→Shared→Prop}{use:Option (Value→Sem Unit)}{Q':Value→Shared→Prop}
  (I:Inv X pins σ H2 s2) (S:CScope X scope cl lv fr) (T:Turn X.prog X.w X.K tg J fp it tn) (st:tn 0 s2.heap) (hf:∀ b∈fp,FpOk X pins H2 b) (hc:X.calm=true)
  (hg:∀ C fp s2 H2,PG (cxComp X scope cl C (cN lv fr) fp s2 H2) tg g) (ht:∀ C fp s2 H2,PIf (cxComp X scope cl C (cN lv fr) fp s2 H2) ifs tt) (he:∀ C fp s2 H2,PE (cxComp X scope cl C (cN lv fr) fp s2 H2) elt te)
  (hq:tCompR J g tt te (cS lv fr σ) H2 Q)
  (fin:∀ D C oC H' s',Inv X (pins++[(C,oC)]) σ H' s'→(∀ h:Heap,h.get? C=some oC→∃ m,h.Ns C m)→FpOk X pins H' C→Q (.ref D) H'→compPost (model X.prog X.w) X.A E use Q' (.ref D) C (.ok .next) s') :
  wpAny (model X.prog X.w) X.A (newList []) (fun acc s₃=>wpAny (model X.prog X.w) X.A (newFunctionEnv scope X.env.globals cl [] X.env.qual none .none (some X.env)) (fun cenv s₄ =>
   codeAny (model X.prog X.w) X.A (.compStart (.ListComp elt [⟨tg,iter,ifs,0⟩] scope pos) 0 (.ref it) acc { cenv with scope:=relabel scope X.env }) (compPost (model X.prog X.w) X.A E use Q' acc cenv.locals) s₄) E s₃) E s2:=by
 have hlt:∀ b∈fp,b<s2.heap.objs.size:=fun b hb=>by
  obtain ⟨o,ho,_⟩:=T.obj 0 _ st b hb
  exact Heap.lt_size ho
 refine wpAny_newList (wpAny_newFunctionEnv S.cell (by intro y hy; simp at hy) (fun h₁ hns₁ hsb₁=>?_) S.kind)
 dsimp only at hns₁ hsb₁ ⊢
 have hsz:(s2.heap.push { cls:=.type "list",data:=.seq ([]:List Value).toArray }).objs.size=s2.heap.objs.size+1:=Heap.size_push ..
 rw [hsz] at hns₁ hsb₁ ⊢
 have old:∀ b o,s2.heap.get? b=some o→h₁.get? b=some o:=fun b o e=>hsb₁.extBut b o (Nat.ne_of_lt (Nat.lt_succ_of_lt (Heap.lt_size e))) (Heap.get?_push_of_some _ (Heap.get?_push_of_some _ e))
 have hacc:h₁.get? s2.heap.objs.size=some { cls:=.type "list",data:=.seq #[] }:=hsb₁.extBut _ _ (Nat.ne_of_lt (Nat.lt_succ_self _)) (Heap.get?_push_of_some _ (Heap.get?_push_size _ rfl))
 have I4:Inv (cxComp X scope cl (s2.heap.objs.size+1) (cN lv fr) fp s2 H2) [] (cS lv fr σ) (upd H2 s2.heap.objs.size (.lst [])) { s2 with heap:=h₁,toks:=s2.toks+([]:List (Str×Value)).length } :=
  zlr_ I S hf hlt hns₁ hacc old
 generalize hX':cxComp X scope cl (s2.heap.objs.size+1) (cN lv fr) fp s2 H2=X' at I4
 have eP:X'.prog=X.prog:=by rw [← hX']; rfl
 have ew:X'.w=X.w:=by rw [← hX']; rfl
 have eK:X'.K=X.K:=by rw [← hX']; rfl
 have eA:X'.A=X.A:=by rw [← hX']; rfl
 have ec:X'.calm=true:=by rw [← hX']; exact hc
 have ex:X'.xe=fun _ _=>False:=by rw [← hX']; rfl
 have een:X'.env=compEnvC scope cl (s2.heap.objs.size+1) X.env:=by rw [← hX']; rfl
 have hg':PG X' tg g:=hX' ▸ hg _ _ _ _
 have ht':PIf X' ifs tt:=hX' ▸ ht _ _ _ _
 have he':PE X' elt te:=hX' ▸ he _ _ _ _
 obtain ⟨W,⟨m0,w0⟩,turn⟩:=hq s2.heap.objs.size (I.hok.fresh (Nat.le_refl _))
 have st1:tn 0 h₁:=T.keep _ _ _ st fun b _ o e=>old b o e
 have f4:∀ b∈fp,FpOk X' [] (upd H2 s2.heap.objs.size (.lst [])) b:=fun b hb=>by
  obtain ⟨f0,f1,f2,f3,f4,f5⟩:=hf b hb
  have:=hlt b hb
  refine ⟨?_,?_,?_,.inl ?_,?_,?_⟩
  ·rw [zI_ (Nat.ne_of_lt this)]; exact f0
  ·rw [een]; exact Nat.ne_of_lt (Nat.lt_succ_of_lt this)
  ·intro z
   have z':b∈frs X.stack:=by rw [← hX'] at z; exact z
   rcases List.mem_cons.mp (I.stkSub b z') with q | q
   ·exact f1 q
   ·exact f2 q
  ·rw [← hX']; exact hb
  ·intro x c e
   rw [een] at e
   exact f4 x c (zbS_ scope.names [] cl S.clos (fun x c e=>by cases e) x c e)
  ·intro p hp
   rw [← hX'] at hp
   exact absurd (show p∈([]:Pnn) from hp) (by simp)
 have stat:∀ {H':Hp},(∀ b∈fp,H' b=none)→∀ b∈fp,FpOk X' [] H' b:=fun hn b hb=>⟨hn b hb,(f4 b hb).2⟩
 have loop:∀ s₃:Shared,s₃={ s2 with heap:=h₁,toks:=s2.toks+([]:List (Str×Value)).length } →
   codeAny (model X.prog X.w) X.A (.compLoop (.ListComp elt [⟨tg,iter,ifs,0⟩] scope pos) 0 (.ref it) (.ref s2.heap.objs.size) (compEnvC scope cl (s2.heap.objs.size+1) X.env))
    (compPost (model X.prog X.w) X.A E use Q' (.ref s2.heap.objs.size) (s2.heap.objs.size+1)) s₃:=by
  rintro s₃ rfl
  refine zgu_ (fun n s'=>∃ i ys σ' H',Inv X' [] σ' H' s'∧tn i s'.heap∧(∀ b∈fp,H' b=none)∧W i n ys σ' H') ?_ m0 ⟨0,[],_,_,I4,st1,fun b hb=>(f4 b hb).1,w0⟩
  rintro n s3 ⟨i,ys,σ3,H3,I3,st3,fr3,w3⟩
  rcases turn i n ys σ3 H3 w3 with ⟨stop,qn⟩ | ⟨go,N,hN,step⟩
  ·have a0:=T.done X' eP ew eK ec i [] s3 σ3 H3 (fun _ _=>False) I3 (stat fr3) st3 stop
   rw [eA] at a0
   refine thn a0 fun r s4 hq_=>?_
   obtain ⟨hr,I4'⟩:=hq_
   subst hr
   have un:Un (frs X.stack) fp H2 H3 s2.heap s4.heap:=by
    have:=I4'.base
    rw [← hX'] at this
    exact this
   have os:s4.os=s2.os:=by
    have:=I4'.os
    rw [← hX'] at this
    exact this
   have hok:HOk X.prog X.w H3 s4.heap:=by
    have:=I4'.hok
    rw [← hX'] at this
    exact this
   have J1:Inv X pins σ H3 s4:=I.call' os un hok I4'.bare fun b hb=>by
    obtain ⟨f0,f1,f2,f3,f4,f5⟩:=hf b hb
    exact ⟨f3,f1,f4,f5⟩
   obtain ⟨m,hn,_⟩:=I4'.loc
   have hn':s4.heap.Ns (s2.heap.objs.size+1) m:=by rw [een] at hn; exact hn
   have hCn:H3 (s2.heap.objs.size+1)=none:=by
    have:=I4'.free
    rw [een] at this; exact this
   have fC:FpOk X pins H3 (s2.heap.objs.size+1):=I.fpOk (Nat.le_succ _) hCn
   obtain ⟨oC,es,ep,hoC,hdC,rC⟩:=id hn'
   have J2:Inv X (pins++[(s2.heap.objs.size+1,oC)]) σ H3 s4:=J1.pins_of fun p hp=>by
    rcases List.mem_append.mp hp with hp | hp
    ·exact J1.pin p (List.mem_append_right _ hp)
    ·have e:p=(s2.heap.objs.size+1,oC):=by simpa using hp
     subst e
     exact ⟨hoC,hCn,fC.2.1,fC.2.2.1,fun v z=>by rw [hdC] at z; cases z⟩
   exact fin _ _ oC H3 s4 J2 (fun h e=>⟨m,oC,es,ep,e,hdC,rC⟩) fC qn
  ·have a0:=T.item X' eP ew eK ec i [] s3 σ3 H3 (fun _ _=>False) I3 (stat fr3) st3 go
   rw [eA] at a0
   refine thn a0 fun r s4 hq_=>?_
   obtain ⟨u,hr,h4⟩:=hq_
   subst hr
   refine thn h4 fun _ s5 hq_=>?_
   obtain ⟨x,H5,I5,r5,y5,st5,fr5⟩:=hq_
   have I5':=I5.pinned (stat fr5) (T.obj _ _ st5)
   have a1:=hg' _ s5 σ3 H5 x u _ I5' r5 (step x H5 y5)
   rw [eP,ew,eA,een,ex] at a1
   refine thn a1 fun _ s6 hq_=>?_
   obtain ⟨σ6,H6,I6,q6⟩:=hq_
   have a2:=ht' _ s6 σ6 H6 _ I6 q6
   rw [eP,ew,eA,een,ex] at a2
   refine thn a2 fun ok s7 hq_=>?_
   obtain ⟨H7,I7,q7⟩:=hq_
   have again:∀ {ys7:List V}{H7:Hp}{s7:Shared},Inv X' ([]++pinsAt fp s5.heap) σ6 H7 s7→N ys7 σ6 H7→∃ m,m<n∧∃ i ys σ' H',Inv X' [] σ' H' s7∧tn i s7.heap∧(∀ b∈fp,H' b=none)∧W i m ys σ' H':=fun {ys7 H7 s7} I7 n7=>by
    obtain ⟨m',hm,w7⟩:=hN ys7 σ6 H7 n7
    refine ⟨m',hm,i+1,ys7,σ6,H7,I7.unpinned,T.keep _ _ _ st5 fun b hb o e=>(I7.pin (b,o) (List.mem_append_right _ (List.mem_append_right _ (zbN_ hb e)))).1,fun b hb=>?_,w7⟩
    obtain ⟨o,e,d⟩:=T.obj _ _ st5 b hb
    exact (I7.pin (b,o) (List.mem_append_right _ (List.mem_append_right _ (zbN_ hb e)))).2.1
   cases ok with
   | false=>exact again I7 q7
   | true =>
    have a3:=he' _ s7 σ6 H7 _ I7 q7
    rw [eP,ew,eA,een,ex] at a3
    refine thn a3 fun y s8 hq_=>?_
    obtain ⟨v,H8,I8,r8,hD8,hl8,n8⟩:=hq_
    have a4:=zbr_ (X:=X') _ s8 σ6 H8 (.ref s2.heap.objs.size) [v] (.ref s2.heap.objs.size) [y] (fun _ H9=>N (ys++[v]) σ6 H9) I8 rfl (.cons r8 .nil) ⟨_,_,_,rfl,rfl,hD8,hl8,n8⟩
    rw [eP,ew,eA,ex] at a4
    refine thn a4 fun _ s9 hq_=>?_
    obtain ⟨v9,H9,I9,_,n9⟩:=hq_
    exact again I9 n9
 exact codeAny_compStart_list (loop _ rfl) (T.self _ 0 _ _ _ st1 (loop _ rfl))
def tComp (lv:List Str) (fr:List (Str×Nat)) (wi:TI) (g:TG) (tt:TT) (te:TE):TE:=fun σ H Q=>wi σ H fun J H1=>tCompR J g tt te (cS lv fr σ) H1 Q
theorem zdZ_ {wi:TI}(hc:X.calm=true) (S:CScope X scope cl lv fr) (hi:PI X tg iter wi)
  (hg:∀ C fp s2 H2,PG (cxComp X scope cl C (cN lv fr) fp s2 H2) tg g) (ht:∀ C fp s2 H2,PIf (cxComp X scope cl C (cN lv fr) fp s2 H2) ifs tt) (he:∀ C fp s2 H2,PE (cxComp X scope cl C (cN lv fr) fp s2 H2) elt te)
  (hs:∀ x,foldedSetIterable iter X.env x=pure x:=by intro _; rfl):PE X (.ListComp elt [⟨tg,iter,ifs,0⟩] scope pos) (tComp lv fr wi g tt te):=by
 intro pins s σ H Q I h
 rw [eval_ListComp]
 refine wpAny_comprehension_free (use:=none) rfl hs (zgh_ S.clos) S.kind S.names ?_
 refine thn (hi pins s σ H _ I h) fun v s1 h1=>thn h1 fun itv s2 h2=>?_
 obtain ⟨it,fp,tn,J,H2,e,I2,T,st2,f2,q⟩:=h2
 subst e
 refine zep_ I2 S T st2 f2 hc hg ht he q fun D C oC H' s' J1 hNs fC qD=>?_
 have hp:=J1.pin (C,oC) (List.mem_append_right _ (List.mem_append_right _ (List.mem_singleton.mpr rfl)))
 obtain ⟨m,hm⟩:=hNs s'.heap hp.1
 refine ⟨m,hm,fun h' hs'=>?_⟩
 exact ⟨.ref D,H',J1.unpinned.turned (t':=s'.toks) (fun b o hb e=>(hs'.2 b hb).trans e) fC.1 fC.2.1 fC.2.2.2.1 fC.2.2.2.2.1 fC.2.2.2.2.2,rfl,qD⟩
theorem zd4_ {wi:TI}{j:Nat}{y:Str}{py spos:Pos}(hc:X.calm=true) (S:CScope X scope cl lv fr) (hi:PI X tg iter wi)
  (hg:∀ C fp s2 H2,PG (cxComp X scope cl C (cN lv fr) fp s2 H2) tg g) (ht:∀ C fp s2 H2,PIf (cxComp X scope cl C (cN lv fr) fp s2 H2) ifs tt) (he:∀ C fp s2 H2,PE (cxComp X scope cl C (cN lv fr) fp s2 H2) elt te)
  (hy:PG X (.Name y py) (gName j))
  (hsw:swapsWith (.ListComp elt [⟨tg,iter,ifs,0⟩] scope pos) (some (.Name y py)) spos.line X.env=pure true:=by rfl)
  (hs:∀ x,foldedSetIterable iter X.env x=pure x:=by intro _; rfl):PS X (.Assign [.Name y py] (.ListComp elt [⟨tg,iter,ifs,0⟩] scope pos) spos) (tAsg (tComp lv fr wi g tt te) (gName j)):=by
 intro pins s σ H D I h
 rw [exec_Assign_Name_used _ _ _ _ hsw]
 refine wpAny_bind (wpAny_standAt (wpAny_bind ?_))
 show wpAny _ X.A (do let _ ← comprehension (.ListComp elt [⟨tg,iter,ifs,0⟩] scope pos) scope X.env _ (newList []) false (eval iter X.env) (some (assign (.Name y py) X.env))) _ _ s
 refine wpAny_bind (wpAny_mono (wpAny_comprehension_free (use:=some (assign (.Name y py) X.env)) (Q:=fun _ s'=>SP X pins D .next s') rfl hs (zgh_ S.clos) S.kind S.names ?_) (fun _ s' hq=>wpAny_pure (wpAny_pure hq)) fun _ _ e=>e)
 refine thn (hi pins s σ H _ I h) fun v s1 h1=>thn h1 fun itv s2 h2=>?_
 obtain ⟨it,fp,tn,J,H2,e,I2,T,st2,f2,q⟩:=h2
 subst e
 refine zep_ I2 S T st2 f2 hc hg ht he q fun D' C oC H' s' J1 hNs fC qD=>?_
 show wpAny _ X.A (assign (.Name y py) X.env (.ref D')) _ _ _
 refine thn (hy _ s' σ H' (.ref D') (.ref D') _ J1 rfl qD) fun _ s3 hq_=>?_
 obtain ⟨σ3,H3,I3,q3⟩:=hq_
 have hp:=I3.pin (C,oC) (List.mem_append_right _ (List.mem_append_right _ (List.mem_singleton.mpr rfl)))
 obtain ⟨m,hm⟩:=hNs s3.heap hp.1
 refine ⟨m,hm,fun h' hs'=>?_⟩
 have fC':FpOk X pins H3 C:=⟨hp.2.1,fC.2⟩
 exact ⟨σ3,H3,I3.unpinned.turned (t':=s3.toks) (fun b o hb e=>(hs'.2 b hb).trans e) fC'.1 fC'.2.1 fC'.2.2.2.1 fC'.2.2.2.2.1 fC'.2.2.2.2.2,q3⟩
end
end L2
namespace L2
open PySem PySem.Spec PyProof.Rows
abbrev tx (l:List Nat):V:=.str ⟨l.toArray⟩
def br (b:Bool) (A B:Prop):Prop:=(b=true→A)∧(b=false→B)
theorem zl3_ (a b:Str):a++b=⟨(a.cps.toList++b.cps.toList).toArray⟩:=by
 cases a; cases b
 show Str.mk (_++_)=_
 simp
theorem za2_ (a:Str):a=⟨a.cps.toList.toArray⟩:=by cases a; simp
def cutL (l:List Nat) (lo hi:Option Int):List Nat:=(l.drop (HT.sIx l.length 0 lo)).take (HT.sIx l.length l.length hi-HT.sIx l.length 0 lo)
theorem zcW_ (lo hi:Option Int) (n:Nat):Builtin.Str.strSliceIndices lo hi 1 n=sliceRange ((HT.sIx n 0 lo:Nat):Int) ((HT.sIx n n hi:Nat):Int) 1:=by
 unfold Builtin.Str.strSliceIndices
 simp only [show (1:Int) > 0 by decide,if_true]
 congr 1
 ·cases lo with
  | none=>simp [HT.sIx]
  | some i =>
   simp only [HT.sIx]
   by_cases h:i<0
   ·simp only [h,if_true]<;>lia
   ·simp only [h,if_false]<;>lia
 ·cases hi with
  | none=>simp [HT.sIx]
  | some i =>
   simp only [HT.sIx]
   by_cases h:i<0
   ·simp only [h,if_true]<;>lia
   ·simp only [h,if_false]<;>lia
theorem zhP_ (x:Str) (lo hi:Option Int):(Builtin.Str.strSliceIndices lo hi 1 x.length).filterMap (x.cps[·]?)=cutL x.cps.toList lo hi:=by
 rw [zcW_,sliceRange_one,pick_run]
 unfold cutL Str.length
 simp only [Array.length_toList]
theorem zdO_ (l:List Nat) (lo hi:Option Int):(cutL l lo hi).length≤l.length:=by
 unfold cutL
 rw [List.length_take,List.length_drop]
 lia
theorem zjh_ {l:List Nat}{lo hi:Option Int}(h:(cutL l lo hi).length=l.length):cutL l lo hi=l:=by
 unfold cutL at h ⊢
 rw [List.length_take,List.length_drop] at h
 have h1:HT.sIx l.length l.length hi≤l.length:=HT.sIx_le _ _ (Nat.le_refl _) _
 by_cases hl:l.length=0
 ·have:l=[]:=List.length_eq_zero_iff.mp hl
  subst this
  simp
 ·have h2:HT.sIx l.length 0 lo=0:=by lia
  rw [h2,List.drop_zero,List.take_of_length_le]
  lia
section
variable {X:Cx}
def rSlS:V→Option Int→Option Int→Hp→VK→Prop:=fun x lo hi H Q=>match x with | .str z=>z.length≤sizeLine∧Q (tx (cutL z.cps.toList lo hi)) H | _=>False
theorem zcC_ {v:Value}{o:Option Int}(p:IsPart v o):∃ l:Option (Int×Tok),v=partValue l∧l.map (·.1)=o:=by
 cases p with
 | none=>exact ⟨none,rfl,rfl⟩
 | int i t=>exact ⟨some (i,t),rfl,rfl⟩
theorem zoA_:SlR X rSlS:=by
 intro pins s σ H x v vl vu lo hi sl Q I rx hs pl pu h
 cases x with
 | str z =>
  obtain ⟨hz,q⟩:=h
  obtain ⟨t,rfl⟩:=rx
  obtain ⟨l,rfl,rfl⟩:=zcC_ pl
  obtain ⟨u,rfl,rfl⟩:=zcC_ pu
  refine ⟨"str",_,F.slot_str_getitem.lookup,typeIs_str _ _ _,?_⟩
  refine wpAny_getItem_str_slice (l:=l) (u:=u) (st:=none) hs rfl ?_
  unfold sliceMade
  have e:slicePicked z l u none=Builtin.Str.strSliceIndices (l.map (·.1)) (u.map (·.1)) 1 z.length:=rfl
  rw [e]
  have hlen:(Builtin.Str.strSliceIndices (l.map (·.1)) (u.map (·.1)) 1 z.length).length=(cutL z.cps.toList (l.map (·.1)) (u.map (·.1))).length:=by
   rw [zcW_,sliceRange_one,List.length_map,List.length_range]
   unfold cutL
   rw [List.length_take,List.length_drop]
   have h1:HT.sIx z.length z.length (u.map (·.1))≤z.length:=HT.sIx_le _ _ (Nat.le_refl _) _
   have h2:z.cps.toList.length=z.length:=by simp [Str.length]
   rw [h2]
   lia
  split
  ·rename_i hc
   have hc':(cutL z.cps.toList (l.map (·.1)) (u.map (·.1))).length=z.cps.toList.length:=by
    rw [← hlen]
    simpa [Str.length] using hc
   rw [zjh_ hc'] at q
   have q':Q (.str z) H:=by rw [za2_ z]; exact q
   exact ⟨.str z,H,I,⟨_,rfl⟩,q'⟩
  ·rw [zhP_]
   have h3:=zdO_ z.cps.toList (l.map (·.1)) (u.map (·.1))
   have h2:z.cps.toList.length=z.length:=by simp [Str.length]
   refine ⟨?_,tx (cutL z.cps.toList (l.map (·.1)) (u.map (·.1))),H,I.tok _,⟨_,rfl⟩,q⟩
   show (cutL z.cps.toList (l.map (·.1)) (u.map (·.1))).toArray.size≤sizeLine
   rw [List.size_toArray]
   exact Nat.le_trans h3 (by rw [h2]; exact hz)
 | _=>exact h.elim
end
end L2
namespace L2
open PySem PySem.Spec PyProof.Rows
def mVar (i:Nat):TE:=fun σ H Q=>match σ[i]? with | some (some v)=>Q v H | _=>False
section
variable {X:Cx}{a b c:Expr}{ta tb tc:TE}{pos:Pos}
theorem za_ (i:Nat) {x:Str}{pos:Pos}(hN:X.N[i]?=some x:=by rfl) (hv:Vis X.env.scope x:=by first | exact Or.inl rfl | exact Or.inr (Or.inl rfl) | exact Or.inr (Or.inr rfl)) (hd:(x == ("__debug__" : Str))=false:=by decide)
  (hcd:(x == ("__classdict__" : Str))=false:=by decide):PE X (.Name x pos) (mVar i):=by
 intro pins s σ H Q I h
 unfold mVar at h
 cases e:σ[i]? with
 | none=>rw [e] at h; exact h.elim
 | some o =>
  rw [e] at h
  cases o with
  | none=>exact h.elim
  | some v=>exact zn0_ hN hv hd hcd pins s σ H Q I ⟨v,e,h⟩
theorem zfn_ {x:Str}{l:List Nat}{j pos} (h:x=⟨l.toArray⟩:=by rfl):PE X (.Constant (.str x) j pos) (tC (tx l)):=h ▸ zn8_
def mAdd:R2:=fun x y H Q=>match x,y with
 | .int i,.int j=>Q (.int (i+j)) H
 | .str a,.str b=>a.cps.toList.length+b.cps.toList.length≤sizeLine∧Q (tx (a.cps.toList++b.cps.toList)) H
 | .ref a,.ref b=>∃ xs zs,H a=some (.lst xs)∧H b=some (.lst zs)∧xs.length+zs.length≤sizeLine∧∀ p,H p=none→Q (.ref p) (upd H p (.lst (xs++zs)))
 | _,_=>False
theorem zB_:OpR X (binaryOp .Add) mAdd:=by
 intro pins s σ H x y v u Q I rx ry h
 cases x<;>cases y<;>first
  | exact h.elim
  | exact zoD_ pins s σ H _ _ v u Q I rx ry ⟨_,_,rfl,rfl,h⟩
  | exact zik_ pins s σ H _ _ v u Q I rx ry ⟨_,_,rfl,rfl,by simpa [Str.length] using h.1,by rw [zl3_]; exact h.2⟩
  | (obtain ⟨xs,zs,h1,h2,h3,h4⟩:=h; exact zog_ pins s σ H _ _ v u Q I rx ry ⟨_,_,xs,zs,rfl,rfl,h1,h2,h3,h4⟩)
def mI (C:Int→Int→Prop) (g:Int→Int→V):R2:=fun x y H Q=>match x,y with | .int i,.int j=>C i j∧Q (g i j) H | _,_=>False
def mI0 (g:Int→Int→V):R2:=fun x y H Q=>match x,y with | .int i,.int j=>Q (g i j) H | _,_=>False
theorem opM {f:Value→Value→Sem Value}{C:Int→Int→Prop}{g:Int→Int→V}(h:OpR X f (rI C g)):OpR X f (mI C g):=by
 intro pins s σ H x y v u Q I rx ry q
 cases x<;>cases y<;>first | exact q.elim | exact h pins s σ H _ _ v u Q I rx ry ⟨_,_,rfl,rfl,q.1,q.2⟩
theorem opM0 {f:Value→Value→Sem Value}{g:Int→Int→V}(h:OpR X f (rI0 g)):OpR X f (mI0 g):=by
 intro pins s σ H x y v u Q I rx ry q
 cases x<;>cases y<;>first | exact q.elim | exact h pins s σ H _ _ v u Q I rx ry ⟨_,_,rfl,rfl,q⟩
abbrev mSub:R2:=mI0 fun i j=>.int (i-j)
abbrev mMod:R2:=mI (fun _ j=>0<j) fun i j=>.int (i % j)
abbrev mPow:R2:=mI CPow fun i j=>.int (i ^ j.toNat)
theorem zao_:OpR X (binaryOp .Sub) mSub:=opM0 znU_
theorem zE_:OpR X (binaryOp .Mod) mMod:=opM zou_
theorem zge_:OpR X (binaryOp .Pow) mPow:=opM zoG_
def mEqB (x y:V):Option Bool:=match x,y with
 | .int i,.int j=>some (decide (i=j))
 | .str a,.str b=>some (decide (a.cps.toList=b.cps.toList))
 | .bl a,.bl b=>some (decide (a=b))
 | .non,.non=>some true
 | .non,.int _=>some false | .int _,.non=>some false | .non,.bl _=>some false | .bl _,.non=>some false | .non,.str _=>some false | .str _,.non=>some false
 | .int _,.str _=>some false | .str _,.int _=>some false | .bl _,.str _=>some false | .str _,.bl _=>some false
 | _,_=>none
theorem zgS_ {x y:V}{b:Bool}(h:mEqB x y=some b):scal x y=true∧decide (x=y)=b:=by
 cases x<;>cases y<;>first
  | (cases (show (none:Option Bool)=some b from h); done)
  | (refine ⟨rfl,?_⟩; have h':=Option.some.inj h; rw [← h']; first | rfl | (simp; done))
  | (rename_i a b'
     refine ⟨rfl,?_⟩
     have h':=Option.some.inj h
     rw [← h',decide_eq_decide]
     constructor
     ·intro e; cases e; rfl
     ·intro e; rw [za2_ a,za2_ b',e])
def mEq:R2:=fun x y H Q=>match mEqB x y with | some b=>Q (.bl b) H | none=>False
def mNe:R2:=fun x y H Q=>match mEqB x y with | some b=>Q (.bl (!b)) H | none=>False
theorem zoj_:OpR X (compareOp .Eq) mEq:=by
 intro pins s σ H x y v u Q I rx ry h
 unfold mEq at h
 cases e:mEqB x y with
 | none=>rw [e] at h; exact h.elim
 | some b =>
  rw [e] at h
  obtain ⟨h1,h2⟩:=zgS_ e
  exact op_eq pins s σ H x y v u Q I rx ry ⟨h1,by rw [h2]; exact h⟩
theorem zon_:OpR X (compareOp .NotEq) mNe:=by
 intro pins s σ H x y v u Q I rx ry h
 unfold mNe at h
 cases e:mEqB x y with
 | none=>rw [e] at h; exact h.elim
 | some b =>
  rw [e] at h
  obtain ⟨h1,h2⟩:=zgS_ e
  exact op_ne pins s σ H x y v u Q I rx ry ⟨h1,by rw [h2]; exact h⟩
abbrev mGt:R2:=mI0 fun i j=>.bl (decide (j<i))
theorem zoN_:OpR X (compareOp .Gt) mGt:=opM0 op_gt
def mIsB (x y:V):Option Bool:=match y with
 | .non=>some (decide (x=.non))
 | .bl b=>(match x with | .bl a=>some (decide (a=b)) | _=>none)
 | _=>none
def mIs:R2:=fun x y H Q=>match mIsB x y with | some b=>Q (.bl b) H | none=>False
def mIsNot:R2:=fun x y H Q=>match mIsB x y with | some b=>Q (.bl (!b)) H | none=>False
theorem zgt_ {M:Model}{A:Around}{E:Value→Shared→Prop}{s:Shared}{a b:Bool}{Q:Value→Shared→Prop}(h:Q (.bool (!decide (a=b))) s):wpAny M A (compareOp .IsNot (.bool a) (.bool b)) Q E s:=by
 cases a<;>cases b<;>exact wpAny_pure h
theorem zdw_:OpR X (compareOp .IsNot) mIsNot:=by
 intro pins s σ H x y v u Q I rx ry h
 unfold mIsNot mIsB at h
 cases y with
 | non=>exact zm9_ pins s σ H x _ v u Q I rx ry ⟨rfl,h⟩
 | bl b =>
  cases x with
  | bl a=>cases rx; cases ry; exact zgt_ ⟨.bl _,H,I,rfl,h⟩
  | _=>exact h.elim
 | _=>exact h.elim
def inS (l:List Nat) (t:List Nat):Bool:=match l with | [c]=>decide (c∈t) | _=>!(Builtin.Str.occurrences ⟨t.toArray⟩ ⟨l.toArray⟩ 0 t.length 1).isEmpty
theorem zkh_ (a b:Str):(!(Builtin.Str.occurrences b a 0 b.length 1).isEmpty)=inS a.cps.toList b.cps.toList:=by
 have e:b.length=b.cps.toList.length:=by simp [Str.length]
 unfold inS
 split
 ·rename_i c hc
  have ea:a=⟨#[c]⟩:=by rw [za2_ a,hc]
  rw [ea]
  exact StrLaws.found_one b c
 ·rw [← za2_,← za2_,e]
def mIn (K:Fgg) (neg:Bool):R2:=fun x y H Q=>match y with
 | .str b=>(match x with | .str a=>Q (.bl (if neg then !inS a.cps.toList b.cps.toList else inS a.cps.toList b.cps.toList)) H | _=>False)
 | .ref p=>∃ xs,(SqL K H p xs∨SqT K H p xs)∧flatV x=true∧xs.all flatV=true∧Q (.bl (if neg then !inV x xs else inV x xs)) H
 | _=>False
theorem zoo_:OpR X (compareOp .In) (mIn X.K false):=by
 intro pins s σ H x y v u Q I rx ry h
 unfold mIn at h
 cases y with
 | str b =>
  cases x with
  | str a=>exact zjp_ pins s σ H _ _ v u Q I rx ry ⟨_,_,rfl,rfl,by rw [zkh_]; exact h⟩
  | _=>exact h.elim
 | ref p =>
  obtain ⟨xs,h1,h2,h3,h4⟩:=h
  exact zjr_ pins s σ H _ _ v u Q I rx ry ⟨_,xs,rfl,h1,h2,h3,h4⟩
 | _=>exact h.elim
theorem ziv_:OpR X (compareOp .NotIn) (mIn X.K true):=by
 intro pins s σ H x y v u Q I rx ry h
 unfold mIn at h
 cases y with
 | str b =>
  cases x with
  | str a=>exact zfx_ pins s σ H _ _ v u Q I rx ry ⟨_,_,rfl,rfl,by rw [zkh_]; exact h⟩
  | _=>exact h.elim
 | ref p =>
  obtain ⟨xs,h1,h2,h3,h4⟩:=h
  exact zfu_ pins s σ H _ _ v u Q I rx ry ⟨_,xs,rfl,h1,h2,h3,h4⟩
 | _=>exact h.elim
def mTest (t:TE):TT:=fun σ H Q=>t σ H fun x H'=>match x with | .bl k=>Q k H' | _=>False
def mAndV (ta tb:TE):TE:=fun σ H Q=>ta σ H fun x H1=>match x with | .bl c=>br c (tb σ H1 Q) (Q (.bl false) H1) | _=>False
def mNotV (ta:TE):TE:=fun σ H Q=>ta σ H fun x H1=>match x with | .bl c=>Q (.bl (!c)) H1 | _=>False
def mAnd (t u:TT):TT:=fun σ H Q=>t σ H fun c H1=>br c (u σ H1 Q) (Q false H1)
def mOr (t u:TT):TT:=fun σ H Q=>t σ H fun c H1=>br c (Q true H1) (u σ H1 Q)
variable {rest:List Expr}{tA tB':TT}
theorem zeS_ (ha:PE X a ta) (hb:PE X (.BoolOp .And (b::rest) pos) tb):PE X (.BoolOp .And (a::b::rest) pos) (mAndV ta tb):=by
 intro pins s σ H Q I h
 refine BoolOp_and (thn (ha pins s σ H _ I h) fun v s1 hq_=>?_)
 obtain ⟨x,H1,I1,r1,q1⟩:=hq_
 cases x with
 | bl c =>
  cases r1
  refine wpAny_truthy_bool ?_
  cases c with
  | true=>exact hb pins s1 σ H1 Q I1 (q1.1 rfl)
  | false=>exact ⟨.bl false,H1,I1,rfl,q1.2 rfl⟩
 | _=>exact q1.elim
theorem zhK_ (ha:PE X a ta):PE X (.UnaryOp .Not a pos) (mNotV ta):=by
 intro pins s σ H Q I h
 refine UnaryOp_ (thn (ha pins s σ H _ I h) fun v s1 hq_=>?_)
 obtain ⟨x,H1,I1,r1,q1⟩:=hq_
 cases x with
 | bl c=>cases r1; exact not_of (wpAny_truthy_bool ⟨.bl (!c),H1,I1,rfl,q1⟩)
 | _=>exact q1.elim
theorem zeN_ (ha:PT X a tA) (hb:PW X (.BoolOp .And (b::rest) pos) tB'):PW X (.BoolOp .And (a::b::rest) pos) (mAnd tA tB'):=by
 intro wh pins s σ H Q I h
 refine isTrue_and (thn (ha pins s σ H _ I h) fun c s1 hq_=>?_)
 obtain ⟨H1,I1,q1⟩:=hq_
 cases c with
 | true=>exact hb wh pins s1 σ H1 Q I1 (q1.1 rfl)
 | false=>exact ⟨H1,I1,q1.2 rfl⟩
theorem zlY_ (ha:PT X a tA) (hb:PW X (.BoolOp .Or (b::rest) pos) tB'):PW X (.BoolOp .Or (a::b::rest) pos) (mOr tA tB'):=by
 intro wh pins s σ H Q I h
 refine isTrue_or (thn (ha pins s σ H _ I h) fun c s1 hq_=>?_)
 obtain ⟨H1,I1,q1⟩:=hq_
 cases c with
 | true=>exact ⟨H1,I1,q1.1 rfl⟩
 | false=>exact hb wh pins s1 σ H1 Q I1 (q1.2 rfl)
theorem zd5_ {e:Expr}{t:TE}(h:PE X e t) (he:∀ whole,isTrue e X.env whole=(do let v ← whole; standAt e.pos; holding [v] (truthy v)):=by intro _; rfl):PT X e (mTest t):=by
 intro pins s σ H Q I hw
 refine isTrue_plain (thn (h pins s σ H _ I hw) fun v s1 hq_=>?_) (he _)
 obtain ⟨x,H1,I1,r1,q1⟩:=hq_
 cases x with
 | bl c=>cases r1; exact wpAny_truthy_bool ⟨H1,I1,q1⟩
 | _=>exact q1.elim
theorem zG_ {op:CmpOp}{r:R2}(ho:OpR X (compareOp op) r) (ha:PE X a ta) (hb:PE X b tb) (hm:behindInMarks op b=false:=by first | exact nobehind _ (by decide) (by decide) | rfl):PT X (.Compare a [op] [b] pos) (mTest (tOp r ta tb)):=by
 intro pins s σ H Q I hw
 refine wpAny_isTrue_Compare1 (binT ha hb I hw fun v u s2 x y H2 I2 rx ry q=>?_) hm
 refine thn (ho pins s2 σ H2 x y v u _ I2 rx ry q) fun c s3 hq_=>?_
 obtain ⟨z,H3,I3,r3,q3⟩:=hq_
 cases z with
 | bl k=>cases r3; exact wpAny_truthy_bool ⟨H3,I3,q3⟩
 | _=>exact q3.elim
theorem zfS_ {op:CmpOp}{r:R2}(ho:OpR X (compareOp op) r) (ha:PE X a ta) (hb:PE X b tb) (hm:behindInMarks op b=false:=by first | exact nobehind _ (by decide) (by decide) | rfl):PE X (.Compare a [op] [b] pos) (tOp r ta tb):=zmT_ ho ha hb hm
def mIfS (c:TT) (t u:TS):TS:=fun D σ H=>c σ H fun b H1=>br b (t D σ H1) (u D σ H1)
theorem zam_ {c:Expr}{a b:List Stmt}{tc:TT}{t u:TS}(hc:PT X c tc) (ha:PSs X a t) (hb:PSs X b u):PS X (.If c a b pos) (mIfS tc t u):=by
 intro pins s σ H D I h
 refine wpAny_If (thn (hc pins s σ H _ I h) fun d s1 hq_=>?_)
 obtain ⟨H1,I1,q1⟩:=hq_
 cases d with
 | true=>exact ha pins s1 σ H1 D I1 (q1.1 rfl)
 | false=>exact hb pins s1 σ H1 D I1 (q1.2 rfl)
end
end L2
namespace L2
open PySem PySem.Spec PyProof.Rows
section
variable {X:Cx}{a b c e o:Expr}{es:List Expr}{ta tb tc:TE}{t:TA}{pos:Pos}
def mIx (K:Fgg):R2:=fun x y H Q=>match y with
 | .int i=>(match x with
  | .ref p=>∃ xs,(SqL K H p xs∨SqT K H p xs)∧(match atI xs i with | some v=>Q v H | none=>False)
  | .str z=>z.cps.toList.length≤sizeLine∧(match atI z.cps.toList i with | some c=>Q (tx [c]) H | none=>False)
  | _=>False)
 | _=>False
theorem ix_M:IxR X (mIx X.K):=by
 intro value slice pins s σ H x y v u Q I rx ry h hs0
 unfold mIx at h
 cases y with
 | int i =>
  cases x with
  | ref p =>
   obtain ⟨xs,hs,h⟩:=h
   cases ev:atI xs i with
   | none=>rw [ev] at h; exact h.elim
   | some w' =>
    rw [ev] at h
    rcases hs with hs | hs
    ·exact zmt_ value slice pins s σ H _ _ v u Q I rx ry ⟨p,xs,i,w',rfl,rfl,hs,ev,h⟩ hs0
    ·exact znP_ value slice pins s σ H _ _ v u Q I rx ry ⟨p,xs,i,w',rfl,rfl,hs,ev,h⟩ hs0
  | str z =>
   obtain ⟨hz,h⟩:=h
   cases ev:atI z.cps.toList i with
   | none=>rw [ev] at h; exact h.elim
   | some w' =>
    rw [ev] at h
    exact zn5_ value slice pins s σ H _ _ v u Q I rx ry ⟨z,i,w',rfl,rfl,by simpa [Str.length] using hz,ev,h⟩ hs0
  | _=>exact h.elim
 | _=>exact h.elim
def mSl (K:Fgg):V→Option Int→Option Int→Hp→VK→Prop:=fun x lo hi H Q=>match x with
 | .str z=>z.cps.toList.length≤sizeLine∧Q (tx (cutL z.cps.toList lo hi)) H
 | .ref a=>∃ xs,SqL K H a xs∧∀ p,H p=none→Q (.ref p) (upd H p (.lst (cutV xs lo hi)))
 | _=>False
theorem sl_M:SlR X (mSl X.K):=by
 intro pins s σ H x v vl vu lo hi sl Q I rx hs pl pu h
 unfold mSl at h
 cases x with
 | str z=>exact zoA_ pins s σ H _ v vl vu lo hi sl Q I rx hs pl pu ⟨by simpa [Str.length] using h.1,h.2⟩
 | ref p =>
  obtain ⟨xs,h1,h2⟩:=h
  exact zm4_ pins s σ H _ v vl vu lo hi sl Q I rx hs pl pu ⟨p,xs,rfl,h1,h2⟩
 | _=>exact h.elim
def mPart (t:TE):TO:=fun σ H Q=>t σ H fun x H1=>match x with | .int i=>Q (some i) H1 | _=>False
theorem po_M (h:PE X e ta):PO X (some e) (mPart ta):=by
 intro pins s σ H Q I hw
 rw [evalPart_some]
 refine thn (h pins s σ H _ I hw) fun u s1 hq_=>?_
 obtain ⟨x,H1,I1,r1,q1⟩:=hq_
 cases x with
 | int i=>obtain ⟨t,rfl⟩:=r1; exact ⟨some i,H1,I1,.int i t,q1⟩
 | _=>exact q1.elim
def mLen (K:Fgg):List V→Hp→VK→Prop:=fun xs H Q=>match xs with
 | [.str z]=>z.cps.toList.length≤sizeLine∧Q (.int z.cps.toList.length) H
 | [.ref p]=>∃ ys,(SqL K H p ys∨SqT K H p ys)∧Q (.int ys.length) H
 | _=>False
theorem zkX_ {K:Fgg}{xs:List V}{H:Hp}{Q:VK}(h:mLen K xs H Q):(∃ z,xs=[.str z]∧z.cps.toList.length≤sizeLine∧Q (.int z.cps.toList.length) H)∨∃ p ys,xs=[.ref p]∧(SqL K H p ys∨SqT K H p ys)∧Q (.int ys.length) H:=by
 rcases xs with _ | ⟨x,_ | ⟨y,t⟩⟩
 ·exact False.elim h
 ·cases x with
  | str z=>exact .inl ⟨z,rfl,h⟩
  | ref p=>obtain ⟨ys,h⟩:=h; exact .inr ⟨p,ys,rfl,h⟩
  | _=>exact False.elim h
 ·cases x<;>exact False.elim h
theorem z7_:CallR X (.builtin "len") (mLen X.K):=by
 intro pins s σ H xs us Q I r h
 rcases zkX_ h with ⟨z,rfl,h⟩ | ⟨p,ys,rfl,h1,h2⟩
 ·exact ze9_ pins s σ H _ us Q I r ⟨_,rfl,by simpa [Str.length] using h.1,by simpa [Str.length] using h.2⟩
 ·exact zfk_ pins s σ H _ us Q I r ⟨_,ys,rfl,h1,h2⟩
def tyS (K:Fgg) (H:Hp):V→String→Prop:=fun x T=>match x with
 | .non=>T = "NoneType" | .bl _=>T = "bool" | .int _=>T = "int" | .str _=>T = "str"
 | .ref p=>(T = "list" ∧ ∃ xs,H p=some (.lst xs))∨(T = "tuple" ∧ ∃ xs,H p=some (.tup xs))
 | _=>False
theorem znX_ {K:Fgg}{H:Hp}{x:V}{T:String}(h:tyS K H x T):TyOf K H x (.type T):=by
 unfold tyS at h
 cases x with
 | non=>subst h; exact .non
 | bl b=>subst h; exact .bl b
 | int i=>subst h; exact .int i
 | str z=>subst h; exact .str z
 | ref p =>
  rcases h with ⟨rfl,xs,h⟩ | ⟨rfl,xs,h⟩
  ·exact .lst h
  ·exact .tup h
 | _=>exact h.elim
def isaB (T c:String):Option Bool :=
 if T=c then some true else if T = "bool" ∧ c = "int" then some true
 else if (T = "bool" ∨ T = "int" ∨ T = "str" ∨ T = "list" ∨ T = "tuple" ∨ T = "NoneType")∧(c = "bool" ∨ c = "int" ∨ c = "str" ∨ c = "list" ∨ c = "tuple" ∨ c = "dict") then some false else none
theorem zmP_ {K:Fgg}{T c:String}{b:Bool}(h:isaB T c=some b):PySem.W.kitOne K (.type T) (.type c)=some b:=by
 unfold isaB at h
 split at h
 ·rename_i e; subst e; cases h
  unfold PySem.W.kitOne
  rw [if_pos (by simp)]
 ·split at h
  ·rename_i e; obtain ⟨rfl,rfl⟩:=e; cases h; rfl
  ·split at h
   ·rename_i h1 h2 e
    cases h
    obtain ⟨e1,e2⟩:=e
    rcases e1 with rfl | rfl | rfl | rfl | rfl | rfl<;>rcases e2 with rfl | rfl | rfl | rfl | rfl | rfl<;>first | rfl | exact absurd rfl h1 | exact absurd ⟨rfl,rfl⟩ h2
   ·cases h
def mIsa (K:Fgg):List V→Hp→VK→Prop:=fun xs H Q=>match xs with
 | [.int _,.ty c]=>(match isaB "int" c with | some b=>Q (.bl b) H | none=>False)
 | [.bl _,.ty c]=>(match isaB "bool" c with | some b=>Q (.bl b) H | none=>False)
 | [.str _,.ty c]=>(match isaB "str" c with | some b=>Q (.bl b) H | none=>False)
 | [.non,.ty c]=>(match isaB "NoneType" c with | some b=>Q (.bl b) H | none=>False)
 | [.ref p,.ty c]=>∃ T,tyS K H (.ref p) T∧(match isaB T c with | some b=>Q (.bl b) H | none=>False)
 | _=>False
theorem zhS_:CallR X (.builtin "isinstance") (mIsa X.K):=by
 intro pins s σ H xs us Q I r h
 have key:∀ (x:V) (T c:String),xs=[x,.ty c]→tyS X.K H x T→(match isaB T c with | some b=>Q (.bl b) H | none=>False)→wpAny (model X.prog X.w) X.A (call (.builtin "isinstance") us) (EP X pins σ Q) X.xe s:=by
  intro x T c e ht hq
  subst e
  obtain ⟨u,w',rfl,r1,r2⟩:=vals2 r
  cases r2
  cases eb:isaB T c with
  | none=>rw [eb] at hq; exact hq.elim
  | some b =>
   rw [eb] at hq
   exact zjq_ I r1 (znX_ ht) (zmP_ eb) fun tk=>⟨.bl b,H,I.tok tk,rfl,hq⟩
 unfold mIsa at h
 split at h
 ·exact key _ "int" _ rfl rfl h
 ·exact key _ "bool" _ rfl rfl h
 ·exact key _ "str" _ rfl rfl h
 ·exact key _ "NoneType" _ rfl rfl h
 ·obtain ⟨T,h1,h2⟩:=h
  exact key _ T _ rfl h1 h2
 ·exact h.elim
def findS (l:List Nat) (t:List Nat):Int:=Txt.find ⟨l.toArray⟩ ⟨t.toArray⟩
theorem zlJ_ (l:List Nat) (c:Nat):findS l [c]=(match l.findIdx? (· == c) with | some i=>(i:Int) | none => -1):=by
 unfold findS
 rcases find_whole ⟨l.toArray⟩ ⟨[c].toArray⟩ with ⟨h1,h2⟩ | ⟨i,h1,h2,h3⟩
 ·rw [h1]
  have:l.findIdx? (· == c)=none:=by
   rw [List.findIdx?_eq_none_iff]
   intro x hx
   obtain ⟨j,hj⟩:=List.mem_iff_getElem?.mp hx
   by_cases hxc:x=c
   ·subst hxc
    exact absurd ((StrLaws.subAt_one ⟨l.toArray⟩ x j).mpr (by simpa using hj)) (h2 j)
   ·simpa using hxc
  rw [this]
 ·rw [h1]
  have hi:l[i]?=some c:=by simpa using (StrLaws.subAt_one ⟨l.toArray⟩ c i).mp h2
  have:l.findIdx? (· == c)=some i:=by
   obtain ⟨hlt,hget⟩:=List.getElem?_eq_some_iff.mp hi
   rw [List.findIdx?_eq_some_iff_getElem]
   refine ⟨hlt,by simp [hget],fun j hj=>?_⟩
   have hjl:j<l.length:=Nat.lt_trans hj hlt
   have hn:=h3 j hj
   intro hc
   have hc':l[j]=c:=by simpa using hc
   exact hn ((StrLaws.subAt_one ⟨l.toArray⟩ c j).mpr (by simp [hjl,hc']))
  rw [this]
def mIndex:V→List V→Hp→VK→Prop:=fun x xs H Q=>match x,xs with | .str l,[.str t]=>findS l.cps.toList t.cps.toList ≠ -1∧Q (.int (findS l.cps.toList t.cps.toList)) H | _,_=>False
theorem zkr_:MtR X "str.index" mIndex:=by
 intro pins s σ H x xs v us Q I rx rv h
 unfold mIndex at h
 split at h
 ·rename_i l t
  obtain ⟨k,rfl⟩:=rx
  obtain ⟨u,rfl,ru⟩:=rv.one
  obtain ⟨k',rfl⟩:=ru
  have e:Txt.find l t=findS l.cps.toList t.cps.toList:=by unfold findS; rw [← za2_,← za2_]
  rw [← e] at h
  unfold Txt.find at h
  cases ho:Builtin.Str.occurrences l t 0 l.length 1 with
  | nil=>rw [ho] at h; exact absurd rfl h.1
  | cons i rest =>
   rw [ho] at h
   exact SC.index ho ⟨.int _,H,I.tok _,⟨_,rfl⟩,h.2⟩
 ·exact h.elim
def strsOf:List V→Option (List Str)
 | []=>some []
 | .str z::r=>(strsOf r).map (z::·)
 | _::_=>none
theorem zgW_ {vs:List V}{zs:List Str}:strsOf vs=some zs→vs=zs.map V.str:=by
 induction vs generalizing zs with
 | nil=>intro h; cases h; rfl
 | cons v r ih =>
  intro h
  cases v with
  | str z =>
   unfold strsOf at h
   cases e:strsOf r with
   | none=>rw [e] at h; cases h
   | some y=>rw [e] at h; cases h; rw [ih e]; rfl
  | _=>cases h
def joinS (sep:List Nat) (zs:List Str):List Nat:=(Txt.join ⟨sep.toArray⟩ zs).cps.toList
def mJoin (K:Fgg):V→List V→Hp→VK→Prop:=fun x xs H Q=>match x,xs with
 | .str l,[.ref D]=>∃ vs,(SqL K H D vs)∧(match strsOf vs with | some zs=>JoinOk l zs=true∧Q (tx (joinS l.cps.toList zs)) H | none=>False)
 | _,_=>False
theorem zgj_:∀ {zs:List Str}{us:List Value},Vals (zs.map V.str) us→∃ l:List (Str×Tok),us=strValues l∧l.map (·.1)=zs
 | [],us,r=>by cases r; exact ⟨[],rfl,rfl⟩
 | z::zs,us,r=>by
  cases r with
  | cons r rr =>
   obtain ⟨t,rfl⟩:=r
   obtain ⟨l,rfl,hl⟩:=zgj_ rr
   exact ⟨(z,t)::l,rfl,by rw [List.map_cons,hl]⟩
theorem zi9_ {K:Fgg}{x:V}{xs:List V}{H:Hp}{Q:VK}(h:mJoin K x xs H Q):∃ l D,x=.str l∧xs=[.ref D]∧∃ vs,(SqL K H D vs)∧(match strsOf vs with | some zs=>JoinOk l zs=true∧Q (tx (joinS l.cps.toList zs)) H | none=>False):=by
 cases x with
 | str l =>
  rcases xs with _ | ⟨y,_ | ⟨z,t⟩⟩
  ·exact False.elim h
  ·cases y with
   | ref t=>exact ⟨l,t,rfl,rfl,h⟩
   | _=>exact False.elim h
  ·cases y<;>exact False.elim h
 | _=>exact False.elim h
theorem zmO_:MtR X "str.join" (mJoin X.K):=by
 intro pins s σ H x xs v us Q I rx rv h
 obtain ⟨l,D,rfl,rfl,h⟩:=zi9_ h
 ·obtain ⟨k,rfl⟩:=rx
  obtain ⟨u,rfl,ru⟩:=rv.one
  cases ru
  obtain ⟨vs,hs,h⟩:=h
  cases ez:strsOf vs with
  | none=>rw [ez] at h; exact h.elim
  | some zs =>
   rw [ez] at h
   have ev:=zgW_ ez
   subst ev
   obtain ⟨its,r,p,hz⟩:=I.list hs
   obtain ⟨lz,e1,e2⟩:=zgj_ r
   subst e1
   refine SC.join p.isList e2 h.1 fun t' k'=>⟨tx (joinS l.cps.toList zs),H,I.tok _,⟨t',?_⟩,h.2⟩
   unfold joinS
   rw [← za2_,← za2_]
end
theorem zlw_ (zs:List Str):joinS [] zs=(zs.map fun z=>z.cps.toList).flatten:=by
 unfold joinS Txt.join Builtin.Str.glued
 cases zs with
 | nil=>rfl
 | cons z r =>
  show ((r.foldl (fun acc p=>acc++#[]++p.cps) z.cps)).toList=_
  have:∀ (acc:Array Nat),(r.foldl (fun acc p=>acc++#[]++p.cps) acc).toList=acc.toList++(r.map fun z=>z.cps.toList).flatten:=by
   induction r with
   | nil=>intro acc; simp
   | cons y r ih=>intro acc; rw [List.foldl_cons,ih]; simp
  rw [this]
  simp
end L2
namespace L2
open PySem PySem.Spec PyProof.Rows
def Gd (P:Program) (w:World) (K:Fgg) (mg:Str→Option Value) (base:Heap) (CX:CXT) (k:Nat) (x:Str) (ps:List Str) (sp:Sp):Prop :=
 ∃ f fd,FnOk P w K mg base CX k f fd ps sp∧mg x=some (.ref f)∧PySem.W.keepIn K (.ref f)=true∧Binds K fd ps []
def Gc (mg:Str→Option Value) (x:Str) (v:V):Prop:=∃ u,mg x=some u∧RelV v u
abbrev Gb (mg:Str→Option Value) (x:Str):Prop:=mg x=none
section
variable {X:Cx}{CX:CXT}{k:Nat}{x:Str}{ps:List Str}{sp:Sp}{p pos:Pos}{e:Expr}{es:List Expr}{t:TA}{tg:Expr}
theorem zk_ (G:Gd X.prog X.w X.K X.mg X.base CX0 k x ps sp) (hr:Room k X.A) (ha:PA X (e::es) t) (hg:Gl X x:=by rfl) (hdb:(x == ("__debug__" : Str))=false:=by decide)
  (he:starEach (e::es) X.env=(false,eval e X.env)::starEach es X.env:=by rfl) (hpl:(backTo pos (starEach es X.env)).any (·.1)=false:=by rfl) :
  PE X (.Call (.Name x p) (e::es) [] pos) (tCall sp [] E0 t):=by
 obtain ⟨f,fd,F,hm,hk,hb⟩:=G
 exact zjH_ F hr hg hm hk hb .nil pass0 ha hdb he hpl
theorem zgP_ {v:V}(h:Gc X.mg x v) (hg:Gl X x:=by rfl) (hd:(x == ("__debug__" : Str))=false:=by decide):PE X (.Name x pos) (tC v):=by
 obtain ⟨u,hm,r⟩:=h
 exact zj4_ hg hm r hd
theorem znT_ (T:String) (hm:Gb X.mg x) (hg:Gl X x:=by rfl) (hv:bootBuiltins x=some (.type T):=by rfl) (hn:x ≠ "__name__" := by decide) (hd:(x == ("__debug__" : Str))=false:=by decide):PE X (.Name x pos) (tC (.ty T)) :=
 znG_ hg hm hv rfl hn hd
theorem zcx_ {id:String}{r:List V→Hp→VK→Prop}(hc:CallR X (.builtin id) r) (hm:Gb X.mg x) (ha:PA X (e::es) t) (hg:Gl X x:=by rfl) (hv:bootBuiltins x=some (.builtin id):=by rfl) (hn:x ≠ "__name__" := by decide) (hdb:(x == ("__debug__" : Str))=false:=by decide)
  (hs:starEach (e::es) X.env=(false,eval e X.env)::starEach es X.env:=by rfl) (hpl:(backTo pos (starEach es X.env)).any (·.1)=false:=by rfl):PE X (.Call (.Name x p) (e::es) [] pos) (tCB r t) :=
 zlN_ hc hg hm hv ha hn hdb hs hpl
theorem pe_sm {o:Expr}{to:TE}{name:Str}{id:String}{r:V→List V→Hp→VK→Prop}{apos cpos:Pos}(slot:Slot "str" name id) (hty:typeOf (.builtin id)=pure (.type "method_descriptor")) (hm:MtR X id r) (ho:PE X o to) (ha:PA X (e::es) t)
  (h1:attributeBase o name X.env (eval o X.env)=eval o X.env:=by rfl) (h2:((((backTo cpos (starEach (e::es) X.env)).all fun x=>!x.fst) && (backToKw cpos (keywordEach [] X.env)).all fun x=>x.fst.isSome) && decide (((e::es).length+([]:List Keyword).length+if ([]:List Keyword).isEmpty=true then 0 else 1)<30))=true:=by rfl)
  (h3:(apos.endLine == cpos.line)=true:=by rfl) (h4:starEach (e::es) X.env=(false,eval e X.env)::starEach es X.env:=by rfl) (h5:((backTo cpos (starEach es X.env)).any fun x=>x.fst)=false:=by rfl) :
  PE X (.Call (.Attribute o name apos) (e::es) [] cpos) (tBM X.K "str" r to t):=zka_ PySem.F.plainAttrs_str slot hty hm ho ha h1 h2 h3 h4 h5
def iAny (K:Fgg) (tl:TE):TI:=fun σ H R=>tl σ H fun x H1=>match x with
 | .str z=>R (Itp z.cps.toList.length (fun i=>tx [z.cps.toList.getD i 0])) H1
 | .ref a=>((∃ xs,SqL K H1 a xs)∧R (Itl K a) H1)∨((∃ xs,SqT K H1 a xs)∧R (Itt K a) H1)
 | _=>False
theorem zok_ (z:Str):sgn z=fun i=>tx [z.cps.toList.getD i 0]:=by
 funext i
 unfold sgn
 simp [Array.getD_eq_getD_getElem?,List.getD_eq_getElem?_getD]
theorem zej_ {l:Expr}{tl:TE}(hl:PE X l tl):PI X tg l (iAny X.K tl):=by
 intro pins s σ H R I h
 refine thn (hl pins s σ H _ I h) fun v s1 hq_=>?_
 obtain ⟨x,H1,I1,r1,q1⟩:=hq_
 have pt:∀ (v:V),PE X l (tC v)→PE X l (tC v):=fun _ h=>h
 cases x with
 | str z =>
  obtain ⟨t,rfl⟩:=r1
  refine wpAny_pyIter_strU ?_
  have q:R (Itp z.cps.size (sgn z)) H1:=by
   have e:z.cps.toList.length=z.cps.size:=by simp
   rw [zok_,← e]
   exact q1
  refine ⟨s1.heap.objs.size,[s1.heap.objs.size],_,_,H1,rfl,I1.kept (t':=s1.toks) fun b o e=>Heap.get?_push_of_some _ e,zlB_ _ z t,⟨Nat.zero_le _,⟨_,Heap.get?_push_size _ rfl,rfl,rfl⟩⟩,fun b hb=>?_,q⟩
  have e:b=s1.heap.objs.size:=by simpa using hb
  subst e
  exact I1.fpOk (Nat.le_refl _) (I1.hok.fresh (Nat.le_refl _))
 | ref a =>
  cases r1
  rcases q1 with ⟨⟨xs,hq⟩,q⟩ | ⟨⟨xs,hq⟩,q⟩
  ·obtain ⟨its,rv,p,hz⟩:=I1.list hq
   refine wpAny_pyIter_list p.isList ?_
   refine ⟨s1.heap.objs.size,[s1.heap.objs.size],_,_,H1,rfl,I1.kept (t':=s1.toks) fun b o e=>Heap.get?_push_of_some _ e,ziy_ a _,⟨_,Heap.get?_push_size _ rfl,rfl,rfl⟩,fun b hb=>?_,q⟩
   have e:b=s1.heap.objs.size:=by simpa using hb
   subst e
   exact I1.fpOk (Nat.le_refl _) (I1.hok.fresh (Nat.le_refl _))
  ·obtain ⟨its,rv,p,hz⟩:=I1.tuple hq
   refine wpAny_pyIter_tuple (show s1.heap.IsTuple a its.toArray from p) ?_
   refine ⟨s1.heap.objs.size,[s1.heap.objs.size],_,_,H1,rfl,I1.kept (t':=s1.toks) fun b o e=>Heap.get?_push_of_some _ e,zhx_ a _,⟨_,Heap.get?_push_size _ rfl,rfl,rfl⟩,fun b hb=>?_,q⟩
   have e:b=s1.heap.objs.size:=by simpa using hb
   subst e
   exact I1.fpOk (Nat.le_refl _) (I1.hok.fresh (Nat.le_refl _))
 | _=>exact q1.elim
def mRng1 (ta:TA):TI:=fun σ H R=>ta σ H fun vs H1=>match vs with | [.int j] => -(2 ^ 62)≤j∧j<2 ^ 62∧R (Itr 0 j.toNat) H1 | _=>False
def mRng2 (ta:TA):TI:=fun σ H R=>ta σ H fun vs H1=>match vs with | [.int i,.int j]=>(-(2 ^ 62)≤i∧i<2 ^ 62 ∧ -(2 ^ 62)≤j∧j<2 ^ 62)∧R (Itr i (j-i).toNat) H1 | _=>False
end
section
variable {X:Cx}{tg:Expr}
theorem zbK_ {a:Expr}{ta:TA}{p pos:Pos}(hm:Gb X.mg "range") (ha:PA X [a] ta) (hg:Gl X "range" := by rfl) (hs:starEach [a] X.env=[(false,eval a X.env)]:=by rfl):PI X tg (.Call (.Name "range" p) [a] [] pos) (mRng1 ta):=by
 intro pins s σ H R I h
 refine Call_ (zhW_ I hg hm boot_range (PyProof.Rows.callWith_type1 (thn (ha pos pins s σ H _ I h) fun us s1 hq_=>?_) hs rfl))
 obtain ⟨vs,H1,I1,r1,q1⟩:=hq_
 try dsimp only at q1
 split at q1
 ·obtain ⟨q2,q3,q⟩:=q1
  cases r1 with
  | cons r rr =>
   cases rr
   obtain ⟨t,rfl⟩:=r
   exact call_range_1 (zh4_ I1 (by lia) (by lia) q2 q3 (by simpa using q))
 ·exact q1.elim
theorem zfa_ {a b:Expr}{ta:TA}{p pos:Pos}(hm:Gb X.mg "range") (ha:PA X [a,b] ta) (hg:Gl X "range" := by rfl) (hs:starEach [a,b] X.env=[(false,eval a X.env),(false,eval b X.env)]:=by rfl) (hs2:starEach [b] X.env=[(false,eval b X.env)]:=by rfl) :
  PI X tg (.Call (.Name "range" p) [a,b] [] pos) (mRng2 ta):=by
 intro pins s σ H R I h
 refine Call_ (zhW_ I hg hm boot_range (PyProof.Rows.callWith_type1 (thn (ha pos pins s σ H _ I h) fun us s1 hq_=>?_) (by rw [hs,hs2]) (by rw [hs2]; rfl)))
 obtain ⟨vs,H1,I1,r1,q1⟩:=hq_
 try dsimp only at q1
 split at q1
 ·obtain ⟨⟨q1,q2,q3,q4⟩,q⟩:=q1
  cases r1 with
  | cons r rr =>
   cases rr with
   | cons r' rr =>
    cases rr
    obtain ⟨t,rfl⟩:=r
    obtain ⟨t',rfl⟩:=r'
    exact call_range_2 (zh4_ I1 q1 q2 q3 q4 q)
 ·exact q1.elim
variable {elts:List Expr}{kk:Nat}{tpos:Pos}
def gNilM:TGs:=fun vs σ H Q=>match vs with | []=>Q σ H | _=>False
def gConsM (t:TG) (u:TGs):TGs:=fun vs σ H Q=>match vs with | v::r=>t v σ H fun σ' H'=>u r σ' H' Q | []=>False
theorem zhH_:PGs X [] gNilM:=by
 intro pins s σ H vs us Q I r h
 cases vs with
 | nil=>exact zmv_ pins s σ H [] us Q I r ⟨rfl,h⟩
 | cons _ _=>exact h.elim
theorem zcw_ {e:Expr}{es:List Expr}{t:TG}{u:TGs}(h1:PG X e t) (h2:PGs X es u)
  (hs:(assignEach (e::es) X.env).map (·.2)=assign e X.env::(assignEach es X.env).map (·.2):=by rfl):PGs X (e::es) (gConsM t u):=by
 intro pins s σ H vs us Q I r h
 cases vs with
 | nil=>exact h.elim
 | cons v vr=>exact zlq_ h1 h2 hs pins s σ H _ us Q I r ⟨v,vr,rfl,h⟩
def gTupM (K:Fgg) (n:Nat) (t:TGs):TG:=fun v σ H Q=>match v with | .ref a=>∃ xs,SqT K H a xs∧xs.length=n∧t xs σ H Q | _=>False
theorem zjF_ {es:List Expr}{k:Nat}{t:TGs}{n:Nat}{pos:Pos}(hc:X.calm=true) (h:PGs X es t)
  (hn:(assignEach es X.env).length=n:=by rfl) (hst:(assignEach es X.env).findIdx? (·.1)=none:=by rfl):PG X (.Tuple es k pos) (gTupM X.K n t):=by
 intro pins s σ H v u Q I r hw
 cases v with
 | ref a =>
  obtain ⟨xs,h1,h2,h3⟩:=hw
  exact zoO_ hc h hn hst pins s σ H _ u Q I r ⟨a,xs,rfl,h1,h2,h3⟩
 | _=>exact hw.elim
def mNeg (ta:TE):TE:=fun σ H Q=>ta σ H fun x H1=>match x with | .int i=>Q (.int (-i)) H1 | _=>False
theorem zmw_ {a:Expr}{ta:TE}{pos:Pos}(ha:PE X a ta):PE X (.UnaryOp .USub a pos) (mNeg ta):=by
 intro pins s σ H Q I h
 refine UnaryOp_ (thn (ha pins s σ H _ I h) fun v s1 hq_=>?_)
 obtain ⟨x,H1,I1,r1,q1⟩:=hq_
 cases x with
 | int i=>exact znL_ pins s1 σ H1 _ v Q I1 r1 ⟨i,rfl,q1⟩
 | _=>exact q1.elim
end
theorem zaB_ {H:Hp}{p:Addr}(h:H p=none) (o:HO):Same H (upd H p o):=fun b u q=>by rw [zI_ (zaG_ q h)]; exact q
theorem Same.tup {K:Fgg}{H H':Hp}{a:Addr}{xs:List V}(e:Same H H') (h:SqT K H a xs):SqT K H' a xs:=by
 rcases h with (h | ⟨o,h⟩) | h
 ·exact .inl (.inl (e _ _ h))
 ·exact .inl (.inr ⟨o,e _ _ h⟩)
 ·exact .inr h
end L2
namespace L2
open PySem PySem.Spec PyProof.Rows
theorem zcA_ {n:Nat}(h:n≤100000):n≤sizeLine:=by rw [sizeLine_eq]; lia
theorem zfl_ {zs:List Str}{sep:Str}(h:zs.length*(sep.length+1)≤100000) (h1:∀ z∈zs,z.length≤1):JoinOk sep zs=true:=by
 unfold JoinOk
 have key:∀ (l:List Str) (acc:Nat),(∀ z∈l,z.length≤1)→l.foldl (fun x1 x2=>x1+x2.length+sep.length) acc≤acc+l.length*(sep.length+1):=by
  intro l
  induction l with
  | nil=>intro acc _; simp
  | cons z r ih =>
   intro acc hz
   rw [List.foldl_cons]
   have h2:=ih (acc+z.length+sep.length) fun y hy=>hz y (List.mem_cons_of_mem _ hy)
   have h3:=hz z List.mem_cons_self
   rw [List.length_cons,Nat.add_mul]
   omega
 have q:=key zs 0 h1
 rw [List.foldl_toArray]
 unfold Builtin.Str.tooLong
 simp only [Bool.not_eq_true',decide_eq_false_iff_not]
 have:zs.foldl (fun x1 x2=>x1+x2.length+sep.length) 0≤100000:=by omega
 have hl:(100000:Nat)≤sizeLine:=by rw [sizeLine_eq]; omega
 omega
end L2
namespace L2
open PySem PySem.Spec PyProof.Rows
section
variable {X:Cx}{tg:Expr}
def mSet:TSet:=fun o i v H Q=>match i with
 | .int k=>(match o with
  | .ref p=>∃ xs,H p=some (.lst xs)∧(match ixN xs.length k with | some j=>Q (upd H p (.lst (xs.set j v))) | none=>False)
  | _=>False)
 | _=>False
theorem set_M:PSet X mSet:=by
 intro pins s σ H o i v ov iv u Q I ro ri rv h
 unfold mSet at h
 cases i with
 | int k =>
  cases o with
  | ref p =>
   obtain ⟨xs,h1,h⟩:=h
   cases e:ixN xs.length k with
   | none=>rw [e] at h; exact h.elim
   | some j =>
    rw [e] at h
    exact zlc_ pins s σ H _ _ v ov iv u Q I ro ri rv ⟨p,xs,k,j,rfl,rfl,h1,e,h⟩
  | _=>exact h.elim
 | _=>exact h.elim
theorem zlj_ {n:Nat}{k:Int}(h0:0≤k) (h1:k<n):ixN n k=some k.toNat:=by unfold ixN; rw [if_pos h0,if_pos h1]
def strI (i:Int):List Nat:=(Str.ofString (toString i)).cps.toList
end
section
variable {X:Cx}{x:Str}{p pos:Pos}{e:Expr}{es:List Expr}{t:TA}
theorem zlT_ (T:String) {r:List V→Hp→VK→Prop}(hc:CallR X (.type T) r) (hm:Gb X.mg x) (ha:PA X (e::es) t) (hg:Gl X x:=by rfl) (hv:bootBuiltins x=some (.type T):=by rfl) (hn:x ≠ "__name__" := by decide) (hdb:(x == ("__debug__" : Str))=false:=by decide)
  (hs:starEach (e::es) X.env=(false,eval e X.env)::starEach es X.env:=by rfl) (hpl:(backTo pos (starEach es X.env)).any (·.1)=false:=by rfl):PE X (.Call (.Name x p) (e::es) [] pos) (tCB r t) :=
 zjg_ hc hg hm hv ha hn hdb hs hpl
end
end L2
namespace L2
open PySem PySem.Spec PyProof.Rows
def dg (m:Nat):List Nat:=(Nat.toDigits 10 m).map Char.toNat
theorem zlo_ (m:Nat):strI (m:Int)=dg m:=PySem.W.KIN.signs_num m
theorem zja_ (l:List Nat):joinS [] (l.map fun c=>(⟨#[c]⟩:Str))=l:=by
 rw [L2.zlw_,List.map_map]
 induction l with
 | nil=>rfl
 | cons c r ih=>rw [List.map_cons,List.flatten_cons,ih]; rfl
end L2
namespace L2
open PySem PySem.Spec PyProof.Rows
end L2
namespace L2
open PySem PySem.Spec PyProof.Rows
def Dc (x:Addr) (d:Option Addr) (h:Heap):Prop:=∃ o,h.get? x=some o∧o.dict=d
theorem znr_ (o:Obj) (f):(o.mapFields f).dict=o.dict:=by obtain ⟨c,d,dt,sl⟩:=o; cases dt<;>rfl
section
variable {M:Model}{A:Around}{E:Value→Shared→Prop}{s:Shared}{base:Heap}{env:Env}{outer l:List Env}{L e:Addr}{cls a0 fl:Value}{d:Option Addr}{Q:Unit→Shared→Prop}
theorem ent_d {oe:Obj}{vs:Array Value}{head:Value}{nx:Bool}(hfr:A.frames=some (env::outer)) (hl:s.heap.FunFrames base (env::outer)) (hf:env.frame=some L) (he:s.heap.get? e=some oe) (hkb:base.StaysIn s.heap) (hen:base.get? e=none) (hd:oe.data=.fields vs) (hsz:1<vs.size) (h0:vs[0]?=some a0)
  (k:∀ h',Heap.NotedW base (env::outer) e oe.cls a0 (rawInt L) s.heap h'→Dc e oe.dict h'→Q () { s with heap:=h' }) :
  wpAny M A (do let a ← frameOf env; let pl ← entryPlaceOf L nx; let b ← EntryCells.newEntry head a .none (rawInt L) .none pl; setField (.ref e) 1 b) Q E s:=by
 have out:e∉(env::outer).filterMap (·.frame):=fun hm=>by obtain ⟨_,o,ho,hnf⟩:=hl.mem hm; cases he.symm.trans ho; exact hnf vs hd
 refine wpAny_bind (wpAny_frameOf_fun hfr hl hf fun g1 so=>wpAny_bind (wpAny_entryPlaceOf fun pl hpl=>?_))
 unfold EntryCells.newEntry newFields; refine wpAny_bind (wpAny_newObj_type ?_ (hpl.sizeOk5 _ _ _ _ _))
 have e1:g1.get? e=some oe:=(so.2.1 e out).trans he
 have b1:base.StaysIn g1:=fun b o q=>(so.2.1 b fun hm=>by have:=(hl.mem hm).1; rw [q] at this; cases this).trans (hkb b o q)
 have ne:g1.objs.size≠e:=Nat.ne_of_gt (Heap.lt_size e1)
 generalize hOb:({ cls:=.type "traceback",dict:=none,data:=.fields ([head,.ref L,.none,rawInt L,.none]++(if pl.isEmpty then List.replicate 6 Value.none else pl)).toArray }:Obj)=ob
 have obd:ob.data=.fields ([head,.ref L,.none,rawInt L,.none]++(if pl.isEmpty then List.replicate 6 Value.none else pl)).toArray:=by rw [← hOb]
 have obf:ob.isFreed=false:=Obj.isFreed_of_fields obd
 have e2:(g1.push ob).get? e=some oe:=Heap.get?_push_of_some ob e1
 have d3:=Obj.data_mapFields hd (·.setIfInBounds 1 (Value.ref g1.objs.size))
 have e3:=Heap.get?_update_self (Obj.mapFields (·.setIfInBounds 1 (Value.ref g1.objs.size))) e2 (Obj.isFreed_of_fields d3)
 have t3:((g1.push ob).update e (Obj.mapFields (·.setIfInBounds 1 (Value.ref g1.objs.size)))).get? g1.objs.size=some ob:=(Heap.get?_update_other _ _ ne.symm).trans (Heap.get?_push_size g1 obf)
 have old:∀ b o,b≠e→g1.get? b=some o→((g1.push ob).update e (Obj.mapFields (·.setIfInBounds 1 (Value.ref g1.objs.size)))).get? b=some o:=fun b o hb q=>(Heap.get?_update_other _ _ hb.symm).trans (Heap.get?_push_of_some ob q)
 have nrec:∀ b o,s.heap.get? b=some o→(∀ vs,o.data≠.fields vs)→b≠e:=fun b o q hnf z=>by rw [z,he] at q; cases q; exact hnf vs hd
 refine wpAny_setField e2 hd hsz (k _ ⟨fun b o q=>old b o (fun z=>by rw [z,hen] at q; cases q) (b1 b o q),hl.of_keeps fun b o q hnf=>?_,?_,fun b o q hnf=>?_⟩ ⟨_,e3,znr_ _ _⟩)
 ·obtain ⟨sl,z⟩:=so.2.2 b o q; exact ⟨_,old b _ (nrec b o q hnf) z,rfl⟩
 ·exact ⟨_,_,_,_,_,e3,⟨Obj.cls_mapFields _ _,by rw [Array.getElem?_setIfInBounds_ne (by decide)]; exact h0⟩,d3,by simp [hsz],b1.fresh,ne,t3,obd,by first | (simp; done) | (rcases hpl with rfl | ⟨_,_,_,_,_,_,_,rfl⟩<;>simp)⟩
 ·obtain ⟨sl,z⟩:=so.2.2 b o q; exact ⟨sl,old b _ (nrec b o q hnf) z⟩
theorem fl_d (hkb:base.StaysIn s.heap) (hl:s.heap.FunFrames base l) (ht:s.heap.TracedAtW base e cls a0 fl) (hD:Dc e d s.heap)
  (k:∀ h',base.StaysIn h'→h'.FunFrames base l→h'.TracedW base e cls a0→s.heap.UpToSlots h'→Dc e d h'→Q () { s with heap:=h' }):wpAny M A (setFlight (.ref e) none) Q E s:=by
 obtain ⟨oe,vs,T,oT,ts,he,hc,hd,h1,hnT,hTe,hT,hdT,h3⟩:=ht
 have h3s:3<ts.size:=(Array.getElem?_eq_some_iff.mp h3).1
 have oth:∀ b,b≠T→(s.heap.update T (Obj.mapFields (·.setIfInBounds 3 ((none:Option Addr).elim Value.none fun f=>rawInt f)))).get? b=s.heap.get? b:=fun b z=>Heap.get?_update_other _ _ (Ne.symm z)
 have nrec:∀ b o,s.heap.get? b=some o→(∀ vs,o.data≠.fields vs)→b≠T:=fun b o q hnf z=>by rw [z,hT] at q; cases q; exact hnf ts hdT
 unfold setFlight; refine wpAny_bind (wpAny_field he hd h1 ?_); rw [if_pos (show (Value.ref T != Value.none)=true by simp)]
 refine wpAny_setField hT hdT h3s (k _ (fun b o q=>(oth b fun z=>by rw [z,hnT] at q; cases q).trans (hkb b o q)) (hl.of_keeps fun b o q hnf=>⟨o,(oth b (nrec b o q hnf)).trans q,rfl⟩) ?_ (fun b o q hnf=>⟨o.slots,(oth b (nrec b o q hnf)).trans q⟩) ?_)
 ·exact ⟨oe,vs,T,_,_,(oth e hTe.symm).trans he,hc,hd,h1,hnT,hTe,Heap.get?_update_self _ hT (Obj.isFreed_of_fields (Obj.data_mapFields hdT _)),Obj.data_mapFields hdT _,by simp [h3s]⟩
 ·obtain ⟨o,q,z⟩:=hD; exact ⟨o,(oth e hTe.symm).trans q,z⟩
theorem zml_ {oe:Obj}{vs:Array Value}(hfr:A.frames=some (env::outer)) (hl:s.heap.FunFrames base (env::outer)) (hf:env.frame=some L) (he:s.heap.get? e=some oe) (hkb:base.StaysIn s.heap) (hen:base.get? e=none) (hd:oe.data=.fields vs) (h1:vs[1]?=some .none) (h0:vs[0]?=some a0)
  (k:∀ h',Heap.NotedW base (env::outer) e oe.cls a0 (rawInt L) s.heap h'→Dc e oe.dict h'→Q () { s with heap:=h' }):wpAny M A (noteFrame (.ref e) env) Q E s:=by
 unfold noteFrame; simp only [hf]; refine wpAny_bind (wpAny_field he hd h1 ?_); rw [if_neg (by decide)]
 exact ent_d hfr hl hf he hkb hen hd (Array.getElem?_eq_some_iff.mp h1).1 h0 k
theorem zjE_ (hfr:A.frames=some (env::outer)) (hl:s.heap.FunFrames base (env::outer)) (hf:env.frame=some L) (ht:s.heap.TracedW base e cls a0) (hkb:base.StaysIn s.heap) (hen:base.get? e=none) (hD:Dc e d s.heap)
  (k:∀ h',Heap.NotedW base (env::outer) e cls a0 (rawInt L) s.heap h'→Dc e d h'→Q () { s with heap:=h' }):wpAny M A (noteFrame (.ref e) env) Q E s:=by
 obtain ⟨oe,vs,T,oT,ts,he,⟨rfl,h0⟩,hd,h1,hnT,hTe,hT,hdT,h3⟩:=ht
 obtain rfl:oe.dict=d:=by obtain ⟨o,q,z⟩:=hD; cases he.symm.trans q; exact z
 unfold noteFrame; simp only [hf]; refine wpAny_bind (wpAny_field he hd h1 ?_); rw [if_pos (show (Value.ref T != Value.none)=true by simp)]
 refine wpAny_bind (wpAny_field hT hdT h3 ?_); rw [if_neg (show ¬ ((Value.none == rawInt L)=true) by simp [rawInt])]; refine wpAny_bind (wpAny_setField hT hdT (Array.getElem?_eq_some_iff.mp h3).1 ?_)
 have oth:∀ b,b≠T→(s.heap.update T (Obj.mapFields (·.setIfInBounds 3 Value.none))).get? b=s.heap.get? b:=fun b z=>Heap.get?_update_other _ _ (Ne.symm z)
 have nrec:∀ b o,s.heap.get? b=some o→(∀ vs,o.data≠.fields vs)→b≠T:=fun b o q hnf z=>by rw [z,hT] at q; cases q; exact hnf ts hdT
 refine ent_d (s:={ s with heap:=s.heap.update T (Obj.mapFields (·.setIfInBounds 3 Value.none)) }) hfr (hl.of_keeps fun b o q hnf=>⟨o,(oth b (nrec b o q hnf)).trans q,rfl⟩) hf ((oth e hTe.symm).trans he) (fun b o q=>(oth b fun z=>by rw [z,hnT] at q; cases q).trans (hkb b o q)) hen hd (Array.getElem?_eq_some_iff.mp h1).1 h0
  fun h' ⟨x1,x2,x3,x4⟩ dd=>k h' ⟨x1,x2,x3,fun b o q hnf=>x4 b o ((oth b (nrec b o q hnf)).trans q) hnf⟩ dd
theorem zeb_ {h h1 h2:Heap}(n:Heap.NotedW base l e cls a0 fl h h1) (a:base.StaysIn h2) (b:h2.FunFrames base l) (c:h2.TracedW base e cls a0) (u:h1.UpToSlots h2):Heap.LeftW base l e cls a0 h h2 :=
 ⟨a,b,c,fun x o q hnf=>by obtain ⟨sl,z⟩:=n.2.2.2 x o q hnf; obtain ⟨sl',z'⟩:=u x _ z hnf; exact ⟨sl',z'⟩⟩
theorem zlD_ {oe:Obj}{vs:Array Value}(hfr:A.frames=some (env::outer)) (hl:s.heap.FunFrames base (env::outer)) (hf:env.frame=some L) (he:s.heap.get? e=some oe) (hkb:base.StaysIn s.heap) (hen:base.get? e=none) (hd:oe.data=.fields vs) (h1:vs[1]?=some .none) (h0:vs[0]?=some a0)
  (k:∀ h',Heap.LeftW base (env::outer) e oe.cls a0 s.heap h'→Dc e oe.dict h'→Q () { s with heap:=h' }):wpAny M A (leaving env (.ref e)) Q E s:=by
 unfold leaving; refine wpAny_bind (zml_ hfr hl hf he hkb hen hd h1 h0 fun h' n dd=>?_)
 exact fl_d n.1 n.2.1 n.2.2.1 dd fun h2 a b c u dd=>k h2 (zeb_ n a b c u) dd
theorem zkM_ (hfr:A.frames=some (env::outer)) (hl:s.heap.FunFrames base (env::outer)) (hf:env.frame=some L) (ht:s.heap.TracedW base e cls a0) (hkb:base.StaysIn s.heap) (hen:base.get? e=none) (hD:Dc e d s.heap)
  (k:∀ h',Heap.LeftW base (env::outer) e cls a0 s.heap h'→Dc e d h'→Q () { s with heap:=h' }):wpAny M A (leaving env (.ref e)) Q E s:=by
 unfold leaving; refine wpAny_bind (zjE_ hfr hl hf ht hkb hen hD fun h' n dd=>?_)
 exact fl_d n.1 n.2.1 n.2.2.1 dd fun h2 a b c u dd=>k h2 (zeb_ n a b c u) dd
end
def XAt (x C:Addr) (d:Option Addr) (h:Heap):Prop:=∃ o vs,h.get? x=some o∧o.cls=.ref C∧o.dict=d∧o.data=.fields vs
abbrev XO (x C:Addr) (d:Option Addr):HO:=.ext (XAt x C d)
theorem xo_ok {P:Program}{w:World}{H:Hp}{x C:Addr}{d:Option Addr}{h:Heap}(q:XAt x C d h):ObjOk P w H h x (XO x C d):=by
 obtain ⟨o,vs,a,b⟩:=q
 exact ⟨⟨o,vs,a,b⟩,⟨o,a⟩,fun h1 h2 ⟨o,vs,z1,z2⟩ k=>⟨o,vs,k o z1,z2⟩⟩
def DAt (dx:Addr) (fs:List (Str×V)) (h:Heap):Prop:=∃ mA,h.Ns1 dx mA∧(∀ f,RelO (fs.lookup f) (mA f))∧PySem.Within mA (fs.map (·.1))
abbrev XDO (dx:Addr) (fs:List (Str×V)):HO:=.ext (DAt dx fs)
theorem xd_ok {P:Program}{w:World}{H:Hp}{dx:Addr}{fs:List (Str×V)}{h:Heap}(q:DAt dx fs h):ObjOk P w H h dx (XDO dx fs) :=
 ⟨q,(by obtain ⟨_,⟨_,_,_,e,_⟩,_⟩:=q; exact ⟨_,e⟩),fun h1 h2 ⟨mA,⟨o,es,ep,e,c⟩,r⟩ k=>⟨mA,⟨o,es,ep,k o e,c⟩,r⟩⟩
structure FlyX (x T C:Addr) (d:Option Addr) (H:Hp) (hb h:Heap):Prop where
 obj:∃ oe vs a0 oT ts,h.get? x=some oe∧(oe.cls=.ref C∧vs[0]?=some a0)∧oe.data=.fields vs∧vs[1]?=some (.ref T)∧T≠x∧h.get? T=some oT∧oT.data=.fields ts∧ts[3]?=some .none
 dc:Dc x d h
 hx:H x=none
 hT:H T=none
 nx:hb.get? x=none
 nT:hb.get? T=none
def CXx (P:Program) (w:World):CXT:=fun outer H s E e s'=>∃ x T C d H',e=.ref x∧s'.os=s.os∧AllBare s'.gens∧Un (frs outer) [] H H' s.heap s'.heap∧HOk P w H' s'.heap ∧
 FlyX x T C d H' s.heap s'.heap∧E (.ref C) d H'
theorem HOk.at_ {P:Program}{w:World}{H:Hp}{h:Heap}{a:Addr}{o:HO}(x:HOk P w H h) (e:H a=some o):∃ u,h.get? a=some u:=by
 have q:=x a o e
 clear e x
 induction o with
 | lst xs=>obtain ⟨_,_,_,_,e⟩:=q; exact ⟨_,e⟩
 | tup xs=>obtain ⟨_,_,_,o,e,_⟩:=q; exact ⟨_,e⟩
 | dK kvs=>obtain ⟨_,_,_,_,o,_,_,e,_⟩:=q; exact ⟨_,e⟩
 | dT kvs=>obtain ⟨_,_,_,_,o,_,_,e,_⟩:=q; exact ⟨_,e⟩
 | set S n=>obtain ⟨o,_,_,_,e,_⟩:=q; exact ⟨_,e⟩
 | ins C dx fs=>obtain ⟨_,_,_,e,_⟩:=q; exact ⟨_,e⟩
 | own y=>obtain ⟨_,e⟩:=q; exact ⟨_,e⟩
 | xd fs=>obtain ⟨_,⟨_,_,_,e,_⟩,_⟩:=q; exact ⟨_,e⟩
 | rng lo hi=>obtain ⟨_,_,_,e⟩:=q; exact ⟨_,e⟩
 | frz ob u _=>obtain ⟨e,_⟩:=q; exact ⟨_,e⟩
 | tbl ps=>exact ⟨_,(show h.get? a=some _ from q)⟩
 | met f y=>exact ⟨_,(show h.get? a=some _ from q)⟩
 | ext φ=>obtain ⟨_,⟨_,e⟩,_⟩:=q; exact ⟨_,e⟩
theorem HOk.none_at {P:Program}{w:World}{H:Hp}{h:Heap}{a:Addr}(x:HOk P w H h) (e:h.get? a=none):H a=none:=by
 cases q:H a with
 | none=>rfl
 | some o =>
  obtain ⟨u,z⟩:=x.at_ q
  rw [e] at z; cases z
section
variable {X:Cx}{pins:Pnn}{σ:St}{H:Hp}{s:Shared}
theorem zol_ (hst:X.stack=X.env::X.outer) {b:Addr}(h:b∈X.fs):b∈frs X.stack:=by
 rw [hst]
 unfold Cx.fs frs at *
 rw [List.filterMap_cons]
 split
 ·exact h
 ·exact List.mem_cons_of_mem _ h
theorem zfQ_ (I:Inv X pins σ H s) (hst:X.stack=X.env::X.outer) (hex:X.ex=[]) {x C:Addr}{a0:Value}{ex:List Addr}{h2:Heap}(hxs:∀ b∈ex,H b=none∧X.s₀.heap.get? b=none) (hx:x∈ex)
  {d:Option Addr}(L:Heap.LeftW (PySem.W.hideAll s.heap (frs X.stack++ex)) X.stack x (.ref C) a0 s.heap h2) (dd:Dc x d h2) :
  ∃ T,Un (frs X.outer) [] X.H₀ H X.s₀.heap h2∧HOk X.prog X.w H h2∧FlyX x T C d H X.s₀.heap h2:=by
 obtain ⟨st,ff,⟨oe,vs,T,oT,ts,he,hc,hd,h1,hnT,hTe,hT,hdT,h3⟩,up⟩:=L
 have nex:∀ b:Addr,b∉X.ex:=fun b z=>by rw [hex] at z; cases z
 have keepS:∀ b o,s.heap.get? b=some o→b∉frs X.stack→b∉ex→h2.get? b=some o:=fun b o q n1 n2=>st b o (PySem.W.hideAll_get _ q fun z=>(List.mem_append.mp z).elim n1 n2)
 have slotS:∀ b o,s.heap.get? b=some o→b∈frs X.stack→∃ sl,h2.get? b=some { o with slots:=sl }:=fun b o q hb=>up b o q (by
  obtain ⟨_,o',q',d⟩:=I.stack.mem hb
  cases q.symm.trans q'
  exact d)
 have notL:∀ b o,X.s₀.heap.get? b=some o→b≠X.env.locals:=fun b o q=>Nat.ne_of_lt (Nat.lt_of_lt_of_le (Heap.lt_size q) I.ok.above)
 have notX:∀ b o,X.s₀.heap.get? b=some o→b∉ex:=fun b o q z=>by
  have:=(hxs b z).2
  rw [q] at this; cases this
 have notF:∀ b o,X.s₀.heap.get? b=some o→b∉X.fs→b∉frs X.stack:=fun b o q n z=>by
  rcases List.mem_cons.mp (I.stkSub b z) with e | e
  ·exact notL b o q e
  ·exact n e
 have young:∀ b,s.heap.get? b=none→X.s₀.heap.get? b=none:=fun b q=>by
  cases e:X.s₀.heap.get? b with
  | none=>rfl
  | some o =>
   obtain ⟨o',z⟩:=I.base.there b o e (nex b)
   rw [q] at z; cases z
 refine ⟨T,⟨fun b o q n hb _=>?_,fun b o q n hb _=>?_,fun b o q n _=>I.base.free b o q n (nex b),fun b o q _=>?_,I.base.tups,I.base.frzs,I.base.tbls⟩,fun a o e=>?_,⟨oe,vs,a0,oT,ts,he,hc,hd,h1,hTe,hT,hdT,h3⟩,dd,(hxs x hx).1,?_,(hxs x hx).2,?_⟩
 ·exact keepS b o (I.base.keep b o q n hb (nex b)) (notF b o q hb) (notX b o q)
 ·obtain ⟨sl,e⟩:=I.base.slot b o q n hb (nex b)
  obtain ⟨sl',e'⟩:=slotS b _ e (zol_ hst hb)
  exact ⟨sl',e'⟩
 ·obtain ⟨o',e⟩:=I.base.there b o q (nex b)
  by_cases hb:b∈frs X.stack
  ·obtain ⟨sl',e'⟩:=slotS b _ e hb
   exact ⟨_,e'⟩
  ·exact ⟨o',keepS b o' e hb (notX b o q)⟩
 ·refine (I.hok a o e).stay (fun b u hb q=>?_) (fun _ q=>q) fun _ _ q=>q
  have tr:∃ o,H b=some o:=by
   rcases hb with rfl | hb
   ·exact ⟨_,e⟩
   ·exact ⟨_,hb⟩
  obtain ⟨ob,tr⟩:=tr
  refine keepS b u q (fun z=>?_) fun z=>?_
  ·rw [I.stkFree b z] at tr; cases tr
  ·rw [(hxs b z).1] at tr; cases tr
 all_goals
  by_cases hTx:T∈ex
  ·first | exact (hxs T hTx).1 | exact (hxs T hTx).2
  by_cases hTf:T∈frs X.stack
  ·obtain ⟨_,o',q',d⟩:=I.stack.mem hTf
   obtain ⟨sl,e'⟩:=slotS T o' q' hTf
   rw [hT] at e'
   cases e'
   exact absurd hdT (d ts)
  have q:s.heap.get? T=none:=by
   cases e:s.heap.get? T with
   | none=>rfl
   | some o =>
    rw [PySem.W.hideAll_get _ e fun z=>(List.mem_append.mp z).elim hTf hTx] at hnT
    cases hnT
  first | exact I.hok.none_at q | exact young T q
end
section
variable {P:Program}{w:World}{K:Fgg}{mg:Str→Option Value}{base:Heap}{N:List Str}{qual:Str}{scope:Scope}{f:Addr}{cd:Value}{A:Around}{outer:List Env}{s0:Shared}{H0:Hp}{E:XK}
theorem zlz_ {l:List Env}{more:List Addr}:∀ env∈l,∀ a,env.frame=some a→a∈frs l++more:=fun env he a hf=>List.mem_append_left _ (List.mem_filterMap.mpr ⟨env,he,hf⟩)
def Takes (X:Cx) (E:XK):Prop:=∀ (pins:Pnn) (σ:St) (H:Hp) (s:Shared) (x C:Addr) (oe:Obj) (vs:Array Value) (a0:Value),Inv X pins σ H s→H x=none→X.s₀.heap.get? x=none→s.heap.get? x=some oe→oe.cls=.ref C→oe.data=.fields vs→vs[1]?=some .none→vs[0]?=some a0→E (.ref C) oe.dict H→X.xe (.ref x) s
theorem zhZ_:Takes (cxOf (CXx P w) P w K mg base N qual scope f cd A outer s0 H0 E) E:=by
 intro pins σ H s x C oe vs a0 I hx hx0 he hc hd h1 h0 hE
 show wpAny _ _ (leaving _ _) _ _ _
 refine zlD_ (base:=PySem.W.hideAll s.heap (frs (envOfC qual scope s0.heap.objs.size f cd::outer)++[x])) (a0:=a0) I.ok.frames (PySem.W.funFrames_hide I.stack zlz_) rfl he (fun b o q=>PySem.W.of_hideAll _ q)
  (PySem.W.hideAll_none _ (List.mem_append_right _ List.mem_cons_self)) hd h1 h0 fun h2 L dd=>?_
 rw [hc] at L
 obtain ⟨T,u,ok,fly⟩:=zfQ_ (ex:=[x]) I rfl rfl (fun b hb=>by
  rw [List.mem_singleton.mp hb]
  exact ⟨hx,hx0⟩) List.mem_cons_self L dd
 exact ⟨x,T,C,_,H,rfl,I.os,I.bare,u,ok,fly,hE⟩
theorem Takes.made {X:Cx}(hT:Takes X E) {pins:Pnn}{σ:St}{H:Hp}{s:Shared}{h:Heap}{x C:Addr}{args:List Value}(I:Inv X pins σ H s) (hex:X.ex=[]) (hx:Heap.MadeExcOf s.heap h x (.ref C) args) (hE:E (.ref C) none H):X.xe (.ref x) { s with heap:=h }:=by
 obtain ⟨t,he,htn,ht⟩:=hx.there
 refine hT pins σ H { s with heap:=h } x C _ _ _ (I.kept (t':=s.toks) hx.keeps) (I.hok.none_at hx.new) ?_ he rfl rfl rfl rfl hE
 cases e:X.s₀.heap.get? x with
 | none=>rfl
 | some o =>
  obtain ⟨o',z⟩:=I.base.there x o e (fun z=>by rw [hex] at z; cases z)
  rw [hx.new] at z; cases z
theorem zaw_:Passes (CXx P w) (cxOf (CXx P w) P w K mg base N qual scope f cd A outer s0 H0 E) E:=by
 intro pins σ H s e s' I h
 obtain ⟨x,T,C,d,H',rfl,os,bare,un,ok,fly,hE⟩:=h
 have I1:Inv (cxOf (CXx P w) P w K mg base N qual scope f cd A outer s0 H0 E) pins σ H' s':=I.call' (ch:=[]) os un ok bare (fun b z=>absurd z (by simp))
 obtain ⟨oe,vs,a0,oT,ts,he,hc,hd,h1,hTe,hT,hdT,h3⟩:=fly.obj
 show wpAny _ _ (leaving _ _) _ _ _
 refine zkM_ (base:=PySem.W.hideAll s'.heap (frs (envOfC qual scope s0.heap.objs.size f cd::outer)++[x,T])) (cls:=.ref C) (a0:=a0) I.ok.frames (PySem.W.funFrames_hide I1.stack zlz_) rfl
  ⟨oe,vs,T,oT,ts,he,hc,hd,h1,PySem.W.hideAll_none _ (List.mem_append_right _ (List.mem_cons_of_mem _ List.mem_cons_self)),hTe,hT,hdT,h3⟩ (fun b o q=>PySem.W.of_hideAll _ q)
  (PySem.W.hideAll_none _ (List.mem_append_right _ List.mem_cons_self)) fly.dc fun h2 L dd=>?_
 have old:∀ b,s.heap.get? b=none→s0.heap.get? b=none:=fun b q=>by
  cases e:s0.heap.get? b with
  | none=>rfl
  | some o =>
   obtain ⟨o',z⟩:=I.base.there b o e (fun z=>nomatch z)
   rw [q] at z; cases z
 obtain ⟨T2,u,ok2,fly2⟩:=zfQ_ (ex:=[x,T]) I1 rfl rfl (fun b hb=>by
  rcases List.mem_cons.mp hb with rfl | hb
  ·exact ⟨fly.hx,old _ fly.nx⟩
  ·rw [List.mem_singleton.mp hb]
   exact ⟨fly.hT,old _ fly.nT⟩) List.mem_cons_self L dd
 exact ⟨x,T2,C,d,H',rfl,I1.os,I1.bare,u,ok2,fly2,hE⟩
end
end L2
namespace L2
open PySem PySem.Spec PyProof.Rows
abbrev bmV:List Value:=[.type "ValueError",.type "Exception",.type "BaseException",.type "object"]
def excK (K:Fgg) (C:Addr):Bool:=PySem.W.excIn K C bmV "ValueError.__new__"
def gA (K:Fgg) (x:Str):Addr:=match PySem.W.nsIn K mainGlobals x with | some (some (.ref c))=>c | _=>0
theorem zlW_ {K:Fgg}{x:Str}{c:Addr}(h:PySem.W.nsIn K mainGlobals x=some (some (.ref c))):gA K x=c:=by unfold gA; rw [h]
theorem znb_ {K:Fgg}{h:Heap}{C:Addr}(kin:K.In h) (q:excK K C=true) :
  ∃ nm qn N bs bm hd sn sub ab col dd k0 k1 k2 k3 k5 mN,h.get? C=some (excClassObj nm qn C N bs bm hd sn sub ab col dd k0 k1 k2 k3 k5 "ValueError.__new__")∧h.Ns N mN∧mN "__init__" = none∧OwnTail h bmV bm:=by
 unfold excK PySem.W.excIn at q
 split at q
 case h_2=>cases q
 case h_1 dx cx slx at1 =>
  split at q
  case h_2=>cases q
  case h_1 Cx tl y0 y1 y2 y3 yn y5 m1 m2 =>
   rw [Bool.and_eq_true,Bool.and_eq_true,Bool.and_eq_true,Bool.and_eq_true,Bool.and_eq_true] at q
   obtain ⟨⟨⟨⟨⟨q1,q2⟩,q3⟩,q4⟩,q5⟩,q6⟩:=q
   replace q1:=beq_iff_eq.mp q1
   replace q2:=beq_iff_eq.mp q2
   replace q6:=beq_iff_eq.mp q6
   replace q3:cx.hasDel=false:=by simpa using q3
   subst q1 q2
   cases cx
   dsimp only at m1 q3 q5 q6
   subst m1 q3
   cases slx
   dsimp only at m2
   subst m2
   exact ⟨_,_,_,_,tl,_,_,_,_,_,dx,y0,y1,y2,y3,y5,_,kin _ _ at1,.of_isNs (PySem.W.isNs_of_in kin q5),PySem.W.nsMap_none_of_in kin q5 q6,PySem.W.tail_of_in kin q4⟩
section
variable {X:Cx}{E:XK}{C:Addr}{x:Str}{e:Expr}{es:List Expr}{t:TA}{np cpos pos:Pos}
def tRaise (C:Addr) (E:XK) (t:TA):TS:=fun _ σ H=>t σ H fun vs H1=>vs.length≤100∧E (.ref C) none H1
theorem zk7_ (hT:Takes X E) (hcm:X.calm=true) (hq:excK X.K C=true) (hm:X.mg x=some (.ref C)) (ha:PA X (e::es) t) (hg:Gl X x:=by rfl) (hdb:(x == ("__debug__" : Str))=false:=by decide)
  (he:starEach (e::es) X.env=(false,eval e X.env)::starEach es X.env:=by rfl) (hpl:(backTo cpos (starEach es X.env)).any (·.1)=false:=by rfl) (hex:X.ex=[]:=by rfl) :
  PS X (.Raise (some (.Call (.Name x np) (e::es) [] cpos)) none pos) (tRaise C E t):=by
 intro pins s σ H D I h
 obtain ⟨nm,qn,N,bs,bm,hd,sn,sub,ab,col,dd,k0,k1,k2,k3,k5,mN,hC,hN,hni,TL⟩:=znb_ I.ok.mod.kin hq
 refine wpAny_Raise_call_subU (C:=C) (nm:=nm) (q:=qn) (N:=N) (bs:=bs) (bm:=bm) (hdct:=hd) (sn:=sn) (sub:=sub) (ab:=ab) (col:=col) (dd:=dd) (k0:=k0) (k1:=k1) (k2:=k2) (k3:=k3) (k5:=k5)
  PySem.F.excBase_ValueError (by decide) PySem.F.excBase_ValueError (mN:=mN) (TL.hasType rfl) (I.ok.hd hcm) (by rw [he]; show (false || (backTo cpos (starEach es X.env)).any (·.1))=false; rw [hpl]; rfl) hni (zcS_ I hg hm ⟨rfl,?_⟩ hdb)
 have h2:=ha cpos pins s σ H _ I h
 rw [he] at h2 ⊢
 refine Calls.evalArgs_plain (wpAny_mono h2 (fun us s1 q=>?_) fun _ _ y=>y)
 obtain ⟨vs,H1,I1,r,hl,q⟩:=q
 refine ⟨rfl,?_,I1.bk _ _ hC,hN.keeps I1.bk,TL.keeps I1.bk,fun h' a hmade=>hT.made I1 hex hmade q⟩
 show us.length≤sizeLine
 rw [← r.length]
 exact Nat.le_trans hl (by rw [sizeLine_eq]; decide)
end
section
variable {X:Cx}{a:Expr}{ta:TE}{pos:Pos}
def mFmt:V→Hp→VK→Prop:=fun x H Q=>match x with | .str z=>z.length≤sizeLine∧Q (.str z) H | .int i=>i.natAbs.log2<1920∧Q (tx (strI i)) H | _=>False
theorem znC_ (ha:PE X a ta):PE X (.FormattedValue a (-1) none pos) (tUn mFmt ta):=by
 intro pins s σ H Q I h
 refine wpAny_FormattedValue_plain (thn (ha pins s σ H _ I h) fun v s1 hq_=>?_)
 obtain ⟨x,H1,I1,r1,q1⟩:=hq_
 cases x with
 | str z =>
  obtain ⟨k,rfl⟩:=r1
  exact wpAny_formatField_str ⟨.str z,H1,I1,⟨_,rfl⟩,q1.2⟩ ⟨.str z,H1,I1.tok _,⟨_,rfl⟩,q1.2⟩ q1.1
 | int i =>
  obtain ⟨k,rfl⟩:=r1
  refine wpAny_formatField_int q1.1 ⟨tx (strI i),H1,I1.tok _,⟨s1.toks+1,?_⟩,q1.2⟩
  unfold strI
  rw [← za2_]
 | _=>exact q1.elim
abbrev TJ:=Str→St→Hp→(Str→Hp→Prop)→Prop
def PJ (X:Cx) (vs:List Expr) (t:TJ):Prop:=∀ (acc:Str) (pins:Pnn) (s:Shared) (σ:St) (H:Hp) (Q:Str→Shared→Prop) (R:Str→Hp→Prop),Inv X pins σ H s→t acc σ H R→(∀ out s1 H1,Inv X pins σ H1 s1→R out H1→Q out s1) →
 Joins (model X.prog X.w) X.A X.xe (evalEach vs X.env) acc Q s
def tJ0:TJ:=fun acc _ H R=>R acc H
def tJ1 (ta:TE) (tr:TJ):TJ:=fun acc σ H R=>ta σ H fun x H1=>match x with | .str z=>(acc++z).length≤sizeLine∧tr (acc++z) σ H1 R | _=>False
theorem zop_:PJ X [] tJ0:=fun acc pins s σ H Q R I h hq=>hq acc s H I h
theorem zf6_ {vs:List Expr}{tr:TJ}(ha:PE X a ta) (hr:PJ X vs tr) (he:evalEach (a::vs) X.env=eval a X.env::evalEach vs X.env:=by rfl):PJ X (a::vs) (tJ1 ta tr):=by
 intro acc pins s σ H Q R I h hq
 rw [he]
 refine wpAny_mono (ha pins s σ H _ I h) (fun v s1 q=>?_) fun _ _ y=>y
 obtain ⟨x,H1,I1,r1,q1⟩:=q
 cases x with
 | str z =>
  obtain ⟨k,rfl⟩:=r1
  exact ⟨z,k,rfl,q1.1,hr (acc++z) pins s1 σ H1 Q R I1 q1.2 hq⟩
 | _=>exact q1.elim
def tJoin (tj:TJ):TE:=fun σ H Q=>tj Str.empty σ H fun out H1=>out.length≤sizeLine∧Q (.str out) H1
theorem zju_ {b:Expr}{vs:List Expr}{tj:TJ}(h:PJ X (a::b::vs) tj):PE X (.JoinedStr (a::b::vs) pos) (tJoin tj):=by
 intro pins s σ H Q I q
 refine wpAny_JoinedStr (h Str.empty pins s σ H _ _ I q fun out s1 H1 I1 q1=>⟨q1.1,.str out,H1,I1.tok _,⟨_,rfl⟩,q1.2⟩)
end
def isaK (K:Fgg) (D:Addr) (c:Value):Option Bool :=
 if (PySem.W.findIn K (.ref D) "__getattribute__" == some (some (.builtin "BaseException.__getattribute__")) && PySem.W.findIn K (.ref D) "__getattr__" == some none && PySem.W.mroIn K D (.type "BaseException") == some true) && PySem.W.hasDictIn K D && PySem.W.findIn K (.ref D) "__class__" == some (some (.builtin "object.__class__")) && PySem.W.specialIn K (.builtin "object.__class__") "__get__" == some (some (.builtin "getset_descriptor.__get__"))
  && PySem.W.takesIn K (.builtin "object.__class__") == some true && PySem.W.mroIn K D (.type "object") == some true then PySem.W.kitOne K (.ref D) c else none
end L2
namespace LX
open PySem PySem.W PySem.Calls PyProof.Rows Builtin Builtin.ObjectAttr Builtin.Getset_descriptor
section
variable {prog:Program}{w:World}{A:Around}{K:Frag}{x D:Addr}{dc:Option Addr}
theorem ty_x {M:Model}{h:Heap}(I:L2.XAt x D dc h):Looks M h (typeOf (.ref x)) (.ref D):=by
 obtain ⟨o,_,e,c,_⟩:=I
 exact c ▸ (Looks.ld e).andThen .now
theorem check_ga {M:Model}{E:Value→Shared→Prop}{s:Shared}{nameV:Value}{Q:Unit→Shared→Prop}(T0:Looks M s.heap (typeOf (.ref x)) (.ref D)) (T8:Looks M s.heap (isSubtype (.ref D) (.type "BaseException")) true) (hq:Q () s) :
  wpAny M A (checkBuiltinCall "BaseException.__getattribute__" ⟨[.ref x,nameV],[]⟩) Q E s:=by
 have hk:builtinKind "BaseException.__getattribute__" = some .slot:=by decide +kernel
 have hsplit:splitId "BaseException.__getattribute__" = some ("BaseException", "__getattribute__"):=by decide +kernel
 have hargs:=F.args_bexc_ga (.ref x) nameV
 simp only [checkBuiltinCall,hk,hsplit]
 refine wpAny_bind ?_
 unfold isInstance
 cases s with
 | mk hp gs dr tk ost =>
 refine wpAny_bind (T0.at (T8.at ?_))
 repeat (first | assumption | wp_step)
theorem zlb_ {E:Value→Shared→Prop}{s:Shared}{Q:Option Value→Shared→Prop}(hg1:findIn K (.ref D) "__getattribute__" = some (some (.builtin "BaseException.__getattribute__"))) (hg2:findIn K (.ref D) "__getattr__" = some none)
  (ha:findIn K (.ref D) "__class__" = some (some (.builtin "object.__class__")))
  (hn:specialIn K (.builtin "object.__class__") "__get__" = some (some (.builtin "getset_descriptor.__get__"))) (htk:takesIn K (.builtin "object.__class__")=some true) (hm:mroIn K D (.type "object")=some true) (hb:mroIn K D (.type "BaseException")=some true)
  (kin:K.In s.heap) (I:L2.XAt x D dc s.heap) (h:Q (some (.ref D)) { s with toks:=s.toks+1 }):wpAny (model prog w) A (getAttr? (.ref x) "__class__") Q E s:=by
 cases s with
 | mk hp gs dr tk ost =>
 have T0:=ty_x (M:=model prog w) I
 have T1:=looks_findIn (M:=model prog w) kin hg1
 have T2:=looks_findIn (M:=model prog w) kin hg2
 have T3:=looks_findIn (M:=model prog w) kin ha
 have T4:=looks_specialIn (M:=model prog w) kin hn
 have T5:=looks_takesIn (M:=model prog w) kin htk
 have T6:=looks_mroIn (M:=model prog w) kin hm
 have T8:=looks_mroIn (M:=model prog w) kin hb
 have T7:Looks (model prog w) hp (find (.ref x) (.ref D) "__class__") (.bind (.builtin "getset_descriptor.__get__") (.builtin "object.__class__")) :=
  T3.andThen (T4.andThen ((show Looks (model prog w) hp (dataDescriptor? (some (.builtin "object.__class__")) (some (.builtin "getset_descriptor.__get__"))) (some (.builtin "getset_descriptor.__get__",.builtin "object.__class__")) from T5.andThen .now).andThen (.tag .now)))
 have hx2:(onTheHeap (Value.ref D) && Value.builtin "BaseException.__getattribute__" == Value.builtin "object.__getattribute__")=false:=(show (Value.builtin "BaseException.__getattribute__" == Value.builtin "object.__getattribute__")=false by decide +kernel)
 have f3:=F.excAttr_ValueError.ga.bind (.ref x)
 unfold getAttr? getAttrBy? getAttrBy
 refine wpAny_bind (wpAny_mkText ?_); refine wpAny_bind (wpAny_attempt (wpAny_holding ?_)); refine wpAny_bind (T0.at ?_); refine wpAny_bind (T1.at ?_)
 simp only [hx2]
 rw [if_neg (by decide)]
 unfold getAttrByItsOwn hookBefore
 refine wpAny_bind ?_
 show wpAny _ _ (typeLookup (.ref D) "__getattr__") _ _ _
 refine T2.at ?_
 refine wpAny_bind (wpAny_attempt (wpAny_holding ?_))
 show wpAny _ _ (boundAndCalled _ _ _) _ _ _
 unfold boundAndCalled
 rw [f3]
 refine wpAny_bind (wpAny_pure ?_)
 refine wpAny_call ?_
 refine codeAny_call_builtin F.excAttr_ValueError.ga.plain F.entry_bexc_ga ?_
 refine (show wpAny _ _ (checkBuiltinCall "BaseException.__getattribute__" ⟨[.ref x,.str "__class__" tk],[]⟩) _ _ _ from ?_)
 refine check_ga T0 T8 ?_
 unfold Builtin.«object.__getattribute__»
 refine wpAny_bind (wpAny_pure ?_)
 refine wpAny_bind (wpAny_pure ?_)
 refine wpAny_bind (T0.at ?_)
 refine wpAny_bind (T7.at ?_)
 show wpAny _ _ (holding [Value.builtin "object.__class__"] (call (.builtin "getset_descriptor.__get__") [.builtin "object.__class__",.ref x,.ref D])>>=ret) _ _ _
 refine wpAny_bind (wpAny_holding (wpAny_call ?_))
 refine codeAny_call_builtin KF.slot_gs.plain KF.entry_gs (KF.slot_gs.check _ _ _ _ _ _ _ _ KF.type_class (KF.args_gs _ _ _) ?_); unfold Builtin.«getset_descriptor.__get__» descrGet; rw [dga_obj]
 refine wpAny_bind (wpAny_pure ?_); unfold descrGetter descrCheckInstance descrNameAndClass isInstance; simp only [KF.owner_class]; repeat lk
 refine ⟨Code.quiet_builtin _ (by decide +kernel),codeAny_builtin KF.entry_class ?_⟩; unfold Builtin.«object.__class__» shownTypeOf; repeat lk
 exact h
theorem it_x {h:Heap}(hd:hasDictIn K D=true) (kin:K.In h):(∃ c d cd sl,h.get? D=some ⟨c,d,.cls cd,sl⟩)∧∀ M:Model,Looks M h (isType (.ref D)) true:=by
 obtain ⟨cd,e,_⟩:=any_some hd
 unfold clsIn at e
 split at e
 case h_2=>cases e
 case h_1 c1 d1 cd1 sl1 at1 =>
  refine ⟨⟨_,_,_,_,kin _ _ at1⟩,fun M A' Q' E' s' k q=>?_⟩
  unfold isType loadHead
  exact wpAny_bind (wpAny_loadPart (k _ _ (kin _ _ at1)) (wpAny_pure q))
theorem kitx_x (hg1:findIn K (.ref D) "__getattribute__" = some (some (.builtin "BaseException.__getattribute__"))) (hg2:findIn K (.ref D) "__getattr__" = some none) (hb:mroIn K D (.type "BaseException")=some true) (hd:hasDictIn K D=true) (ha:findIn K (.ref D) "__class__" = some (some (.builtin "object.__class__")))
  (hn:specialIn K (.builtin "object.__class__") "__get__" = some (some (.builtin "getset_descriptor.__get__"))) (htk:takesIn K (.builtin "object.__class__")=some true) (hm:mroIn K D (.type "object")=some true) :
  KitX K (.ref x) (.ref D) (L2.XAt x D dc) :=
 ⟨fun _ _ _ I=>ty_x I,fun _ _ kin _=>(it_x hd kin).2 _,(fun h tp dd its n sl kin e=>by
  obtain ⟨⟨c,d,cd,sl2,e2⟩,_⟩:=it_x hd kin
  refine Bool.eq_false_iff.mpr fun q=>?_
  have z:=Value.ref.inj (beq_iff_eq.mp q)
  subst z
  have e3:=e2.symm.trans e
  cases e3),fun kin I k=>zlb_ hg1 hg2 ha hn htk hm hb kin I k⟩
end
end LX
namespace L2
open PySem PySem.Spec PyProof.Rows
def clsV:V→Option Value
 | .ty c=>some (.type c)
 | .ref a=>some (.ref a)
 | _=>none
def mIsaX (K:Fgg):List V→Hp→VK→Prop:=fun xs H Q=>match xs with
 | [.ref p,c]=>∃ D d v b,H p=some (XO p D d)∧clsV c=some v∧isaK K D v=some b∧Q (.bl b) H
 | _=>False
theorem zY_ {X:Cx}:CallR X (.builtin "isinstance") (mIsaX X.K):=by
 intro pins s σ H xs us Q I r h
 unfold mIsaX at h
 split at h
 ·rename_i p c
  obtain ⟨D,d,v,b,hp,hv,hk,q⟩:=h
  obtain ⟨u,z,rfl,r1,r2⟩:=vals2 r
  obtain rfl:u=.ref p:=r1
  have ez:z=v:=by
   cases c<;>first | (cases hv; exact r2) | cases hv
  subst ez
  unfold isaK at hk
  split at hk
  case isFalse=>cases hk
  case isTrue g =>
   rw [Bool.and_eq_true,Bool.and_eq_true,Bool.and_eq_true,Bool.and_eq_true,Bool.and_eq_true,Bool.and_eq_true,Bool.and_eq_true] at g
   obtain ⟨⟨⟨⟨⟨⟨⟨g1,g7⟩,g8⟩,g2⟩,g3⟩,g4⟩,g5⟩,g6⟩:=g
   obtain ⟨hx,_,_⟩:=I.hok p _ hp
   exact PySem.W.kia_one (LX.kitx_x (beq_iff_eq.mp g1) (beq_iff_eq.mp g7) (beq_iff_eq.mp g8) g2 (beq_iff_eq.mp g3) (beq_iff_eq.mp g4) (beq_iff_eq.mp g5) (beq_iff_eq.mp g6)) I.kIn hx hk (fun z=>by cases z) fun tk=>⟨.bl b,H,I.tok tk,rfl,q⟩
 ·exact h.elim
end L2
namespace L2
open PySem PySem.Spec PyProof.Rows
section
variable {X:Cx}{k:Nat}{x:Str}{ps:List Str}{sp:Sp}{E:XK}{p pos:Pos}{e:Expr}{es:List Expr}{t:TA}
theorem zbf_ (G:Gd X.prog X.w X.K X.mg X.base (CXx X.prog X.w) k x ps sp) (hr:Room k X.A) (hx:Passes (CXx X.prog X.w) X E) (ha:PA X (e::es) t) (hg:Gl X x:=by rfl) (hdb:(x == ("__debug__" : Str))=false:=by decide)
  (he:starEach (e::es) X.env=(false,eval e X.env)::starEach es X.env:=by rfl) (hpl:(backTo pos (starEach es X.env)).any (·.1)=false:=by rfl) :
  PE X (.Call (.Name x p) (e::es) [] pos) (tCall sp [] E t):=by
 obtain ⟨f,fd,F,hm,hk,hb⟩:=G
 exact zjH_ F hr hg hm hk hb .nil hx ha hdb he hpl
end
def XP (X:Cx) (pins:Pnn) (W:St→XK) (e:Value) (s':Shared):Prop:=∃ σ' Hb sb,Inv X pins σ' Hb sb∧CXx X.prog X.w X.stack Hb sb (W σ') e s'
abbrev TX:=Ends→(St→XK)→St→Hp→Prop
def PSx (X:Cx) (st:Stmt) (t:TX):Prop :=
 ∀ (pins:Pnn) (s:Shared) (σ:St) (H:Hp) (D:Ends) (W:St→XK),Inv X pins σ H s→t D W σ H→wpAny (model X.prog X.w) X.A (exec st X.env) (SP X pins D) (XP X pins W) s
def PSsx (X:Cx) (st:List Stmt) (t:TX):Prop :=
 ∀ (pins:Pnn) (s:Shared) (σ:St) (H:Hp) (D:Ends) (W:St→XK),Inv X pins σ H s→t D W σ H→wpAny (model X.prog X.w) X.A (execs st X.env) (SP X pins D) (XP X pins W) s
theorem PA.nox {X:Cx}{es:List Expr}{t:TA}(h:PA X.nox es t):PA X es t:=fun pos pins s σ H Q I hw =>
 wpAny_mono (h pos pins s σ H Q (I.wish _) hw) (fun _ _ ⟨v,H',I',r,q⟩=>⟨v,H',I'.unwish,r,q⟩) fun _ _ z=>False.elim z
section
variable {X:Cx}{st:Stmt}{rest:List Stmt}{t u:TX}{k:Nat}{x:Str}{ps:List Str}{sp:Sp}{p pos pos':Pos}{e:Expr}{es:List Expr}{ta:TA}
theorem zkF_ (h1:PSx X st t):PSsx X [st] t:=by
 intro pins s σ H D W I h
 refine wpAny_execs_cons (thn (h1 pins s σ H D W I h) fun f s1 q=>?_)
 cases f with
 | next=>exact wpAny_execs_nil q
 | ret v=>exact q
 | brk=>exact q
 | cont=>exact q
theorem zmp_ (G:Gd X.prog X.w X.K X.mg X.base (CXx X.prog X.w) k x ps sp) (hr:Room k X.A) (ha:PA X.nox (e::es) ta) {pins:Pnn}{s:Shared}{σ:St}{H:Hp}{Q:VK}{W:St→XK}(I:Inv X pins σ H s)
  (h:ta σ H fun vs H1=>sp (vs++[]) H1 Q (W σ)) (hg:Gl X x:=by rfl) (hdb:(x == ("__debug__" : Str))=false:=by decide)
  (he:starEach (e::es) X.env=(false,eval e X.env)::starEach es X.env:=by rfl) (hpl:(backTo pos (starEach es X.env)).any (·.1)=false:=by rfl) :
  wpAny (model X.prog X.w) X.A (eval (.Call (.Name x p) (e::es) [] pos) X.env) (EP X pins σ Q) (XP X pins W) s:=by
 obtain ⟨f,fd,F,hm,hk,hb⟩:=G
 refine wpAny_Call_Name_kw (zcS_ I hg hm ?_ hdb)
 have ha':=(PA.nox (X:=X.wish (XP X pins W)) ha) pos pins s σ H _ (I.wish _) h
 refine PySem.W.callWith_K (h₀:=X.base) I.ok.mod.kin hk (thn ha' fun us s1 q=>?_) he hpl
 obtain ⟨vs,H1,I1,r,q⟩:=q
 have I1:=I1.unwish
 refine ⟨I1.kIn,?_⟩
 have r2:Vals (vs++[]) (us++[]):=r.append .nil
 have hl:(us++[]).length=ps.length:=by rw [← r2.length]; exact F.len _ _ _ _ q
 refine wpAny_call (codeAny_mono (F.run X.A X.stack s1 H1 ⟨us,[]⟩ (us++[]) (vs++[]) Q (W σ) hr I1.env0 (hb s1 us I1.kIn hl) r2 q) fun r s' hq=>?_)
 cases r with
 | error e=>exact ⟨σ,H1,s1,I1,hq⟩
 | ok fl =>
  cases fl with
  | ret u=>exact I1.after hq
  | next=>exact False.elim hq
  | brk=>exact False.elim hq
  | cont=>exact False.elim hq
def tDropX (sp:Sp) (ta:TA):TX:=fun D W σ H=>ta σ H fun vs H1=>sp (vs++[]) H1 (fun _ H2=>D.nx σ H2) (W σ)
theorem zlv_ (G:Gd X.prog X.w X.K X.mg X.base (CXx X.prog X.w) k x ps sp) (hr:Room k X.A) (ha:PA X.nox (e::es) ta) (hg:Gl X x:=by rfl) (hdb:(x == ("__debug__" : Str))=false:=by decide)
  (he:starEach (e::es) X.env=(false,eval e X.env)::starEach es X.env:=by rfl) (hpl:(backTo pos (starEach es X.env)).any (·.1)=false:=by rfl)
  (hs:swapsWith (.Call (.Name x p) (e::es) [] pos) none pos'.line X.env=pure false:=by rfl):PSx X (.Expr (.Call (.Name x p) (e::es) [] pos) pos') (tDropX sp ta):=by
 intro pins s σ H D W I h
 exact wpAny_Expr_any (thn (zmp_ G hr ha I h hg hdb he hpl) fun v s1 ⟨y,H1,I1,r1,q1⟩=>⟨σ,H1,I1,q1⟩) I.quiet hs
end
section
variable {X:Cx}{pins:Pnn}{σ:St}{Hb H':Hp}{sb s1:Shared}{x T C:Addr}{d:Option Addr}
theorem landed (Ib:Inv X pins σ Hb sb) (os:s1.os=sb.os) (bare:AllBare s1.gens) (un:Un (frs X.stack) [] Hb H' sb.heap s1.heap) (ok:HOk X.prog X.w H' s1.heap) (fly:FlyX x T C d H' sb.heap s1.heap) {h':Heap}{a0:Value}
  (f:Heap.FlyingW (PySem.W.hideAll s1.heap (frs X.stack++[x,T])) X.stack x (.ref C) a0 h') (up:s1.heap.UpToSlots h') (dd:Dc x d h'):Inv X pins σ (upd H' x (XO x C d)) { s1 with heap:=h' }:=by
 have ne:∀ b o,sb.heap.get? b=some o→b≠x∧b≠T:=fun b o q=>⟨(fun z=>by rw [z,fly.nx] at q; cases q),(fun z=>by rw [z,fly.nT] at q; cases q)⟩
 have nt:∀ b o,H' b=some o→b≠x∧b≠T:=fun b o q=>⟨(fun z=>by rw [z,fly.hx] at q; cases q),(fun z=>by rw [z,fly.hT] at q; cases q)⟩
 have I1:Inv X pins σ H' s1:=Ib.call' (ch:=[]) os un ok bare (fun b z=>absurd z (by simp))
 have keepS:∀ b o,s1.heap.get? b=some o→b∉frs X.stack→b≠x∧b≠T→h'.get? b=some o:=fun b o q n1 n2=>f.1 b o (PySem.W.hideAll_get _ q fun z=>by
  rcases List.mem_append.mp z with z | z
  ·exact n1 z
  ·rcases List.mem_cons.mp z with z | z
   ·exact n2.1 z
   ·exact n2.2 (List.mem_singleton.mp z))
 have slotS:∀ b o,s1.heap.get? b=some o→b∈frs X.stack→∃ sl,h'.get? b=some { o with slots:=sl }:=fun b o q hb=>up b o q (by
  obtain ⟨_,o',q',d⟩:=I1.stack.mem hb
  cases q.symm.trans q'
  exact d)
 have old:∀ b,b≠x→upd H' x (XO x C d) b=H' b:=fun b h=>zI_ h
 refine Ib.call' (s':={ s1 with heap:=h' }) (ch:=[]) os ⟨fun b o q n hb hx=>?_,fun b o q n hb hx=>?_,fun b o q n hx=>?_,fun b o q hx=>?_,fun b xs q=>?_,fun b o u q=>?_,fun b ps q=>?_⟩ (fun a o e=>?_) bare (fun b z=>absurd z (by simp))
 ·exact keepS b o (un.keep b o q n hb hx) hb (ne b o q)
 ·obtain ⟨sl,e⟩:=un.slot b o q n hb hx
  obtain ⟨sl',e'⟩:=slotS b _ e hb
  exact ⟨sl',e'⟩
 ·rw [old b (ne b o q).1]
  exact un.free b o q n hx
 ·obtain ⟨o',e⟩:=un.there b o q hx
  by_cases hb:b∈frs X.stack
  ·obtain ⟨sl',e'⟩:=slotS b _ e hb
   exact ⟨_,e'⟩
  ·exact ⟨o',keepS b o' e hb (ne b o q)⟩
 ·have z:=un.tups b xs q
  rw [old b (nt b _ z).1]
  exact z
 ·have z:=un.frzs b o u q
  rw [old b (nt b _ z).1]
  exact z
 ·obtain ⟨m,z⟩:=un.tbls b ps q
  exact ⟨m,by rw [old b (nt b _ z).1]; exact z⟩
 ·by_cases ha:a=x
  ·subst ha
   rw [zu_] at e
   cases e
   obtain ⟨ob,vs,q1,q2,q3,_⟩:=f.first; obtain ⟨o2,z1,z2⟩:=dd; cases q1.symm.trans z1
   exact xo_ok ⟨ob,vs,q1,q2,z2,q3⟩
  ·rw [old a ha] at e
   refine (ok a o e).stay (fun b u hb q=>?_) (fun b q=>by rw [old b (nt b _ q).1]; exact q) fun b xs q=>by rw [old b (nt b _ q).1]; exact q
   have tr:∃ o,H' b=some o:=by
    rcases hb with rfl | hb
    ·exact ⟨_,e⟩
    ·exact ⟨_,hb⟩
   obtain ⟨ob,tr⟩:=tr
   refine keepS b u q (fun z=>?_) (nt b ob tr)
   rw [I1.stkFree b z] at tr; cases tr
end
abbrev Cx.inX (X:Cx) (x:Addr):Cx:={ X with A:=X.A.mark (some (.ref x)),calm:=false,xe:=fun _ _=>False }
theorem Inv.inX {X:Cx}{pins:Pnn}{σ:St}{H:Hp}{s:Shared}(I:Inv X pins σ H s) (x:Addr):Inv (X.inX x) pins σ H s :=
 ⟨⟨I.ok.mod,I.ok.kind,I.ok.glob,I.ok.blt,I.ok.above,I.ok.inj,I.ok.has,I.ok.cab,(fun z=>by cases z),I.ok.frames,I.ok.stk,I.ok.exf,I.ok.bs,I.ok.bsz,I.ok.noex,I.ok.exfs,I.ok.funs,I.ok.frf⟩,I.os,I.bare,I.base,I.loc,I.cell,I.free,I.freeC,I.pin,I.hok,I.len⟩
theorem Inv.outX {X:Cx}{pins:Pnn}{σ:St}{H:Hp}{s:Shared}{x:Addr}(ok:X.Ok) (I:Inv (X.inX x) pins σ H s):Inv X pins σ H s :=
 ⟨ok,I.os,I.bare,I.base,I.loc,I.cell,I.free,I.freeC,I.pin,I.hok,I.len⟩
theorem SP.outX {X:Cx}{pins:Pnn}{D:Ends}{f:Flow}{s':Shared}{x:Addr}(ok:X.Ok) (h:SP (X.inX x) pins D f s'):SP X pins D f s':=by
 cases f with
 | next=>obtain ⟨σ',H',I,q⟩:=h; exact ⟨σ',H',I.outX ok,q⟩
 | brk=>obtain ⟨σ',H',I,q⟩:=h; exact ⟨σ',H',I.outX ok,q⟩
 | cont=>obtain ⟨σ',H',I,q⟩:=h; exact ⟨σ',H',I.outX ok,q⟩
 | ret u=>obtain ⟨v,σ',H',I,r,q⟩:=h; exact ⟨v,σ',H',I.outX ok,r,q⟩
def catN (K:Fgg) (C S:Addr):Bool :=
 PySem.W.typeIn K (.ref S) == some (.type "type") && (PySem.W.clsIn K S).isSome && PySem.W.mroIn K S (.type "BaseException") == some true && PySem.W.mroIn K C (.ref S) == some false
def catK (K:Fgg) (C S:Addr):Bool :=
 PySem.W.typeIn K (.ref S) == some (.type "type") && (PySem.W.clsIn K S).isSome && PySem.W.mroIn K S (.type "BaseException") == some true && PySem.W.mroIn K C (.ref S) == some true
theorem zjb_ {K:Fgg}{M:Model}{A:Around}{E:Value→Shared→Prop}{s:Shared}{x C S:Addr}{d:Option Addr}{Q:Bool→Shared→Prop}(kin:K.In s.heap) (I:XAt x C d s.heap) (h:catK K C S=true) (q:Q true s) :
  wpAny M A (excMatches (.ref x) (.ref S)) Q E s:=by
 unfold catK at h
 rw [Bool.and_eq_true,Bool.and_eq_true,Bool.and_eq_true] at h
 obtain ⟨⟨⟨h1,h2⟩,h3⟩,h4⟩:=h
 have T1:=PySem.W.looks_typeIn (M:=M) kin (beq_iff_eq.mp h1)
 have T3:=PySem.W.looks_mroIn (M:=M) kin (beq_iff_eq.mp h3)
 have T4:=PySem.W.looks_mroIn (M:=M) kin (beq_iff_eq.mp h4)
 have T5:=LX.ty_x (M:=M) I
 have T6:PySem.W.Looks M s.heap (isSubtype (.type "type") (.type "tuple")) false:=.of_pure tc_notTuple
 have T2:PySem.W.Looks M s.heap (isType (.ref S)) true:=by
  obtain ⟨cd,e⟩:=Option.isSome_iff_exists.mp h2
  unfold PySem.W.clsIn at e
  split at e
  case h_2=>cases e
  case h_1 c1 d1 cd1 sl1 at1 =>
   intro A' Q' E' s' k z
   unfold isType loadHead
   exact wpAny_bind (wpAny_loadPart (k _ _ (kin _ _ at1)) (wpAny_pure z))
 cases s with
 | mk hp gs dr tk ost =>
 unfold excMatches isInstance isExcClass
 repeat lk
 exact q
theorem ziH_ {K:Fgg}{M:Model}{A:Around}{E:Value→Shared→Prop}{s:Shared}{x C S:Addr}{d:Option Addr}{Q:Bool→Shared→Prop}(kin:K.In s.heap) (I:XAt x C d s.heap) (h:catN K C S=true) (q:Q false s) :
  wpAny M A (excMatches (.ref x) (.ref S)) Q E s:=by
 unfold catN at h
 rw [Bool.and_eq_true,Bool.and_eq_true,Bool.and_eq_true] at h
 obtain ⟨⟨⟨h1,h2⟩,h3⟩,h4⟩:=h
 have T1:=PySem.W.looks_typeIn (M:=M) kin (beq_iff_eq.mp h1)
 have T3:=PySem.W.looks_mroIn (M:=M) kin (beq_iff_eq.mp h3)
 have T4:=PySem.W.looks_mroIn (M:=M) kin (beq_iff_eq.mp h4)
 have T5:=LX.ty_x (M:=M) I
 have T6:PySem.W.Looks M s.heap (isSubtype (.type "type") (.type "tuple")) false:=.of_pure tc_notTuple
 have T2:PySem.W.Looks M s.heap (isType (.ref S)) true:=by
  obtain ⟨cd,e⟩:=Option.isSome_iff_exists.mp h2
  unfold PySem.W.clsIn at e
  split at e
  case h_2=>cases e
  case h_1 c1 d1 cd1 sl1 at1 =>
   intro A' Q' E' s' k z
   unfold isType loadHead
   exact wpAny_bind (wpAny_loadPart (k _ _ (kin _ _ at1)) (wpAny_pure z))
 cases s with
 | mk hp gs dr tk ost =>
 unfold excMatches isInstance isExcClass
 repeat lk
 exact q
end L2
namespace L2
open PySem PySem.Spec PyProof.Rows
theorem zf5_ {X:Cx}{pins:Pnn}{σ:St}{H:Hp}{s:Shared}{M:Model}{A:Around}{E:Value→Shared→Prop}{i:Nat}{n:Str}{pos:Pos}{Q:Unit→Shared→Prop}(I:Inv X pins σ H s) (hN:X.N.Nodup) (hi:X.N[i]?=some n)
  (hl:X.env.scope.names.lookup n=some .local) (h:∀ s',Inv X pins (σ.set i none) H s'→Q () s'):wpAny M A (do bindName X.env n .none; unbindBehindTheSuite X.env n pos) Q E s:=by
 have hcls:(X.env.scope.kind == .class || (X.env.scope.kind == .module && X.env.locals != X.env.globals))=false:=by rw [I.ok.kind]; rfl
 have hk:X.env.kindOf n=some .local:=hl
 refine wpAny_bind (wpAny_bindName (zdR_ (v:=.non) I hN hi (.inl hl) rfl (fun s1 I1=>?_) (.inr hl)))
 obtain ⟨m,hn,hlo⟩:=id I1.loc
 unfold unbindBehindTheSuite; refine wpAny_onRaise ?_; unfold unbindName
 refine wpAny_bind (wpAny_point ?_); refine wpAny_bind ?_
 unfold deleteName; simp only [hk,hcls]; rw [if_neg (by decide)]
 have hiσ:i<σ.length:=by rw [I.len]; exact (List.getElem?_eq_some_iff.mp hi).1
 have there:(m n).isSome=true:=by
  obtain ⟨u,r,q⟩:=hlo i n .non hi (List.getElem?_set_self hiσ) (.inl hl)
  rcases q with ⟨_,e⟩ | ⟨z,_⟩
  ·rw [e]; rfl
  ·rw [hk] at z
   rcases z with z | z<;>cases z
 refine wpAny_bind (wpAny_nsDel_keeps hn fun h2 v hn2 hs=>?_)
 rw [there]
 simp only [Bool.not_true,Bool.false_eq_true,if_false]
 refine wpAny_pure (wpAny_point (h _ ?_))
 obtain ⟨oL,_,_,hoL,_⟩:=id hn
 have cne:=I1.cne
 have low:∀ b o,X.s₀.heap.get? b=some o→b≠X.env.locals:=fun b o e=>Nat.ne_of_lt (Nat.lt_of_lt_of_le (Heap.lt_size e) I1.ok.above)
 refine ⟨I1.ok,I1.os,I1.bare,⟨fun b o e n hb hx=>?_,fun b o e n hb hx=>?_,I1.base.free,fun b o e hx=>?_,I1.base.tups,I1.base.frzs,I1.base.tbls⟩,⟨_,hn2,fun j y v' e1 e2 e3=>?_⟩,fun y c e=>?_,I1.free,I1.freeC,fun p hp=>?_,fun b ob e=>?_,by simpa using I.len⟩
 ·exact (hs.2 b (low b o e)).trans (I1.base.keep b o e n hb hx)
 ·obtain ⟨sl,e1⟩:=I1.base.slot b o e n hb hx
  exact ⟨sl,(hs.2 b (low b o e)).trans e1⟩
 ·obtain ⟨o',e1⟩:=I1.base.there b o e hx
  exact ⟨o',(hs.2 b (low b o e)).trans e1⟩
 ·by_cases hj:j=i
  ·subst hj
   rw [List.getElem?_set_self hiσ] at e2
   cases e2
  ·rw [List.getElem?_set_ne (Ne.symm hj)] at e2
   obtain ⟨u',r',q⟩:=hlo j y v' e1 (by rw [List.getElem?_set_ne (Ne.symm hj)]; exact e2) e3
   refine ⟨u',r',?_⟩
   rcases q with ⟨k,e⟩ | ⟨k,c,e,z⟩
   ·refine .inl ⟨k,?_⟩
    have:y≠n:=fun e=>hj (zfI_ hN e1 (e ▸ hi))
    simp [this,e]
   ·exact .inr ⟨k,c,e,z.sameBut hs (cne y c e)⟩
 ·obtain ⟨w',z⟩:=I1.cell y c e
  exact ⟨w',z.sameBut hs (cne y c e)⟩
 ·obtain ⟨e,n,ne,nf,d⟩:=I1.pin p hp
  exact ⟨(hs.2 p.1 ne).trans e,n,ne,nf,d⟩
 ·refine (I1.hok b ob e).stay (fun c w' hc q=>(hs.2 c ?_).trans q) (fun _ q=>q) fun _ _ q=>q
  rintro rfl
  rcases hc with rfl | hc
  ·rw [I1.free] at e; cases e
  ·rw [I1.free] at hc; cases hc
abbrev znu_ (X:Cx) (s1:Shared) (x T:Addr):Heap:=PySem.W.hideAll s1.heap (frs X.stack++[x,T])
section
variable {X:Cx}{body:List Stmt}{tb:TX}{ts:TS}{S:Addr}{sx n:Str}{i:Nat}{b₀:Stmt}{suite:List Stmt}{np hpos pos:Pos}
def gone (i:Nat) (D:Ends):Ends:={ nx:=fun σ H=>D.nx (σ.set i none) H,rt:=D.rt,bk:=fun σ H=>D.bk (σ.set i none) H,ct:=fun σ H=>D.ct (σ.set i none) H }
abbrev TH:=Addr→Option Addr→Ends→St→Hp→Prop
def tHAs (K:Fgg) (S:Addr) (i:Nat) (ts:TS) (rest:TH):TH:=fun C d D σ H=>if catK K C S=true then ∀ x,H x=none→ts (gone i D) (σ.set i (some (.ref x))) (upd H x (XO x C d)) else catN K C S=true∧rest C d D σ H
def tH0:TH:=fun _ _ _ _ _=>False
def tTryH (tb:TX) (th:TH):TS:=fun D σ H=>tb D (fun σ' c d H'=>∃ C,c=.ref C∧th C d D σ' H') σ H
def PH (X:Cx) (hs:List ExceptHandler) (t:TH):Prop:=∀ (pins:Pnn) (σ:St) (H:Hp) (D:Ends) (s:Shared) (x C:Addr) (d:Option Addr) (E:Value→Shared→Prop),Inv X pins σ (upd H x (XO x C d)) s→H x=none →
 (∀ A' Q' E',(∀ h2,Inv X pins σ (upd H x (XO x C d)) { s with heap:=h2 }→Q' () { s with heap:=h2 })→wpAny (model X.prog X.w) A' (setFlight (.ref x) none) Q' E' s)→t C d D σ H→wpAny (model X.prog X.w) X.A (handleBy (.ref x) X.env hs) (SP X pins D) E s
variable {th rest:TH}{hs:List ExceptHandler}
theorem zn4_:PH X [] tH0:=fun _ _ _ _ _ _ _ _ _ _ _ _ h=>h.elim
theorem zmu_ {t:Prop}{nm:Option Str}(hm:X.mg sx=some (.ref S)) (hg:Gl X sx) (hdb:(sx == ("__debug__" : Str))=false) {pins:Pnn}{σ:St}{H:Hp}{D:Ends}{s:Shared}{x C:Addr}{d:Option Addr}{E:Value→Shared→Prop}(I:Inv X pins σ (upd H x (XO x C d)) s)
  (h:if catK X.K C S=true then codeAny (model X.prog X.w) (X.A.mark (some (.ref x))) (.handlers (.ref x) [.ExceptHandler none nm (b₀::suite) hpos] X.env) (fun r s₂=>match r with
     | .ok f=>(match nm with
      | none=>SP X pins D f s₂
      | some n=>wpAny (model X.prog X.w) X.A (do bindName X.env n .none; unbindBehindTheSuite X.env n hpos) (fun _ s₃=>SP X pins D f s₃) E s₂)
     | .error y=>cameBackBy (model X.prog X.w) X.A X.env E y s₂) s else catN X.K C S=true∧wpAny (model X.prog X.w) X.A (handleBy (.ref x) X.env hs) (SP X pins D) E s) :
  wpAny (model X.prog X.w) X.A (handleBy (.ref x) X.env (.ExceptHandler (some (.Name sx np)) nm (b₀::suite) hpos::hs)) (SP X pins D) E s:=by
 refine wpAny_handleBy_cons (codeAny_handlers_test (zcS_ (X:=X.inX x) (I.inX x) hg hm ?_ hdb)) (by intro q; cases q)
 obtain ⟨xa,_⟩:=I.hok x _ zu_
 split at h
 case isTrue hc=>exact zjb_ (K:=X.K) I.kIn xa hc h
 case isFalse hc=>exact ziH_ (K:=X.K) I.kIn xa h.1 h.2
theorem ph_as (hm:X.mg sx=some (.ref S)) (hN:X.N.Nodup) (hi:X.N[i]?=some n) (hl:X.env.scope.names.lookup n=some .local) (hsu:∀ x,PSs (X.inX x) (b₀::suite) ts) (hr:PH X hs rest)
  (hg:Gl X sx:=by rfl) (hdb:(sx == ("__debug__" : Str))=false:=by decide):PH X (.ExceptHandler (some (.Name sx np)) (some n) (b₀::suite) hpos::hs) (tHAs X.K S i ts rest):=by
 intro pins σ H D s x C d E I hx fl h
 refine zmu_ (t:=True) hm hg hdb I ?_
 unfold tHAs at h
 split at h
 case isFalse hc=>rw [if_neg hc]; exact ⟨h.1,hr pins σ H D s x C d E I hx fl h.2⟩
 case isTrue hc =>
  rw [if_pos hc]
  refine codeAny_handlers_suite_as (fl _ _ _ fun h6 I6=>?_)
  refine zdR_ (X:=X.inX x) (v:=.ref x) (I6.inX x) hN hi (.inl hl) rfl (fun s7 I7=>?_) (.inr hl)
  refine wpAny_mono (hsu x pins s7 _ _ _ I7 (h x hx)) (fun f s8 q=>?_) fun _ _ z=>z.elim
  have q:=q.outX I.ok
  cases f with
  | next =>
   obtain ⟨σ2,H2,I8,q⟩:=q
   exact zf5_ I8 hN hi hl fun s9 I9=>⟨_,H2,I9,q⟩
  | brk =>
   obtain ⟨σ2,H2,I8,q⟩:=q
   exact zf5_ I8 hN hi hl fun s9 I9=>⟨_,H2,I9,q⟩
  | cont =>
   obtain ⟨σ2,H2,I8,q⟩:=q
   exact zf5_ I8 hN hi hl fun s9 I9=>⟨_,H2,I9,q⟩
  | ret u =>
   obtain ⟨v,σ2,H2,I8,r,q⟩:=q
   exact zf5_ I8 hN hi hl fun s9 I9=>⟨v,_,H2,I9,r,q⟩
theorem zne_ {h₀:ExceptHandler}(hst:X.stack=X.env::X.outer) (hfr:X.env.frame=some X.env.locals) (hb:PSsx X body tb) (hh:PH X (h₀::hs) th):PS X (.Try body (h₀::hs) [] [] pos) (tTryH tb th):=by
 intro pins s σ H D I h
 refine wpAny_Try_except (wpAny_mono (hb pins s σ H D _ I h) (fun f s1 q=>?_) fun e s1 q=>?_)
 ·cases f with
  | next=>exact wpAny_execs_nil q
  | ret v=>exact q
  | brk=>exact q
  | cont=>exact q
 ·obtain ⟨σ',Hb,sb,Ib,x,T,C,d,H',rfl,os,bare,un,ok,fly,C',hC',q⟩:=q
  cases hC'
  have I1:Inv X pins σ' H' s1:=Ib.call' (ch:=[]) os un ok bare (fun b z=>absurd z (by simp))
  obtain ⟨oe,vs,a0,oT,ts',he,hcl,hd,h1,hTe,hT,hdT,h3⟩:=fly.obj
  have land:∀ h',znu_ X s1 x T |>.StaysIn h'→h'.FunFrames (znu_ X s1 x T) X.stack→h'.TracedW (znu_ X s1 x T) x (.ref C) a0→s1.heap.UpToSlots h'→Dc x d h'→Inv X pins σ' (upd H' x (XO x C d)) { s1 with heap:=h' }:=fun h' a b c up dd=>landed Ib os bare un ok fly ⟨a,PySem.W.hideAll_none _ (List.mem_append_right _ List.mem_cons_self),b,c⟩ up dd
  have tr:s1.heap.TracedW (znu_ X s1 x T) x (.ref C) a0:=⟨oe,vs,T,oT,ts',he,hcl,hd,h1,PySem.W.hideAll_none _ (List.mem_append_right _ (List.mem_cons_of_mem _ List.mem_cons_self)),hTe,hT,hdT,h3⟩
  have fr1:s1.heap.FunFrames (znu_ X s1 x T) X.stack:=PySem.W.funFrames_hide I1.stack zlz_
  rw [hst] at fr1
  refine zjE_ (outer:=X.outer) (I1.ok.frames.trans (congrArg some hst)) fr1 hfr tr (fun b o q=>PySem.W.of_hideAll _ q) (PySem.W.hideAll_none _ (List.mem_append_right _ List.mem_cons_self)) fly.dc fun h4 n4 d4=>?_
  refine fl_d n4.1 n4.2.1 n4.2.2.1 d4 fun h5 a5 b5 c5 u5 d5=>?_
  have u4:s1.heap.UpToSlots h4:=n4.2.2.2
  rw [← hst] at b5
  refine hh pins σ' H' D _ x C d _ (land h5 a5 b5 c5 (u4.trans u5) d5) fly.hx (fun A' Q' E' kk=>?_) q
  exact fl_d a5 b5 c5.at d5 fun h6 a6 b6 c6 u6 d6=>kk h6 (land h6 a6 b6 c6 ((u4.trans u5).trans u6) d6)
end
end L2
namespace L2
open PySem PySem.Spec PyProof.Rows
structure RoomN (k:Nat) (A:Around):Prop where
 dp:A.depth+3*k+5<recursionLimit
 un:A.units+16*k+200<cLine
theorem Room.nX {k:Nat}{A:Around}(r:Room k A) (x:Addr):RoomN k (A.mark (some (.ref x))):=⟨r.dp,r.un⟩
theorem RoomN.mono {j k:Nat}{A:Around}(r:RoomN k A) (h:j≤k):RoomN j A:=⟨by have:=r.dp; lia,by have:=r.un; lia⟩
theorem RoomN.deeper {k:Nat}{A:Around}(r:RoomN (k+1) A) (env:Env):RoomN k (A.deeper env):=⟨by have:=r.dp; show A.depth+1+3*k+5<_; lia,by have:=r.un; show A.units+3+16*k+200<_; lia⟩
structure FnOkN (P:Program) (w:World) (K:Fgg) (mg:Str→Option Value) (base:Heap) (k:Nat) (f:Addr) (fd:FuncData) (ps:List Str) (sp:Sp):Prop where
 len:∀ vs H Q E,sp vs H Q E→vs.length=ps.length
 run:∀ (A:Around) (outer:List Env) (s:Shared) (H:Hp) (args:Args) (us:List Value) (vs:List V) (Q:VK) (E:XK),RoomN k A→Env0 P w K mg base A outer s H→BindsTo s fd args (ps.zip us)→Vals vs us→sp vs H Q E →
  codeAny (model P w) A (.call (.ref f) args) (CR CX0 outer P w H s Q E) s
def cxN (P:Program) (w:World) (K:Fgg) (mg:Str→Option Value) (base:Heap) (N:List Str) (qual:Str) (scope:Scope) (f:Addr) (cd:Value) (A:Around) (outer:List Env) (s:Shared) (H:Hp):Cx :=
 { cxOf CX0 P w K mg base N qual scope f cd A outer s H E0 with calm:=false,xe:=fun _ _=>False }
section
variable {P:Program}{w:World}{K:Fgg}{mg:Str→Option Value}{base:Heap}
theorem Fun.okN {x qual:Str}{st:Stmt}{f:Addr}{fd:FuncData}{N ps:List Str}{k:Nat}{sp:Sp}(F:Fun K x qual st f fd) (S:FnScope N ps (defScope st)) (len:∀ vs H Q E,sp vs H Q E→vs.length=ps.length)
  (hbody:∀ (cdv:Value) (A:Around) (outer:List Env) (s:Shared) (H:Hp) (vs:List V) (Q:VK) (E:XK),RoomN k (A.deeper (envOfC qual (defScope st) s.heap.objs.size f cdv))→sp vs H Q E →
   ∃ t,PSs (cxN P w K mg base N qual (defScope st) f cdv A outer s H) (defBody st) t∧t { nx:=fun _ H'=>Q .non H',rt:=Q } (start N vs) H):FnOkN P w K mg base (k+1) f fd ps sp:=by
 obtain ⟨oc,od,kV,doc,pm,an,cdv,ct,osl,rfl,lk,hcd⟩:=F.ex
 refine ⟨len,fun A outer s H args us vs Q E hr e0 hb r hsp=>?_⟩
 have hl:=len _ _ _ _ hsp
 have KX:K.In s.heap:=e0.mod.kin.keeps fun b o e=>(e0.bs b o e).1
 have lim:s.heap.NoLimit:=e0.mod.nolimit.keeps fun b o e=>(e0.bs b o e).1
 have hkind:∀ y∈ps.zip us,(defScope st).names.lookup y.1=some .local∨((defScope st).names.lookup y.1=some .cell∧((cellsFrom (s.heap.objs.size+1) (defScope st).names []).lookup y.1).isSome=true):=fun ⟨n,v⟩ hy=>by
  rcases S.par n (List.of_mem_zip hy).1 with q | q
  ·exact .inl q
  ·exact .inr ⟨q,PySem.W.cellsFrom_some _ _ _ (.inl q)⟩
 refine codeAny_call_function (by have:=hr.dp; lia) (KX _ _ lk) rfl S.co S.gen rfl (PySem.W.codeRec_of KX hcd) (hb _ _ _ _ ?_)
 refine wpAny_newFunctionEnv_cells S.kind hkind fun env he s1 x=>?_
 subst he
 refine ⟨lim.keeps x.toInCall.keep,codeAny_func ?_⟩
 obtain ⟨t,ht,hq⟩:=hbody cdv A outer s H vs Q E (hr.deeper _) hsp
 have J:Inv (cxOf CX0 P w K mg base N qual (defScope st) f cdv { A with handled:=none } outer s H E0) [] (start N vs) H s1:=zf0_ S rfl ⟨e0.frames,e0.mod,e0.bs,e0.bsz,e0.funs,e0.frf,e0.hok,e0.bare⟩ hl r x
 have I:Inv (cxN P w K mg base N qual (defScope st) f cdv A outer s H) [] (start N vs) H s1 :=
  ⟨⟨J.ok.mod,J.ok.kind,J.ok.glob,J.ok.blt,J.ok.above,J.ok.inj,J.ok.has,J.ok.cab,(fun z=>by cases z),Around.frames_deeper e0.frames,J.ok.stk,J.ok.exf,J.ok.bs,J.ok.bsz,J.ok.noex,J.ok.exfs,J.ok.funs,J.ok.frf⟩,J.os,J.bare,J.base,J.loc,J.cell,J.free,J.freeC,J.pin,J.hok,J.len⟩
 refine wpAny_mono (ht [] s1 (start N vs) H _ I hq) (fun fl s' hs=>?_) fun e s' hs=>hs.elim
 have fin:∀ {σ':St}{H':Hp}{v:V}{u:Value},Inv (cxN P w K mg base N qual (defScope st) f cdv A outer s H) [] σ' H' s'→RelV v u→Q v H'→CE outer P w H s Q u s' :=
  fun {σ' H' v u} J rv q=>⟨v,H',J.os,J.bare,J.base,J.hok,rv,q⟩
 cases fl with
 | ret u =>
  obtain ⟨v,σ',H',J,rv,q⟩:=hs
  exact fin J rv q
 | next =>
  obtain ⟨σ',H',J,q⟩:=hs
  exact fin (v:=V.non) (u:=Value.none) J rfl q
 | brk =>
  obtain ⟨_,_,_,q⟩:=hs
  exact False.elim q
 | cont =>
  obtain ⟨_,_,_,q⟩:=hs
  exact False.elim q
theorem Fun.okX {x qual:Str}{st:Stmt}{f:Addr}{fd:FuncData}{N ps:List Str}{k:Nat}{sp:Sp}(F:Fun K x qual st f fd) (S:FnScope N ps (defScope st)) (len:∀ vs H Q E,sp vs H Q E→vs.length=ps.length)
  (hbody:∀ (cdv:Value) (A:Around) (outer:List Env) (s:Shared) (H:Hp) (vs:List V) (Q:VK) (E:XK),Room k (A.deeper (envOfC qual (defScope st) s.heap.objs.size f cdv))→sp vs H Q E →
   ∃ t,PSs (cxOf (CXx P w) P w K mg base N qual (defScope st) f cdv A outer s H E) (defBody st) t∧t { nx:=fun _ H'=>Q .non H',rt:=Q } (start N vs) H):FnOk P w K mg base (CXx P w) (k+1) f fd ps sp:=by
 obtain ⟨oc,od,kV,doc,pm,an,cdv,ct,osl,rfl,lk,hcd⟩:=F.ex
 exact fn_of lk hcd S len fun A outer s H vs Q E hr hsp=>hbody cdv A outer s H vs Q E hr hsp
end
def GdN (P:Program) (w:World) (K:Fgg) (mg:Str→Option Value) (base:Heap) (k:Nat) (x:Str) (ps:List Str) (sp:Sp):Prop :=
 ∃ f fd,FnOkN P w K mg base k f fd ps sp∧mg x=some (.ref f)∧PySem.W.keepIn K (.ref f)=true∧Binds K fd ps []
section
variable {X:Cx}{k:Nat}{x:Str}{ps:List Str}{sp:Sp}{p pos:Pos}{e:Expr}{es:List Expr}{t:TA}
theorem zh8_ (G:GdN X.prog X.w X.K X.mg X.base k x ps sp) (hr:RoomN k X.A) (ha:PA X (e::es) t) (hg:Gl X x:=by rfl) (hdb:(x == ("__debug__" : Str))=false:=by decide)
  (he:starEach (e::es) X.env=(false,eval e X.env)::starEach es X.env:=by rfl) (hpl:(backTo pos (starEach es X.env)).any (·.1)=false:=by rfl) :
  PE X (.Call (.Name x p) (e::es) [] pos) (tCall sp [] E0 t):=by
 intro pins s σ H Q I h
 obtain ⟨f,fd,F,hm,hk,hb⟩:=G
 refine wpAny_Call_Name_kw (zcS_ I hg hm ?_ hdb)
 refine PySem.W.callWith_K (h₀:=X.base) I.ok.mod.kin hk (thn (ha pos pins s σ H _ I h) fun us s1 q=>?_) he hpl
 obtain ⟨vs,H1,I1,r,q⟩:=q
 refine ⟨I1.kIn,?_⟩
 have r2:Vals (vs++[]) (us++[]):=r.append .nil
 have hl:(us++[]).length=ps.length:=by rw [← r2.length]; exact F.len _ _ _ _ q
 refine wpAny_call (codeAny_mono (F.run X.A X.stack s1 H1 ⟨us,[]⟩ (us++[]) (vs++[]) Q E0 hr I1.env0 (hb s1 us I1.kIn hl) r2 q) fun r s' hq=>?_)
 cases r with
 | error e=>exact False.elim hq
 | ok fl =>
  cases fl with
  | ret u=>exact I1.after hq
  | next=>exact False.elim hq
  | brk=>exact False.elim hq
  | cont=>exact False.elim hq
end
end L2
namespace L2
open PySem PySem.Spec PyProof.Rows
section
variable {X:Cx}{k:Nat}{x:Str}{ps:List Str}{sp:Sp}{p pos pos':Pos}{e:Expr}{es:List Expr}{ta:TA}{i:Nat}{y:Str}{py:Pos}
end
def SG:List Nat:=[32,48,49,50,51,52,53,54,55,56,57,65,66,67,68,69,70,71,72,73,74,75,76,77,78,79,80,81,82,83,84,85,86,87,88,89,90]
def rk (l:List Nat):Option Nat:=match l with | [c]=>SG.findIdx? (· == c) | _=>none
end L2
namespace L2
open PySem PySem.Spec PyProof.Rows
section
variable {X:Cx}
end
section
variable {X:Cx}
def mRange:List V→Hp→VK→Prop:=fun xs H Q=>match xs with
 | [.int j]=>∀ p,H p=none→Q (.ref p) (upd H p (.rng 0 j))
 | [.int i,.int j]=>∀ p,H p=none→Q (.ref p) (upd H p (.rng i j))
 | _=>False
theorem zgB_:CallR X (.type "range") mRange:=by
 intro pins s σ H xs us Q I r h
 unfold mRange at h
 split at h
 ·rename_i j
  obtain ⟨u,rfl,t,rfl⟩:=vals1 r
  refine call_range_1 ⟨.ref s.heap.objs.size,_,I.laid (o:=.rng 0 j) (fun b ob q=>Heap.get?_push_of_some _ q) (Nat.le_refl _) ?_,rfl,h _ (I.hok.fresh (Nat.le_refl _))⟩
  exact ⟨_,_,_,Heap.get?_push_size _ rfl⟩
 ·rename_i i j
  obtain ⟨u,u',rfl,⟨t,rfl⟩,⟨t',rfl⟩⟩:=vals2 r
  refine call_range_2 ⟨.ref s.heap.objs.size,_,I.laid (o:=.rng i j) (fun b ob q=>Heap.get?_push_of_some _ q) (Nat.le_refl _) ?_,rfl,h _ (I.hok.fresh (Nat.le_refl _))⟩
  exact ⟨_,_,_,Heap.get?_push_size _ rfl⟩
 ·exact h.elim
def intsV (lo hi:Int):List V:=(List.range (hi-lo).toNat).map fun (i:Nat)=>V.int (lo+i)
def mList (K:Fgg):List V→Hp→VK→Prop:=fun xs H Q=>match xs with
 | [.ref p]=>(∃ ys,(SqL K H p ys∨SqT K H p ys)∧∀ l,H l=none→Q (.ref l) (upd H l (.lst ys))) ∨
   (∃ lo hi,H p=some (.rng lo hi)∧(-50000≤lo∧lo≤50000 ∧ -50000≤hi∧hi≤50000)∧∀ l,H l=none→Q (.ref l) (upd H l (.lst (intsV lo hi))))
 | _=>False
theorem zkR_ {lo:Int}:∀ {n:Nat}{us:List Value},us.length=n→(∀ (j:Nat) (v:Value),us[j]?=some v→∃ t,v=Value.int (lo+j) t)→Vals ((List.range n).map fun (i:Nat)=>V.int (lo+i)) us
 | n,us,hl,h=>by
  refine paired_of (by rw [List.length_map,List.length_range,hl]) fun j x u hx hu=>?_
  rw [List.getElem?_map] at hx
  cases e:(List.range n)[j]? with
  | none=>rw [e] at hx; cases hx
  | some i =>
   rw [e] at hx; cases hx
   have:=List.getElem?_eq_some_iff.mp e
   obtain ⟨hj,ej⟩:=this
   rw [List.getElem_range] at ej
   subst ej
   exact h j u hu
 where paired_of:∀ {xs:List V}{us:List Value},xs.length=us.length→(∀ (j:Nat) x u,xs[j]?=some x→us[j]?=some u→RelV x u)→Vals xs us
 | [],[],_,_=>.nil
 | x::xs,u::us,hl,h=>.cons (h 0 x u rfl rfl) (paired_of (Nat.succ.inj hl) fun j x u a b=>h (j+1) x u a b)
theorem zbc_ (hc:X.calm=true):CallR X (.type "list") (mList X.K):=by
 intro pins s σ H xs us Q I r h
 have hv:∃ p,xs=[.ref p]:=by
  rcases xs with _ | ⟨y,_ | ⟨z,t⟩⟩
  ·exact False.elim h
  ·cases y with
   | ref p=>exact ⟨p,rfl⟩
   | _=>exact False.elim h
  ·cases y<;>exact False.elim h
 obtain ⟨p,rfl⟩:=hv
 ·rcases h with ⟨ys,hq,q⟩ | ⟨lo,hi,hp,⟨h1,h2,h3,h4⟩,q⟩
  ·exact zfd_ pins s σ H _ us Q I r ⟨p,ys,rfl,hq,q⟩
  ·obtain ⟨u,rfl,rx⟩:=vals1 r
   cases rx
   obtain ⟨t,u,v,e⟩:=I.hok p _ hp
   have hn:Builtin.Range.rangeSize lo hi 1=(((hi-lo).toNat:Nat):Int):=by rw [rangeSize_one]; split<;>lia
   refine call_list_range (I.ok.hd hc) e (small_one (by lia) (by lia) (by lia) (by lia)) hn (by lia) fun h' tk acc c' kp e' hq_=>?_
   obtain ⟨hs,hi'⟩:=hq_
   refine ⟨.ref s.heap.objs.size,_,I.laid (o:=.lst (intsV lo hi)) (t':=tk) kp (Nat.le_refl _) ?_,rfl,q _ (I.hok.fresh (Nat.le_refl _))⟩
   refine ⟨?_,acc.toList,c',zkR_ (by simpa using hs) (fun j v hv=>?_),by simpa using e'⟩
   ·unfold intsV; rw [List.length_map,List.length_range]; exact zcA_ (by lia)
   ·obtain ⟨t,ht⟩:=hi' j v (by simpa using hv)
    exact ⟨t,by rw [ht]; simp⟩
end
inductive EqD (K:Fgg) (H:Hp):Nat→V→V→Bool→Prop
 | flat {x y:V}(hx:flatV x=true) (hy:flatV y=true):EqD K H 0 x y (eqV x y)
 | lst {n:Nat}{p q:Addr}{xs ys:List V}(e:Nat→Bool) (hp:SqL K H p xs) (hq:SqL K H q ys) (hl:xs.length=ys.length) (h:∀ (i:Nat) x y,xs[i]?=some x→ys[i]?=some y→EqD K H n x y (e i)):EqD K H (n+1) (.ref p) (.ref q) ((List.range xs.length).all e)
 | lstN {n:Nat}{p q:Addr}{xs ys:List V}(hp:SqL K H p xs) (hq:SqL K H q ys) (hl:xs.length≠ys.length):EqD K H n (.ref p) (.ref q) false
 | tup {n:Nat}{p q:Addr}{xs ys:List V}(e:Nat→Bool) (hp:SqT K H p xs) (hq:SqT K H q ys) (h:∀ (i:Nat) x y,xs[i]?=some x→ys[i]?=some y→EqD K H n x y (e i)):EqD K H (n+1) (.ref p) (.ref q) ((List.range (min xs.length ys.length)).all e && xs.length == ys.length)
 | lt {n:Nat}{p q:Addr}{xs ys:List V}(hp:SqL K H p xs) (hq:SqT K H q ys):EqD K H n (.ref p) (.ref q) false
 | tl {n:Nat}{p q:Addr}{xs ys:List V}(hp:SqT K H p xs) (hq:SqL K H q ys):EqD K H n (.ref p) (.ref q) false
 | lf {n:Nat}{p:Addr}{xs:List V}{y:V}(hp:SqL K H p xs) (hy:flatV y=true):EqD K H n (.ref p) y false
 | fl {n:Nat}{p:Addr}{xs:List V}{y:V}(hp:SqL K H p xs) (hy:flatV y=true):EqD K H n y (.ref p) false
 | tf {n:Nat}{p:Addr}{xs:List V}{y:V}(hp:SqT K H p xs) (hy:flatV y=true):EqD K H n (.ref p) y false
 | ft {n:Nat}{p:Addr}{xs:List V}{y:V}(hp:SqT K H p xs) (hy:flatV y=true):EqD K H n y (.ref p) false
 | up {n:Nat}{x y:V}{b:Bool}(h:EqD K H n x y b):EqD K H (n+1) x y b
section
variable {X:Cx}{pins:Pnn}{σ:St}{H:Hp}{s:Shared}
theorem zcj_ {xs:List V}{us:List Value}(r:Vals xs us) {i:Nat}(h:i<us.toArray.size):∃ x,xs[i]?=some x∧RelV x us.toArray[i]:=by
 have hi:i<us.length:=by simpa using h
 have hl:=r.length
 obtain ⟨u,hu,ru⟩:=r.get (List.getElem?_eq_getElem (show i<xs.length by lia))
 refine ⟨_,List.getElem?_eq_getElem (by lia),?_⟩
 rw [List.getElem?_eq_getElem hi] at hu
 cases hu
 simpa using ru
theorem zhE_ (I:Inv X pins σ H s) {n:Nat}{x y:V}{b:Bool}(h:EqD X.K H n x y b):x=y→b=true:=by
 induction h with
 | flat hx hy =>
  rename_i x y
  rintro rfl
  cases x<;>first | (cases hx; done) | (simp [eqV]; done) | rfl
 | lst e hp hq hl h ih =>
  rename_i n p q xs ys
  intro e0
  cases e0
  have exy:=I.list_inj hp hq
  subst exy
  rw [List.all_eq_true]
  intro i hi
  have hi:=List.mem_range.mp hi
  exact ih i _ _ (List.getElem?_eq_getElem hi) (List.getElem?_eq_getElem hi) rfl
 | lstN hp hq hl =>
  intro e0
  cases e0
  exact absurd (by rw [I.list_inj hp hq]) hl
 | tup e hp hq h ih =>
  rename_i n p q xs ys
  intro e0
  cases e0
  have exy:=I.tuple_inj hp hq
  subst exy
  rw [Bool.and_eq_true,List.all_eq_true]
  refine ⟨?_,by simp⟩
  intro i hi
  have hi:=List.mem_range.mp hi
  have hi:i<xs.length:=by lia
  exact ih i _ _ (List.getElem?_eq_getElem hi) (List.getElem?_eq_getElem hi) rfl
 | lt hp hq =>
  intro e0
  cases e0
  obtain ⟨its,r1,p1,z1⟩:=I.list hp
  obtain ⟨its2,r2,p2,z2⟩:=I.tuple hq
  exact absurd rfl (SeqAt.ne_of_list_tuple p1.isList p2)
 | tl hp hq =>
  intro e0
  cases e0
  obtain ⟨its,r1,p1,z1⟩:=I.tuple hp
  obtain ⟨its2,r2,p2,z2⟩:=I.list hq
  exact absurd rfl (SeqAt.ne_of_list_tuple p2.isList p1)
 | lf hp hy=>rintro rfl; cases hy
 | fl hp hy=>rintro rfl; cases hy
 | tf hp hy=>rintro rfl; cases hy
 | ft hp hy=>rintro rfl; cases hy
 | up h ih=>exact ih
theorem zlu_ (I:Inv X pins σ H s) {n:Nat}{x y:V}{b:Bool}(h:EqD X.K H n x y b):∀ (A:Around) (v u:Value),A.units+n<cLine→RelV x v→RelV y u →
  SeqAt.EqAt A s v u b∧(∀ p q,x=.ref p→y=.ref q→SeqAt.RcAt A s v u b):=by
 induction h with
 | flat hx hy =>
  intro A v u _ rx ry
  refine ⟨zmy_ rx ry hx hy,fun p q e _=>?_⟩
  subst e; cases hx
 | lst e hp hq hl h ih =>
  rename_i n p q xs ys
  intro A v u hu rx ry
  cases rx; cases ry
  obtain ⟨its,r1,p1,z1⟩:=I.list hp
  obtain ⟨its2,r2,p2,z2⟩:=I.list hq
  have l1:=r1.length
  have l2:=r2.length
  have rc:SeqAt.RcAt A s (.ref p) (.ref q) ((List.range xs.length).all e):=by
   have:=SeqAt.RcAt.lists (A:=A) (e:=e) p1.isList p2.isList (by simp only [List.size_toArray]; lia) (by lia) (fun j h1 h2=>by
    obtain ⟨x,ex,rx⟩:=zcj_ r1 h1
    obtain ⟨y,ey,ry⟩:=zcj_ r2 h2
    exact (ih j x y ex ey A.in1 _ _ (by show A.units+1+n<_; lia) rx ry).1)
   rw [List.size_toArray,← l1] at this
   exact this
  refine ⟨?_,fun _ _ _ _=>rc⟩
  by_cases hpq:p=q
  ·subst hpq
   have exy:=I.list_inj hp hq
   subst exy
   have:(List.range xs.length).all e=true:=by
    rw [List.all_eq_true]
    intro i hi
    have hi:=List.mem_range.mp hi
    exact zhE_ I (h i _ _ (List.getElem?_eq_getElem hi) (List.getElem?_eq_getElem hi)) rfl
   rw [this]
   exact SeqAt.EqAt.same _
  ·exact .of_refs hpq rc
 | lstN hp hq hl =>
  rename_i n p q xs ys
  intro A v u hu rx ry
  cases rx; cases ry
  obtain ⟨its,r1,p1,z1⟩:=I.list hp
  obtain ⟨its2,r2,p2,z2⟩:=I.list hq
  have l1:=r1.length
  have l2:=r2.length
  have rc:SeqAt.RcAt A s (.ref p) (.ref q) false:=SeqAt.RcAt.lists_lengths p1.isList p2.isList (by simp only [List.size_toArray,bne_iff_ne,ne_eq]; lia) (by lia)
  refine ⟨.of_refs (fun e=>?_) rc,fun _ _ _ _=>rc⟩
  subst e
  exact hl (by rw [I.list_inj hp hq])
 | tup e hp hq h ih =>
  rename_i n p q xs ys
  intro A v u hu rx ry
  cases rx; cases ry
  obtain ⟨its,r1,p1,z1⟩:=I.tuple hp
  obtain ⟨its2,r2,p2,z2⟩:=I.tuple hq
  have l1:=r1.length
  have l2:=r2.length
  have rc:SeqAt.RcAt A s (.ref p) (.ref q) ((List.range (min xs.length ys.length)).all e && xs.length == ys.length):=by
   have:=SeqAt.RcAt.tuples (A:=A) (e:=e) (show s.heap.IsTuple p its.toArray from p1) (show s.heap.IsTuple q its2.toArray from p2) (by lia) (fun j h1 h2=>by
    obtain ⟨x,ex,rx⟩:=zcj_ r1 h1
    obtain ⟨y,ey,ry⟩:=zcj_ r2 h2
    exact (ih j x y ex ey A.in1 _ _ (by show A.units+1+n<_; lia) rx ry).1)
   rw [List.size_toArray,List.size_toArray,← l1,← l2] at this
   exact this
  refine ⟨?_,fun _ _ _ _=>rc⟩
  by_cases hpq:p=q
  ·subst hpq
   have exy:=I.tuple_inj hp hq
   subst exy
   have:((List.range (min xs.length xs.length)).all e && xs.length == xs.length)=true:=by
    rw [Bool.and_eq_true,List.all_eq_true]
    refine ⟨?_,by simp⟩
    intro i hi
    have hi:=List.mem_range.mp hi
    have hi:i<xs.length:=by lia
    exact zhE_ I (h i _ _ (List.getElem?_eq_getElem hi) (List.getElem?_eq_getElem hi)) rfl
   rw [this]
   exact SeqAt.EqAt.same _
  ·exact .of_refs hpq rc
 | lt hp hq =>
  intro A v u hu rx ry
  cases rx; cases ry
  obtain ⟨its,r1,p1,z1⟩:=I.list hp
  obtain ⟨its2,r2,p2,z2⟩:=I.tuple hq
  exact ⟨.list_tuple p1.isList p2 (by lia),fun _ _ _ _=>.list_tuple p1.isList p2 (by lia)⟩
 | tl hp hq =>
  intro A v u hu rx ry
  cases rx; cases ry
  obtain ⟨its,r1,p1,z1⟩:=I.tuple hp
  obtain ⟨its2,r2,p2,z2⟩:=I.list hq
  exact ⟨.tuple_list p1 p2.isList (by lia),fun _ _ _ _=>.tuple_list p1 p2.isList (by lia)⟩
 | lf hp hy =>
  rename_i n p xs y
  intro A v u hu rx ry
  cases rx
  obtain ⟨its,r1,p1,z1⟩:=I.list hp
  refine ⟨?_,fun _ _ _ e=>by subst e; cases hy⟩
  cases y with
  | non=>cases ry; exact .list_none p1.isList (by lia)
  | bl b=>cases ry; exact .list_bool b p1.isList (by lia)
  | int b=>obtain ⟨t,rfl⟩:=ry; exact .list_int b t p1.isList (by lia)
  | str b=>obtain ⟨t,rfl⟩:=ry; exact .list_str b t p1.isList (by lia)
  | _=>cases hy
 | fl hp hy =>
  rename_i n p xs y
  intro A v u hu rx ry
  cases ry
  obtain ⟨its,r1,p1,z1⟩:=I.list hp
  refine ⟨?_,fun _ _ e _=>by subst e; cases hy⟩
  cases y with
  | non=>cases rx; exact .none_list p1.isList (by lia)
  | bl b=>cases rx; exact .bool_list b p1.isList (by lia)
  | int b=>obtain ⟨t,rfl⟩:=rx; exact .int_list b t p1.isList (by lia)
  | str b=>obtain ⟨t,rfl⟩:=rx; exact .str_list b t p1.isList (by lia)
  | _=>cases hy
 | tf hp hy =>
  rename_i n p xs y
  intro A v u hu rx ry
  cases rx
  obtain ⟨its,r1,p1,z1⟩:=I.tuple hp
  refine ⟨?_,fun _ _ _ e=>by subst e; cases hy⟩
  cases y with
  | non=>cases ry; exact .tuple_none p1 (by lia)
  | bl b=>cases ry; exact .tuple_bool b p1 (by lia)
  | int b=>obtain ⟨t,rfl⟩:=ry; exact .tuple_int b t p1 (by lia)
  | str b=>obtain ⟨t,rfl⟩:=ry; exact .tuple_str b t p1 (by lia)
  | _=>cases hy
 | ft hp hy =>
  rename_i n p xs y
  intro A v u hu rx ry
  cases ry
  obtain ⟨its,r1,p1,z1⟩:=I.tuple hp
  refine ⟨?_,fun _ _ e _=>by subst e; cases hy⟩
  cases y with
  | non=>cases rx; exact .none_tuple p1 (by lia)
  | bl b=>cases rx; exact .bool_tuple b p1 (by lia)
  | int b=>obtain ⟨t,rfl⟩:=rx; exact .int_tuple b t p1 (by lia)
  | str b=>obtain ⟨t,rfl⟩:=rx; exact .str_tuple b t p1 (by lia)
  | _=>cases hy
 | up h ih =>
  intro A v u hu rx ry
  exact ih A v u (by lia) rx ry
end
section
variable {X:Cx}
def mEqK (K:Fgg):R2:=fun x y H Q=>match x,y with
 | .ref p,.ref q=>∃ n b,n≤50∧EqD K H n (.ref p) (.ref q) b∧Q (.bl b) H
 | _,_=>mEq x y H Q
def mNeK (K:Fgg):R2:=fun x y H Q=>match x,y with
 | .ref p,.ref q=>∃ n b,n≤50∧EqD K H n (.ref p) (.ref q) b∧Q (.bl (!b)) H
 | _,_=>mNe x y H Q
theorem zdG_ (hu:X.A.units+60<cLine):OpR X (compareOp .Eq) (mEqK X.K):=by
 intro pins s σ H x y v u Q I rx ry h
 unfold mEqK at h
 split at h
 ·rename_i p q
  obtain ⟨n,b,hn,h,q⟩:=h
  have:=(zlu_ I h X.A v u (by lia) rx ry).2 _ _ rfl rfl
  exact this X.prog X.w X.xe _ ⟨.bl b,H,I,rfl,q⟩
 ·exact zoj_ pins s σ H x y v u Q I rx ry h
end
section
variable {X:Cx}{pins:Pnn}{σ:St}{H:Hp}{s:Shared}
theorem znQ_ (I:Inv X pins σ H s) {n:Nat}{x y:V}{b:Bool}(h:EqD X.K H n x y b):∀ (A:Around) (v u:Value),A.units+n<cLine→RelV x v→RelV y u→∀ p q,x=.ref p→y=.ref q→SeqAt.RcNeAt A s v u (!b):=by
 induction h with
 | flat hx hy=>intro A v u _ rx ry p q e _; subst e; cases hx
 | lst e hp hq hl h ih =>
  rename_i n p q xs ys
  intro A v u hu rx ry _ _ _ _
  cases rx; cases ry
  obtain ⟨its,r1,p1,z1⟩:=I.list hp
  obtain ⟨its2,r2,p2,z2⟩:=I.list hq
  have l1:=r1.length
  have l2:=r2.length
  have:=SeqAt.RcNeAt.lists (A:=A) (e:=e) p1.isList p2.isList (by simp only [List.size_toArray]; lia) (by lia) (fun j h1 h2=>by
   obtain ⟨x,ex,rx⟩:=zcj_ r1 h1
   obtain ⟨y,ey,ry⟩:=zcj_ r2 h2
   exact (zlu_ I (h j x y ex ey) A.in1 _ _ (by show A.units+1+n<_; lia) rx ry).1)
  rw [List.size_toArray,← l1] at this
  exact this
 | lstN hp hq hl =>
  intro A v u hu rx ry _ _ _ _
  cases rx; cases ry
  obtain ⟨its,r1,p1,z1⟩:=I.list hp
  obtain ⟨its2,r2,p2,z2⟩:=I.list hq
  have l1:=r1.length
  have l2:=r2.length
  exact SeqAt.RcNeAt.lists_lengths p1.isList p2.isList (by simp only [List.size_toArray,bne_iff_ne,ne_eq]; lia) (by lia)
 | tup e hp hq h ih =>
  rename_i n p q xs ys
  intro A v u hu rx ry _ _ _ _
  cases rx; cases ry
  obtain ⟨its,r1,p1,z1⟩:=I.tuple hp
  obtain ⟨its2,r2,p2,z2⟩:=I.tuple hq
  have l1:=r1.length
  have l2:=r2.length
  have:=SeqAt.RcNeAt.tuples (A:=A) (e:=e) (show s.heap.IsTuple p its.toArray from p1) (show s.heap.IsTuple q its2.toArray from p2) (by lia) (fun j h1 h2=>by
   obtain ⟨x,ex,rx⟩:=zcj_ r1 h1
   obtain ⟨y,ey,ry⟩:=zcj_ r2 h2
   exact (zlu_ I (h j x y ex ey) A.in1 _ _ (by show A.units+1+n<_; lia) rx ry).1)
  rw [List.size_toArray,List.size_toArray,← l1,← l2] at this
  exact this
 | lt hp hq =>
  intro A v u hu rx ry _ _ _ _
  cases rx; cases ry
  obtain ⟨its,r1,p1,z1⟩:=I.list hp
  obtain ⟨its2,r2,p2,z2⟩:=I.tuple hq
  exact .list_tuple p1.isList p2 (by lia)
 | tl hp hq =>
  intro A v u hu rx ry _ _ _ _
  cases rx; cases ry
  obtain ⟨its,r1,p1,z1⟩:=I.tuple hp
  obtain ⟨its2,r2,p2,z2⟩:=I.list hq
  exact .tuple_list p1 p2.isList (by lia)
 | lf hp hy=>intro A v u hu rx ry _ _ _ e; subst e; cases hy
 | fl hp hy=>intro A v u hu rx ry _ _ e _; subst e; cases hy
 | tf hp hy=>intro A v u hu rx ry _ _ _ e; subst e; cases hy
 | ft hp hy=>intro A v u hu rx ry _ _ e _; subst e; cases hy
 | up h ih=>intro A v u hu rx ry; exact ih A v u (by lia) rx ry
theorem zgl_ (hu:X.A.units+60<cLine):OpR X (compareOp .NotEq) (mNeK X.K):=by
 intro pins s σ H x y v u Q I rx ry h
 unfold mNeK at h
 split at h
 ·rename_i p q
  obtain ⟨n,b,hn,h,q⟩:=h
  have:=znQ_ I h X.A v u (by lia) rx ry _ _ rfl rfl
  exact this X.prog X.w X.xe _ ⟨.bl (!b),H,I,rfl,q⟩
 ·exact zon_ pins s σ H x y v u Q I rx ry h
end
theorem Room.u60 {k:Nat}{A:Around}(r:Room k A):A.units+60<cLine:=by have:=r.units; lia
end L2
namespace LX
open PySem Builtin Builtin.Str
section
variable {prog:Program}{w:World}{A:Around}{E:Value→Shared→Prop}{s:Shared}{x:Str}{t:Tok}{Q:Value→Shared→Prop}
end
end LX
namespace L2
open PySem PySem.Spec PyProof.Rows
section
variable {X:Cx}
end
section
variable {X:Cx}{a b c d:Expr}{ta tb tc td:TE}{pos:Pos}
end
end L2
namespace L2
open PySem PySem.Spec PyProof.Rows
section
variable {κ:Type} [DecidableEq κ]
def valV (kvs:List (κ×V)) (k:κ):Option V:=(kvs.find? fun kv=>decide (kv.1=k)).map (·.2)
def putK (kvs:List (κ×V)) (k:κ) (v:V):List (κ×V) :=
 if (kvs.any fun kv=>decide (kv.1=k))=true then kvs.map (fun kv=>if kv.1=k then (kv.1,v) else kv) else kvs++[(k,v)]
theorem ze7_ {p:κ×V}{r:List (κ×V)}{k:κ}(e:p.1=k):valV (p::r) k=some p.2:=by simp [valV,List.find?_cons,e]
theorem zfq_ {p:κ×V}{r:List (κ×V)}{k:κ}(e:¬ p.1=k):valV (p::r) k=valV r k:=by simp [valV,List.find?_cons,e]
theorem zhp_ (k:κ):∀ kvs:List (κ×V),(kvs.any fun kv=>decide (kv.1=k))=(valV kvs k).isSome
 | []=>rfl
 | p::r=>by
  rw [List.any_cons]
  by_cases e:p.1=k
  ·simp only [ze7_ e,decide_eq_true e,Bool.true_or,Option.isSome_some]
  ·rw [zfq_ e,decide_eq_false e,Bool.false_or]; exact zhp_ k r
theorem zdm_ (kvs:List (κ×V)) (k:κ) (v:V):(putK kvs k v).length≤kvs.length+1:=by
 unfold putK
 split
 ·rw [List.length_map]; lia
 ·rw [List.length_append,List.length_cons,List.length_nil]; lia
theorem RelO.isSome_eq {o:Option V}{u:Option Value}(r:RelO o u):o.isSome=u.isSome:=by
 cases o with
 | none=>cases u with
  | none=>rfl
  | some _=>exact (show False from r).elim
 | some _=>cases u with
  | none=>exact (show False from r).elim
  | some _=>rfl
theorem KV.val {kvs:List (κ×V)}{vs:List (κ×Value)}(r:KV kvs vs) (k:κ):RelO (valV kvs k) (valueAt vs k):=by
 unfold KV at r
 induction r with
 | nil=>exact True.intro
 | @cons p q ps qs h t ih =>
  obtain ⟨h1,h2⟩:=h
  by_cases e:p.1=k
  ·have e':q.1=k:=h1.symm.trans e
   have b:valueAt (q::qs) k=some q.2:=by simp [valueAt,List.find?_cons,e']
   rw [ze7_ e,b]; exact h2
  ·have e':¬ q.1=k:=fun z=>e (h1.trans z)
   have b:valueAt (q::qs) k=valueAt qs k:=by simp [valueAt,List.find?_cons,e']
   rw [zfq_ e,b]; exact ih
theorem KV.any {kvs:List (κ×V)}{vs:List (κ×Value)}(r:KV kvs vs) (k:κ):(kvs.any fun kv=>decide (kv.1=k))=vs.any fun kv=>decide (kv.1=k):=by
 unfold KV at r
 induction r with
 | nil=>rfl
 | cons h t ih=>rw [List.any_cons,List.any_cons,ih,h.1]
theorem KV.repl {kvs:List (κ×V)}{vs:List (κ×Value)}(r:KV kvs vs) (k:κ) {y:V}{u:Value}(ry:RelV y u) :
  KV (kvs.map fun kv=>if kv.1=k then (kv.1,y) else kv) (vs.map fun kv=>if kv.1=k then (kv.1,u) else kv):=by
 unfold KV at r ⊢
 induction r with
 | nil=>exact .nil
 | @cons p q ps qs h t ih =>
  rw [List.map_cons,List.map_cons]
  refine .cons ?_ ih
  obtain ⟨h1,h2⟩:=h
  by_cases e:p.1=k
  ·rw [if_pos e,if_pos (h1.symm.trans e)]; exact ⟨h1,ry⟩
  ·rw [if_neg e,if_neg (fun z=>e (h1.trans z))]; exact ⟨h1,h2⟩
theorem KV.put {kvs:List (κ×V)}{vs:List (κ×Value)}(r:KV kvs vs) (k:κ) {y:V}{u:Value}(ry:RelV y u):KV (putK kvs k y) (stored vs k u):=by
 unfold putK stored
 rw [r.any k]
 by_cases e:(vs.any fun kv=>decide (kv.1=k))=true
 ·rw [if_pos e,if_pos e]; exact r.repl k ry
 ·rw [if_neg e,if_neg e]; exact Paired.snoc r ⟨rfl,ry⟩
theorem KV.length {kvs:List (κ×V)}{vs:List (κ×Value)}(r:KV kvs vs):kvs.length=vs.length:=Paired.length r
end
theorem zl9_ {P:Program}{w:World}{k:Key}{u:Value}(r:RelV (kV k) u):(mixKind P w).is k u=true:=by
 cases k with
 | inl i=>obtain ⟨t,e⟩:=(show ∃ t,u=Value.int i t from r); subst e; exact zgJ_ P w i t
 | inr x=>obtain ⟨t,e⟩:=(show ∃ t,u=Value.str x t from r); subst e; exact zgv_ P w x t
theorem zga_ {P:Program}{w:World}:∀ {ks:List Key}{us:List Value},Vals (ks.map kV) us→ItemsAre (mixKind P w) ks us
 | [],_,r=>by rw [List.map_nil] at r; cases r; exact .nil
 | k::ks,_,r=>by
  rw [List.map_cons] at r
  cases r with
  | cons h t=>exact .cons (zl9_ h) (zga_ t)
abbrev KT (H:Hp):List (List Key×V)→List (List Key×Addr×Value)→Prop:=Paired fun p q=>p.1=q.1∧H q.2.1=some (.tup (p.1.map kV))∧RelV p.2 q.2.2
theorem KT.val {H:Hp}{kvs:List (List Key×V)}{xs:List (List Key×Addr×Value)}(r:KT H kvs xs) (k:List Key):RelO (valV kvs k) ((atKey xs k).map (·.2)):=by
 induction r with
 | nil=>exact True.intro
 | @cons p q ps qs h t ih =>
  obtain ⟨h1,_,h2⟩:=h
  by_cases e:p.1=k
  ·have e':q.1=k:=h1.symm.trans e
   have b:atKey (q::qs) k=some q.2:=by simp [atKey,List.find?_cons,e']
   rw [ze7_ e,b]; exact h2
  ·have e':¬ q.1=k:=fun z=>e (h1.trans z)
   have b:atKey (q::qs) k=atKey qs k:=by simp [atKey,List.find?_cons,e']
   rw [zfq_ e,b]; exact ih
theorem KT.repl {H:Hp}{kvs:List (List Key×V)}{xs:List (List Key×Addr×Value)}(r:KT H kvs xs) (k:List Key) {y:V}{u:Value}(ry:RelV y u) :
  KT H (kvs.map fun kv=>if kv.1=k then (kv.1,y) else kv) (xs.map (putAt k u)):=by
 induction r with
 | nil=>exact .nil
 | @cons p q ps qs h t ih =>
  rw [List.map_cons,List.map_cons]
  refine .cons ?_ ih
  obtain ⟨h1,h2,h3⟩:=h
  unfold putAt
  by_cases e:p.1=k
  ·rw [if_pos e,if_pos (h1.symm.trans e)]; exact ⟨h1,h2,ry⟩
  ·rw [if_neg e,if_neg (fun z=>e (h1.trans z))]; exact ⟨h1,h2,h3⟩
theorem KT.put {H:Hp}{kvs:List (List Key×V)}{xs:List (List Key×Addr×Value)}(r:KT H kvs xs) (k:List Key) {b:Addr}{y:V}{u:Value}(hb:H b=some (.tup (k.map kV))) (ry:RelV y u) :
  KT H (putK kvs k y) (storedH xs k b u):=by
 have e:(kvs.any fun kv=>decide (kv.1=k))=(atKey xs k).isSome:=by
  rw [zhp_,(r.val k).isSome_eq,Option.isSome_map]
 unfold putK storedH
 rw [e]
 by_cases q:(atKey xs k).isSome=true
 ·rw [if_pos q,if_pos q]; exact r.repl k ry
 ·rw [if_neg q,if_neg q]; exact Paired.snoc r ⟨rfl,hb,ry⟩
theorem KT.keeps {H H':Hp}{kvs:List (List Key×V)}{xs:List (List Key×Addr×Value)}(r:KT H kvs xs) (ht:∀ b ys,H b=some (.tup ys)→H' b=some (.tup ys)):KT H' kvs xs :=
 Paired.mapP r fun _ _ z=>⟨z.1,ht _ _ z.2.1,z.2.2⟩
section
variable {P:Program}{w:World}{H:Hp}{h:Heap}{a:Addr}
theorem rd_of {u:HO}(ok:HOk P w H h) (e:Rd H a u):ObjOk P w H h a u:=e.ok ok
theorem znH_ {kvs:List (Key×V)}(ok:HOk P w H h) (e:Rd H a (.dK kvs)):kvs.length≤sizeLine∧(a == sysModules)=false∧∃ vs,KV kvs vs∧h.DictOf (mixKind P w) a vs :=
 show ObjOk P w H h a (.dK kvs) from rd_of ok e
theorem dk_of {kvs:List (Key×V)}(ok:HOk P w H h) (e:H a=some (.dK kvs)):kvs.length≤sizeLine∧(a == sysModules)=false∧∃ vs,KV kvs vs∧h.DictOf (mixKind P w) a vs:=znH_ ok (.inl e)
theorem zhk_ {ks:List Key}(ok:HOk P w H h) (e:H a=some (.tup (ks.map kV))):(tupleKind (mixKind P w)).is h ks a:=by
 obtain ⟨_,its,r,o,h1,h2,n,h3⟩:=(show ObjOk P w H h a (.tup (ks.map kV)) from ok a _ e)
 exact ⟨o,its.toArray,n,h1,h2,h3,by simpa using zga_ r⟩
theorem zlX_ {kvs:List (List Key×V)}(ok:HOk P w H h) (e:Rd H a (.dT kvs)):kvs.length≤sizeLine∧(a == sysModules)=false ∧
  ∃ xs,KT H kvs xs∧h.DictOfH (tupleKind (mixKind P w)) a xs:=by
 obtain ⟨z,y,xs,r,o,es,ep,h1,h2,h3,h4,h5⟩:=(show ObjOk P w H h a (.dT kvs) from rd_of ok e)
 refine ⟨z,y,xs,r,o,es,ep,h1,h2,h3,h4,fun x hx=>?_,h5⟩
 have all:∀ {l:List (List Key×V)}{m:List (List Key×Addr×Value)},KT H l m→∀ x∈m,(tupleKind (mixKind P w)).is h x.1 x.2.1:=by
  intro l m q
  induction q with
  | nil=>intro x hx; exact nomatch hx
  | @cons p q ps qs hq t ih =>
   intro x hx
   rcases List.mem_cons.mp hx with e | hx
   ·subst e
    exact zhk_ ok (by rw [← hq.1]; exact hq.2.1)
   ·exact ih x hx
 exact all r x hx
theorem dt_of {kvs:List (List Key×V)}(ok:HOk P w H h) (e:H a=some (.dT kvs)):kvs.length≤sizeLine∧(a == sysModules)=false ∧
  ∃ xs,KT H kvs xs∧h.DictOfH (tupleKind (mixKind P w)) a xs:=zlX_ ok (.inl e)
end
def DGet (H:Hp) (a:Addr) (y:V) (r:Option V):Prop :=
 (∃ kvs k,Rd H a (.dK kvs)∧y=kV k∧r=valV kvs k)∨∃ kvs k b,Rd H a (.dT kvs)∧y=.ref b∧H b=some (.tup (k.map kV))∧r=valV kvs k
def DPut (H:Hp) (a:Addr) (y v:V) (H':Hp):Prop :=
 (∃ kvs k,H a=some (.dK kvs)∧y=kV k∧kvs.length<sizeLine∧H'=upd H a (.dK (putK kvs k v))) ∨
 ∃ kvs k b,H a=some (.dT kvs)∧y=.ref b∧H b=some (.tup (k.map kV))∧kvs.length<sizeLine∧H'=upd H a (.dT (putK kvs k v))
theorem DGet.k {H:Hp}{a:Addr}{kvs:List (Key×V)}{k:Key}(e:H a=some (.dK kvs)):DGet H a (kV k) (valV kvs k):=.inl ⟨kvs,k,.inl e,rfl,rfl⟩
theorem DPut.k {H:Hp}{a:Addr}{kvs:List (Key×V)}{k:Key}{v:V}(e:H a=some (.dK kvs)) (hl:kvs.length<sizeLine):DPut H a (kV k) v (upd H a (.dK (putK kvs k v))):=.inl ⟨kvs,k,e,rfl,hl,rfl⟩
section
variable {X:Cx}{pins:Pnn}{σ:St}{H:Hp}{s:Shared}{a:Addr}{y v:V}{u r:Value}{o:Option V}{A:Around}{E:Value→Shared→Prop}
theorem Inv.big (I:Inv X pins σ H s):sysModules<s.heap.objs.size:=by
 have h:mainGlobals<s.heap.objs.size:=(I.mod.glob.keeps I.bk).lt
 exact Nat.lt_trans (by decide) h
theorem ziU_ {Q:Value→Shared→Prop}(hu:A.units+1<cLine) (I:Inv X pins σ H s) (g:DGet H a y (some v)) (ry:RelV y u) (h:∀ w' s',Inv X pins σ H s'→RelV v w'→Q w' s') :
  wpAny (model X.prog X.w) A (getItem (.ref a) u) Q E s:=by
 rcases g with ⟨kvs,k,e,ey,l⟩ | ⟨kvs,k,b,e,ey,eb,l⟩
 ·subst ey
  obtain ⟨z,hd,vs,rel,dd⟩:=znH_ I.hok e
  obtain ⟨w',hw,rw'⟩:=RelO.some_of (v:=v) (o:=valueAt vs k) (by rw [l]; exact rel.val k)
  exact wpAny_getItem_of (zl9_ ry) dd.mapOf hw (h w' _ (I.tok _) rw')
 ·subst ey
  cases (show u=Value.ref b from ry)
  obtain ⟨z,hd,xs,rel,dd⟩:=zlX_ I.hok e
  obtain ⟨w',hw,rw'⟩:=RelO.some_of (v:=v) (o:=(atKey xs k).map (·.2)) (by rw [l]; exact rel.val k)
  obtain ⟨p,hp,hp2⟩:=Option.map_eq_some_iff.mp hw
  refine wpAny_getItem_heap (tupleKind_room_in1 hu) (zhk_ I.hok eb) dd hp ?_
  rw [hp2]
  exact h w' _ (I.tok _) rw'
theorem d_in {Q:Value→Shared→Prop}(hu:A.units+1<cLine) (I:Inv X pins σ H s) (g:DGet H a y o) (ry:RelV y u) (h:∀ s',Inv X pins σ H s'→Q (.bool o.isSome) s') :
  wpAny (model X.prog X.w) A (compareOp .In u (.ref a)) Q E s:=by
 rcases g with ⟨kvs,k,e,ey,l⟩ | ⟨kvs,k,b,e,ey,eb,l⟩
 ·subst ey
  obtain ⟨z,hd,vs,rel,dd⟩:=znH_ I.hok e
  refine wpAny_in_of (zl9_ ry) hd dd.mapOf ?_
  rw [← (rel.val k).isSome_eq,← l]
  exact h _ (I.tok _)
 ·subst ey
  cases (show u=Value.ref b from ry)
  obtain ⟨z,hd,xs,rel,dd⟩:=zlX_ I.hok e
  refine wpAny_in_heap (tupleKind_room_in1 hu) (zhk_ I.hok eb) hd dd ?_
  have q:=(rel.val k).isSome_eq
  rw [Option.isSome_map] at q
  rw [← q,← l]
  exact h _ (I.tok _)
theorem znx_ {Q:Value→Shared→Prop}(hu:A.units+1<cLine) (I:Inv X pins σ H s) (g:DGet H a y o) (ry:RelV y u) (h:∀ s',Inv X pins σ H s'→Q (.bool (!o.isSome)) s') :
  wpAny (model X.prog X.w) A (compareOp .NotIn u (.ref a)) Q E s:=by
 rcases g with ⟨kvs,k,e,ey,l⟩ | ⟨kvs,k,b,e,ey,eb,l⟩
 ·subst ey
  obtain ⟨z,hd,vs,rel,dd⟩:=znH_ I.hok e
  refine wpAny_notIn_of (zl9_ ry) hd dd.mapOf ?_
  rw [← (rel.val k).isSome_eq,← l]
  exact h _ (I.tok _)
 ·subst ey
  cases (show u=Value.ref b from ry)
  obtain ⟨z,hd,xs,rel,dd⟩:=zlX_ I.hok e
  refine wpAny_notIn_heap (tupleKind_room_in1 hu) (zhk_ I.hok eb) hd dd ?_
  have q:=(rel.val k).isSome_eq
  rw [Option.isSome_map] at q
  rw [← q,← l]
  exact h _ (I.tok _)
theorem zki_ {h':Heap}{t':Nat}{ob:HO}(I:Inv X pins σ H s) (mu:Mut (H a)) (hs:Heap.SameBut a s.heap h') (he:∃ q,h'.get? a=some q) (new:ObjOk X.prog X.w (upd H a ob) h' a ob) :
  Inv X pins σ (upd H a ob) { s with heap:=h',toks:=t' } :=
 I.write (x:=a) (e:=a) mu (.inl rfl) (fun b q hb z=>(hs.2 b hb).trans z) he new
theorem zoM_ {P:Program}{w:World}{H':Hp}{h':Heap}{kvs:List (Key×V)}{vs:List (Key×Value)}(z:kvs.length≤sizeLine) (hd:(a == sysModules)=false) (rel:KV kvs vs) (dd:h'.DictOf (mixKind P w) a vs) :
  ObjOk P w H' h' a (.dK kvs):=⟨z,hd,vs,rel,dd⟩
theorem zi5_ {H':Hp}{Q:Unit→Shared→Prop}(hu:A.units+1<cLine) (I:Inv X pins σ H s) (g:DPut H a y v H') (ry:RelV y u) (rv:RelV v r) (h:∀ s',Inv X pins σ H' s'→Q () s') :
  wpAny (model X.prog X.w) A (setItem (.ref a) u r) Q E s:=by
 rcases g with ⟨kvs,k,e,ey,l,eH⟩ | ⟨kvs,k,b,e,ey,eb,l,eH⟩
 ·subst ey eH
  obtain ⟨z,hd,vs,rel,dd⟩:=dk_of I.hok e
  have hz:vs.length≤sizeLine:=by rw [← rel.length]; exact z
  have hl:(putK kvs k v).length≤sizeLine:=by have:=zdm_ kvs k v; lia
  refine wpAny_setItem_pairs (hsz:=hz) (zl9_ ry) dd fun h' dd' hs=>h _ ?_
  have he:∃ q,h'.get? a=some q:=let ⟨q,_,_,hq,_⟩:=dd'; ⟨q,hq⟩
  exact zki_ I (by rw [e]; exact True.intro) hs he (zoM_ hl hd (rel.put k rv) dd')
 ·subst ey eH
  cases (show u=Value.ref b from ry)
  obtain ⟨z,hd,xs,rel,dd⟩:=dt_of I.hok e
  have hz:xs.length≤sizeLine:=by rw [← Paired.length rel]; exact z
  have hl:(putK kvs k v).length≤sizeLine:=by have:=zdm_ kvs k v; lia
  refine wpAny_setItem_heap (hsz:=hz) (tupleKind_room_in1 hu) (zhk_ I.hok eb) dd fun h' dd' hs=>h _ ?_
  obtain ⟨q,es,ep,hq,h2,h3,h4,_,h5⟩:=dd'
  refine zki_ I (by rw [e]; exact True.intro) hs ⟨q,hq⟩ ⟨hl,hd,_,(rel.put k eb rv).keeps fun c ys ec=>?_,q,es,ep,hq,h2,h3,h4,h5⟩
  rw [zI_ (ne_of ec e (fun z=>nomatch z))]
  exact ec
end
section
variable {X:Cx}{pins:Pnn}{σ:St}{H:Hp}{s:Shared}{a:Addr}{kvs:List (Key×V)}{k:Key}{u:Value}{A:Around}{E:Value→Shared→Prop}
end
def NoSl (i:Expr):Prop:=∀ ov iv,subscripted i false ov iv=operate [ov,iv] (getItem ov iv)
theorem zm2_ {prog:Program}{w:World}{A:Around}{E:Value→Shared→Prop}{s:Shared}{env:Env}{value slice:Expr}{pos:Pos}{T id:String}{Q:Value→Shared→Prop}
  (hl:typeLookup (.type T) "__getitem__" = pure (some (.builtin id))) (hs:NoSl slice)
  (h:wpAny (model prog w) A (eval value env) (fun o s₁=>wpAny (model prog w) A (eval slice env) (fun i s₂=>s₂.TypeIs o T∧wpAny (model prog w) A (getItem o i) Q E s₂) E s₁) E s) :
  wpAny (model prog w) A (eval (.Subscript value slice pos) env) Q E s:=by
 refine Subscript_ (wpAny_mono h (fun o s₁ h₁=>wpAny_mono h₁ (fun i s₂ h₂=>?_) fun _ _ x=>x) fun _ _ x=>x)
 obtain ⟨hT,h₂⟩:=h₂
 unfold subscriptTail
 refine wpAny_bind ?_
 rw [getitemInPython_of_ne hT.not_modules]
 refine wpAny_bind (wpAny_specialOf hT hl ?_)
 have fin:wpAny (model prog w) A (subscripted slice false o i) (fun r s₃=>wpAny (model prog w) A (letTemporaryGo value o r>>=fun _=>pure r) Q E s₃) E s₂:=by
  rw [hs o i]
  exact wpAny_operating (wpAny_mono h₂ (fun r s₃ h₃=>wpAny_bind (wpAny_letTemporaryGo (wpAny_pure h₃))) fun _ _ x=>x)
 first
  | exact wpAny_pure (wpAny_bind fin)
  | exact wpAny_bind (wpAny_pure (wpAny_bind fin))
  | exact wpAny_bind fin
theorem zgF_ {X:Cx}{pins:Pnn}{σ:St}{H:Hp}{s:Shared}{a:Addr}{y:V}{o:Option V}(I:Inv X pins σ H s) (g:DGet H a y o):s.TypeIs (.ref a) "dict" := by
 rcases g with ⟨kvs,k,e,_,_⟩ | ⟨kvs,k,b,e,_,_,_⟩
 ·obtain ⟨_,_,vs,_,dd⟩:=znH_ I.hok e
  exact dd.typeIs
 ·obtain ⟨_,_,xs,_,dd⟩:=zlX_ I.hok e
  exact dd.typeIs
section
variable {X:Cx}{o i e value:Expr}{pos pos' tpos:Pos}{td ty tv:TE}
end
theorem zli_ {P:Program}{w:World}{H:Hp}(h:Heap) (hb:sysModules<h.objs.size):ObjOk P w H (h.push { cls:=.type "dict",data:=.dict #[] }) h.objs.size (.dK []) :=
 ⟨Nat.zero_le _,beq_eq_false_iff_ne.mpr (Ne.symm (Nat.ne_of_lt hb)),[],.nil,Heap.DictOf.new h⟩
def tDNewK:TE:=fun _ H Q=>∀ p,H p=none→Q (.ref p) (upd H p (.dK []))
section
variable {X:Cx}{pos:Pos}
theorem zhj_:PE X (.Dict [] [] pos) tDNewK:=fun pins s σ H Q I h =>
 wpAny_Dict_empty ⟨.ref s.heap.objs.size,_,I.laid (a:=s.heap.objs.size) (o:=.dK []) (t':=s.toks) (fun _ _ q=>Heap.get?_push_of_some _ q) (Nat.le_refl _) (zli_ s.heap I.big),rfl,h _ (I.hok.fresh (Nat.le_refl _))⟩
end
section
variable {X:Cx}{pins:Pnn}{σ:St}{H:Hp}{s:Shared}{a:Addr}{y d:V}{u r:Value}{o:Option V}{A:Around}{E:Value→Shared→Prop}
end
section
variable {X:Cx}{o e f:Expr}{apos cpos:Pos}{td ty tx:TE}
end
section
variable {X:Cx}{pins:Pnn}{σ:St}{H:Hp}{s:Shared}{a:Addr}{kvs:List (Key×V)}{A:Around}{E:Value→Shared→Prop}
end
section
variable {X:Cx}{pins:Pnn}{σ:St}{H:Hp}{s:Shared}{a:Addr}{y:V}{u:Value}{A:Around}{E:Value→Shared→Prop}
namespace L2
open PySem PySem.Spec PyProof.Rows
section
variable {X:Cx}
end
section
variable {κ:Type} [DecidableEq κ]
end
end L2
end
end L2
namespace L2
open PySem PySem.Spec PyProof.Rows
section
variable {X:Cx}
end
section
variable {X:Cx}{elts:List Expr}{kk:Nat}{tpos:Pos}
end
section
variable {X:Cx}{e st:Expr}{te:TE}{ts:TO}{pos p2:Pos}
end
end L2
namespace L2
open PySem PySem.Spec PyProof.Rows
def keyV:V→Option Key
 | .int i=>some (.inl i)
 | .str z=>some (.inr z)
 | _=>none
theorem zmj_ {y:V}{k:Key}(h:keyV y=some k):y=kV k:=by
 cases y<;>first | (cases h; rfl) | cases h
def atD (x y:V) (H:Hp) (R:Addr→List (Key×V)→Key→Prop):Prop:=match x with
 | .ref a=>(match keyV y with | some k=>∃ kvs,H a=some (.dK kvs)∧R a kvs k | none=>False)
 | _=>False
theorem zjd_ {x y:V}{H:Hp}{R:Addr→List (Key×V)→Key→Prop}(h:atD x y H R):∃ a kvs k,x=.ref a∧y=kV k∧H a=some (.dK kvs)∧R a kvs k:=by
 unfold atD at h
 cases x with
 | ref a =>
  cases e:keyV y with
  | none=>rw [e] at h; exact h.elim
  | some k =>
   rw [e] at h
   obtain ⟨kvs,h1,h2⟩:=h
   exact ⟨a,kvs,k,rfl,zmj_ e,h1,h2⟩
 | _=>exact h.elim
def mDGet (td ty:TE):TE:=fun σ H Q=>td σ H fun x H1=>ty σ H1 fun y H2=>atD x y H2 fun _ kvs k=>∃ v,valV kvs k=some v∧Q v H2
def mDIn (neg:Bool) (ty td:TE):TE:=fun σ H Q=>ty σ H fun y H1=>td σ H1 fun x H2=>atD x y H2 fun _ kvs k=>Q (.bl (if neg then !(valV kvs k).isSome else (valV kvs k).isSome)) H2
def mDPut (td ty tv:TE):TS:=fun D σ H=>tv σ H fun v H1=>td σ H1 fun x H2=>ty σ H2 fun y H3=>atD x y H3 fun a kvs k=>kvs.length<sizeLine∧D.nx σ (upd H3 a (.dK (putK kvs k v)))
section
variable {X:Cx}{o i e value:Expr}{pos pos' tpos:Pos}{td ty tv:TE}
theorem zoz_ (hu:X.A.units+60<cLine) (ho:PE X o td) (hi:PE X i ty) (hs:NoSl i:=by exact fun _ _=>rfl):PE X (.Subscript o i pos) (mDGet td ty):=by
 intro pins s σ H Q I h
 refine zm2_ PySem.F.slot_dict_getitem.lookup hs (thn (ho pins s σ H _ I h) fun u s1 ⟨x,H1,I1,rx,q1⟩=>thn (hi pins s1 σ H1 _ I1 q1) fun iv s2 hq_=>?_)
 obtain ⟨y,H2,I2,ry,q2⟩:=hq_
 obtain ⟨a,kvs,k,rfl,rfl,hd,v,hv,q⟩:=zjd_ q2
 obtain rfl:u=Value.ref a:=rx
 have g:DGet H2 a (kV k) (some v):=by rw [← hv]; exact DGet.k hd
 exact ⟨zgF_ I2 g,ziU_ (by lia) I2 g ry fun w' s3 I3 rw'=>⟨v,H2,I3,rw',q⟩⟩
theorem zl4_ (hu:X.A.units+60<cLine) (hi:PE X i ty) (ho:PE X o td):PC X .In i o (mDIn false ty td):=by
 intro pins s σ H Q I h
 refine thn (hi pins s σ H _ I h) fun iv s1 ⟨y,H1,I1,ry,q1⟩=>thn (ho pins s1 σ H1 _ I1 q1) fun u s2 hq_=>?_
 obtain ⟨x,H2,I2,rx,q2⟩:=hq_
 obtain ⟨a,kvs,k,rfl,rfl,hd,q⟩:=zjd_ q2
 obtain rfl:u=Value.ref a:=rx
 exact d_in (by lia) I2 (DGet.k (k:=k) hd) ry fun s3 I3=>⟨.bl (valV kvs k).isSome,H2,I3,rfl,q⟩
theorem zh5_ (hu:X.A.units+60<cLine) (hi:PE X i ty) (ho:PE X o td):PC X .NotIn i o (mDIn true ty td):=by
 intro pins s σ H Q I h
 refine thn (hi pins s σ H _ I h) fun iv s1 ⟨y,H1,I1,ry,q1⟩=>thn (ho pins s1 σ H1 _ I1 q1) fun u s2 hq_=>?_
 obtain ⟨x,H2,I2,rx,q2⟩:=hq_
 obtain ⟨a,kvs,k,rfl,rfl,hd,q⟩:=zjd_ q2
 obtain rfl:u=Value.ref a:=rx
 exact znx_ (by lia) I2 (DGet.k (k:=k) hd) ry fun s3 I3=>⟨.bl (!(valV kvs k).isSome),H2,I3,rfl,q⟩
theorem zhL_ (hu:X.A.units+60<cLine) (ho:PE X o td) (hi:PE X i ty) (hv:PE X value tv) (hs:swapsWith value (some (.Subscript o i pos')) pos.line X.env=pure false:=by rfl) :
  PS X (.Assign [.Subscript o i pos'] value pos) (mDPut td ty tv):=by
 intro pins s σ H D I h
 refine wpAny_Assign_Subscript (thn (hv pins s σ H _ I h) fun r s1 ⟨v,H1,I1,rv,q1⟩=>thn (ho pins s1 σ H1 _ I1 q1) fun u s2 ⟨x,H2,I2,rx,q2⟩=>thn (hi pins s2 σ H2 _ I2 q2) fun iv s3 hq_=>?_) hs
 obtain ⟨y,H3,I3,ry,q3⟩:=hq_
 obtain ⟨a,kvs,k,rfl,rfl,hd,hl,q⟩:=zjd_ q3
 obtain rfl:u=Value.ref a:=rx
 exact zi5_ (by lia) I3 (DPut.k hd hl) ry rv fun s4 I4=>⟨σ,_,I4,q⟩
end
section
variable {X:Cx}{o e f:Expr}{apos cpos:Pos}{td ty tx':TE}
end
section
variable {X:Cx}{o i:Expr}{pos:Pos}{td ty:TE}
theorem zhO_ {op:CmpOp}{a b:Expr}{t:TE}(h:PC X op a b t) (h1:behindInMarks op b=false):PT X (.Compare a [op] [b] pos) (mTest t):=by
 intro pins s σ H Q I hw
 refine wpAny_isTrue_Compare1 (thn (h pins s σ H _ I hw) fun v s1 q=>thn q fun u s2 q=>thn q fun c s3 hq_=>?_) h1
 obtain ⟨x,H1,I1,r,q⟩:=hq_
 cases x with
 | bl k=>cases r; exact wpAny_truthy_bool ⟨H1,I1,q⟩
 | _=>exact q.elim
theorem zjX_ (hu:X.A.units+60<cLine) (hi:PE X i ty) (ho:PE X o td) (h1:behindInMarks .In o=false:=by rfl):PT X (.Compare i [.In] [o] pos) (mTest (mDIn false ty td)):=zhO_ (zl4_ hu hi ho) h1
theorem zg8_ (hu:X.A.units+60<cLine) (hi:PE X i ty) (ho:PE X o td) (h1:behindInMarks .NotIn o=false:=by rfl):PT X (.Compare i [.NotIn] [o] pos) (mTest (mDIn true ty td)):=zhO_ (zh5_ hu hi ho) h1
end
end L2
namespace L2
open PySem PySem.Spec PyProof.Rows
inductive Av where
 | i (n:Int) | p (a b:Int)
inductive Xc where
 | pl (c:String) | at (c:String) (as:List (Str×Av))
instance:Coe String Xc:=⟨Xc.pl⟩
inductive Mo (α:Type) where
 | ok (a:α) | ex (c:Xc) | no
namespace Mo
variable {α β γ:Type}
def bind (x:Mo α) (f:α→Mo β):Mo β:=match x with | .ok a=>f a | .ex c=>.ex c | .no=>.no
theorem ok_bind (a:α) (f:α→Mo β):(Mo.ok a).bind f=f a:=rfl
def noex (x:Mo α):Mo α:=match x with | .ok a=>.ok a | _=>.no
def lim (n:Nat) (k:Mo α):Mo α:=if n≤sizeLine then k else .no
theorem lim_ok {n:Nat}{k:Mo α}(h:n≤100000):lim n k=k:=if_pos (zcA_ h)
def grd (p:Prop) [Decidable p] (k:Mo α):Mo α:=if p then k else .no
theorem grd_ok {p:Prop} [Decidable p] {k:Mo α}(h:p):grd p k=k:=if_pos h
def opt (x:Option α):Mo α:=match x with | some a=>.ok a | none=>.no
end Mo
def un (F h:Hp):Hp:=fun p=>match F p with | some o=>some o | none=>h p
def Dj (F h:Hp):Prop:=∀ p,F p=none∨h p=none
def Jn (h1 h2 h:Hp):Prop:=∀ p,(h1 p=none∧h p=h2 p)∨(h2 p=none∧h p=h1 p)
def Ext (F H F' H':Hp):Prop:=Same F F'∧Same F' H'∧Same H H'∧∀ p,F p=none→F' p≠none→H p=none
theorem Ext.refl {F H:Hp}(h:Same F H):Ext F H F H:=⟨Same.refl _,h,Same.refl _,fun p a b=>absurd a b⟩
theorem Ext.trans {F H F1 H1 F2 H2:Hp}(a:Ext F H F1 H1) (b:Ext F1 H1 F2 H2):Ext F H F2 H2:=by
 obtain ⟨a1,a2,a3,a4⟩:=a
 obtain ⟨b1,b2,b3,b4⟩:=b
 refine ⟨a1.trans b1,b2,a3.trans b3,fun p hp hq=>?_⟩
 cases e:F1 p with
 | none=>exact a3.free (b4 p e hq)
 | some o=>exact a4 p hp (by rw [e]; exact Option.some_ne_none _)
theorem Ext.heap {F H H':Hp}(h:Same F H) (g:Same H H'):Ext F H F H':=⟨Same.refl _,h.trans g,g,fun p a b=>absurd a b⟩
theorem Ext.new {F H:Hp}(h:Same F H) {p:Addr}{o:HO}(hp:H p=none):Ext F H (upd F p o) (upd H p o):=by
 refine ⟨zaB_ (h.free hp) _,fun b u e=>?_,zaB_ hp _,fun q a b=>?_⟩
 ·unfold upd at e ⊢
  split
  ·rename_i z; rw [if_pos z] at e; exact e
  ·rename_i z; rw [if_neg z] at e; exact h _ _ e
 ·unfold upd at b
  split at b
  ·rename_i z; rw [z]; exact hp
  ·exact absurd a b
structure Ty (α:Type) where
 R:α→V→Hp→Prop
 mono:∀ {a v H H'},Same H H'→R a v H→R a v H'
def Tups (H H':Hp):Prop:=∀ p xs,H p=some (.tup xs)→H' p=some (.tup xs)
theorem Same.tups {H H':Hp}(h:Same H H'):Tups H H':=fun p xs e=>h _ _ e
def Imm {α:Type}(T:Ty α):Prop:=∀ {a v H H'},Tups H H'→T.R a v H→T.R a v H'
abbrev tyInt:Ty Int:=⟨fun a v _=>v=.int a,fun _ h=>h⟩
abbrev tyStr:Ty (List Nat):=⟨fun a v _=>v=tx a,fun _ h=>h⟩
abbrev tyBl:Ty Bool:=⟨fun a v _=>v=.bl a,fun _ h=>h⟩
abbrev tyNon:Ty Unit:=⟨fun _ v _=>v=.non,fun _ h=>h⟩
theorem zm_:Imm tyInt:=fun _ h=>h
theorem zr_:Imm tyStr:=fun _ h=>h
theorem zbu_:Imm tyBl:=fun _ h=>h
abbrev tyOpt {α:Type}(T:Ty α):Ty (Option α):=⟨fun a v H=>match a with | none=>v=.non | some x=>T.R x v H∧v≠.non,fun {a v H H'} g h=>by cases a with | none=>exact h | some x=>exact ⟨T.mono g h.1,h.2⟩⟩
theorem zel_ {α:Type}{T:Ty α}(i:Imm T):Imm (tyOpt T):=fun {a v H H'} g h=>by cases a with | none=>exact h | some x=>exact ⟨i g h.1,h.2⟩
structure Cs (γ:Type) where
 R:γ→List V→Hp→Prop
 mono:∀ {c vs H H'},Same H H'→R c vs H→R c vs H'
def ImmC {γ:Type}(C:Cs γ):Prop:=∀ {c vs H H'},Tups H H'→C.R c vs H→C.R c vs H'
abbrev csLast {α:Type}(T:Ty α):Cs α:=⟨fun a vs H=>∃ v,vs=[v]∧T.R a v H,fun g ⟨v,e,h⟩=>⟨v,e,T.mono g h⟩⟩
abbrev csCons {α γ:Type}(T:Ty α) (C:Cs γ):Cs (α×γ):=⟨fun a vs H=>∃ v us,vs=v::us∧T.R a.1 v H∧C.R a.2 us H,fun g ⟨v,us,e,h,q⟩=>⟨v,us,e,T.mono g h,C.mono g q⟩⟩
theorem z6_ {α:Type}{T:Ty α}(i:Imm T):ImmC (csLast T):=fun g ⟨v,e,h⟩=>⟨v,e,i g h⟩
theorem z5_ {α γ:Type}{T:Ty α}{C:Cs γ}(i:Imm T) (j:ImmC C):ImmC (csCons T C):=fun g ⟨v,us,e,h,q⟩=>⟨v,us,e,i g h,j g q⟩
abbrev tyTup {γ:Type}(C:Cs γ):Ty γ:=⟨fun c v H=>∃ p us,v=.ref p∧H p=some (.tup us)∧C.R c us H,fun g ⟨p,us,e,h,q⟩=>⟨p,us,e,g _ _ h,C.mono g q⟩⟩
theorem zby_ {γ:Type}{C:Cs γ}(i:ImmC C):Imm (tyTup C):=fun g ⟨p,us,e,h,q⟩=>⟨p,us,e,g _ _ h,i g q⟩
abbrev Prs {α:Type}(T:Ty α) (H:Hp) (xs:List α) (vs:List V):Prop:=Paired (fun x v=>T.R x v H) xs vs
theorem zaF_ {α β:Type}{R R':α→β→Prop}(h:∀ a b,R a b→R' a b):∀ {xs:List α}{ys:List β},Paired R xs ys→Paired R' xs ys
 | _,_,.nil=>.nil
 | _,_,.cons a t=>.cons (h _ _ a) (zaF_ h t)
theorem Prs.mono {α:Type}{T:Ty α}{H H':Hp}{xs:List α}{vs:List V}(g:Same H H') (h:Prs T H xs vs):Prs T H' xs vs:=zaF_ (fun _ _ r=>T.mono g r) h
theorem Prs.imm {α:Type}{T:Ty α}(i:Imm T) {H H':Hp}{xs:List α}{vs:List V}(g:Tups H H') (h:Prs T H xs vs):Prs T H' xs vs:=zaF_ (fun _ _ r=>i g r) h
abbrev tyL {α:Type}(T:Ty α):Ty (List α):=⟨fun xs v H=>∃ p vs,v=.ref p∧H p=some (.lst vs)∧Prs T H xs vs,fun g ⟨p,vs,e,h,q⟩=>⟨p,vs,e,g _ _ h,q.mono g⟩⟩
abbrev tySc (K:Fgg):Ty (List Int):=⟨fun xs v H=>∃ p,v=.ref p∧SqL K H p (xs.map V.int),fun g ⟨p,e,h⟩=>⟨p,e,g.seq h⟩⟩
structure Own (α:Type) where
 O:α→V→Hp→Hp→Prop
 fr:Ty α
 mono:∀ {a v F F' h},Same F F'→O a v F h→O a v F' h
 frz:∀ {a v F h},Dj F h→O a v F h→fr.R a v (un F h)
 notup:∀ {a v F h},O a v F h→∀ p xs,h p≠some (.tup xs)
def ImmO {α:Type}(O:Own α):Prop:=∀ {a v F F' h},Tups F F'→O.O a v F h→O.O a v F' h
theorem zb0_ {F h:Hp}:Same F (un F h):=fun p o e=>by unfold un; rw [e]
theorem zfy_ {F h:Hp}(d:Dj F h):Same h (un F h):=fun p o e=>by
 unfold un
 rcases d p with z | z
 ·rw [z]; exact e
 ·rw [z] at e; cases e
abbrev owF {α:Type}(T:Ty α):Own α:=⟨fun a v F h=>(∀ p,h p=none)∧T.R a v F,T,fun g ⟨e,h⟩=>⟨e,T.mono g h⟩,fun _ ⟨_,h⟩=>T.mono zb0_ h,fun ⟨e,_⟩ p xs z=>by rw [e] at z; cases z⟩
theorem zac_ {α:Type}{T:Ty α}(i:Imm T):ImmO (owF T):=fun g ⟨e,h⟩=>⟨e,i g h⟩
def one (p:Addr) (o:HO):Hp:=fun q=>if q=p then some o else none
theorem zv_ {p:Addr}{o:HO}:one p o p=some o:=if_pos rfl
abbrev owL {α:Type}(T:Ty α):Own (List α):=⟨fun xs v F h=>∃ p vs,v=.ref p∧h=one p (.lst vs)∧Prs T F xs vs,tyL T,fun g ⟨p,vs,e,z,q⟩=>⟨p,vs,e,z,q.mono g⟩,
 fun d ⟨p,vs,e,z,q⟩=>⟨p,vs,e,zfy_ d _ _ (by rw [z]; exact zv_),q.mono zb0_⟩,
 fun ⟨p,vs,e,z,q⟩ b xs y=>by rw [z] at y; unfold one at y; split at y<;>cases y⟩
theorem zS_ {α:Type}{T:Ty α}(i:Imm T):ImmO (owL T):=fun g ⟨p,vs,e,z,q⟩=>⟨p,vs,e,z,q.imm i g⟩
inductive Sl:Type 1 where
 | dead
 | fz {α:Type}(T:Ty α) (a:α)
 | ow {α:Type}(O:Own α) (a:α)
def Sl.P:Sl→Option V→Hp→Hp→Prop
 | .dead,_,_,_=>True
 | .fz T a,o,F,_=>∃ v,o=some v∧T.R a v F
 | .ow O a,o,F,h=>∃ v,o=some v∧O.O a v F h
def Sl.Z:Sl→Option V→Hp→Prop
 | .dead,_,_=>True
 | .fz T a,o,F=>∃ v,o=some v∧T.R a v F
 | .ow O a,o,F=>∃ v,o=some v∧O.fr.R a v F
def Sl.cold:Sl→Sl
 | .ow _ _=>.dead
 | s=>s
def Hold:List Sl→St→Hp→Hp→Prop
 | [],[],_,_=>True
 | s::L,o::σ,F,h=>∃ h1 h2,Jn h1 h2 h∧s.P o F h1∧Hold L σ F h2
 | _,_,_,_=>False
def HoldF (L:List Sl) (σ:St) (F:Hp):Prop:=∀ (i:Nat) (s:Sl),L[i]?=some s→s.Z (σ[i]?.join) F
theorem Sl.P.mono {s:Sl}{o:Option V}{F F' h:Hp}(g:Same F F') (q:s.P o F h):s.P o F' h:=by
 cases s with
 | dead=>exact q
 | fz T a=>obtain ⟨v,e,r⟩:=q; exact ⟨v,e,T.mono g r⟩
 | ow O a=>obtain ⟨v,e,r⟩:=q; exact ⟨v,e,O.mono g r⟩
theorem Sl.Z.mono {s:Sl}{o:Option V}{F F':Hp}(g:Same F F') (q:s.Z o F):s.Z o F':=by
 cases s with
 | dead=>exact q
 | fz T a=>obtain ⟨v,e,r⟩:=q; exact ⟨v,e,T.mono g r⟩
 | ow O a=>obtain ⟨v,e,r⟩:=q; exact ⟨v,e,O.fr.mono g r⟩
theorem HoldF.mono {L:List Sl}{σ:St}{F F':Hp}(g:Same F F') (q:HoldF L σ F):HoldF L σ F':=fun i s e=>(q i s e).mono g
theorem Hold.mono:∀ {L:List Sl}{σ:St}{F F' h:Hp},Same F F'→Hold L σ F h→Hold L σ F' h
 | [],[],_,_,_,_,q=>q
 | s::L,o::σ,F,F',h,g,⟨h1,h2,j,p,r⟩=>⟨h1,h2,j,p.mono g,r.mono g⟩
 | [],_::_,_,_,_,_,q=>q.elim
 | _::_,[],_,_,_,_,q=>q.elim
theorem Hold.len:∀ {L:List Sl}{σ:St}{F h:Hp},Hold L σ F h→L.length=σ.length
 | [],[],_,_,_=>rfl
 | s::L,o::σ,F,h,⟨h1,h2,j,p,r⟩=>by rw [List.length_cons,List.length_cons,r.len]
 | [],_::_,_,_,q=>q.elim
 | _::_,[],_,_,q=>q.elim
theorem Jn.l {h1 h2 h:Hp}(j:Jn h1 h2 h):Same h1 h:=fun p o e=>by
 rcases j p with ⟨a,b⟩ | ⟨a,b⟩
 ·rw [a] at e; cases e
 ·rw [b]; exact e
theorem Jn.r {h1 h2 h:Hp}(j:Jn h1 h2 h):Same h2 h:=fun p o e=>by
 rcases j p with ⟨a,b⟩ | ⟨a,b⟩
 ·rw [b]; exact e
 ·rw [a] at e; cases e
theorem Jn.dj {h1 h2 h:Hp}(j:Jn h1 h2 h):Dj h1 h2:=fun p=>by
 rcases j p with ⟨a,b⟩ | ⟨a,b⟩
 ·exact .inl a
 ·exact .inr a
theorem zeZ_ {h1 h2:Hp}(d:Dj h1 h2):Jn h1 h2 (un h1 h2):=fun p=>by
 unfold un
 rcases d p with a | a
 ·rw [a]; exact .inl ⟨rfl,rfl⟩
 ·refine .inr ⟨a,?_⟩
  cases h1 p with
  | none=>exact a
  | some o=>rfl
theorem Hold.at:∀ {L:List Sl}{σ:St}{F h:Hp}(i:Nat) {s:Sl},Hold L σ F h→L[i]?=some s →
  ∃ o h1 h2,σ[i]?=some o∧Jn h1 h2 h∧s.P o F h1∧∀ s' o' h1' h',Jn h1' h2 h'→s'.P o' F h1'→Hold (L.set i s') (σ.set i o') F h'
 | [],_,_,_,_,_,_,e=>by cases e
 | s::L,[],_,_,_,_,q,_=>q.elim
 | s::L,o::σ,F,h,0,t,⟨h1,h2,j,p,r⟩,e=>by
  cases e
  exact ⟨o,h1,h2,rfl,j,p,fun s' o' h1' h' j' p'=>⟨h1',h2,j',p',r⟩⟩
 | s::L,o::σ,F,h,i+1,t,⟨h1,h2,j,p,r⟩,e=>by
  obtain ⟨o1,k1,k2,e1,j1,p1,f⟩:=Hold.at i r (by simpa using e)
  have d1:Dj h1 k1:=fun p=>by
   rcases j.dj p with a | a
   ·exact .inl a
   ·exact .inr (j1.l.free a)
  have d2:Dj h1 k2:=fun p=>by
   rcases j.dj p with a | a
   ·exact .inl a
   ·exact .inr (j1.r.free a)
  refine ⟨o1,k1,un h1 k2,by simpa using e1,fun p=>?_,p1,fun s' o' k1' h' j' p'=>?_⟩
  ·rcases j p with ⟨a,b⟩ | ⟨a,b⟩
   ·rcases j1 p with ⟨c,d⟩ | ⟨c,d⟩
    ·refine .inl ⟨c,?_⟩; unfold un; rw [a,b,d]
    ·refine .inr ⟨?_,by rw [b,d]⟩; unfold un; rw [a,c]
   ·refine .inl ⟨j1.l.free a,?_⟩
    have:k2 p=none:=j1.r.free a
    unfold un; rw [b]
    cases h1 p with
    | none=>rw [this]
    | some u=>rfl
  ·have dd:Dj k1' k2:=fun p=>by
    rcases j' p with ⟨a,b⟩ | ⟨a,b⟩
    ·exact .inl a
    ·right; unfold un at a
     cases z:h1 p with
     | none=>rw [z] at a; exact a
     | some u=>rw [z] at a; cases a
   refine ⟨h1,un k1' k2,fun p=>?_,p,f s' o' k1' _ (zeZ_ dd) p'⟩
   rcases j' p with ⟨a,b⟩ | ⟨a,b⟩
   ·unfold un at b ⊢
    cases z:h1 p with
    | none=>rw [z] at b; exact .inl ⟨rfl,by rw [b,a]⟩
    | some u =>
     rw [z] at b
     refine .inr ⟨?_,b⟩
     rw [a]
     rcases d2 p with y | y
     ·rw [y] at z; cases z
     ·exact y
   ·unfold un at a
    cases z:h1 p with
    | some u=>rw [z] at a; cases a
    | none =>
     rw [z] at a
     refine .inl ⟨rfl,?_⟩
     unfold un; rw [b]
     cases k1' p with
     | none=>exact a.symm
     | some u=>rfl
theorem Hold.froz {L:List Sl}{σ:St}{F h:Hp}(d:Dj F h) (q:Hold L σ F h):HoldF L σ (un F h):=by
 intro i s e
 obtain ⟨o,h1,h2,e1,j,p,_⟩:=q.at i e
 rw [e1]
 have d1:Dj F h1:=fun p=>by
  rcases d p with a | a
  ·exact .inl a
  ·exact .inr (j.l.free a)
 cases s with
 | dead=>trivial
 | fz T a=>obtain ⟨v,e2,r⟩:=p; exact ⟨v,e2,T.mono zb0_ r⟩
 | ow O a =>
  obtain ⟨v,e2,r⟩:=p
  refine ⟨v,e2,O.fr.mono (fun p u z=>?_) (O.frz d1 r)⟩
  unfold un at z ⊢
  cases y:F p with
  | some w=>rw [y] at z; exact z
  | none=>rw [y] at z; exact j.l _ _ z
theorem Hold.coldF {L:List Sl}{σ:St}{F h:Hp}(q:Hold L σ F h):HoldF (L.map Sl.cold) σ F:=by
 intro i s e
 rw [List.getElem?_map] at e
 cases e1:L[i]? with
 | none=>rw [e1] at e; cases e
 | some t =>
  rw [e1] at e
  cases e
  obtain ⟨o,h1,h2,e2,j,p,_⟩:=q.at i e1
  rw [e2]
  cases t with
  | dead=>trivial
  | fz T a=>obtain ⟨v,e2,r⟩:=p; exact ⟨v,e2,r⟩
  | ow O a=>trivial
end L2
namespace L2
open PySem PySem.Spec PyProof.Rows
def Av.R:Av→V→Hp→Prop
 | .i n,v,_=>v=.int n
 | .p a b,v,H=>∃ q,v=.ref q∧H q=some (.tup [.int a,.int b])
theorem Av.imm {x:Av}{v:V}{H H':Hp}(g:Tups H H') (h:x.R v H):x.R v H':=by
 cases x with
 | i n=>exact h
 | p a b=>obtain ⟨q,e,z⟩:=h; exact ⟨q,e,g _ _ z⟩
def AtR (as:List (Str×Av)) (fs:List (Str×V)) (F:Hp):Prop:=Paired (fun a f=>a.1=f.1∧a.2.R f.2 F) as fs
theorem AtR.imm {as:List (Str×Av)}{fs:List (Str×V)}{H H':Hp}(g:Tups H H') (h:AtR as fs H):AtR as fs H':=zaF_ (fun _ _ r=>⟨r.1,Av.imm g r.2⟩) h
def Tell (K:Fgg) (E:XK) (x:Xc) (H0 F H:Hp):Prop:=match x with
 | .pl c=>E (.ref (gA K c)) none H
 | .at c as=>∀ dx fs,H0 dx=none→F dx=some (XDO dx fs)→AtR as fs F→E (.ref (gA K c)) (some dx) H
theorem Tell.up {K:Fgg}{E:XK}{x:Xc}{H0 H1 F H:Hp}(s:Same H0 H1) (h:Tell K E x H0 F H):Tell K E x H1 F H:=by
 cases x with
 | pl c=>exact h
 | «at» c as=>exact fun dx fs e=>h dx fs (s.free e)
def After {α:Type}(K:Fgg) (r:Mo α) (E:XK) (F H:Hp) (k:α→Hp→Hp→Prop):Prop:=match r with
 | .ok a=>∀ F' H',Ext F H F' H'→k a F' H'
 | .ex c=>∀ F' H',Ext F H F' H'→Tell K E c H F' H'
 | .no=>False
section
variable {K:Fgg}{E:XK}{α β γ ρ:Type}{F H:Hp}
theorem After.bind {r:Mo α}{f:α→Mo β}{k:β→Hp→Hp→Prop}(h:After K (r.bind f) E F H k):After K r E F H fun a F1 H1=>After K (f a) E F1 H1 k:=by
 cases r with
 | ok a =>
  intro F1 H1 x
  have h':After K (f a) E F H k:=h
  cases e:f a with
  | ok b=>rw [e] at h'; exact fun F2 H2 y=>h' F2 H2 (x.trans y)
  | ex c=>rw [e] at h'; exact fun F2 H2 y=>(h' F2 H2 (x.trans y)).up x.2.2.1
  | no=>rw [e] at h'; exact h'
 | ex c=>exact h
 | no=>exact h
theorem After.imp {r:Mo α}{k k':α→Hp→Hp→Prop}(h:After K r E F H k) (g:∀ a F' H',Ext F H F' H'→k a F' H'→k' a F' H'):After K r E F H k':=by
 cases r with
 | ok a=>exact fun F' H' x=>g a F' H' x (h F' H' x)
 | ex c=>exact h
 | no=>exact h
theorem After.ok {a:α}{k:α→Hp→Hp→Prop}(hs:Same F H) (h:After K (.ok a) E F H k):k a F H:=h F H (.refl hs)
theorem After.noex {r:Mo α}{k:α→Hp→Hp→Prop}(h:After K r.noex E F H k):After K r E0 F H k:=by
 cases r with
 | ok a=>exact h
 | ex c=>exact h.elim
 | no=>exact h
theorem After.lim {n:Nat}{r:Mo α}{k:α→Hp→Hp→Prop}(h:After K (Mo.lim n r) E F H k):n≤sizeLine∧After K r E F H k:=by
 unfold Mo.lim at h
 split at h
 ·exact ⟨by assumption,h⟩
 ·exact h.elim
theorem After.grd {p:Prop} [Decidable p] {r:Mo α}{k:α→Hp→Hp→Prop}(h:After K (Mo.grd p r) E F H k):p∧After K r E F H k:=by
 unfold Mo.grd at h
 split at h
 ·exact ⟨by assumption,h⟩
 ·exact h.elim
theorem After.opt {x:Option α}{k:α→Hp→Hp→Prop}(h:After K (Mo.opt x) E F H k):∃ a,x=some a∧After K (.ok a) E F H k:=by
 cases x with
 | none=>exact h.elim
 | some a=>exact ⟨a,rfl,h⟩
def EvF (K:Fgg) (e:TE) (E:XK) (L:List Sl) (r:Mo α) (T:Ty α):Prop :=
 ∀ σ F H (Q:VK),HoldF L σ F→Same F H→After K r E F H (fun a F' H'=>∀ v,T.R a v F'→Q v H')→e σ H Q
def OwnK (O:Own α) (H:Hp) (Q:VK) (a:α) (F' H':Hp):Prop:=∀ v h,(∀ p,h p≠none→H p=none)→Dj F' h→Same h H'→O.O a v F' h→Q v H'
def EvO (K:Fgg) (e:TE) (E:XK) (L:List Sl) (r:Mo α) (O:Own α):Prop :=
 ∀ σ F H (Q:VK),HoldF L σ F→Same F H→After K r E F H (OwnK O H Q)→e σ H Q
def EvT (K:Fgg) (t:TT) (E:XK) (L:List Sl) (r:Mo Bool):Prop :=
 ∀ σ F H (Q:Bool→Hp→Prop),HoldF L σ F→Same F H→After K r E F H (fun b _ H'=>Q b H')→t σ H Q
def EvA (K:Fgg) (t:TA) (E:XK) (L:List Sl) (r:Mo γ) (C:Cs γ):Prop :=
 ∀ σ F H (Q:List V→Hp→Prop),HoldF L σ F→Same F H→After K r E F H (fun c F' H'=>∀ vs,C.R c vs F'→Q vs H')→t σ H Q
variable {L:List Sl}{e e1 e2:TE}{T:Ty α}{r:Mo α}
theorem EvO.fr {O:Own α}(h:EvO K e E L r O):EvF K e E L r O.fr:=by
 intro σ F H Q hL hs q
 refine h σ F H Q hL hs ?_
 cases r with
 | ok a =>
  intro F' H' x v h' fresh d s o
  refine q (un F' h') H' ⟨x.1.trans zb0_,fun p o e=>?_,x.2.2.1,fun p a b=>?_⟩ v (O.frz d o)
  ·unfold un at e
   cases z:F' p with
   | some w=>rw [z] at e; cases e; exact x.2.1 _ _ z
   | none=>rw [z] at e; exact s _ _ e
  ·unfold un at b
   cases z:F' p with
   | some w=>exact x.2.2.2 p a (by rw [z]; exact Option.some_ne_none _)
   | none=>rw [z] at b; exact fresh p b
 | ex c=>exact q
 | no=>exact q
theorem EvF.ow (h:EvF K e E L r T):EvO K e E L r (owF T):=by
 intro σ F H Q hL hs q
 refine h σ F H Q hL hs (q.imp fun a F' H' x k v hv=>?_)
 exact k v (fun _=>none) (fun p z=>absurd rfl z) (fun p=>.inr rfl) (fun p o z=>by cases z) ⟨fun _=>rfl,hv⟩
theorem ev_c {v:V}{a:α}(h:∀ F,T.R a v F):EvF K (tC v) E L (.ok a) T:=fun σ F H Q hL hs q=>q.ok hs v (h F)
theorem zi_ (i:Int):EvF K (tC (.int i)) E L (.ok i) tyInt:=ev_c fun _=>rfl
theorem zc6_ (l:List Nat):EvF K (tC (tx l)) E L (.ok l) tyStr:=ev_c fun _=>rfl
theorem zlA_ (b:Bool):EvF K (tC (.bl b)) E L (.ok b) tyBl:=ev_c fun _=>rfl
theorem zkp_:EvF K (tC .non) E L (.ok ()) tyNon:=ev_c fun _=>rfl
theorem zj3_ {β:Type}{T:Ty β}:EvF K (tC .non) E L (.ok (none:Option β)) (tyOpt T):=ev_c fun _=>rfl
theorem zjT_ (hn:∀ a v F,T.R a v F→v≠.non) (h:EvF K e E L r T):EvF K e E L (r.bind fun a=>.ok (some a)) (tyOpt T):=by
 intro σ F H Q hL hs q
 exact h σ F H Q hL hs (q.bind.imp fun a F1 H1 x k v hv=>k.ok x.2.1 v ⟨hv,hn _ _ _ hv⟩)
theorem zc_ (i:Nat) {a:α}(h:L[i]?=some (.fz T a)):EvF K (mVar i) E L (.ok a) T:=by
 intro σ F H Q hL hs q
 obtain ⟨v,e,r⟩:=hL i _ h
 unfold mVar
 cases z:σ[i]? with
 | none=>rw [z] at e; cases e
 | some o =>
  rw [z] at e
  cases (show o=some v from e)
  exact q.ok hs v r
theorem zcY_ (i:Nat) {O:Own α}{a:α}(h:L[i]?=some (.ow O a)):EvF K (mVar i) E L (.ok a) O.fr:=by
 intro σ F H Q hL hs q
 obtain ⟨v,e,r⟩:=hL i _ h
 unfold mVar
 cases z:σ[i]? with
 | none=>rw [z] at e; cases e
 | some o =>
  rw [z] at e
  cases (show o=some v from e)
  exact q.ok hs v r
def Op2 (K:Fgg) (m:R2) (E:XK) (T1:Ty α) (T2:Ty β) (g:α→β→Mo γ) (T:Ty γ):Prop :=
 ∀ a b x y F H (Q:VK),Same F H→T1.R a x F→T2.R b y F→After K (g a b) E F H (fun c F' H'=>∀ v,T.R c v F'→Q v H')→m x y H Q
def Op2O (K:Fgg) (m:R2) (E:XK) (T1:Ty α) (T2:Ty β) (g:α→β→Mo γ) (O:Own γ):Prop :=
 ∀ a b x y F H (Q:VK),Same F H→T1.R a x F→T2.R b y F→After K (g a b) E F H (OwnK O H Q)→m x y H Q
theorem OwnK.back {O:Own α}{H H1:Hp}{Q:VK}{a:α}{F' H':Hp}(g:Same H H1) (h:OwnK O H Q a F' H'):OwnK O H1 Q a F' H' :=
 fun v k fresh d s o=>h v k (fun p z=>g.free (fresh p z)) d s o
theorem zo_ {m:R2}{T1:Ty α}{T2:Ty β}{T:Ty γ}{g:α→β→Mo γ}{r1:Mo α}{r2:Mo β}(hop:Op2 K m E T1 T2 g T) (h1:EvF K e1 E L r1 T1) (h2:EvF K e2 E L r2 T2) :
  EvF K (tOp m e1 e2) E L (r1.bind fun a=>r2.bind fun b=>g a b) T:=by
 intro σ F H Q hL hs q
 refine h1 σ F H _ hL hs (q.bind.imp fun a F1 H1 x1 k1 v1 hv1=>?_)
 refine h2 σ F1 H1 _ (hL.mono x1.1) x1.2.1 (k1.bind.imp fun b F2 H2 x2 k2 v2 hv2=>?_)
 exact hop a b v1 v2 F2 H2 Q x2.2.1 (T1.mono x2.1 hv1) hv2 k2
theorem ziJ_ {m:R2}{T1:Ty α}{T2:Ty β}{O:Own γ}{g:α→β→Mo γ}{r1:Mo α}{r2:Mo β}(hop:Op2O K m E T1 T2 g O) (h1:EvF K e1 E L r1 T1) (h2:EvF K e2 E L r2 T2) :
  EvO K (tOp m e1 e2) E L (r1.bind fun a=>r2.bind fun b=>g a b) O:=by
 intro σ F H Q hL hs q
 refine h1 σ F H _ hL hs (q.bind.imp fun a F1 H1 x1 k1 v1 hv1=>?_)
 refine h2 σ F1 H1 _ (hL.mono x1.1) x1.2.1 (k1.bind.imp fun b F2 H2 x2 k2 v2 hv2=>?_)
 exact hop a b v1 v2 F2 H2 Q x2.2.1 (T1.mono x2.1 hv1) hv2 (k2.imp fun c F3 H3 x3 k3=>k3.back (x1.2.2.1.trans x2.2.2.1))
theorem op_i0 {g:Int→Int→V}{f:Int→Int→α}(h:∀ i j F,T.R (f i j) (g i j) F):Op2 K (mI0 g) E tyInt tyInt (fun i j=>.ok (f i j)) T:=by
 intro a b x y F H Q hs hx hy q
 cases hx; cases hy
 exact q.ok hs _ (h a b F)
theorem op_i {C:Int→Int→Prop} [∀ i j,Decidable (C i j)] {g:Int→Int→V}{f:Int→Int→α}(h:∀ i j F,T.R (f i j) (g i j) F):Op2 K (mI C g) E tyInt tyInt (fun i j=>.grd (C i j) (.ok (f i j))) T:=by
 intro a b x y F H Q hs hx hy q
 cases hx; cases hy
 obtain ⟨c,q⟩:=q.grd
 exact ⟨c,q.ok hs _ (h a b F)⟩
instance (i j:Int):Decidable (CMul i j):=inferInstanceAs (Decidable (_∨_))
instance (i j:Int):Decidable (CDiv i j):=inferInstanceAs (Decidable (_∧_))
instance (i j:Int):Decidable (CPow i j):=inferInstanceAs (Decidable (_∧_∧_))
theorem z1_:Op2 K mAdd E tyInt tyInt (fun i j=>.ok (i+j)) tyInt:=by
 intro a b x y F H Q hs hx hy q
 cases hx; cases hy
 exact q.ok hs _ rfl
theorem zaq_:Op2 K mSub E tyInt tyInt (fun i j=>.ok (i-j)) tyInt:=op_i0 fun _ _ _=>rfl
theorem zF_:Op2 K mMod E tyInt tyInt (fun i j=>.grd (0<j) (.ok (i % j))) tyInt:=op_i (C:=fun _ j=>0<j) fun _ _ _=>rfl
theorem zgd_:Op2 K mPow E tyInt tyInt (fun i j=>.grd (CPow i j) (.ok (i ^ j.toNat))) tyInt:=op_i fun _ _ _=>rfl
theorem zoe_:Op2 K mGt E tyInt tyInt (fun i j=>.ok (decide (j<i))) tyBl:=op_i0 fun _ _ _=>rfl
theorem zeg_:Op2 K mAdd E tyStr tyStr (fun i j=>.lim (i.length+j.length) (.ok (i++j))) tyStr:=by
 intro a b x y F H Q hs hx hy q
 cases hx; cases hy
 obtain ⟨c,q⟩:=q.lim
 exact ⟨c,q.ok hs _ rfl⟩
theorem Prs.append {xs ys:List α}{vs us:List V}(a:Prs T H xs vs) (b:Prs T H ys us):Prs T H (xs++ys) (vs++us):=by
 induction a with
 | nil=>exact b
 | cons r t ih=>exact .cons r ih
theorem Prs.len {xs:List α}{vs:List V}(a:Prs T H xs vs):xs.length=vs.length:=Paired.length a
theorem Prs.get {xs:List α}{vs:List V}(a:Prs T H xs vs) (i:Nat):(xs[i]?=none∧vs[i]?=none)∨∃ x v,xs[i]?=some x∧vs[i]?=some v∧T.R x v H:=by
 induction a generalizing i with
 | nil=>exact .inl ⟨rfl,rfl⟩
 | cons r t ih =>
  cases i with
  | zero=>exact .inr ⟨_,_,rfl,rfl,r⟩
  | succ i=>simpa using ih i
theorem Prs.take {xs:List α}{vs:List V}(a:Prs T H xs vs) (n:Nat):Prs T H (xs.take n) (vs.take n):=by
 induction a generalizing n with
 | nil=>rw [List.take_nil,List.take_nil]; exact .nil
 | cons r t ih =>
  cases n with
  | zero=>exact .nil
  | succ n=>exact .cons r (ih n)
theorem Prs.drop {xs:List α}{vs:List V}(a:Prs T H xs vs) (n:Nat):Prs T H (xs.drop n) (vs.drop n):=by
 induction a generalizing n with
 | nil=>rw [List.drop_nil,List.drop_nil]; exact .nil
 | cons r t ih =>
  cases n with
  | zero=>exact .cons r t
  | succ n=>exact ih n
theorem Prs.set {xs:List α}{vs:List V}(a:Prs T H xs vs) (i:Nat) {x:α}{v:V}(q:T.R x v H):Prs T H (xs.set i x) (vs.set i v):=by
 induction a generalizing i with
 | nil=>exact .nil
 | cons r t ih =>
  cases i with
  | zero=>exact .cons q t
  | succ i=>exact .cons r (ih i)
theorem zke_ {vs:List V}{xs:List α}{p:Addr}{F' H':Hp}{Q:VK}(hp:H p=none) (h2:H' p=some (.lst vs)) (hf:F' p=none) (hr:Prs T F' xs vs) (q:OwnK (owL T) H Q xs F' H'):Q (.ref p) H':=by
 refine q (.ref p) (one p (.lst vs)) (fun b z=>?_) (fun b=>?_) (fun b o z=>?_) ⟨p,vs,rfl,rfl,hr⟩
 ·unfold one at z; split at z
  ·rename_i e; rw [e]; exact hp
  ·exact absurd rfl z
 ·unfold one; split
  ·rename_i e; rw [e]; exact .inl hf
  ·exact .inr rfl
 ·unfold one at z; split at z
  ·rename_i e; rw [e]; cases z; exact h2
  ·cases z
theorem zbA_ {vs:List V}{xs:List α}{p:Addr}{Q:VK}(hs:Same F H) (hp:H p=none) (hr:Prs T F xs vs) (q:After K (.ok xs) E F H (OwnK (owL T) H Q)):Q (.ref p) (upd H p (.lst vs)) :=
 zke_ hp zu_ (hs.free hp) hr (q F _ (.heap hs (zaB_ hp _)))
theorem zhb_:Op2O K mAdd E (tyL T) (tyL T) (fun i j=>.lim (i.length+j.length) (.ok (i++j))) (owL T):=by
 rintro a b x y F H Q hs ⟨p,vs,rfl,h1,r1⟩ ⟨p2,us,rfl,h2,r2⟩ q
 obtain ⟨c,q⟩:=q.lim
 exact ⟨vs,us,hs _ _ h1,hs _ _ h2,by rw [← r1.len,← r2.len]; exact c,fun p hp=>zbA_ hs hp (r1.append r2) q⟩
theorem ze_ (h:EvF K e E L r T):EvA K (tCons e tNil) E L r (csLast T):=by
 intro σ F H Q hL hs q
 exact h σ F H _ hL hs (q.imp fun a F1 H1 x k v hv=>k [v] ⟨v,rfl,hv⟩)
theorem zf_ {ta:TA}{r2:Mo γ}{C:Cs γ}(h:EvF K e E L r T) (h2:EvA K ta E L r2 C):EvA K (tCons e ta) E L (r.bind fun a=>r2.bind fun c=>.ok (a,c)) (csCons T C):=by
 intro σ F H Q hL hs q
 refine h σ F H _ hL hs (q.bind.imp fun a F1 H1 x1 k1 v1 hv1=>?_)
 refine h2 σ F1 H1 _ (hL.mono x1.1) x1.2.1 (k1.bind.imp fun c F2 H2 x2 k2 vs hvs=>?_)
 exact k2.ok x2.2.1 (v1::vs) ⟨v1,vs,rfl,T.mono x2.1 hv1,hvs⟩
def Ct (K:Fgg) (C:Cs γ) (f:γ→Mo ρ) (O:Own ρ):Sp:=fun vs H Q E=>∃ F c,Same F H∧C.R c vs F∧After K (f c) E F H (OwnK O H Q)
theorem zj2_ {C:Cs γ}{f:γ→Mo ρ}{O:Own ρ}{ta:TA}{r:Mo γ}(h:EvA K ta E L r C):EvO K (tCall (Ct K C f O) [] E ta) E L (r.bind f) O:=by
 intro σ F H Q hL hs q
 refine h σ F H _ hL hs (q.bind.imp fun c F1 H1 x1 k1 vs hvs=>?_)
 rw [List.append_nil]
 exact ⟨F1,c,x1.2.1,hvs,k1.imp fun r F2 H2 x2 k2=>k2.back x1.2.2.1⟩
theorem zJ_ {C:Cs γ}{f:γ→Mo ρ}{O:Own ρ}{ta:TA}{r:Mo γ}(h:EvA K ta E L r C):EvO K (tCall (Ct K C f O) [] E0 ta) E L (r.bind fun c=>(f c).noex) O:=by
 intro σ F H Q hL hs q
 refine h σ F H _ hL hs (q.bind.imp fun c F1 H1 x1 k1 vs hvs=>?_)
 rw [List.append_nil]
 exact ⟨F1,c,x1.2.1,hvs,k1.noex.imp fun r F2 H2 x2 k2=>k2.back x1.2.2.1⟩
def Bl (K:Fgg) (m:List V→Hp→VK→Prop) (E:XK) (C:Cs γ) (g:γ→Mo α) (T:Ty α):Prop :=
 ∀ c vs F H (Q:VK),Same F H→C.R c vs F→After K (g c) E F H (fun c F' H'=>∀ v,T.R c v F'→Q v H')→m vs H Q
def BlO (K:Fgg) (m:List V→Hp→VK→Prop) (E:XK) (C:Cs γ) (g:γ→Mo α) (O:Own α):Prop :=
 ∀ c vs F H (Q:VK),Same F H→C.R c vs F→After K (g c) E F H (OwnK O H Q)→m vs H Q
theorem zhN_ {m:List V→Hp→VK→Prop}{C:Cs γ}{g:γ→Mo α}{ta:TA}{r:Mo γ}(hb:Bl K m E C g T) (h:EvA K ta E L r C):EvF K (tCB m ta) E L (r.bind g) T:=by
 intro σ F H Q hL hs q
 exact h σ F H _ hL hs (q.bind.imp fun c F1 H1 x1 k1 vs hvs=>hb c vs F1 H1 Q x1.2.1 hvs k1)
theorem zgO_ {m:List V→Hp→VK→Prop}{C:Cs γ}{g:γ→Mo α}{O:Own α}{ta:TA}{r:Mo γ}(hb:BlO K m E C g O) (h:EvA K ta E L r C):EvO K (tCB m ta) E L (r.bind g) O:=by
 intro σ F H Q hL hs q
 exact h σ F H _ hL hs (q.bind.imp fun c F1 H1 x1 k1 vs hvs=>hb c vs F1 H1 Q x1.2.1 hvs (k1.imp fun a F2 H2 x2 k2=>k2.back x1.2.2.1))
theorem zmb_:Bl K (mLen K) E (csLast tyStr) (fun l=>.lim l.length (.ok (l.length:Int))) tyInt:=by
 rintro c vs F H Q hs ⟨v,rfl,rfl⟩ q
 obtain ⟨z,q⟩:=q.lim
 exact ⟨z,q.ok hs _ rfl⟩
theorem zcl_:Bl K (mLen K) E (csLast (tyL T)) (fun l=>.ok (l.length:Int)) tyInt:=by
 rintro c vs F H Q hs ⟨v,rfl,p,us,rfl,h,r⟩ q
 exact ⟨us,.inl (.of (hs _ _ h)),q.ok hs _ (by rw [r.len])⟩
theorem zlx_:Bl K (mLen K) E (csLast (tySc K)) (fun l=>.ok (l.length:Int)) tyInt:=by
 rintro c vs F H Q hs ⟨v,rfl,p,rfl,h⟩ q
 exact ⟨_,.inl (hs.seq h),q.ok hs _ (by rw [List.length_map])⟩
theorem zfO_:BlO K (mList K) E (csLast (tyL T)) (fun l=>.ok l) (owL T):=by
 rintro c vs F H Q hs ⟨v,rfl,p,us,rfl,h,r⟩ q
 exact .inl ⟨us,.inl (.of (hs _ _ h)),fun l hl=>zbA_ hs hl r q⟩
theorem zhl_ {xs:List Int}:Prs tyInt H xs (xs.map V.int):=by
 induction xs with
 | nil=>exact .nil
 | cons x xs ih=>exact .cons rfl ih
theorem ziZ_:Op2 K (mIx K) E tyStr tyInt (fun l i=>.lim l.length (.opt ((atI l i).map fun c=>[c]))) tyStr:=by
 rintro a b x y F H Q hs rfl rfl q
 obtain ⟨z,q⟩:=q.lim
 obtain ⟨l,e,q⟩:=q.opt
 refine ⟨z,?_⟩
 show (match atI a b with | some c=>Q (tx [c]) H | none=>False)
 cases e1:atI a b with
 | none=>rw [e1] at e; cases e
 | some c=>rw [e1] at e; cases e; exact q.ok hs _ rfl
theorem zkj_ {xs:List α}{vs:List V}(r:Prs T H xs vs) {i:Int}{x:α}(e:atI xs i=some x):∃ v,atI vs i=some v∧T.R x v H:=by
 unfold atI at e ⊢
 rw [← r.len]
 cases e1:ixN xs.length i with
 | none=>rw [e1] at e; cases e
 | some j =>
  rw [e1] at e
  rcases r.get j with ⟨a,b⟩ | ⟨y,v,a,b,c⟩
  ·have:xs[j]?=some x:=e
   rw [a] at this; cases this
  ·have:xs[j]?=some x:=e
   rw [a] at this; cases this
   exact ⟨v,b,c⟩
theorem zQ_:Op2 K (mIx K) E (tyL T) tyInt (fun l i=>.opt (atI l i)) T:=by
 rintro a b x y F H Q hs ⟨p,vs,rfl,h,r⟩ rfl q
 obtain ⟨l,e,q⟩:=q.opt
 refine ⟨vs,.inl (.of (hs _ _ h)),?_⟩
 obtain ⟨v,e2,rv⟩:=zkj_ r e
 rw [e2]
 exact q.ok hs v rv
theorem znE_:Op2 K (mIx K) E (tySc K) tyInt (fun l i=>.opt (atI l i)) tyInt:=by
 rintro a b x y F H Q hs ⟨p,rfl,h⟩ rfl q
 obtain ⟨l,e,q⟩:=q.opt
 refine ⟨_,.inl (hs.seq h),?_⟩
 obtain ⟨v,e2,rv⟩:=zkj_ (H:=F) zhl_ e
 rw [e2]
 exact q.ok hs v rv
def CsAt (C:Cs γ) (i:Nat) (T:Ty α) (pr:γ→α):Prop:=∀ {c vs H},C.R c vs H→∃ v,vs[i]?=some v∧T.R (pr c) v H
theorem zaK_:CsAt (csLast T) 0 T id:=fun ⟨v,e,h⟩=>⟨v,by rw [e]; rfl,h⟩
theorem at_0 {C:Cs γ}:CsAt (csCons T C) 0 T Prod.fst:=fun ⟨v,us,e,h,q⟩=>⟨v,by rw [e]; rfl,h⟩
theorem at_s {C:Cs γ}{i:Nat}{pr:γ→α}{T':Ty β}(h:CsAt C i T pr):CsAt (csCons T' C) (i+1) T (fun c=>pr c.2):=fun ⟨v,us,e,_,q⟩=>by
 obtain ⟨w,e2,r⟩:=h q
 exact ⟨w,by rw [e]; exact e2,r⟩
theorem z9_ {C:Cs γ}{i:Nat}{pr:γ→α}{r:Mo γ}(ha:CsAt C i T pr) (h:EvF K e E L r (tyTup C)):EvF K (tOp (mIx K) e (tC (.int i))) E L (r.bind fun c=>.ok (pr c)) T:=by
 intro σ F H Q hL hs q
 refine h σ F H _ hL hs (q.bind.imp fun c F1 H1 x1 k1 v1 hq_=>?_)
 obtain ⟨p,us,ev,hp,hc⟩:=hq_
 subst ev
 obtain ⟨w,e2,rw'⟩:=ha hc
 refine ⟨us,.inr (.of (x1.2.1 _ _ hp)),?_⟩
 have e3:atI us (i:Int)=some w:=by
  unfold atI
  rw [zlj_ (by lia) (by have:=(List.getElem?_eq_some_iff.mp e2).1; lia)]
  simpa using e2
 rw [e3]
 exact k1.ok x1.2.1 w rw'
end
end L2
namespace L2
open PySem PySem.Spec PyProof.Rows
section
variable {K:Fgg}{E:XK}{α β γ ρ:Type}{F H:Hp}{L:List Sl}{e e1 e2:TE}{T:Ty α}{r:Mo α}
variable {t t1 t2:TT}{b b1 b2:Mo Bool}
theorem zR_ (h:EvF K e E L b tyBl):EvT K (mTest e) E L b:=by
 intro σ F H Q hL hs q
 refine h σ F H _ hL hs (q.imp fun a F1 H1 x k v hv=>?_)
 cases hv
 exact k
theorem zku_ (h:EvT K t E L b):EvT K (tNot t) E L (b.bind fun c=>.ok (!c)):=by
 intro σ F H Q hL hs q
 exact h σ F H _ hL hs (q.bind.imp fun a F1 H1 x k=>k.ok x.2.1)
theorem zgT_ (h1:EvT K t1 E L b1) (h2:EvT K t2 E L b2):EvT K (mAnd t1 t2) E L (b1.bind fun c=>if c then b2 else .ok false):=by
 intro σ F H Q hL hs q
 refine h1 σ F H _ hL hs (q.bind.imp fun a F1 H1 x k=>⟨fun c=>?_,fun c=>?_⟩)
 ·rw [if_pos c] at k; exact h2 σ F1 H1 _ (hL.mono x.1) x.2.1 k
 ·rw [if_neg (by rw [c]; decide)] at k; exact k.ok x.2.1
theorem et_or (h1:EvT K t1 E L b1) (h2:EvT K t2 E L b2):EvT K (mOr t1 t2) E L (b1.bind fun c=>if c then .ok true else b2):=by
 intro σ F H Q hL hs q
 refine h1 σ F H _ hL hs (q.bind.imp fun a F1 H1 x k=>⟨fun c=>?_,fun c=>?_⟩)
 ·rw [if_pos c] at k; exact k.ok x.2.1
 ·rw [if_neg (by rw [c]; decide)] at k; exact h2 σ F1 H1 _ (hL.mono x.1) x.2.1 k
theorem zh6_ (h1:EvF K e1 E L b1 tyBl) (h2:EvF K e2 E L b2 tyBl):EvF K (mAndV e1 e2) E L (b1.bind fun c=>if c then b2 else .ok false) tyBl:=by
 intro σ F H Q hL hs q
 refine h1 σ F H _ hL hs (q.bind.imp fun a F1 H1 x k v hv=>?_)
 cases hv
 refine ⟨fun c=>?_,fun c=>?_⟩
 ·rw [if_pos c] at k; exact h2 σ F1 H1 _ (hL.mono x.1) x.2.1 k
 ·rw [if_neg (by rw [c]; decide)] at k; exact k.ok x.2.1 _ rfl
theorem zkw_ (h1:EvF K e1 E L b1 tyBl):EvF K (mNotV e1) E L (b1.bind fun c=>.ok (!c)) tyBl:=by
 intro σ F H Q hL hs q
 refine h1 σ F H _ hL hs (q.bind.imp fun a F1 H1 x k v hv=>?_)
 cases hv
 exact k.ok x.2.1 _ rfl
theorem zmL_ {r:Mo Int}(h1:EvF K e1 E L r tyInt):EvF K (mNeg e1) E L (r.bind fun c=>.ok (-c)) tyInt:=by
 intro σ F H Q hL hs q
 refine h1 σ F H _ hL hs (q.bind.imp fun a F1 H1 x k v hv=>?_)
 cases hv
 exact k.ok x.2.1 _ rfl
theorem After.more {k:α→Hp→Hp→Prop}(h:After K r E F H k):After K r E F H fun a F1 H1=>∀ F2 H2,Ext F1 H1 F2 H2→k a F2 H2:=by
 cases r with
 | ok a=>exact fun F1 H1 x F2 H2 y=>h F2 H2 (x.trans y)
 | ex c=>exact h
 | no=>exact h
def CsN (C:Cs γ) (n:Nat):Prop:=∀ {c vs H},C.R c vs H→vs.length=n
theorem zt_:CsN (csLast T) 1:=fun ⟨v,e,_⟩=>by rw [e]; rfl
theorem zs_ {C:Cs γ}{n:Nat}(h:CsN C n):CsN (csCons T C) (n+1):=fun ⟨v,us,e,_,q⟩=>by rw [e,List.length_cons,h q]
theorem zdy_ {ta:TA}{C:Cs γ}{r:Mo γ}{n:Nat}(hl:CsN C n) (h:EvA K ta E L r C) (hn:n≤100:=by decide):EvF K (tTup ta) E L r (tyTup C):=by
 intro σ F H Q hL hs q
 refine h σ F H _ hL hs (q.more.imp fun c F1 H1 x1 k1 vs hvs=>⟨zcA_ (by rw [hl hvs]; lia),fun p hp=>?_⟩)
 have x:=Ext.new (o:=.tup vs) x1.2.1 hp
 exact k1 _ _ x _ ⟨p,vs,rfl,zu_,C.mono x.1 hvs⟩
def CsL (C:Cs γ) (T:Ty α) (f:γ→List α):Prop:=∀ {c vs H},C.R c vs H→Prs T H (f c) vs
theorem zaU_:CsL (csLast T) T fun a=>[a]:=fun ⟨v,e,h⟩=>by rw [e]; exact .cons h .nil
theorem zab_ {C:Cs γ}{f:γ→List α}(h:CsL C T f):CsL (csCons T C) T fun c=>c.1::f c.2:=fun ⟨v,us,e,q,z⟩=>by rw [e]; exact .cons q (h z)
theorem zdK_ {ta:TA}{C:Cs γ}{r:Mo γ}{n:Nat}{f:γ→List α}(hl:CsN C n) (hf:CsL C T f) (h:EvA K ta E L r C) (hn:n≤100:=by decide):EvO K (tLst ta) E L (r.bind fun c=>.ok (f c)) (owL T):=by
 intro σ F H Q hL hs q
 refine h σ F H _ hL hs (q.bind.imp fun c F1 H1 x1 k1 vs hvs=>⟨zcA_ (by rw [hl hvs]; omega),fun p hp=>?_⟩)
 exact zbA_ x1.2.1 hp (hf hvs) (k1.imp fun a F2 H2 x2 k2=>k2.back x1.2.2.1)
theorem zbv_ (T:Ty α):EvO K (tLst tNil) E L (.ok []) (owL T):=by
 intro σ F H Q hL hs q
 exact ⟨Nat.zero_le _,fun p hp=>zbA_ hs hp (T:=T) .nil q⟩
def EvP (K:Fgg) (t:TO) (E:XK) (L:List Sl) (r:Mo (Option Int)):Prop :=
 ∀ σ F H (Q:Option Int→Hp→Prop),HoldF L σ F→Same F H→After K r E F H (fun b _ H'=>Q b H')→t σ H Q
theorem zkD_:EvP K tNoPart E L (.ok none):=fun σ F H Q hL hs q=>q.ok hs
theorem zd0_ {r:Mo Int}(h:EvF K e E L r tyInt):EvP K (mPart e) E L (r.bind fun i=>.ok (some i)):=by
 intro σ F H Q hL hs q
 refine h σ F H _ hL hs (q.bind.imp fun a F1 H1 x k v hv=>?_)
 cases hv
 exact k.ok x.2.1
def cutG (xs:List α) (lo hi:Option Int):List α:=(xs.drop (HT.sIx xs.length 0 lo)).take (HT.sIx xs.length xs.length hi-HT.sIx xs.length 0 lo)
theorem zjI_ {xs:List α}{vs:List V}(q:Prs T H xs vs) (lo hi:Option Int):Prs T H (cutG xs lo hi) (cutV vs lo hi):=by
 unfold cutG cutV
 rw [← q.len]
 exact (q.drop _).take _
variable {tl th:TO}{rl rh:Mo (Option Int)}
theorem zeH_ {r:Mo (List Nat)}(h:EvF K e E L r tyStr) (hl:EvP K tl E L rl) (hh:EvP K th E L rh):EvF K (tSl (mSl K) e tl th) E L (r.bind fun l=>rl.bind fun a=>rh.bind fun b=>.lim l.length (.ok (cutG l a b))) tyStr:=by
 intro σ F H Q hL hs q
 refine h σ F H _ hL hs (q.bind.imp fun l F1 H1 x1 k1 v hv=>?_)
 refine hl σ F1 H1 _ (hL.mono x1.1) x1.2.1 (k1.bind.imp fun a F2 H2 x2 k2=>?_)
 refine hh σ F2 H2 _ (hL.mono (x1.1.trans x2.1)) x2.2.1 (k2.bind.imp fun b F3 H3 x3 k3=>?_)
 cases hv
 obtain ⟨z,k3⟩:=k3.lim
 exact ⟨z,k3.ok x3.2.1 _ rfl⟩
theorem zkt_ {r:Mo (List α)}(h:EvF K e E L r (tyL T)) (hl:EvP K tl E L rl) (hh:EvP K th E L rh):EvO K (tSl (mSl K) e tl th) E L (r.bind fun l=>rl.bind fun a=>rh.bind fun b=>.ok (cutG l a b)) (owL T):=by
 intro σ F H Q hL hs q
 refine h σ F H _ hL hs (q.bind.imp fun l F1 H1 x1 k1 v hv=>?_)
 refine hl σ F1 H1 _ (hL.mono x1.1) x1.2.1 (k1.bind.imp fun a F2 H2 x2 k2=>?_)
 refine hh σ F2 H2 _ (hL.mono (x1.1.trans x2.1)) x2.2.1 (k2.bind.imp fun b F3 H3 x3 k3=>?_)
 obtain ⟨p,vs,rfl,hp,hr⟩:=hv
 have x:=x2.1.trans x3.1
 exact ⟨vs,.of (x3.2.1 _ _ (x _ _ hp)),fun q hq=>zbA_ x3.2.1 hq (zjI_ (hr.mono x) a b) (k3.imp fun _ _ _ _ z=>z.back ((x1.2.2.1.trans x2.2.2.1).trans x3.2.2.1))⟩
theorem zm5_ {r:Mo (List Int)}(h:EvF K e E L r (tySc K)) (hl:EvP K tl E L rl) (hh:EvP K th E L rh):EvO K (tSl (mSl K) e tl th) E L (r.bind fun l=>rl.bind fun a=>rh.bind fun b=>.ok (cutG l a b)) (owL tyInt):=by
 intro σ F H Q hL hs q
 refine h σ F H _ hL hs (q.bind.imp fun l F1 H1 x1 k1 v hv=>?_)
 refine hl σ F1 H1 _ (hL.mono x1.1) x1.2.1 (k1.bind.imp fun a F2 H2 x2 k2=>?_)
 refine hh σ F2 H2 _ (hL.mono (x1.1.trans x2.1)) x2.2.1 (k2.bind.imp fun b F3 H3 x3 k3=>?_)
 obtain ⟨p,rfl,hp⟩:=hv
 have x:=x2.1.trans x3.1
 exact ⟨_,x3.2.1.seq (x.seq hp),fun q hq=>zbA_ x3.2.1 hq (zjI_ zhl_ a b) (k3.imp fun _ _ _ _ z=>z.back ((x1.2.2.1.trans x2.2.2.1).trans x3.2.2.1))⟩
structure EqT (K:Fgg) (T:Ty α) (n:Nat) (q:α→α→Bool):Prop where
 eq:∀ {a b x y H},T.R a x H→T.R b y H→EqD K H n x y (q a b)
theorem zhD_:EqT K tyInt 0 (fun a b=>decide (a=b)):=⟨by
 rintro a b x y H rfl rfl
 have:eqV (.int a) (.int b)=decide (a=b):=by unfold eqV; exact rfl
 rw [← this]; exact .flat rfl rfl⟩
theorem zmc_:EqT K tyStr 0 (fun a b=>decide (a=b)):=⟨by
 rintro a b x y H rfl rfl
 have:eqV (tx a) (tx b)=decide (a=b):=by
  unfold eqV
  rw [Bool.eq_iff_iff,decide_eq_true_iff]
  constructor
  ·intro h
   have h:=eq_of_beq h
   injection h with h
   have:=congrArg Array.toList h
   simpa using this
  ·rintro rfl; exact beq_self_eq_true _
 rw [← this]; exact .flat rfl rfl⟩
def eqL (q:α→α→Bool):List α→List α→Bool
 | [],[]=>true
 | x::xs,y::ys=>q x y && eqL q xs ys
 | _,_=>false
theorem zj5_ {q:α→α→Bool}:∀ {xs ys:List α},xs.length≠ys.length→eqL q xs ys=false
 | [],[],h=>absurd rfl h
 | [],_::_,_=>rfl
 | _::_,[],_=>rfl
 | x::xs,y::ys,h=>by unfold eqL; rw [zj5_ (by simpa using h),Bool.and_false]
theorem zjL_ {q:α→α→Bool}:∀ {xs ys:List α},xs.length=ys.length→eqL q xs ys=(List.range xs.length).all fun i=>match xs[i]?,ys[i]? with | some x,some y=>q x y | _,_=>true
 | [],[],_=>rfl
 | x::xs,y::ys,h=>by
  unfold eqL
  rw [List.length_cons,List.range_succ_eq_map,List.all_cons,List.all_map,zjL_ (by simpa using h)]
  rfl
theorem zm3_ {n:Nat}{q:α→α→Bool}(h:EqT K T n q):EqT K (tyL T) (n+1) (eqL q):=⟨by
 rintro a b x y H ⟨p,vs,rfl,hp,hr⟩ ⟨p2,us,rfl,hp2,hr2⟩
 by_cases hl:a.length=b.length
 ·rw [zjL_ hl,hr.len]
  refine .lst _ (.of hp) (.of hp2) (by rw [← hr.len,← hr2.len,hl]) fun i x y hx hy=>?_
  rcases hr.get i with ⟨_,z⟩ | ⟨x1,v1,e1,e2,r1⟩
  ·rw [z] at hx; cases hx
  rcases hr2.get i with ⟨_,z⟩ | ⟨x2,v2,e3,e4,r2⟩
  ·rw [z] at hy; cases hy
  rw [e2] at hx; cases hx
  rw [e4] at hy; cases hy
  simp only [e1,e3]
  exact h.eq r1 r2
 ·rw [zj5_ hl]
  exact .lstN (.of hp) (.of hp2) (by rw [← hr.len,← hr2.len]; exact hl)⟩
theorem zoc_ {n:Nat}{q:α→α→Bool}(h:EqT K T n q) (hn:n≤50:=by decide) (hr:∀ {a x H},T.R a x H→∃ p,x=.ref p):Op2 K (mNeK K) E T T (fun a b=>.ok (!(q a b))) tyBl:=by
 intro a b x y F H Q hs hx hy k
 have hd:=h.eq (T.mono hs hx) (T.mono hs hy)
 obtain ⟨p,rfl⟩:=hr hx
 obtain ⟨p2,rfl⟩:=hr hy
 exact ⟨n,_,hn,hd,k.ok hs _ rfl⟩
theorem ref_l {a:List α}{x:V}{H:Hp}(h:(tyL T).R a x H):∃ p,x=.ref p:=by obtain ⟨p,_,e,_⟩:=h; exact ⟨p,e⟩
theorem zjc_ {n:Nat}{q:α→α→Bool}(h:EqT K (tyL T) n (eqL q)) (hn:n≤50:=by decide):Op2 K (mNeK K) E (tyL T) (tyL T) (fun a b=>.ok (!(eqL q a b))) tyBl:=zoc_ h hn ref_l
theorem zdM_:Op2 K (mEqK K) E tyInt tyInt (fun a b=>.ok (decide (a=b))) tyBl:=by
 rintro a b x y F H Q hs rfl rfl k
 exact k.ok hs _ rfl
theorem zm6_:Op2 K (mNeK K) E tyInt tyInt (fun a b=>.ok (!decide (a=b))) tyBl:=by
 rintro a b x y F H Q hs rfl rfl k
 exact k.ok hs _ rfl
theorem op_isNo:Op2 K mIs E (tyOpt T) tyNon (fun a _=>.ok a.isNone) tyBl:=by
 rintro a b x y F H Q hs hx rfl k
 have:decide (x=.non)=a.isNone:=by
  cases a with
  | none=>cases hx; rfl
  | some a=>exact decide_eq_false hx.2
 show (match mIsB x .non with | some b=>Q (.bl b) H | none=>False)
 have e:mIsB x .non=some (decide (x=.non)):=rfl
 rw [e,this]
 exact k.ok hs _ rfl
theorem ze2_:Op2 K mIsNot E (tyOpt T) tyNon (fun a _=>.ok a.isSome) tyBl:=by
 rintro a b x y F H Q hs hx rfl k
 have:(!decide (x=.non))=a.isSome:=by
  cases a with
  | none=>cases hx; rfl
  | some a=>rw [decide_eq_false hx.2]; rfl
 show (match mIsB x .non with | some b=>Q (.bl (!b)) H | none=>False)
 have e:mIsB x .non=some (decide (x=.non)):=rfl
 rw [e]
 show Q (.bl (!decide (x=.non))) H
 rw [this]
 exact k.ok hs _ rfl
theorem zox_:Op2 K (mIn K false) E tyStr tyStr (fun a b=>.ok (inS a b)) tyBl:=by
 rintro a b x y F H Q hs rfl rfl k
 exact k.ok hs _ rfl
structure Flt (T:Ty α) (q:α→α→Bool):Prop where
 flat:∀ {a x H},T.R a x H→flatV x=true
 eq:∀ {a b x y H},T.R a x H→T.R b y H→eqV x y=q a b
theorem zm7_ {q:α→α→Bool}(f:Flt T q) {H:Hp}{a:α}{x:V}(ha:T.R a x H) {xs:List α}{vs:List V}(r:Prs T H xs vs):vs.all flatV=true∧inV x vs=xs.any fun y=>q y a:=by
 induction r with
 | nil=>exact ⟨rfl,rfl⟩
 | cons r t ih =>
  refine ⟨by rw [List.all_cons,f.flat r,ih.1]; rfl,?_⟩
  unfold inV at ih ⊢
  rw [List.any_cons,List.any_cons,f.eq r ha,ih.2]
theorem zmZ_ {q:α→α→Bool}(f:Flt T q):Op2 K (mIn K true) E T (tyL T) (fun a b=>.ok (!(b.any fun y=>q y a))) tyBl:=by
 rintro a b x y F H Q hs hx ⟨p,vs,rfl,hp,hr⟩ k
 obtain ⟨h1,h2⟩:=zm7_ f hx hr
 refine ⟨vs,.inl (.of (hs _ _ hp)),f.flat hx,h1,?_⟩
 rw [h2]
 exact k.ok hs _ rfl
def TyN (K:Fgg) (T:Ty α) (n:String):Prop:=∀ {a x H},T.R a x H→tyS K H x n
theorem zmq_:TyN K tyInt "int" := fun h=>by cases h; rfl
theorem zl7_ {x:V}{n c:String}{bb:Bool}{Q:VK}(h:tyS K H x n) (hb:isaB n c=some bb) (q:Q (.bl bb) H):mIsa K [x,.ty c] H Q:=by
 cases x with
 | non=>cases (show n=_ from h); show (match isaB "NoneType" c with | some b=>Q (.bl b) H | none=>False); rw [hb]; exact q
 | bl _=>cases (show n=_ from h); show (match isaB "bool" c with | some b=>Q (.bl b) H | none=>False); rw [hb]; exact q
 | int _=>cases (show n=_ from h); show (match isaB "int" c with | some b=>Q (.bl b) H | none=>False); rw [hb]; exact q
 | str _=>cases (show n=_ from h); show (match isaB "str" c with | some b=>Q (.bl b) H | none=>False); rw [hb]; exact q
 | ref p=>exact ⟨n,h,by rw [hb]; exact q⟩
 | _=>exact h.elim
theorem zma_ {n c:String}{bb:Bool}(hn:TyN K T n) (h:EvF K e E L r T) (hb:isaB n c=some bb:=by decide):EvF K (tCB (mIsa K) (tCons e (tCons (tC (.ty c)) tNil))) E L (r.bind fun _=>.ok bb) tyBl:=by
 intro σ F H Q hL hs q
 refine h σ F H _ hL hs (q.bind.imp fun l F1 H1 x1 k1 v hv=>?_)
 exact zl7_ (hn (T.mono x1.2.1 hv)) hb (k1.ok x1.2.1 _ rfl)
def Me (K:Fgg) (m:V→List V→Hp→VK→Prop) (E:XK) (C:Cs γ) (g:List Nat→γ→Mo α) (T:Ty α):Prop :=
 ∀ l c vs F H (Q:VK),Same F H→C.R c vs F→After K (g l c) E F H (fun c F' H'=>∀ v,T.R c v F'→Q v H')→m (tx l) vs H Q
theorem ev_me {m:V→List V→Hp→VK→Prop}{C:Cs γ}{g:List Nat→γ→Mo α}{ta:TA}{r0:Mo (List Nat)}{r:Mo γ}(hb:Me K m E C g T) (h0:EvF K e E L r0 tyStr) (h:EvA K ta E L r C):EvF K (tBM K "str" m e ta) E L (r0.bind fun l=>r.bind fun c=>g l c) T:=by
 intro σ F H Q hL hs q
 refine h0 σ F H _ hL hs (q.bind.imp fun l F1 H1 x1 k1 v hv=>?_)
 cases hv
 refine ⟨rfl,h σ F1 H1 _ (hL.mono x1.1) x1.2.1 (k1.bind.imp fun c F2 H2 x2 k2 vs hvs=>hb l c vs F2 H2 Q x2.2.1 hvs k2)⟩
theorem zkW_:Me K mIndex E (csLast tyStr) (fun l c=>.grd (findS l c ≠ -1) (.ok (findS l c))) tyInt:=by
 rintro l c vs F H Q hs ⟨v,rfl,rfl⟩ k
 obtain ⟨z,k⟩:=k.grd
 exact ⟨z,k.ok hs _ rfl⟩
end
end L2
namespace L2
open PySem PySem.Spec PyProof.Rows
section
variable {K:Fgg}{E:XK}{α β γ ρ S S' B:Type}{F H:Hp}{L:List Sl}{e e1 e2:TE}{T:Ty α}{r:Mo α}
def setL (L:List Sl) (ss:List (Nat×Sl)):List Sl:=ss.foldl (fun L q=>L.set q.1 q.2) L
def setS (σ:St) (ss:List (Nat×Option V)):St:=ss.foldl (fun L q=>L.set q.1 q.2) σ
inductive Plain (F:Hp):List (Nat×Sl)→List (Nat×Option V)→Prop
 | nil:Plain F [] []
 | cons {α:Type}{T:Ty α}{a:α}{i:Nat}{v:V}{ss vs} (h:T.R a v F) (t:Plain F ss vs):Plain F ((i,.fz T a)::ss) ((i,some v)::vs)
def TgR (K:Fgg) (g:TG) (T:Ty α) (ss:α→List (Nat×Sl)):Prop :=
 ∀ a v σ F H (Q:St→Hp→Prop),Same F H→T.R a v F→(∀ vs,Plain F (ss a) vs→Q (setS σ vs) H)→g v σ H Q
theorem z0_ (i:Nat):TgR K (gName i) T fun a=>[(i,.fz T a)]:=by
 intro a v σ F H Q hs hv q
 exact q [(i,some v)] (.cons hv .nil)
def TgC (K:Fgg) (g:TGs) (C:Cs γ) (ss:γ→List (Nat×Sl)):Prop :=
 ∀ a vs σ F H (Q:St→Hp→Prop),Same F H→C.R a vs F→(∀ us,Plain F (ss a) us→Q (setS σ us) H)→g vs σ H Q
theorem zmV_ {g:TG}{ss:α→List (Nat×Sl)}(h:TgR K g T ss):TgC K (gConsM g gNilM) (csLast T) ss:=by
 rintro a vs σ F H Q hs ⟨v,rfl,hv⟩ q
 exact h a v σ F H _ hs hv fun us hu=>q us hu
theorem znt_ (i:Nat) {g:TGs}{C:Cs γ}{ss:γ→List (Nat×Sl)}(h:TgC K g C ss):TgC K (gConsM (gName i) g) (csCons T C) fun c=>(i,.fz T c.1)::ss c.2:=by
 rintro a vs σ F H Q hs ⟨v,us,rfl,hv,hc⟩ q
 exact h a.2 us _ F H _ hs hc fun ws hw=>q ((i,some v)::ws) (.cons hv hw)
theorem zn2_ {n:Nat}{g:TGs}{C:Cs γ}{ss:γ→List (Nat×Sl)}(hn:CsN C n) (h:TgC K g C ss):TgR K (gTupM K n g) (tyTup C) ss:=by
 rintro a v σ F H Q hs ⟨p,us,rfl,hp,hc⟩ q
 exact ⟨us,.of (hs _ _ hp),hn hc,h a us σ F H Q hs hc q⟩
theorem ze0_ {σ:St}{i j:Nat}{o:Option V}(h:i<σ.length):((σ.set i o)[j]?).join=if i=j then o else (σ[j]?).join:=by
 rw [List.getElem?_set]
 split
 ·rename_i e; subst e; first | rfl | (rw [if_pos h]; rfl)
 ·rfl
theorem zi7_ {σ:St}{i:Nat}{s:Sl}{o:Option V}(hl:L.length=σ.length) (h:HoldF L σ F) (hs:s.Z o F):HoldF (L.set i s) (σ.set i o) F:=by
 intro j t e
 rw [List.getElem?_set] at e
 split at e
 ·rename_i z; subst z
  split at e
  ·rename_i y; cases e
   rw [ze0_ (by rw [← hl]; exact y),if_pos rfl]; exact hs
  ·cases e
 ·rename_i z
  by_cases y:i<σ.length
  ·rw [ze0_ y,if_neg z]; exact h j t e
  ·rw [List.set_eq_of_length_le (by lia)]; exact h j t e
theorem zdg_ {ss:List (Nat×Sl)}{vs:List (Nat×Option V)}(p:Plain F ss vs):∀ {L:List Sl}{σ:St},L.length=σ.length→HoldF L σ F→HoldF (setL L ss) (setS σ vs) F∧(setS σ vs).length=σ.length∧(setL L ss).length=L.length:=by
 induction p with
 | nil=>exact fun hl h=>⟨h,rfl,rfl⟩
 | cons hv t ih =>
  rename_i T a i v ss vs
  intro L σ hl h
  obtain ⟨a1,b,c⟩:=ih (L:=L.set i (.fz T a)) (σ:=σ.set i (some v)) (by rw [List.length_set,List.length_set]; exact hl) (zi7_ (s:=.fz T a) hl h ⟨v,rfl,hv⟩)
  exact ⟨a1,b.trans (by rw [List.length_set]),c.trans (by rw [List.length_set])⟩
def DeadAt (L:List Sl) (is:List Nat):Prop:=∀ i∈is,∀ s,L[i]?=some s→s=.dead
theorem zhV_ {ss:List (Nat×Sl)}{vs:List (Nat×Option V)}(p:Plain F ss vs):∀ {L:List Sl}{σ:St},L.length=σ.length→DeadAt L (ss.map (·.1))→HoldF L σ F→HoldF L (setS σ vs) F:=by
 induction p with
 | nil=>exact fun hl d h=>h
 | cons hv t ih =>
  rename_i i v ss vs
  intro L σ hl d h
  refine ih (σ:=σ.set i (some v)) (by rw [List.length_set]; exact hl) (fun j hj=>d j (List.mem_cons_of_mem _ hj)) fun j s e=>?_
  by_cases y:i<σ.length
  ·rw [ze0_ y]
   split
   ·rename_i z; subst z
    rw [d i List.mem_cons_self s e]; trivial
   ·exact h j s e
  ·rw [List.set_eq_of_length_le (by lia)]; exact h j s e
theorem zg6_ {ss:List (Nat×Sl)}{vs:List (Nat×Option V)}(p:Plain F ss vs) {j:Nat}:∀ {σ:St},j∉ss.map (·.1)→(setS σ vs)[j]?=σ[j]?:=by
 induction p with
 | nil=>exact fun _=>rfl
 | cons hv t ih =>
  rename_i i v ss vs
  intro σ hj
  have h1:i≠j:=fun z=>hj (by rw [← z]; exact List.mem_cons_self)
  have h2:=ih (σ:=σ.set i (some v)) fun z=>hj (List.mem_cons_of_mem _ z)
  exact h2.trans (List.getElem?_set_ne h1)
structure Yl (K:Fgg) (J:It) (xs:List α) (T:Ty α) (F1:Hp):Prop where
 go:∀ i H x,Same F1 H→xs[i]?=some x→J.go i H∧∀ v H',J.yld i H v H'→∀ F,Same F1 F→Same F H→∃ F',Ext F H F' H'∧T.R x v F'
 stop:∀ H,Same F1 H→J.stop xs.length H
def EvI (K:Fgg) (wi:TI) (E:XK) (L:List Sl) (r:Mo (List α)) (T:Ty α):Prop :=
 ∀ σ F H (R:It→Hp→Prop),HoldF L σ F→Same F H→After K r E F H (fun xs F' H'=>∀ J,Yl K J xs T F'→R J H')→wi σ H R
theorem ei_l {r:Mo (List α)}(h:EvF K e E L r (tyL T)):EvI K (iAny K e) E L r T:=by
 intro σ F H R hL hs q
 refine h σ F H _ hL hs (q.imp fun l F1 H1 x1 k1 v hv=>?_)
 obtain ⟨p,vs,rfl,hp,hr⟩:=hv
 refine .inl ⟨⟨vs,.of (x1.2.1 _ _ hp)⟩,k1 _ ⟨fun i H x hH hx=>?_,fun H hH=>⟨vs,.of (hH _ _ hp),by rw [hr.len]; exact Nat.le_refl _⟩⟩⟩
 rcases hr.get i with ⟨a,_⟩ | ⟨y,u,a,b,c⟩
 ·rw [a] at hx; cases hx
 ·rw [a] at hx; cases hx
  refine ⟨⟨vs,u,.of (hH _ _ hp),b⟩,?_⟩
  rintro v H' ⟨rfl,z⟩ F hF hF'
  have e:=z vs (.of (hH _ _ hp))
  rw [b] at e; cases e
  exact ⟨F,.refl hF',T.mono hF c⟩
def rngI (lo:Int) (n:Nat):List Int:=(List.range n).map fun (i:Nat)=>lo+i
theorem zmg_ {lo:Int}{n:Nat}{F1:Hp}:Yl K (Itr lo n) (rngI lo n) tyInt F1:=by
 refine ⟨fun i H x hH hx=>?_,fun H hH=>?_⟩
 ·unfold rngI at hx
  rw [List.getElem?_map] at hx
  cases e:(List.range n)[i]? with
  | none=>rw [e] at hx; cases hx
  | some c =>
   rw [e] at hx; cases hx
   obtain ⟨hi,e⟩:=List.getElem?_eq_some_iff.mp e
   rw [List.getElem_range] at e; subst e
   rw [List.length_range] at hi
   refine ⟨hi,?_⟩
   rintro v H' ⟨rfl,rfl⟩ F _ hF
   exact ⟨F,.refl hF,rfl⟩
 ·show n≤_
  unfold rngI; rw [List.length_map,List.length_range]; exact Nat.le_refl _
theorem zcM_ {r:Mo Int}{ta:TA}(h:EvA K ta E L r (csLast tyInt)):EvI K (mRng1 ta) E L (r.bind fun j=>.grd (-(2 ^ 62)≤j∧j<2 ^ 62) (.ok (rngI 0 j.toNat))) tyInt:=by
 intro σ F H R hL hs q
 refine h σ F H _ hL hs (q.bind.imp fun l F1 H1 x1 k1 v hv=>?_)
 obtain ⟨u,rfl,rfl⟩:=hv
 obtain ⟨z,k1⟩:=k1.grd
 exact ⟨z.1,z.2,k1.ok x1.2.1 _ zmg_⟩
theorem zif_ {r:Mo (Int×Int)}{ta:TA}(h:EvA K ta E L r (csCons tyInt (csLast tyInt))):EvI K (mRng2 ta) E L (r.bind fun c=>.grd (-(2 ^ 62)≤c.1∧c.1<2 ^ 62 ∧ -(2 ^ 62)≤c.2∧c.2<2 ^ 62) (.ok (rngI c.1 (c.2-c.1).toNat))) tyInt:=by
 intro σ F H R hL hs q
 refine h σ F H _ hL hs (q.bind.imp fun l F1 H1 x1 k1 v hv=>?_)
 obtain ⟨u,us,rfl,rfl,w,rfl,rfl⟩:=hv
 obtain ⟨z,k1⟩:=k1.grd
 exact ⟨z,k1.ok x1.2.1 _ zmg_⟩
def compM (f:α→Mo (Option β)):List α→List β→Mo (List β)
 | [],acc=>.ok acc
 | x::xs,acc=>(f x).bind fun o=>match o with | none=>compM f xs acc | some y=>.lim (acc.length+1) (compM f xs (acc++[y]))
theorem zbp_ {f:α→Mo (Option β)}{g:α→β}:∀ {xs:List α}{acc:List β},(∀ x∈xs,f x=.ok (some (g x)))→acc.length+xs.length≤100000→compM f xs acc=.ok (acc++xs.map g)
 | [],acc,_,_=>by unfold compM; rw [List.map_nil,List.append_nil]
 | x::xs,acc,h,hl=>by
  rw [List.length_cons] at hl
  unfold compM
  rw [h x List.mem_cons_self,Mo.ok_bind]
  show Mo.lim _ _=_
  rw [Mo.lim_ok (by lia),zbp_ (fun y hy=>h y (List.mem_cons_of_mem _ hy)) (by rw [List.length_append,List.length_singleton]; lia)]
  simp
theorem zaz_ {f:α→Mo (Option β)}{g:α→Option β}:∀ {xs:List α}{acc:List β},(∀ x∈xs,f x=.ok (g x))→acc.length+xs.length≤100000→compM f xs acc=.ok (acc++xs.filterMap g)
 | [],acc,_,_=>by unfold compM; rw [List.filterMap_nil,List.append_nil]
 | x::xs,acc,h,hl=>by
  rw [List.length_cons] at hl
  unfold compM
  rw [h x List.mem_cons_self,Mo.ok_bind,List.filterMap_cons]
  cases e:g x with
  | none=>exact zaz_ (fun y hy=>h y (List.mem_cons_of_mem _ hy)) (by lia)
  | some z =>
   show Mo.lim _ _=_
   rw [Mo.lim_ok (by lia),zaz_ (fun y hy=>h y (List.mem_cons_of_mem _ hy)) (by rw [List.length_append,List.length_singleton]; lia)]
   simp
theorem zcV_ {f:α→Mo (Option α)}{g:α→Bool}{xs acc:List α}(h:∀ x∈xs,f x=.ok (if g x then some x else none)) (hl:acc.length+xs.length≤100000):compM f xs acc=.ok (acc++xs.filter g):=by
 rw [zaz_ h hl]
 congr 2
 induction xs with
 | nil=>rfl
 | cons x xs ih =>
  rw [List.filterMap_cons,List.filter_cons]
  cases e:g x with
  | true=>simp only [if_true]; rw [ih (fun y hy=>h y (List.mem_cons_of_mem _ hy)) (by rw [List.length_cons] at hl; lia)]
  | false=>exact ih (fun y hy=>h y (List.mem_cons_of_mem _ hy)) (by rw [List.length_cons] at hl; lia)
def cL (lv:List Str) (fr:List (Str×Nat)) (L:List Sl):List Sl:=lv.map (fun _=>Sl.dead)++fr.map fun q=>(L[q.2]?).getD .dead
theorem zeh_ {lv:List Str}{fr:List (Str×Nat)}{σ:St}(h:HoldF L σ F):HoldF (cL lv fr L) (cS lv fr σ) F:=by
 intro i s e
 unfold cL at e
 unfold cS
 by_cases hi:i<lv.length
 ·rw [List.getElem?_append_left (by rw [List.length_map]; exact hi),List.getElem?_map,List.getElem?_eq_getElem hi] at e
  cases e; trivial
 ·rw [List.getElem?_append_right (by rw [List.length_map]; lia),List.length_map,List.getElem?_map] at e
  rw [List.getElem?_append_right (by rw [List.length_map]; lia),List.length_map,List.getElem?_map]
  cases z:fr[i-lv.length]? with
  | none=>rw [z] at e; cases e
  | some q =>
   rw [z] at e
   have e:(L[q.2]?).getD .dead=s:=by simpa using e
   show Sl.Z s (σ[q.2]?).join F
   cases y:L[q.2]? with
   | none=>rw [y] at e; rw [← e]; trivial
   | some t=>rw [y] at e; cases e; exact h _ _ y
theorem zhf_ {lv:List Str}{fr:List (Str×Nat)}{σ:St}:(cL lv fr L).length=(cS lv fr σ).length:=by unfold cL cS; simp
def cond1 (c:Mo Bool) (f:Mo β):Mo (Option β):=(c.bind fun b=>if b then f.bind fun y=>.ok (some y) else .ok none).noex
theorem zds_ {lv:List Str}{fr:List (Str×Nat)}{wi:TI}{g:TG}{tt:TT}{te:TE}{r:Mo (List α)}{ss:α→List (Nat×Sl)}{c:α→Mo Bool}{f:α→Mo β}{T':Ty β}
  (hi:EvI K wi E L r T) (hg:TgR K g T ss) (hd:∀ a,DeadAt (cL lv fr L) ((ss a).map (·.1))) (ht:∀ a,EvT K tt E0 (setL (cL lv fr L) (ss a)) (c a)) (he:∀ a,EvF K te E0 (setL (cL lv fr L) (ss a)) (f a) T') :
  EvO K (tComp lv fr wi g tt te) E L (r.bind fun xs=>compM (fun x=>cond1 (c x) (f x)) xs []) (owL T'):=by
 intro σ F0 H0 Q hL hs q
 refine hi σ F0 H0 _ hL hs (q.bind.imp fun xs F1 H1 x1 k1 J Y D hD=>?_)
 have hL1:=hL.mono x1.1
 refine ⟨fun i m ys σ' H'=>m=xs.length-i∧i≤xs.length∧∃ acc Fi,Ext F1 H1 Fi H'∧Fi D=none∧H' D=some (.lst ys)∧Prs T' Fi acc ys∧HoldF (cL lv fr L) σ' F1∧σ'.length=(cL lv fr L).length∧After K (compM (fun x=>cond1 (c x) (f x)) (xs.drop i) acc) E F1 H1 (OwnK (owL T') H0 Q),
  ⟨_,rfl,Nat.zero_le _,[],F1,.heap x1.2.1 (zaB_ hD _),x1.2.1.free hD,zu_,.nil,zeh_ hL1,zhf_.symm,k1⟩,?_⟩
 rintro i m ys σ' H' ⟨rfl,hi,acc,Fi,xi,hDi,hy,hp,hσ,hln,A⟩
 by_cases hlt:i<xs.length
 ·right
  have ex:xs[i]?=some xs[i]:=List.getElem?_eq_getElem hlt
  obtain ⟨g1,g2⟩:=Y.go i H' xs[i] (xi.1.trans xi.2.1) ex
  refine ⟨g1,fun ys' σ'' H''=>i+1≤xs.length∧∃ acc Fi,Ext F1 H1 Fi H''∧Fi D=none∧H'' D=some (.lst ys')∧Prs T' Fi acc ys'∧HoldF (cL lv fr L) σ'' F1∧σ''.length=(cL lv fr L).length∧After K (compM (fun x=>cond1 (c x) (f x)) (xs.drop (i+1)) acc) E F1 H1 (OwnK (owL T') H0 Q),fun ys' σ'' H'' z=>⟨xs.length-(i+1),by omega,rfl,z⟩,fun v H2 hyl=>?_⟩
  obtain ⟨F2,x2,hv⟩:=g2 v H2 hyl Fi xi.1 xi.2.1
  have keep:∀ {Fa Ha Fb Hb:Hp},Ext Fa Ha Fb Hb→Fa D=none→Ha D=some (.lst ys)→Fb D=none∧Hb D=some (.lst ys):=by
   intro Fa Ha Fb Hb x h1 h2
   refine ⟨?_,x.2.2.1 _ _ h2⟩
   cases z:Fb D with
   | none=>rfl
   | some o=>have:=x.2.2.2 D h1 (by rw [z]; exact Option.some_ne_none _); rw [h2] at this; cases this
  obtain ⟨hD2,hy2⟩:=keep x2 hDi hy
  refine hg xs[i] v σ' F2 H2 _ x2.2.1 hv fun vs hpl=>?_
  have hσ2:HoldF (cL lv fr L) σ' F2:=hσ.mono (xi.1.trans x2.1)
  obtain ⟨a1,a2,a3⟩:=zdg_ hpl hln.symm hσ2
  have hσd:HoldF (cL lv fr L) (setS σ' vs) F1:=by
   have hdead:=hd xs[i]
   refine fun j s e=>?_
   have h1:=zhV_ hpl hln.symm hdead hσ2
   by_cases hj:∃ q∈(ss xs[i]).map (·.1),q=j
   ·obtain ⟨q,hq,rfl⟩:=hj
    rw [hdead q hq s e]; trivial
   ·have:((setS σ' vs)[j]?)=σ'[j]?:=by
     exact zg6_ hpl (fun hq=>hj ⟨j,hq,rfl⟩)
    rw [this]; exact hσ j s e
  have hdrop:xs.drop i=xs[i]::xs.drop (i+1):=List.drop_eq_getElem_cons hlt
  rw [hdrop] at A
  unfold compM at A
  cases ec:c xs[i] with
  | no=>unfold cond1 at A; rw [ec] at A; exact A.elim
  | ex cc=>unfold cond1 at A; rw [ec] at A; exact A.elim
  | ok bb =>
   refine ht xs[i] _ F2 H2 _ a1 x2.2.1 ?_
   rw [ec]
   intro F3 H3 x3
   obtain ⟨hD3,hy3⟩:=keep x3 hD2 hy2
   have x13:=(xi.trans x2).trans x3
   cases bb with
   | false =>
    rw [if_neg (by decide)]
    refine ⟨hlt,acc,F3,x13,hD3,hy3,hp.mono (x2.1.trans x3.1),hσd,by rw [a2]; exact hln,?_⟩
    unfold cond1 at A; rw [ec] at A
    exact A
   | true =>
    rw [if_pos rfl]
    cases ef:f xs[i] with
    | no=>unfold cond1 at A; rw [ec,ef] at A; exact A.elim
    | ex cc=>unfold cond1 at A; rw [ec,ef] at A; exact A.elim
    | ok y =>
     unfold cond1 at A; rw [ec,ef] at A
     have A':After K (Mo.lim (acc.length+1) (compM (fun x=>cond1 (c x) (f x)) (xs.drop (i+1)) (acc++[y]))) E F1 H1 (OwnK (owL T') H0 Q):=A
     obtain ⟨hz,A'⟩:=A'.lim
     refine he xs[i] _ F3 H3 _ (a1.mono x3.1) x3.2.1 ?_
     rw [ef]
     intro F4 H4 x4 v4 hv4
     obtain ⟨hD4,hy4⟩:=keep x4 hD3 hy3
     have hlen:=hp.len
     refine ⟨hy4,by omega,hlt,acc++[y],F4,?_,hD4,zu_,(hp.mono ((x2.1.trans x3.1).trans x4.1)).append (.cons hv4 .nil),hσd,by rw [a2]; exact hln,A'⟩
     have x14:=x13.trans x4
     refine ⟨x14.1,fun b o z=>?_,fun b o z=>?_,x14.2.2.2⟩
     ·unfold upd; split
      ·rename_i w; rw [w,hD4] at z; cases z
      ·exact x14.2.1 _ _ z
     ·unfold upd; split
      ·rename_i w; rw [w,hD] at z; cases z
      ·exact x14.2.2.1 _ _ z
 ·left
  have e:i=xs.length:=by omega
  subst e
  refine ⟨Y.stop H' (xi.1.trans xi.2.1),?_⟩
  rw [List.drop_length] at A
  have A':OwnK (owL T') H0 Q acc Fi H':=A Fi H' xi
  exact zke_ (x1.2.2.1.free hD) hy hDi hp A'
end
end L2
namespace L2
open PySem PySem.Spec PyProof.Rows
inductive Out (ρ B S:Type) where
 | nx (s:S) | rt (r:ρ) | bk (b:B) | ct (b:B)
def Okk (F0 H0 F h H:Hp):Prop:=Ext F0 H0 F H∧Dj F h∧Same h H∧(∀ p,h p≠none→H0 p=none)∧∀ p xs,h p≠some (.tup xs)
section
variable {K:Fgg}{E:XK}{α β γ ρ S S' B B':Type}{F0 H0 F h H:Hp}{L:List Sl}{e e1 e2:TE}{T:Ty α}{r:Mo α}{O:Own ρ}
def Fin (K:Fgg) (r:Mo (Out ρ B S)) (E:XK) (LS:S→List Sl) (LB:B→List Sl) (O:Own ρ) (F0 H0:Hp) (D:Ends):Prop:=match r with
 | .ok (.nx s)=>∀ σ F h H,Hold (LS s) σ F h→Okk F0 H0 F h H→D.nx σ H
 | .ok (.bk b)=>∀ σ F h H,Hold (LB b) σ F h→Okk F0 H0 F h H→D.bk σ H
 | .ok (.ct b)=>∀ σ F h H,Hold (LB b) σ F h→Okk F0 H0 F h H→D.ct σ H
 | .ok (.rt a)=>∀ v F h H,Okk F0 H0 F h H→O.O a v F h→D.rt v H
 | .ex c=>∀ F h H,Okk F0 H0 F h H→Tell K E c H0 F H
 | .no=>False
def EvS (K:Fgg) (t:TS) (E:XK) (L:List Sl) (r:Mo (Out ρ B S)) (LS:S→List Sl) (LB:B→List Sl) (O:Own ρ):Prop :=
 ∀ F0 H0 σ F h H (D:Ends),Hold L σ F h→Okk F0 H0 F h H→Fin K r E LS LB O F0 H0 D→t D σ H
variable {t u:TS}{LS:S→List Sl}{LS':S'→List Sl}{LB:B→List Sl}
def thenO (r:Mo (Out ρ B S)) (k:S→Mo (Out ρ B S')):Mo (Out ρ B S'):=r.bind fun o=>match o with | .nx s=>k s | .rt a=>.ok (.rt a) | .bk b=>.ok (.bk b) | .ct b=>.ok (.ct b)
theorem zbE_ {r:Mo (Out ρ B S)}{k:S→Mo (Out ρ B S')}(h1:EvS K t E L r LS LB O) (h2:∀ s,EvS K u E (LS s) (k s) LS' LB O):EvS K (tSeq t u) E L (thenO r k) LS' LB O:=by
 intro F0 H0 σ F h H D hL ok fin
 refine h1 F0 H0 σ F h H { D with nx:=u D } hL ok ?_
 cases r with
 | no=>exact fin
 | ex c=>exact fin
 | ok o =>
  cases o with
  | nx s=>exact fun σ F h H hL ok=>h2 s F0 H0 σ F h H D hL ok fin
  | rt a=>exact fin
  | bk b=>exact fin
  | ct b=>exact fin
theorem Okk.thaw (ok:Okk F0 H0 F h H):Same (un F h) H:=fun p o e=>by
 unfold un at e
 cases z:F p with
 | some w=>rw [z] at e; cases e; exact ok.1.2.1 _ _ z
 | none=>rw [z] at e; exact ok.2.2.1 _ _ e
def less (G h:Hp):Hp:=fun p=>match h p with | none=>G p | some _=>none
theorem zax_ {G h:Hp}{p:Addr}(e:h p=none):less G h p=G p:=by unfold less; rw [e]
theorem Okk.back (ok:Okk F0 H0 F h H) {G' H':Hp}(x:Ext (un F h) H G' H'):Okk F0 H0 (less G' h) h H'∧Same F (less G' h)∧Tups G' (less G' h):=by
 obtain ⟨o1,o2,o3,o4,o5⟩:=ok
 have hs:Same F (less G' h):=fun p o e=>by
  have hp:h p=none:=by
   rcases o2 p with z | z
   ·rw [z] at e; cases e
   ·exact z
  rw [zax_ hp]; exact x.1 _ _ (zb0_ _ _ e)
 refine ⟨⟨⟨o1.1.trans hs,fun p o e=>?_,o1.2.2.1.trans x.2.2.1,fun p a b=>?_⟩,fun p=>?_,fun p o e=>?_,o4,o5⟩,hs,fun p xs e=>?_⟩
 ·unfold less at e
  split at e
  ·exact x.2.1 _ _ e
  ·cases e
 ·unfold less at b
  split at b
  ·rename_i z
   cases y:un F h p with
   | none=>exact o1.2.2.1.free (x.2.2.2 p y b)
   | some o =>
    unfold un at y
    cases w:F p with
    | some _=>exact o1.2.2.2 p a (by rw [w]; exact Option.some_ne_none _)
    | none=>rw [w,z] at y; cases y
  ·exact absurd rfl b
 ·unfold less
  cases z:h p with
  | none=>exact .inr rfl
  | some o=>exact .inl rfl
 ·exact x.2.1 _ _ (x.1 _ _ (zfy_ o2 _ _ e))
 ·unfold less
  cases z:h p with
  | none=>exact e
  | some o =>
   have:=x.1 _ _ (zfy_ o2 _ _ z)
   rw [e] at this; cases this
   exact absurd z (o5 p xs)
theorem Tell.back {x:Xc}(ok:Okk F0 H0 F h H) {G' H':Hp}(y:Ext (un F h) H G' H') (t:Tell K E x H0 (less G' h) H'):Tell K E x H G' H':=by
 cases x with
 | pl c=>exact t
 | «at» c as =>
  refine fun dx fs e q r=>t dx fs (ok.1.2.2.1.free e) ?_ (r.imm (ok.back y).2.2)
  rw [zax_ (ok.2.2.1.free e)]; exact q
theorem zak_ {r:Mo α}{k:α→Mo (Out ρ B S)}{G:Hp}{D:Ends}{kk:α→Hp→Hp→Prop}(ok:Okk F0 H0 F h H) (G1:Hp) (hG:G1=un F h∨G1=F) (fin:Fin K (r.bind k) E LS LB O F0 H0 D)
  (hk:∀ a F' H',r=.ok a→Ext G1 H F' H'→kk a F' H'):After K r E G1 H kk:=by
 cases r with
 | ok a=>exact fun F' H' x=>hk a F' H' rfl x
 | no=>exact fin
 | ex c =>
  intro F' H' x
  rcases hG with rfl | rfl
  ·exact (fin _ _ _ (ok.back x).1).back ok x
  ·refine Tell.up ok.1.2.2.1 (fin F' h H' ⟨ok.1.trans x,fun p=>?_,ok.2.2.1.trans x.2.2.1,ok.2.2.2.1,ok.2.2.2.2⟩)
   cases z:h p with
   | none=>exact .inr rfl
   | some o =>
    left
    rcases ok.2.1 p with y | y
    ·cases w:F' p with
     | none=>rfl
     | some o'=>have:=x.2.2.2 p y (by rw [w]; exact Option.some_ne_none _); rw [ok.2.2.1 _ _ z] at this; cases this
    ·rw [y] at z; cases z
theorem Okk.cold (ok:Okk F0 H0 F h H) {F' H':Hp}(x:Ext F H F' H'):Okk F0 H0 F' h H':=by
 refine ⟨ok.1.trans x,fun p=>?_,ok.2.2.1.trans x.2.2.1,ok.2.2.2.1,ok.2.2.2.2⟩
 cases z:h p with
 | none=>exact .inr rfl
 | some o =>
  left
  rcases ok.2.1 p with y | y
  ·cases w:F' p with
   | none=>rfl
   | some o'=>have:=x.2.2.2 p y (by rw [w]; exact Option.some_ne_none _); rw [ok.2.2.1 _ _ z] at this; cases this
  ·rw [y] at z; cases z
theorem zbV_ {i:Nat}{s:Sl}{σ:St}{a:α}{v:V}(hi:L[i]?=some s) (hL:Hold L σ F h) (hv:T.R a v F):Hold (L.set i (.fz T a)) (σ.set i (some v)) F h:=by
 obtain ⟨o,h1,h2,_,j,_,f⟩:=hL.at i hi
 exact f (.fz T a) (some v) h1 h j ⟨v,rfl,hv⟩
theorem zit_ {i:Nat}{s:Sl}{σ:St}{a:α}{v:V}{O1:Own α}{hn:Hp}(ok:Okk F0 H0 F h H) (hi:L[i]?=some s) (hL:Hold L σ F h) (fresh:∀ p,hn p≠none→H0 p=none) (dj:Dj F hn) (dh:Dj hn h) (hs:Same hn H) (hv:O1.O a v F hn) :
  ∃ h',Hold (L.set i (.ow O1 a)) (σ.set i (some v)) F h'∧Okk F0 H0 F h' H:=by
 obtain ⟨o,h1,h2,_,j,_,f⟩:=hL.at i hi
 have d2:Dj hn h2:=fun p=>by
  rcases dh p with z | z
  ·exact .inl z
  ·exact .inr (j.r.free z)
 refine ⟨un hn h2,f (.ow O1 a) (some v) hn _ (zeZ_ d2) ⟨v,rfl,hv⟩,ok.1,fun p=>?_,fun p o e=>?_,fun p e=>?_,fun p xs e=>?_⟩
 ·unfold un
  cases z:hn p with
  | some w =>
   rcases dj p with y | y
   ·exact .inl y
   ·rw [y] at z; cases z
  | none =>
   rcases ok.2.1 p with y | y
   ·exact .inl y
   ·exact .inr (j.r.free y)
 ·unfold un at e
  cases z:hn p with
  | some w=>rw [z] at e; cases e; exact hs _ _ z
  | none=>rw [z] at e; exact ok.2.2.1 _ _ (j.r _ _ e)
 ·unfold un at e
  cases z:hn p with
  | some w=>exact fresh p (by rw [z]; exact Option.some_ne_none _)
  | none =>
   rw [z] at e
   cases y:h2 p with
   | none=>exact absurd y e
   | some w=>exact ok.2.2.2.1 p (by rw [j.r _ _ y]; exact Option.some_ne_none _)
 ·unfold un at e
  cases z:hn p with
  | some w=>rw [z] at e; cases e; exact O1.notup hv p xs z
  | none=>rw [z] at e; exact ok.2.2.2.2 p xs (j.r _ _ e)
theorem zbM_ {i:Nat}{s:Sl}{k:α→Mo (Out ρ B S)}(hi:L[i]?=some s) (hT:Imm T) (he:EvF K e E L r T) (hk:∀ a,EvS K u E (L.set i (.fz T a)) (k a) LS LB O):EvS K (tSeq (tAsg e (gName i)) u) E L (r.bind k) LS LB O:=by
 intro F0 H0 σ F h H D hL ok fin
 refine he σ (un F h) H _ (hL.froz ok.2.1) ok.thaw (zak_ (G:=F) ok _ (.inl rfl) fin fun a F' H' hr x v hv=>?_)
 obtain ⟨o,hs,ht⟩:=ok.back x
 rw [hr] at fin
 exact hk a F0 H0 _ _ h H' D (zbV_ hi (hL.mono hs) (hT ht hv)) o fin
theorem zmC_ {i:Nat}{s:Sl}{k:α→Mo (Out ρ B S)}(hi:L[i]?=some s) (he:EvF K e E (L.map Sl.cold) r T) (hk:∀ a,EvS K u E (L.set i (.fz T a)) (k a) LS LB O):EvS K (tSeq (tAsg e (gName i)) u) E L (r.bind k) LS LB O:=by
 intro F0 H0 σ F h H D hL ok fin
 refine he σ F H _ hL.coldF ok.1.2.1 (zak_ (G:=F) ok _ (.inr rfl) fin fun a F' H' hr x v hv=>?_)
 rw [hr] at fin
 exact hk a F0 H0 _ _ h H' D (zbV_ hi (hL.mono x.1) hv) (ok.cold x) fin
theorem znV_ {hn h:Hp}(hh:Same h H) (fresh:∀ p,hn p≠none→H p=none):Dj hn h:=fun p=>by
 cases z:hn p with
 | none=>exact .inl rfl
 | some w =>
  have:=fresh p (by rw [z]; exact Option.some_ne_none _)
  exact .inr (hh.free this)
theorem zad_ {i:Nat}{s:Sl}{O1:Own α}{k:α→Mo (Out ρ B S)}(hi:L[i]?=some s) (hO:ImmO O1) (he:EvO K e E L r O1) (hk:∀ a,EvS K u E (L.set i (.ow O1 a)) (k a) LS LB O):EvS K (tSeq (tAsg e (gName i)) u) E L (r.bind k) LS LB O:=by
 intro F0 H0 σ F h H D hL ok fin
 refine he σ (un F h) H _ (hL.froz ok.2.1) ok.thaw (zak_ (G:=F) ok _ (.inl rfl) fin fun a F' H' hr x v hn fresh dj hsn hv=>?_)
 obtain ⟨o,hs,ht⟩:=ok.back x
 rw [hr] at fin
 have dj':Dj (less F' h) hn:=fun p=>by
  unfold less
  cases z:h p with
  | none=>exact dj p
  | some w=>exact .inl rfl
 obtain ⟨h',a1,a2⟩:=zit_ o hi (hL.mono hs) (fun p z=>ok.1.2.2.1.free (fresh p z)) dj' (znV_ ok.2.2.1 fresh) hsn (hO ht hv)
 exact hk a F0 H0 _ _ h' H' D a1 a2 fin
theorem zcd_ {α:Type}{l:List α}{i:Nat}{o:α}(h:l[i]?=some o):l.set i o=l:=by
 obtain ⟨hi,e⟩:=List.getElem?_eq_some_iff.mp h
 rw [← e]; exact List.set_getElem_self hi
theorem zfK_ {i:Nat}{O1:Own α}{a:α}{r:Mo (Out ρ B S)}(hi:L[i]?=some (.ow O1 a)) (hk:EvS K u E (L.set i (.fz O1.fr a)) r LS LB O):EvS K u E L r LS LB O:=by
 intro F0 H0 σ F h H D hL ok fin
 obtain ⟨o,h1,h2,e1,j,⟨v,e2,hv⟩,f⟩:=hL.at i hi
 obtain ⟨o1,o2,o3,o4,o5⟩:=ok
 have dj1:Dj F h1:=fun p=>by
  rcases o2 p with z | z
  ·exact .inl z
  ·exact .inr (j.l.free z)
 have dj2:Dj F h2:=fun p=>by
  rcases o2 p with z | z
  ·exact .inl z
  ·exact .inr (j.r.free z)
 have g1:Hold (L.set i (.dead)) σ F h2:=by
  have:=f .dead o (fun _=>none) h2 (fun p=>.inl ⟨rfl,rfl⟩) trivial
  rwa [zcd_ e1] at this
 have g2:Hold (L.set i (.fz O1.fr a)) σ (un F h1) h2:=by
  have g3:=g1.mono (zb0_ (h:=h1))
  have hi':(L.set i Sl.dead)[i]?=some .dead:=by
   rw [List.getElem?_set_self]
   exact (List.getElem?_eq_some_iff.mp hi).1
  have:=zbV_ (T:=O1.fr) hi' g3 (O1.frz dj1 hv)
  rw [List.set_set] at this
  subst e2
  rwa [zcd_ e1] at this
 refine hk F0 H0 σ _ h2 H D g2 ⟨⟨o1.1.trans zb0_,fun p o e=>?_,o1.2.2.1,fun p a b=>?_⟩,fun p=>?_,j.r.trans o3,fun p z=>?_,fun p xs e=>o5 p xs (j.r _ _ e)⟩ fin
 ·unfold un at e
  cases z:F p with
  | some w=>rw [z] at e; cases e; exact o1.2.1 _ _ z
  | none=>rw [z] at e; exact o3 _ _ (j.l _ _ e)
 ·unfold un at b
  cases z:F p with
  | some w=>exact o1.2.2.2 p a (by rw [z]; exact Option.some_ne_none _)
  | none =>
   rw [z] at b
   cases y:h1 p with
   | none=>exact absurd y b
   | some w=>exact o4 p (by rw [j.l _ _ y]; exact Option.some_ne_none _)
 ·unfold un
  cases z:F p with
  | some w =>
   rcases dj2 p with y | y
   ·rw [y] at z; cases z
   ·exact .inr y
  | none=>exact j.dj p
 ·cases y:h2 p with
  | none=>exact absurd y z
  | some w=>exact o4 p (by rw [j.r _ _ y]; exact Option.some_ne_none _)
theorem za3_ {r:Mo ρ}(hO:ImmO O) (he:EvO K e E L r O):EvS K (tRet e) E L (r.bind fun a=>.ok (.rt a)) LS LB O:=by
 intro F0 H0 σ F h H D hL ok fin
 refine he σ (un F h) H _ (hL.froz ok.2.1) ok.thaw (zak_ (G:=F) ok _ (.inl rfl) fin fun a F' H' hr x v hn fresh dj hsn hv=>?_)
 obtain ⟨o,hs,ht⟩:=ok.back x
 rw [hr] at fin
 refine fin v _ hn H' ⟨o.1,fun p=>?_,hsn,fun p z=>ok.1.2.2.1.free (fresh p z),O.notup hv⟩ (hO ht hv)
 unfold less
 cases z:h p with
 | none=>exact dj p
 | some w=>exact .inl rfl
theorem zk0_ {r:Mo ρ}(he:EvO K e E (L.map Sl.cold) r O):EvS K (tRet e) E L (r.bind fun a=>.ok (.rt a)) LS LB O:=by
 intro F0 H0 σ F h H D hL ok fin
 refine he σ F H _ hL.coldF ok.1.2.1 (zak_ (G:=F) ok _ (.inr rfl) fin fun a F' H' hr x v hn fresh dj hsn hv=>?_)
 rw [hr] at fin
 exact fin v _ hn H' ⟨ok.1.trans x,dj,hsn,fun p z=>ok.1.2.2.1.free (fresh p z),O.notup hv⟩ hv
theorem ziS_ {i:Nat}{a:ρ}(hi:L[i]?=some (.ow O a)):EvS K (tRet (mVar i)) E L (.ok (.rt a)) LS LB O:=by
 intro F0 H0 σ F h H D hL ok fin
 obtain ⟨o,h1,h2,e1,j,⟨v,e2,hv⟩,f⟩:=hL.at i hi
 subst e2
 show mVar i σ H D.rt
 unfold mVar
 rw [e1]
 obtain ⟨o1,o2,o3,o4,o5⟩:=ok
 refine fin v F h1 H ⟨o1,fun p=>?_,j.l.trans o3,fun p z=>?_,O.notup hv⟩ hv
 ·rcases o2 p with z | z
  ·exact .inl z
  ·exact .inr (j.l.free z)
 ·cases y:h1 p with
  | none=>exact absurd y z
  | some w=>exact o4 p (by rw [j.l _ _ y]; exact Option.some_ne_none _)
theorem s_if {c:TT}{b:Mo Bool}{r1 r2:Mo (Out ρ B S)}(hc:EvT K c E L b) (h1:EvS K t E L r1 LS LB O) (h2:EvS K u E L r2 LS LB O):EvS K (mIfS c t u) E L (b.bind fun c=>if c then r1 else r2) LS LB O:=by
 intro F0 H0 σ F h H D hL ok fin
 refine hc σ (un F h) H _ (hL.froz ok.2.1) ok.thaw (zak_ (G:=F) ok _ (.inl rfl) fin fun a F' H' hr x=>?_)
 obtain ⟨o,hs,ht⟩:=ok.back x
 rw [hr] at fin
 have fin':Fin K (if a then r1 else r2) E LS LB O F0 H0 D:=fin
 refine ⟨fun z=>?_,fun z=>?_⟩
 ·rw [if_pos z] at fin'; exact h1 F0 H0 σ _ h H' D (hL.mono hs) o fin'
 ·rw [if_neg (by rw [z]; decide)] at fin'; exact h2 F0 H0 σ _ h H' D (hL.mono hs) o fin'
inductive Sub:List Sl→List Sl→Prop
 | nil:Sub [] []
 | same {s:Sl}{L L':List Sl}(h:Sub L L'):Sub (s::L) (s::L')
 | dead {s:Sl}{L L':List Sl}(h:Sub L L'):Sub (s::L) (.dead::L')
theorem Sub.hold {L L':List Sl}(w:Sub L L'):∀ {σ:St}{F h:Hp},Hold L σ F h→Hold L' σ F h:=by
 induction w with
 | nil=>exact fun h=>h
 | same _ ih =>
  intro σ F h q
  cases σ with
  | nil=>exact q.elim
  | cons o σ=>obtain ⟨h1,h2,j,p,r⟩:=q; exact ⟨h1,h2,j,p,ih r⟩
 | dead _ ih =>
  intro σ F h q
  cases σ with
  | nil=>exact q.elim
  | cons o σ=>obtain ⟨h1,h2,j,p,r⟩:=q; exact ⟨h1,h2,j,trivial,ih r⟩
theorem zq_ {s:S}(w:Sub L (LS s)):EvS K tNext E L (.ok (.nx s)) LS LB O:=fun F0 H0 σ F h H D hL ok fin=>fin σ F h H (w.hold hL) ok
theorem zdY_ {r:Mo (Out ρ B S)}(h:EvS K (tSeq t tNext) E L r LS LB O):EvS K t E L r LS LB O:=h
def forO (step:S→α→Mo (Out ρ S S)):List α→S→Mo (Out ρ B S)
 | [],s=>.ok (.nx s)
 | x::xs,s=>(step s x).bind fun o=>match o with | .nx s'=>forO step xs s' | .ct s'=>forO step xs s' | .bk s'=>.ok (.nx s') | .rt a=>.ok (.rt a)
theorem zig_ {ss:List (Nat×Sl)}{vs:List (Nat×Option V)}(p:Plain F ss vs):∀ {L:List Sl}{σ:St},Hold L σ F h→Hold (setL L ss) (setS σ vs) F h:=by
 induction p with
 | nil=>exact fun h=>h
 | cons hv t ih =>
  rename_i T a i v ss vs
  intro L σ q
  refine ih (L:=L.set i (.fz T a)) (σ:=σ.set i (some v)) ?_
  by_cases hi:i<L.length
  ·exact zbV_ (List.getElem?_eq_getElem hi) q hv
  ·rw [List.set_eq_of_length_le (by lia),List.set_eq_of_length_le (by have:=q.len; lia)]; exact q
theorem Okk.rebase {F1 H1:Hp}(x:Ext F0 H0 F1 H1) (ok:Okk F0 H0 F h H) (s:Same F1 F):Okk F1 H0 F h H:=by
 obtain ⟨o1,o2,o3,o4,o5⟩:=ok
 refine ⟨⟨s,o1.2.1,o1.2.2.1,fun p a b=>o1.2.2.2 p (x.1.free a) b⟩,o2,o3,o4,o5⟩
theorem Okk.unbase {F1 H1:Hp}(x:Ext F0 H0 F1 H1) (ok:Okk F1 H0 F h H):Okk F0 H0 F h H:=by
 obtain ⟨o1,o2,o3,o4,o5⟩:=ok
 refine ⟨⟨x.1.trans o1.1,o1.2.1,o1.2.2.1,fun p a b=>?_⟩,o2,o3,o4,o5⟩
 cases z:F1 p with
 | none=>exact o1.2.2.2 p z b
 | some w=>exact x.2.2.2 p a (by rw [z]; exact Option.some_ne_none _)
theorem zhg_ {wi:TI}{g:TG}{tb:TS}{s0:S}{r:Mo (List α)}{ss:α→List (Nat×Sl)}{step:S→α→Mo (Out ρ S S)}(hi:EvI K wi E ((LS s0).map Sl.cold) r T) (hg:TgR K g T ss)
  (hb:∀ s a,EvS K tb E (setL (LS s) (ss a)) (step s a) LS LS O):EvS K (tFor wi g tb) E (LS s0) (r.bind fun xs=>forO step xs s0) LS LB O:=by
 intro F0 H0 σ F h H D hL ok fin
 refine hi σ F H _ hL.coldF ok.1.2.1 (zak_ (G:=F) ok _ (.inr rfl) fin fun xs F1 H1 hr x1 J Y=>?_)
 rw [hr] at fin
 have xx:=ok.1.trans x1
 refine ⟨fun i m σ H=>m=xs.length-i∧i≤xs.length∧∃ s F h,Hold (LS s) σ F h∧Okk F1 H0 F h H∧Fin K (forO (B:=B) step (xs.drop i) s) E LS LB O F0 H0 D,
  ⟨_,rfl,Nat.zero_le _,s0,F1,h,hL.mono x1.1,(ok.cold x1).rebase xx (Same.refl _),fin⟩,?_⟩
 rintro i m σ H ⟨rfl,hi,s,F,h,hL,ok,fin⟩
 have s1:Same F1 H:=ok.1.1.trans ok.1.2.1
 by_cases hlt:i<xs.length
 ·right
  obtain ⟨g1,g2⟩:=Y.go i H xs[i] s1 (List.getElem?_eq_getElem hlt)
  refine ⟨g1,fun σ' H'=>i+1≤xs.length∧∃ s F h,Hold (LS s) σ' F h∧Okk F1 H0 F h H'∧Fin K (forO (B:=B) step (xs.drop (i+1)) s) E LS LB O F0 H0 D,fun σ' H' z=>⟨xs.length-(i+1),by omega,rfl,z⟩,fun v H2 hy=>?_⟩
  obtain ⟨F2,x2,hv⟩:=g2 v H2 hy F ok.1.1 ok.1.2.1
  refine hg xs[i] v σ F2 H2 _ x2.2.1 hv fun vs hp=>?_
  refine hb s xs[i] F1 H0 _ F2 h H2 _ (zig_ hp (hL.mono x2.1)) (ok.cold x2) ?_
  rw [List.drop_eq_getElem_cons hlt] at fin
  unfold forO at fin
  cases e:step s xs[i] with
  | no=>rw [e] at fin; exact fin
  | ex c=>rw [e] at fin; exact fun F h H ok=>fin F h H (ok.unbase xx)
  | ok o =>
   rw [e] at fin
   cases o with
   | nx s'=>exact fun σ' F' h' H' hL' ok'=>⟨hlt,s',F',h',hL',ok',fin⟩
   | ct s'=>exact fun σ' F' h' H' hL' ok'=>⟨hlt,s',F',h',hL',ok',fin⟩
   | bk s'=>exact fun σ' F' h' H' hL' ok'=>fin σ' F' h' H' hL' (ok'.unbase xx)
   | rt a=>exact fun v F h H ok=>fin v F h H (ok.unbase xx)
 ·left
  have e:i=xs.length:=by omega
  subst e
  rw [List.drop_length] at fin
  exact ⟨Y.stop H s1,fin σ F h H hL (ok.unbase xx)⟩
def whileO (c:S→Mo Bool) (step:S→Mo (Out ρ S S)):Nat→S→Mo (Out ρ B S)
 | 0,_=>.no
 | n+1,s=>(c s).bind fun b=>if b then (step s).bind fun o=>match o with | .nx s'=>whileO c step n s' | .ct s'=>whileO c step n s' | .bk s'=>.ok (.nx s') | .rt a=>.ok (.rt a) else .ok (.nx s)
theorem zl5_ {tc:TT}{tb:TS}{s0:S}(n:Nat) {c:S→Mo Bool}{step:S→Mo (Out ρ S S)}(hc:∀ s,EvT K tc E (LS s) (c s)) (hb:∀ s,EvS K tb E (LS s) (step s) LS LS O) :
  EvS K (tWhile tc tb) E (LS s0) (whileO c step n s0) LS LB O:=by
 intro F0 H0 σ F h H D hL ok fin
 refine ⟨fun m σ H=>∃ s F h,Hold (LS s) σ F h∧Okk F0 H0 F h H∧Fin K (whileO (B:=B) c step m s) E LS LB O F0 H0 D,⟨n,s0,F,h,hL,ok,fin⟩,?_⟩
 rintro m σ H ⟨s,F,h,hL,ok,fin⟩
 cases m with
 | zero=>exact fin.elim
 | succ m =>
  unfold whileO at fin
  refine hc s σ (un F h) H _ (hL.froz ok.2.1) ok.thaw (zak_ (G:=F) ok _ (.inl rfl) fin fun a F' H' hr x=>?_)
  obtain ⟨o,hs,ht⟩:=ok.back x
  rw [hr] at fin
  cases a with
  | false=>rw [if_neg (by decide)]; exact fin σ _ h H' (hL.mono hs) o
  | true =>
   rw [if_pos rfl]
   refine ⟨fun σ' H''=>∃ s F h,Hold (LS s) σ' F h∧Okk F0 H0 F h H''∧Fin K (whileO (B:=B) c step m s) E LS LB O F0 H0 D,fun σ' H'' z=>⟨m,Nat.lt_succ_self _,z⟩,?_⟩
   refine hb s F0 H0 σ _ h H' _ (hL.mono hs) o ?_
   have fin':Fin K ((step s).bind fun o=>match o with | .nx s'=>whileO (B:=B) c step m s' | .ct s'=>whileO c step m s' | .bk s'=>.ok (.nx s') | .rt a=>.ok (.rt a)) E LS LB O F0 H0 D:=fin
   cases e:step s with
   | no=>rw [e] at fin'; exact fin'
   | ex c=>rw [e] at fin'; exact fin'
   | ok o =>
    rw [e] at fin'
    cases o with
    | nx s'=>exact fun σ' F' h' H' hL' ok'=>⟨s',F',h',hL',ok',fin'⟩
    | ct s'=>exact fun σ' F' h' H' hL' ok'=>⟨s',F',h',hL',ok',fin'⟩
    | bk s'=>exact fin'
    | rt a=>exact fin'
theorem zdQ_ {i:Nat}{σ:St}{xs:List α}(hL:Hold L σ F h) (hi:L[i]?=some (.ow (owL T) xs)) (ok:Okk F0 H0 F h H) :
  ∃ p vs,σ[i]?=some (some (.ref p))∧H p=some (.lst vs)∧Prs T F xs vs∧∀ xs' vs',Prs T F xs' vs'→∃ h',Hold (L.set i (.ow (owL T) xs')) σ F h'∧Okk F0 H0 F h' (upd H p (.lst vs')):=by
 obtain ⟨o,h1,h2,e1,j,⟨v,e2,p,vs,rfl,rfl,hr⟩,f⟩:=hL.at i hi
 subst e2
 obtain ⟨o1,o2,o3,o4,o5⟩:=ok
 have hp:h p=some (.lst vs):=j.l _ _ zv_
 have h2p:h2 p=none:=by
  rcases j.dj p with z | z
  ·rw [zv_] at z; cases z
  ·exact z
 have Fp:F p=none:=by
  rcases o2 p with z | z
  ·exact z
  ·rw [hp] at z; cases z
 have H0p:H0 p=none:=o4 p (by rw [hp]; exact Option.some_ne_none _)
 refine ⟨p,vs,e1,o3 _ _ hp,hr,fun xs' vs' hr'=>?_⟩
 have d2:Dj (one p (.lst vs')) h2:=fun q=>by
  unfold one; split
  ·rename_i z; rw [z]; exact .inr h2p
  ·exact .inl rfl
 have g:=f (.ow (owL T) xs') (some (.ref p)) (one p (.lst vs')) _ (zeZ_ d2) ⟨_,rfl,p,vs',rfl,rfl,hr'⟩
 rw [zcd_ e1] at g
 refine ⟨_,g,⟨o1.1,fun q o z=>?_,fun q o z=>?_,o1.2.2.2⟩,fun q=>?_,fun q o z=>?_,fun q z=>?_,fun q ys z=>?_⟩
 ·unfold upd; split
  ·rename_i w; rw [w,Fp] at z; cases z
  ·exact o1.2.1 _ _ z
 ·unfold upd; split
  ·rename_i w; rw [w,H0p] at z; cases z
  ·exact o1.2.2.1 _ _ z
 ·by_cases w:q=p
  ·rw [w]; exact .inl Fp
  ·unfold un one; simp only [if_neg w]
   rcases o2 q with z | z
   ·exact .inl z
   ·exact .inr (j.r.free z)
 ·unfold un one at z
  unfold upd
  by_cases w:q=p
  ·rw [if_pos w]; simp only [if_pos w] at z; exact z
  ·rw [if_neg w]; simp only [if_neg w] at z; exact o3 _ _ (j.r _ _ z)
 ·unfold un one at z
  by_cases w:q=p
  ·rw [w]; exact H0p
  ·simp only [if_neg w] at z
   cases y:h2 q with
   | none=>exact absurd y z
   | some u=>exact o4 q (by rw [j.r _ _ y]; exact Option.some_ne_none _)
 ·unfold un one at z
  by_cases w:q=p
  ·simp only [if_pos w] at z; cases z
  ·simp only [if_neg w] at z; exact o5 q ys (j.r _ _ z)
theorem zdp_ {i:Nat}{σ:St}{v:V}{Q:VK}(e:σ[i]?=some (some v)) (q:Q v H):mVar i σ H Q:=by unfold mVar; rw [e]; exact q
theorem zgg_ {n:Nat}{r:Mo (Out ρ B S)}{D:Ends}(h:Fin K (Mo.lim n r) E LS LB O F0 H0 D):n≤sizeLine∧Fin K r E LS LB O F0 H0 D:=by
 unfold Mo.lim at h
 split at h
 ·exact ⟨by assumption,h⟩
 ·exact h.elim
theorem zkc_ {x:Option α}{k:α→Mo (Out ρ B S)}{D:Ends}(h:Fin K ((Mo.opt x).bind k) E LS LB O F0 H0 D):∃ a,x=some a∧Fin K (k a) E LS LB O F0 H0 D:=by
 cases x with
 | none=>exact h.elim
 | some a=>exact ⟨a,rfl,h⟩
theorem zcE_ {i:Nat}{xs:List α}{k:α→Mo (Out ρ B S)}(hi:L[i]?=some (.ow (owL T) xs)) (hT:Imm T) (he:EvF K e E L r T) (hk:∀ a,EvS K u E (L.set i (.ow (owL T) (xs++[a]))) (k a) LS LB O) :
  EvS K (tSeq (tDrop (tBM K "list" rAppend (mVar i) (tCons e tNil))) u) E L (r.bind fun a=>.lim (xs.length+1) (k a)) LS LB O:=by
 intro F0 H0 σ F h H D hL ok fin
 obtain ⟨p,vs,e1,hp,hr,_⟩:=zdQ_ hL hi ok
 show mVar i σ H fun x H1=>tyV K "list" x H1∧tCons e tNil σ H1 fun xs H2=>rAppend x xs H2 (fun _ H3=>u D σ H3)
 refine zdp_ e1 ⟨.inl ⟨rfl,vs,.of hp⟩,?_⟩
 refine he σ (un F h) H _ (hL.froz ok.2.1) ok.thaw (zak_ (G:=F) ok _ (.inl rfl) fin fun a F' H' hra x v hv=>?_)
 obtain ⟨o,hs,ht⟩:=ok.back x
 rw [hra] at fin
 obtain ⟨hz,fin⟩:=zgg_ (show Fin K (Mo.lim (xs.length+1) (k a)) E LS LB O F0 H0 D from fin)
 obtain ⟨p',vs',e1',hp',hr',mm⟩:=zdQ_ (hL.mono hs) hi o
 rw [e1] at e1'; cases e1'
 obtain ⟨h',a1,a2⟩:=mm (xs++[a]) (vs'++[v]) (hr'.append (.cons (hT ht hv) .nil))
 exact ⟨p,vs',v,rfl,rfl,hp',by rw [← hr'.len]; lia,hk a F0 H0 σ _ h' _ D a1 a2 fin⟩
theorem zna_ {i:Nat}{xs:List α}{ei:TE}{ri:Mo Int}{k:List α→Mo (Out ρ B S)}(hi:L[i]?=some (.ow (owL T) xs)) (hT:Imm T) (he:EvF K e E L r T) (hei:EvF K ei E L ri tyInt) (hk:∀ a,EvS K u E (L.set i (.ow (owL T) a)) (k a) LS LB O) :
  EvS K (tSeq (tAsg e (gSub (mVar i) ei mSet)) u) E L (r.bind fun a=>ri.bind fun j=>(Mo.opt ((ixN xs.length j).map fun n=>xs.set n a)).bind k) LS LB O:=by
 intro F0 H0 σ F h H D hL ok fin
 refine he σ (un F h) H _ (hL.froz ok.2.1) ok.thaw (zak_ (G:=F) ok _ (.inl rfl) fin fun a F' H' hra x v hv=>?_)
 obtain ⟨o,hs,ht⟩:=ok.back x
 rw [hra] at fin
 have hL':=hL.mono hs
 obtain ⟨p,vs,e1,hp,hr,_⟩:=zdQ_ hL' hi o
 refine zdp_ e1 ?_
 have hv':=hT ht hv
 refine hei σ (un _ h) H' _ (hL'.froz o.2.1) o.thaw (zak_ (G:=F) o _ (.inl rfl) fin fun j F2 H2 hrj x2 v2 hv2=>?_)
 cases hv2
 obtain ⟨o',hs',ht'⟩:=o.back x2
 rw [hrj] at fin
 obtain ⟨ys,ey,fin⟩:=zkc_ fin
 obtain ⟨p',vs',e1',hp',hr',mm⟩:=zdQ_ (hL'.mono hs') hi o'
 rw [e1] at e1'; cases e1'
 cases ej:ixN xs.length j with
 | none=>rw [ej] at ey; cases ey
 | some n =>
  rw [ej] at ey; cases ey
  obtain ⟨h',a1,a2⟩:=mm (xs.set n a) (vs'.set n v) (hr'.set n (T.mono hs' hv'))
  refine ⟨vs',hp',?_⟩
  rw [← hr'.len,ej]
  exact hk _ F0 H0 σ _ h' _ D a1 a2 fin
theorem zhA_ {k:α→Mo (Out ρ B S)}(he:EvF K e E L r T) (hk:∀ a,EvS K u E L (k a) LS LB O):EvS K (tSeq (tDrop e) u) E L (r.bind k) LS LB O:=by
 intro F0 H0 σ F h H D hL ok fin
 refine he σ (un F h) H _ (hL.froz ok.2.1) ok.thaw (zak_ (G:=F) ok _ (.inl rfl) fin fun a F' H' hr x v hv=>?_)
 obtain ⟨o,hs,ht⟩:=ok.back x
 rw [hr] at fin
 exact hk a F0 H0 σ _ h H' D (hL.mono hs) o fin
theorem zmB_ {c:String}{ta:TA}{C:Cs γ}{n:Nat}{r:Mo γ}(hl:CsN C n) (h:EvA K ta E L r C) (hn:n≤100:=by decide):EvS K (tRaise (gA K c) E ta) E L (r.bind fun _=>.ex c) LS LB O:=by
 intro F0 H0 σ F hh H D hL ok fin
 refine h σ (un F hh) H _ (hL.froz ok.2.1) ok.thaw (zak_ (G:=F) ok _ (.inl rfl) fin fun a F' H' hr x vs hv=>?_)
 obtain ⟨o,hs,ht⟩:=ok.back x
 rw [hr] at fin
 exact ⟨by rw [hl hv]; exact hn,fin _ hh H' o⟩
def fnO (r:Mo (Out ρ Unit Unit)):Mo ρ:=r.bind fun o=>match o with | .rt a=>.ok a | _=>.no
inductive Args (F:Hp):List V→List Sl→Prop
 | nil:Args F [] []
 | cons {α:Type}{T:Ty α}{a:α}{v:V}{vs ss} (h:T.R a v F) (t:Args F vs ss):Args F (v::vs) (.fz T a::ss)
theorem Args.hold {vs:List V}{ss:List Sl}(a:Args F vs ss) (n:Nat):Hold (ss++List.replicate n .dead) (vs.map some++List.replicate n none) F (fun _=>none):=by
 induction a with
 | nil =>
  induction n with
  | zero=>trivial
  | succ n ih=>exact ⟨fun _=>none,fun _=>none,fun p=>.inl ⟨rfl,rfl⟩,trivial,ih⟩
 | cons hv t ih=>exact ⟨fun _=>none,fun _=>none,fun p=>.inl ⟨rfl,rfl⟩,⟨_,rfl,hv⟩,ih⟩
def CsS (C:Cs γ) (ss:γ→List Sl):Prop:=∀ {c vs F},C.R c vs F→Args F vs (ss c)
theorem zp_:CsS (csLast T) fun a=>[.fz T a]:=fun ⟨v,e,h⟩=>by rw [e]; exact .cons h .nil
theorem zl_ {C:Cs γ}{ss:γ→List Sl}(h:CsS C ss):CsS (csCons T C) fun c=>.fz T c.1::ss c.2:=fun ⟨v,us,e,q,z⟩=>by rw [e]; exact .cons q (h z)
theorem zgc_ (hs:Same F H):Okk F H F (fun _=>none) H:=by
 refine ⟨.refl hs,fun p=>.inr rfl,fun p o e=>?_,fun p e=>absurd rfl e,fun p xs e=>?_⟩
 ·cases e
 ·cases e
theorem znI_ {t:XK→TS}{C:Cs γ}{ss:γ→List Sl}{f:γ→Mo (Out ρ Unit Unit)}{N:List Str}(n m:Nat) (hn:CsN C n) (hm:N.length-n=m) (hC:CsS C ss) (h:∀ c E,EvS K (t E) E (ss c++List.replicate m .dead) (f c) (fun _:Unit=>[]) (fun _:Unit=>[]) O) :
  ∀ vs H Q E,Ct K C (fun c=>fnO (f c)) O vs H Q E→t E { nx:=fun _ H'=>Q .non H',rt:=Q } (start N vs) H:=by
 rintro vs H Q E ⟨F,c,hs,hc,q⟩
 have hstart:start N vs=vs.map some++List.replicate m none:=by unfold start; rw [hn hc,hm]
 rw [hstart]
 refine h c E F H _ F (fun _=>none) H _ ((hC hc).hold m) (zgc_ hs) ?_
 have q:After K (fnO (f c)) E F H (OwnK O H Q):=q
 cases e:f c with
 | no=>rw [e] at q; exact q
 | ex cc=>rw [e] at q; exact fun F h H ok=>q F H ok.1
 | ok o =>
  rw [e] at q
  cases o with
  | nx s=>exact q.elim
  | bk s=>exact q.elim
  | ct s=>exact q.elim
  | rt a=>exact fun v F' h' H' ok hv=>q F' H' ok.1 v h' (fun p z=>ok.2.2.2.1 p z) ok.2.1 ok.2.2.1 hv
end
end L2
namespace L2
open PySem PySem.Spec PyProof.Rows
section
variable {K:Fgg}{E:XK}{α β γ ρ S S' B B':Type}{F0 H0 F h H:Hp}{L L':List Sl}{e e1 e2:TE}{T:Ty α}{r:Mo α}{O:Own ρ}{t u:TS}{LS:S→List Sl}{LS':S'→List Sl}{LB:B→List Sl}
def CDivG (i j:Int):Prop:=0<j∧Builtin.divisionGoesByPylong i j=false
instance (i j:Int):Decidable (CDivG i j):=inferInstanceAs (Decidable (_∧_))
instance (i j:Int):Decidable (IntMulOk i j):=inferInstanceAs (Decidable (¬ _))
abbrev mMulG:R2:=mI IntMulOk fun i j=>.int (i*j)
abbrev mDivG:R2:=mI CDivG fun i j=>.int (i / j)
theorem zmi_ {X:Cx}:OpR X (binaryOp .Mult) mMulG:=opM (opI fun _ _ _ _ _ _ _ hc q=>mul_int q hc)
theorem zbx_ {X:Cx}:OpR X (binaryOp .FloorDiv) mDivG:=opM (opI fun i j _ _ _ _ _ hc q=>by
 have h1:(0:Int)<j:=hc.1
 exact floordiv_int (by lia) (by rw [Int.fdiv_eq_ediv_of_nonneg i (by lia)]; exact q) (.inl hc.2))
theorem zaA_:Op2 K mDivG E tyInt tyInt (fun i j=>.grd (CDivG i j) (.ok (i / j))) tyInt:=op_i fun _ _ _=>rfl
theorem zl1_ {Pq:α→Prop}{a:α}{l:List α}(h:Pq a) (t:∀ q∈l,Pq q):∀ q∈a::l,Pq q:=List.forall_mem_cons.mpr ⟨h,t⟩
theorem zmJ_:EvS K t E L (.no:Mo (Out ρ B S)) LS LB O:=fun _ _ _ _ _ _ _ _ _ fin=>fin.elim
theorem zcq_ {r:Mo (Out ρ B S)}(w:Sub L L') (hk:EvS K t E L' r LS LB O):EvS K t E L r LS LB O:=fun F0 H0 σ F h H D hL ok fin=>hk F0 H0 σ F h H D (w.hold hL) ok fin
theorem at_ {r:Mo (Out ρ B S)}(L:List Sl) (hk:EvS K t E L r LS LB O):EvS K t E L r LS LB O:=hk
theorem za1_ (i:Nat) {xs:List α}(h:L[i]?=some (.ow (owL T) xs)):EvF K (mVar i) E L (.ok xs) (tyL T):=zcY_ i h
theorem zei_:EvT K tTrue E L (.ok true):=fun σ F H Q hL hs q=>q.ok hs
theorem dead1 {L:List Sl}:DeadAt (.dead::L) [0]:=fun i hi s e=>by
 cases (List.mem_singleton.mp hi); cases e; rfl
theorem dead2 {L:List Sl}:DeadAt (.dead::.dead::L) [0,1]:=fun i hi s e=>by
 rcases List.mem_cons.mp hi with rfl | hi
 ·cases e; rfl
 ·cases (List.mem_singleton.mp hi); cases e; rfl
theorem zl2_ {a:Int}{v:V}{F:Hp}(h:tyInt.R a v F):v≠.non:=by cases h; exact fun z=>V.noConfusion z
end
end L2
namespace L2
open PySem PySem.Spec PyProof.Rows
section
variable {α β γ ρ S S' B:Type}
@[simp] theorem Mo.okB (a:α) (f:α→Mo β):(Mo.ok a).bind f=f a:=of_eq_true (eq_self _)
@[simp] theorem Mo.exB (c:Xc) (f:α→Mo β):(Mo.ex c:Mo α).bind f=.ex c:=of_eq_true (eq_self _)
@[simp] theorem Mo.noB (f:α→Mo β):(Mo.no:Mo α).bind f=.no:=of_eq_true (eq_self _)
@[simp] theorem Mo.noexO (a:α):(Mo.ok a).noex=.ok a:=of_eq_true (eq_self _)
@[simp] theorem Mo.optS (a:α):Mo.opt (some a)=.ok a:=of_eq_true (eq_self _)
@[simp] theorem zkY_ (s:S) (k:S→Mo (Out ρ B S')):thenO (.ok (.nx s)) k=k s:=of_eq_true (eq_self _)
@[simp] theorem zlK_ (a:ρ) (k:S→Mo (Out ρ B S')):thenO (.ok (.rt a)) k=.ok (.rt a):=of_eq_true (eq_self _)
@[simp] theorem zla_ (b:B) (k:S→Mo (Out ρ B S')):thenO (.ok (.bk b)) k=.ok (.bk b):=of_eq_true (eq_self _)
@[simp] theorem zkS_ (b:B) (k:S→Mo (Out ρ B S')):thenO (.ok (.ct b)) k=.ok (.ct b):=of_eq_true (eq_self _)
@[simp] theorem znZ_ (a:ρ):fnO (.ok (.rt a))=.ok a:=of_eq_true (eq_self _)
@[simp] theorem zk4_ (step:S→α→Mo (Out ρ S S)) (s:S):forO (B:=B) step [] s=.ok (.nx s):=of_eq_true (eq_self _)
theorem zfN_ (step:S→α→Mo (Out ρ S S)) (x:α) (xs:List α) (s:S):forO (B:=B) step (x::xs) s=(step s x).bind fun o=>match o with | .nx s'=>forO step xs s' | .ct s'=>forO step xs s' | .bk s'=>.ok (.nx s') | .rt a=>.ok (.rt a):=rfl
theorem zio_ {step:S→α→Mo (Out ρ S S)}{x:α}{xs:List α}{s s':S}(h:step s x=.ok (.nx s')):forO (B:=B) step (x::xs) s=forO step xs s':=by rw [zfN_,h]; rfl
theorem zks_ {step:S→α→Mo (Out ρ S S)}{x:α}{xs:List α}{s:S}{a:ρ}(h:step s x=.ok (.rt a)):forO (B:=B) step (x::xs) s=.ok (.rt a):=by rw [zfN_,h]; rfl
theorem zhq_ {step:S→α→Mo (Out ρ S S)}(P:List α→S→Prop):∀ {xs:List α}(done:List α) {s:S},P done s→(∀ d x s,(∃ r,done++xs=d++x::r)→P d s→∃ s',step s x=.ok (.nx s')∧P (d++[x]) s')→∃ s',forO (B:=B) step xs s=.ok (.nx s')∧P (done++xs) s'
 | [],done,s,h0,_=>⟨s,rfl,by rw [List.append_nil]; exact h0⟩
 | x::xs,done,s,h0,h=>by
  obtain ⟨s1,e1,p1⟩:=h done x s ⟨xs,rfl⟩ h0
  obtain ⟨s2,e2,p2⟩:=zhq_ P (xs:=xs) (done++[x]) p1 fun d y s ⟨r,hr⟩ hp=>h d y s ⟨r,by rw [← hr]; simp⟩ hp
  exact ⟨s2,by rw [zio_ e1,e2],by simpa using p2⟩
theorem ze5_ {step:Unit→α→Mo (Out ρ Unit Unit)}:∀ {xs:List α},(∀ x∈xs,step () x=.ok (.nx ()))→forO (B:=B) step xs ()=.ok (.nx ())
 | [],_=>rfl
 | x::xs,h=>by rw [zio_ (h x List.mem_cons_self),ze5_ fun y hy=>h y (List.mem_cons_of_mem _ hy)]
theorem zcu_ {step:Unit→α→Mo (Out ρ Unit Unit)}{p:α→Bool}{a:α→ρ}:∀ {xs:List α},(∀ x∈xs,step () x=if p x then .ok (.rt (a x)) else .ok (.nx ()))→forO (B:=B) step xs ()=match xs.find? p with | some x=>.ok (.rt (a x)) | none=>.ok (.nx ())
 | [],_=>rfl
 | x::xs,h=>by
  have h1:=h x List.mem_cons_self
  rw [List.find?_cons]
  cases e:p x with
  | true=>rw [e,if_pos rfl] at h1; rw [zks_ h1]
  | false=>rw [e,if_neg (by decide)] at h1; rw [zio_ h1,zcu_ fun y hy=>h y (List.mem_cons_of_mem _ hy)]
open PySem PySem.Spec PyProof.Rows in
theorem zmW_ {a j:Int}(h0:0<j) (h:j.natAbs.log2<9000):CDivG a j:=by
 refine ⟨h0,?_⟩
 unfold Builtin.divisionGoesByPylong
 simp only
 rw [Bool.and_eq_false_iff]
 left
 rw [decide_eq_false_iff_not]
 split<;>lia
theorem log2_lt {n k:Nat}(h:n<2 ^ k):n.log2<k∨n=0:=by
 by_cases hz:n=0
 ·exact .inr hz
 ·exact .inl ((Nat.log2_lt hz).mpr h)
theorem zmS_ {a j:Int}(h0:0<j) (h:j<2 ^ 1000):CDivG a j:=by
 refine zmW_ h0 ?_
 have h1:j.natAbs<2 ^ 1000:=by
  have:((2:Int) ^ 1000)=((2 ^ 1000:Nat):Int):=by rw [Int.natCast_pow]; rfl
  rw [this] at h
  lia
 rcases log2_lt h1 with h | h
 ·lia
 ·rw [h]; decide
open PySem PySem.Spec PyProof.Rows in
theorem zmY_ {i:Int}{k:Nat}(h:i.natAbs<2 ^ k):Builtin.Int.intBits i≤k:=by
 unfold Builtin.Int.intBits
 split
 ·exact Nat.zero_le _
 ·rename_i hz
  rcases log2_lt h with h | h
  ·lia
  ·exact absurd (by simpa using Int.natAbs_eq_zero.mp h) hz
open PySem PySem.Spec PyProof.Rows in
theorem zaM_ {i j:Int}(h : -(2 ^ 64)<i∧i<2 ^ 64 ∨ -(2 ^ 64)<j∧j<2 ^ 64):IntMulOk i j:=CMul.ok h
@[simp] theorem zjV_ {a j:Int}{k:Mo α}(h0:0<j) (h1:j<1073741824):Mo.grd (CDivG a j) k=k:=Mo.grd_ok (zmS_ h0 (by lia))
@[simp] theorem grd_T {k:Mo α} [Decidable True]:Mo.grd True k=k:=Mo.grd_ok trivial
@[simp] theorem zeO_ {j:Int}{k:Mo α}(h0:0<j):Mo.grd (0<j) k=k:=Mo.grd_ok h0
open PySem PySem.Spec PyProof.Rows in
@[simp] theorem zlt_ {i j:Int}{k:Mo α}(h0 : -18446744073709551616<i) (h1:i<18446744073709551616):Mo.grd (IntMulOk i j) k=k:=Mo.grd_ok (zaM_ (.inl ⟨by lia,by lia⟩))
theorem zbi_ (lo:Int) (n:Nat):(rngI lo n).length=n:=by unfold rngI; rw [List.length_map,List.length_range]
theorem zah_ {lo x:Int}{n:Nat}:x∈rngI lo n↔lo≤x∧x<lo+n:=by
 unfold rngI
 simp only [List.mem_map,List.mem_range]
 constructor
 ·rintro ⟨a,h,rfl⟩; lia
 ·rintro ⟨h1,h2⟩; exact ⟨(x-lo).toNat,by lia,by lia⟩
theorem zfz_ {xs:List α}{k:Int}(h0:0≤k):atI xs k=xs[k.toNat]?:=by
 unfold atI ixN
 rw [if_pos h0]
 split
 ·rfl
 ·rename_i h
  rw [List.getElem?_eq_none (by omega)]; rfl
theorem zh2_ {xs:List α}{k:Int}(h0:0≤k) (h1:k<xs.length):∃ x,atI xs k=some x∧x∈xs:=by
 rw [zfz_ h0,List.getElem?_eq_getElem (show k.toNat<xs.length by lia)]
 exact ⟨_,rfl,List.getElem_mem _⟩
theorem zj0_ {xs:List α}(k:Int) (h:xs≠[]):∃ x,atI xs (k % (xs.length:Int))=some x∧x∈xs:=by
 have:0<xs.length:=List.length_pos_iff.mpr h
 exact zh2_ (Int.emod_nonneg _ (by lia)) (Int.emod_lt_of_pos _ (by lia))
theorem zdW_ {q:α→α→Bool}(hq:∀ a,q a a=true):∀ xs:List α,eqL q xs xs=true
 | []=>rfl
 | x::xs=>by unfold eqL; rw [hq,zdW_ hq xs]; rfl
theorem ze8_ (xs:List α) (lo hi:Option Int):(cutG xs lo hi).length≤xs.length:=by
 unfold cutG; rw [List.length_take,List.length_drop]; lia
theorem zg7_ {xs:List α}{lo hi:Option Int}{x:α}(h:x∈cutG xs lo hi):x∈xs:=List.mem_of_mem_drop (List.mem_of_mem_take h)
end
end L2
namespace L2
open PySem PySem.Spec PyProof.Rows
section
variable {K:Fgg}{E:XK}{α β γ ρ S S' B B':Type}{F0 H0 F h H:Hp}{L L':List Sl}{e e1 e2:TE}{T:Ty α}{r:Mo α}{O:Own ρ}{t u:TS}{LS:S→List Sl}{LS':S'→List Sl}{LB:B→List Sl}
def OwIn (T:Ty α) (F:Hp):List (List α)→List V→Hp→Prop
 | [],[],h=>∀ p,h p=none
 | xs::xss,v::vs,h=>∃ h1 h2,Jn h1 h2 h∧(owL T).O xs v F h1∧OwIn T F xss vs h2
 | _,_,_=>False
theorem OwIn.mono:∀ {xss:List (List α)}{vs:List V}{F F' h:Hp},Same F F'→OwIn T F xss vs h→OwIn T F' xss vs h
 | [],[],_,_,_,_,q=>q
 | xs::xss,v::vs,F,F',h,g,⟨h1,h2,j,o,r⟩=>⟨h1,h2,j,(owL T).mono g o,r.mono g⟩
 | [],_::_,_,_,_,_,q=>q.elim
 | _::_,[],_,_,_,_,q=>q.elim
theorem OwIn.imm (i:Imm T):∀ {xss:List (List α)}{vs:List V}{F F' h:Hp},Tups F F'→OwIn T F xss vs h→OwIn T F' xss vs h
 | [],[],_,_,_,_,q=>q
 | xs::xss,v::vs,F,F',h,g,⟨h1,h2,j,o,r⟩=>⟨h1,h2,j,zS_ i g o,r.imm i g⟩
 | [],_::_,_,_,_,_,q=>q.elim
 | _::_,[],_,_,_,_,q=>q.elim
theorem OwIn.notup:∀ {xss:List (List α)}{vs:List V}{F h:Hp},OwIn T F xss vs h→∀ p xs,h p≠some (.tup xs)
 | [],[],_,_,q,p,xs=>by rw [q p]; exact fun z=>by cases z
 | xs::xss,v::vs,F,h,⟨h1,h2,j,o,r⟩,p,ys=>by
  rcases j p with ⟨_,b⟩ | ⟨_,b⟩
  ·rw [b]; exact r.notup p ys
  ·rw [b]; exact (owL T).notup o p ys
 | [],_::_,_,_,q,_,_=>q.elim
 | _::_,[],_,_,q,_,_=>q.elim
theorem OwIn.len:∀ {xss:List (List α)}{vs:List V}{F h:Hp},OwIn T F xss vs h→xss.length=vs.length
 | [],[],_,_,_=>rfl
 | xs::xss,v::vs,F,h,⟨h1,h2,j,o,r⟩=>by rw [List.length_cons,List.length_cons,r.len]
 | [],_::_,_,_,q=>q.elim
 | _::_,[],_,_,q=>q.elim
theorem OwIn.prs:∀ {xss:List (List α)}{vs:List V}{F h G:Hp},Same F G→Same h G→OwIn T F xss vs h→Prs (tyL T) G xss vs
 | [],[],_,_,_,_,_,_=>.nil
 | xs::xss,v::vs,F,h,G,gF,gh,⟨h1,h2,j,⟨p,us,e,z,q⟩,r⟩=>by
  refine .cons ⟨p,us,e,gh _ _ (j.l _ _ (by rw [z]; exact zv_)),q.mono gF⟩ (r.prs gF (j.r.trans gh))
 | [],_::_,_,_,_,_,_,q=>q.elim
 | _::_,[],_,_,_,_,_,q=>q.elim
abbrev owLL (T:Ty α):Own (List (List α)):=⟨fun xss v F h=>∃ p vs h2,v=.ref p∧Jn (one p (.lst vs)) h2 h∧OwIn T F xss vs h2,tyL (tyL T),fun g ⟨p,vs,h2,e,j,q⟩=>⟨p,vs,h2,e,j,q.mono g⟩,
 fun d ⟨p,vs,h2,e,j,q⟩=>⟨p,vs,e,zfy_ d _ _ (j.l _ _ zv_),q.prs zb0_ (j.r.trans (zfy_ d))⟩,
 fun ⟨p,vs,h2,e,j,q⟩ b xs y=>by
  rcases j b with ⟨_,z⟩ | ⟨_,z⟩
  ·rw [z] at y; exact q.notup b xs y
  ·rw [z] at y; unfold one at y; split at y<;>cases y⟩
theorem zhw_ (i:Imm T):ImmO (owLL T):=fun g ⟨p,vs,h2,e,j,q⟩=>⟨p,vs,h2,e,j,q.imm i g⟩
theorem OwIn.at:∀ {xss:List (List α)}{vs:List V}{F h:Hp}(i:Nat) {xs:List α},OwIn T F xss vs h→xss[i]?=some xs →
  ∃ p us h2,vs[i]?=some (.ref p)∧Jn (one p (.lst us)) h2 h∧Prs T F xs us∧∀ xs' us' h',Prs T F xs' us'→Jn (one p (.lst us')) h2 h'→OwIn T F (xss.set i xs') vs h'
 | [],_,_,_,_,_,_,e=>by cases e
 | xs::xss,[],_,_,_,_,q,_=>q.elim
 | xs::xss,v::vs,F,h,0,ys,⟨h1,h2,j,⟨p,us,ev,z,q⟩,r⟩,e=>by
  cases e
  subst ev z
  exact ⟨p,us,h2,rfl,j,q,fun xs' us' h' q' j'=>⟨_,h2,j',⟨p,us',rfl,rfl,q'⟩,r⟩⟩
 | xs::xss,v::vs,F,h,i+1,ys,⟨h1,h2,j,o,r⟩,e=>by
  obtain ⟨p,us,k2,e1,j1,q1,f⟩:=OwIn.at i r (by simpa using e)
  have d2:Dj h1 k2:=fun q=>by
   rcases j.dj q with a | a
   ·exact .inl a
   ·exact .inr (j1.r.free a)
  have h1p:h1 p=none:=by
   rcases j.dj p with a | a
   ·exact a
   ·have:=j1.l p _ zv_; rw [a] at this; cases this
  refine ⟨p,us,un h1 k2,by simpa using e1,fun q=>?_,q1,fun xs' us' h' q' j'=>?_⟩
  ·rcases j q with ⟨a,b⟩ | ⟨a,b⟩
   ·rcases j1 q with ⟨c,d⟩ | ⟨c,d⟩
    ·refine .inl ⟨c,?_⟩; unfold un; rw [a,b,d]
    ·refine .inr ⟨?_,by rw [b,d]⟩; unfold un; rw [a,c]
   ·refine .inl ⟨j1.l.free a,?_⟩
    have:k2 q=none:=j1.r.free a
    unfold un; rw [b]
    cases h1 q with
    | none=>rw [this]
    | some u=>rfl
  ·have dd:Dj (one p (.lst us')) k2:=fun q=>by
    unfold one; split
    ·rename_i z; rw [z]
     rcases j1.dj p with a | a
     ·rw [zv_] at a; cases a
     ·exact .inr a
    ·exact .inl rfl
   refine ⟨h1,un (one p (.lst us')) k2,fun q=>?_,o,f xs' us' _ q' (zeZ_ dd)⟩
   rcases j' q with ⟨a,b⟩ | ⟨a,b⟩
   ·unfold un at b ⊢
    rw [a]
    cases z:h1 q with
    | none=>rw [z] at b; exact .inl ⟨rfl,b⟩
    | some w =>
     rw [z] at b
     refine .inr ⟨?_,b⟩
     rcases d2 q with y | y
     ·rw [y] at z; cases z
     ·exact y
   ·unfold un at a
    cases z:h1 q with
    | some w=>rw [z] at a; cases a
    | none =>
     rw [z] at a
     refine .inl ⟨rfl,?_⟩
     unfold un; rw [b]
     cases one p (.lst us') q with
     | none=>exact a.symm
     | some w=>rfl
theorem zg9_ {n:Nat}{j:Int}{k:Nat}(h:ixN n j=some k):k<n:=by
 unfold ixN at h
 split at h
 ·split at h
  ·cases h; lia
  ·cases h
 ·split at h
  ·cases h; lia
  ·cases h
theorem zkm_ {p:Addr}{o':HO}{h1' hr h':Hp}(ok:Okk F0 H0 F h H) (hp:h p≠none) (nt:∀ xs,o'≠.tup xs) (h':Hp) (hh:∀ q,h' q=if q=p then some o' else h q):Okk F0 H0 F h' (upd H p o'):=by
 obtain ⟨o1,o2,o3,o4,o5⟩:=ok
 have Fp:F p=none:=by
  rcases o2 p with z | z
  ·exact z
  ·exact absurd z hp
 have H0p:H0 p=none:=o4 p hp
 refine ⟨⟨o1.1,fun q o z=>?_,fun q o z=>?_,o1.2.2.2⟩,fun q=>?_,fun q o z=>?_,fun q z=>?_,fun q ys z=>?_⟩
 ·unfold upd; split
  ·rename_i w; rw [w,Fp] at z; cases z
  ·exact o1.2.1 _ _ z
 ·unfold upd; split
  ·rename_i w; rw [w,H0p] at z; cases z
  ·exact o1.2.2.1 _ _ z
 ·rw [hh]; split
  ·rename_i w; rw [w]; exact .inl Fp
  ·exact o2 q
 ·rw [hh] at z; unfold upd
  split at z
  ·rename_i w; rw [if_pos w]; exact z
  ·rename_i w; rw [if_neg w]; exact o3 _ _ z
 ·rw [hh] at z; split at z
  ·rename_i w; rw [w]; exact H0p
  ·exact o4 q z
 ·rw [hh] at z; split at z
  ·exact nt ys (by injection z)
  ·exact o5 q ys z
theorem zfY_ {i:Nat}{σ:St}{xss:List (List α)}{j:Nat}{xs:List α}(hL:Hold L σ F h) (hi:L[i]?=some (.ow (owLL T) xss)) (hj:xss[j]?=some xs) (ok:Okk F0 H0 F h H) :
  ∃ p vs q us,σ[i]?=some (some (.ref p))∧H p=some (.lst vs)∧xss.length=vs.length∧vs[j]?=some (.ref q)∧H q=some (.lst us)∧Prs T F xs us ∧
   ∀ xs' us',Prs T F xs' us'→∃ h',Hold (L.set i (.ow (owLL T) (xss.set j xs'))) σ F h'∧Okk F0 H0 F h' (upd H q (.lst us')):=by
 obtain ⟨o,h1,h2,e1,jj,⟨v,e2,p,vs,k2,rfl,jk,inn⟩,f⟩:=hL.at i hi
 subst e2
 obtain ⟨q,us,m2,e3,jm,hr,g⟩:=inn.at j hj
 have hq1:k2 q=some (.lst us):=jm.l _ _ zv_
 have hq2:h1 q=some (.lst us):=jk.r _ _ hq1
 have hq:h q=some (.lst us):=jj.l _ _ hq2
 have hp:h p=some (.lst vs):=jj.l _ _ (jk.l _ _ zv_)
 refine ⟨p,vs,q,us,e1,ok.2.2.1 _ _ hp,inn.len,e3,ok.2.2.1 _ _ hq,hr,fun xs' us' hr'=>?_⟩
 have pq:p≠q:=fun z=>by
  rcases jk.dj p with a | a
  ·rw [zv_] at a; cases a
  ·rw [z,hq1] at a; cases a
 let k2':Hp:=fun b=>if b=q then some (.lst us') else k2 b
 let h1':Hp:=fun b=>if b=q then some (.lst us') else h1 b
 let h':Hp:=fun b=>if b=q then some (.lst us') else h b
 have j1:Jn (one q (.lst us')) m2 k2':=fun b=>by
  show _∨_
  by_cases z:b=q
  ·right
   have:m2 b=none:=by
    rcases jm.dj b with a | a
    ·rw [z,zv_] at a; cases a
    ·exact a
   refine ⟨this,?_⟩
   show (if b=q then _ else _)=one q _ b
   rw [if_pos z]; unfold one; rw [if_pos z]
  ·left
   refine ⟨by unfold one; rw [if_neg z],?_⟩
   show (if b=q then _ else _)=_
   rw [if_neg z]
   rcases jm b with ⟨_,c⟩ | ⟨a,c⟩
   ·exact c
   ·rw [c,a]; unfold one; rw [if_neg z]
 have j2:Jn (one p (.lst vs)) k2' h1':=fun b=>by
  by_cases z:b=q
  ·left
   refine ⟨by unfold one; rw [if_neg (fun y=>pq (by rw [← y,z]))],?_⟩
   show (if b=q then _ else _)=(if b=q then _ else _)
   rw [if_pos z,if_pos z]
  ·rcases jk b with ⟨a,c⟩ | ⟨a,c⟩
   ·refine .inl ⟨a,?_⟩
    show (if b=q then _ else _)=(if b=q then _ else _)
    rw [if_neg z,if_neg z]; exact c
   ·refine .inr ⟨?_,?_⟩
    ·show (if b=q then _ else _)=_
     rw [if_neg z]; exact a
    ·show (if b=q then _ else _)=_
     rw [if_neg z]; exact c
 have j3:Jn h1' h2 h':=fun b=>by
  by_cases z:b=q
  ·right
   have:h2 b=none:=by
    rcases jj.dj b with a | a
    ·rw [z,hq2] at a; cases a
    ·exact a
   refine ⟨this,?_⟩
   show (if b=q then _ else _)=(if b=q then _ else _)
   rw [if_pos z,if_pos z]
  ·rcases jj b with ⟨a,c⟩ | ⟨a,c⟩
   ·refine .inl ⟨?_,?_⟩
    ·show (if b=q then _ else _)=_
     rw [if_neg z]; exact a
    ·show (if b=q then _ else _)=_
     rw [if_neg z]; exact c
   ·refine .inr ⟨a,?_⟩
    show (if b=q then _ else _)=(if b=q then _ else _)
    rw [if_neg z,if_neg z]; exact c
 have gg:=f (.ow (owLL T) (xss.set j xs')) (some (.ref p)) h1' h' j3 ⟨_,rfl,p,vs,k2',rfl,j2,g xs' us' k2' hr' j1⟩
 rw [zcd_ e1] at gg
 exact ⟨h',gg,zkm_ (h1':=h) (hr:=h) (h':=h) ok (by rw [hq]; exact Option.some_ne_none _) (fun xs z=>by cases z) h' fun b=>rfl⟩
end
end L2
namespace L2
open PySem PySem.Spec PyProof.Rows
section
variable {K:Fgg}{E:XK}{α β γ ρ S S' B B':Type}{F0 H0 F h H:Hp}{L L':List Sl}{e e1 e2:TE}{T:Ty α}{r:Mo α}{O:Own ρ}{t u:TS}{LS:S→List Sl}{LS':S'→List Sl}{LB:B→List Sl}
theorem OwIn.snoc:∀ {xss:List (List α)}{vs:List V}{h h1 h':Hp}{xs:List α}{v:V},OwIn T F xss vs h→(owL T).O xs v F h1→Jn h h1 h'→OwIn T F (xss++[xs]) (vs++[v]) h'
 | [],[],h,h1,h',xs,v,q,o,j=>by
  refine ⟨h',fun _=>none,fun p=>.inr ⟨rfl,rfl⟩,?_,fun _=>rfl⟩
  have:h'=h1:=by
   funext p
   rcases j p with ⟨a,b⟩ | ⟨a,b⟩
   ·exact b
   ·rw [b,q p,a]
  rw [this]; exact o
 | ys::xss,w::vs,h,h1,h',xs,v,⟨k1,k2,jk,o1,r1⟩,o,j=>by
  have d:Dj k2 h1:=fun p=>by
   rcases j.dj p with a | a
   ·exact .inl (jk.r.free a)
   ·exact .inr a
  refine ⟨k1,un k2 h1,fun p=>?_,o1,r1.snoc o (zeZ_ d)⟩
  rcases j p with ⟨a,b⟩ | ⟨a,b⟩
  ·have z1:k1 p=none:=jk.l.free a
   have z2:k2 p=none:=jk.r.free a
   refine .inl ⟨z1,?_⟩
   unfold un; rw [z2]; exact b
  ·rcases jk p with ⟨c,dd⟩ | ⟨c,dd⟩
   ·refine .inl ⟨c,?_⟩
    unfold un; rw [b,dd]
    cases z:k2 p with
    | none=>exact a.symm
    | some w=>rfl
   ·refine .inr ⟨?_,by rw [b,dd]⟩
    unfold un; rw [c]; exact a
 | [],_::_,_,_,_,_,_,q,_,_=>q.elim
 | _::_,[],_,_,_,_,_,q,_,_=>q.elim
theorem zkz_ {lv:List Str}{fr:List (Str×Nat)}{wi:TI}{g:TG}{tt:TT}{te:TE}{r:Mo (List α)}{ss:α→List (Nat×Sl)}{c:α→Mo Bool}{f:α→Mo (List β)}{T':Ty β}
  (hi:EvI K wi E L r T) (hg:TgR K g T ss) (hd:∀ a,DeadAt (cL lv fr L) ((ss a).map (·.1))) (ht:∀ a,EvT K tt E0 (setL (cL lv fr L) (ss a)) (c a)) (he:∀ a,EvO K te E0 (setL (cL lv fr L) (ss a)) (f a) (owL T')) :
  EvO K (tComp lv fr wi g tt te) E L (r.bind fun xs=>compM (fun x=>cond1 (c x) (f x)) xs []) (owLL T'):=by
 intro σ F0 H0 Q hL hs q
 refine hi σ F0 H0 _ hL hs (q.bind.imp fun xs F1 H1 x1 k1 J Y D hD=>?_)
 have hL1:=hL.mono x1.1
 refine ⟨fun i m ys σ' H'=>m=xs.length-i∧i≤xs.length∧∃ acc Fi hh,Ext F1 H1 Fi H'∧Fi D=none∧hh D=none∧H' D=some (.lst ys)∧OwIn T' Fi acc ys hh∧Dj Fi hh∧Same hh H'∧(∀ p,hh p≠none→H1 p=none)∧HoldF (cL lv fr L) σ' F1∧σ'.length=(cL lv fr L).length∧After K (compM (fun x=>cond1 (c x) (f x)) (xs.drop i) acc) E F1 H1 (OwnK (owLL T') H0 Q),
  ⟨_,rfl,Nat.zero_le _,[],F1,fun _=>none,.heap x1.2.1 (zaB_ hD _),x1.2.1.free hD,rfl,zu_,fun _=>rfl,fun _=>.inr rfl,(fun p o z=>by cases z),fun p z=>absurd rfl z,zeh_ hL1,zhf_.symm,k1⟩,?_⟩
 rintro i m ys σ' H' ⟨rfl,hi,acc,Fi,hh,xi,hDi,hDh,hy,hp,dj,sh,fresh,hσ,hln,A⟩
 by_cases hlt:i<xs.length
 ·right
  have ex:xs[i]?=some xs[i]:=List.getElem?_eq_getElem hlt
  obtain ⟨g1,g2⟩:=Y.go i H' xs[i] (xi.1.trans xi.2.1) ex
  refine ⟨g1,fun ys' σ'' H''=>i+1≤xs.length∧∃ acc Fi hh,Ext F1 H1 Fi H''∧Fi D=none∧hh D=none∧H'' D=some (.lst ys')∧OwIn T' Fi acc ys' hh∧Dj Fi hh∧Same hh H''∧(∀ p,hh p≠none→H1 p=none)∧HoldF (cL lv fr L) σ'' F1∧σ''.length=(cL lv fr L).length∧After K (compM (fun x=>cond1 (c x) (f x)) (xs.drop (i+1)) acc) E F1 H1 (OwnK (owLL T') H0 Q),fun ys' σ'' H'' z=>⟨xs.length-(i+1),by lia,rfl,z⟩,fun v H2 hyl=>?_⟩
  obtain ⟨F2,x2,hv⟩:=g2 v H2 hyl Fi xi.1 xi.2.1
  have keep:∀ {Fa Ha Fb Hb:Hp},Ext Fa Ha Fb Hb→Fa D=none→Ha D=some (.lst ys)→Dj Fa hh→Same hh Ha→(Fb D=none∧Hb D=some (.lst ys))∧Dj Fb hh∧Same hh Hb:=by
   intro Fa Ha Fb Hb x h1 h2 h3 h4
   refine ⟨⟨?_,x.2.2.1 _ _ h2⟩,fun p=>?_,h4.trans x.2.2.1⟩
   ·cases z:Fb D with
    | none=>rfl
    | some o=>have:=x.2.2.2 D h1 (by rw [z]; exact Option.some_ne_none _); rw [h2] at this; cases this
   ·cases y:hh p with
    | none=>exact .inr rfl
    | some w =>
     left
     rcases h3 p with z | z
     ·cases zz:Fb p with
      | none=>rfl
      | some o=>have:=x.2.2.2 p z (by rw [zz]; exact Option.some_ne_none _); rw [h4 _ _ y] at this; cases this
     ·rw [z] at y; cases y
  obtain ⟨⟨hD2,hy2⟩,dj2,sh2⟩:=keep x2 hDi hy dj sh
  refine hg xs[i] v σ' F2 H2 _ x2.2.1 hv fun vs hpl=>?_
  have hσ2:HoldF (cL lv fr L) σ' F2:=hσ.mono (xi.1.trans x2.1)
  obtain ⟨a1,a2,a3⟩:=zdg_ hpl hln.symm hσ2
  have hσd:HoldF (cL lv fr L) (setS σ' vs) F1:=by
   have hdead:=hd xs[i]
   refine fun j s e=>?_
   by_cases hj:∃ q∈(ss xs[i]).map (·.1),q=j
   ·obtain ⟨q,hq,rfl⟩:=hj
    rw [hdead q hq s e]; trivial
   ·have:((setS σ' vs)[j]?)=σ'[j]?:=zg6_ hpl (fun hq=>hj ⟨j,hq,rfl⟩)
    rw [this]; exact hσ j s e
  have hdrop:xs.drop i=xs[i]::xs.drop (i+1):=List.drop_eq_getElem_cons hlt
  rw [hdrop] at A
  unfold compM at A
  cases ec:c xs[i] with
  | no=>unfold cond1 at A; rw [ec] at A; exact A.elim
  | ex cc=>unfold cond1 at A; rw [ec] at A; exact A.elim
  | ok bb =>
   refine ht xs[i] _ F2 H2 _ a1 x2.2.1 ?_
   rw [ec]
   intro F3 H3 x3
   obtain ⟨⟨hD3,hy3⟩,dj3,sh3⟩:=keep x3 hD2 hy2 dj2 sh2
   have x13:=(xi.trans x2).trans x3
   cases bb with
   | false =>
    rw [if_neg (by decide)]
    refine ⟨hlt,acc,F3,hh,x13,hD3,hDh,hy3,hp.mono (x2.1.trans x3.1),dj3,sh3,fresh,hσd,by rw [a2]; exact hln,?_⟩
    unfold cond1 at A; rw [ec] at A
    exact A
   | true =>
    rw [if_pos rfl]
    cases ef:f xs[i] with
    | no=>unfold cond1 at A; rw [ec,ef] at A; exact A.elim
    | ex cc=>unfold cond1 at A; rw [ec,ef] at A; exact A.elim
    | ok y =>
     unfold cond1 at A; rw [ec,ef] at A
     have A':After K (Mo.lim (acc.length+1) (compM (fun x=>cond1 (c x) (f x)) (xs.drop (i+1)) (acc++[y]))) E F1 H1 (OwnK (owLL T') H0 Q):=A
     obtain ⟨hz,A'⟩:=A'.lim
     refine he xs[i] _ F3 H3 _ (a1.mono x3.1) x3.2.1 ?_
     rw [ef]
     intro F4 H4 x4 v4 hn fr4 dj4n sn4 hv4
     obtain ⟨⟨hD4,hy4⟩,dj4,sh4⟩:=keep x4 hD3 hy3 dj3 sh3
     have hlen:=hp.len
     have hnD:hn D=none:=by
      cases z:hn D with
      | none=>rfl
      | some w=>have:=fr4 D (by rw [z]; exact Option.some_ne_none _); rw [hy3] at this; cases this
     have djn:Dj hh hn:=fun p=>by
      cases z:hn p with
      | none=>exact .inr rfl
      | some w=>exact .inl (sh3.free (fr4 p (by rw [z]; exact Option.some_ne_none _)))
     have x14:=x13.trans x4
     refine ⟨hy4,by lia,hlt,acc++[y],F4,un hh hn,?_,hD4,by unfold un; rw [hDh]; exact hnD,zu_,(hp.mono ((x2.1.trans x3.1).trans x4.1)).snoc hv4 (zeZ_ djn),fun p=>?_,fun p o z=>?_,fun p z=>?_,hσd,by rw [a2]; exact hln,A'⟩
     ·refine ⟨x14.1,fun b o z=>?_,fun b o z=>?_,x14.2.2.2⟩
      ·unfold upd; split
       ·rename_i w; rw [w,hD4] at z; cases z
       ·exact x14.2.1 _ _ z
      ·unfold upd; split
       ·rename_i w; rw [w,hD] at z; cases z
       ·exact x14.2.2.1 _ _ z
     ·unfold un
      cases z:hh p with
      | some w =>
       rcases dj4 p with y | y
       ·exact .inl y
       ·rw [y] at z; cases z
      | none=>exact dj4n p
     ·have hpD:p≠D:=fun w=>by
       unfold un at z; rw [w,hDh,hnD] at z; cases z
      unfold upd; rw [if_neg hpD]
      unfold un at z
      cases w:hh p with
      | some o'=>rw [w] at z; cases z; exact sh4 _ _ w
      | none=>rw [w] at z; exact sn4 _ _ z
     ·unfold un at z
      cases w:hh p with
      | some o'=>exact fresh p (by rw [w]; exact Option.some_ne_none _)
      | none=>rw [w] at z; exact x13.2.2.1.free (fr4 p z)
 ·left
  have e:i=xs.length:=by lia
  subst e
  refine ⟨Y.stop H' (xi.1.trans xi.2.1),?_⟩
  rw [List.drop_length] at A
  have A':OwnK (owLL T') H0 Q acc Fi H':=A Fi H' xi
  have dD:Dj (one D (.lst ys)) hh:=fun p=>by
   unfold one; split
   ·rename_i w; rw [w]; exact .inr hDh
   ·exact .inl rfl
  refine A' (.ref D) (un (one D (.lst ys)) hh) (fun p z=>?_) (fun p=>?_) (fun p o z=>?_) ⟨D,ys,hh,rfl,zeZ_ dD,hp⟩
  ·unfold un one at z
   by_cases w:p=D
   ·rw [w]; exact x1.2.2.1.free hD
   ·simp only [if_neg w] at z; exact x1.2.2.1.free (fresh p z)
  ·by_cases w:p=D
   ·rw [w]; exact .inl hDi
   ·unfold un one; simp only [if_neg w]; exact dj p
  ·unfold un one at z
   by_cases w:p=D
   ·simp only [if_pos w] at z; rw [w]; cases z; exact hy
   ·simp only [if_neg w] at z; exact sh _ _ z
@[irreducible] def fuelW:Nat:=100000
def mLtS:R2:=fun x y H Q=>match x,y with
 | .int i,.int j=>Q (.bl (decide (i<j))) H
 | .str i,.str j=>Q (.bl (decide (i.cps.toList<j.cps.toList))) H
 | _,_=>False
theorem znm_ {X:Cx}:OpR X (compareOp .Lt) mLtS:=by
 intro pins s σ H x y v u Q I rx ry h
 cases x<;>cases y<;>first
  | exact h.elim
  | exact op_lt pins s σ H _ _ v u Q I rx ry ⟨_,_,rfl,rfl,h⟩
  | exact zjl_ pins s σ H _ _ v u Q I rx ry ⟨_,_,rfl,rfl,h⟩
end
end L2
namespace L2
open PySem PySem.Spec PyProof.Rows
section
variable {α:Type}
theorem zbY_ {S B ρ:Type}{step:S→α→Mo (Out ρ S S)}{xs:List α}{s:S}{G:Mo (Out ρ B S)→Prop}(P:List α→S→Prop) (h0:P [] s) (hs:∀ d x s,(∃ r,xs=d++x::r)→P d s→∃ s',step s x=.ok (.nx s')∧P (d++[x]) s') (hk:∀ s',P xs s'→G (.ok (.nx s'))):G (forO step xs s):=by
 obtain ⟨s',e,p⟩:=zhq_ (B:=B) P (xs:=xs) [] h0 (fun d x s hr hp=>hs d x s hr hp)
 rw [e]
 exact hk s' p
end
abbrev Crd:=List Nat
def isC (c:Crd):Prop:=c.length=40∧∀ x∈c,x∈SG
def sg (c:Crd) (col:Int):Nat:=c.getD (col-1).toNat 0
def rk1 (x:Nat):Nat:=(SG.findIdx? (· == x)).getD 0 % 37
def rnk (c:Crd) (col:Int):Nat:=rk1 (sg c col)
theorem zln_ {x:Nat}(h:x∈SG):findS SG [x]=(rk1 x:Int):=by
 rw [zlJ_]
 unfold rk1
 have:∃ i,SG.findIdx? (· == x)=some i∧i<37:=by
  cases e:SG.findIdx? (· == x) with
  | none =>
   rw [List.findIdx?_eq_none_iff] at e
   have:=e x h
   simp at this
  | some i =>
   refine ⟨i,rfl,?_⟩
   rw [List.findIdx?_eq_some_iff_getElem] at e
   obtain ⟨hi,_⟩:=e
   exact hi
 obtain ⟨i,e,hi⟩:=this
 rw [e]
 show (i:Int)=_
 rw [Option.getD_some,Nat.mod_eq_of_lt hi]
def kv:List Int→Crd→Nat
 | [],_=>0
 | c::L,a=>rnk a c*37 ^ L.length+kv L a
end L2
namespace L2
open PySem PySem.Spec PyProof.Rows
end L2
namespace L2
open PySem PySem.Spec PyProof.Rows
open PySem.SeqAt
open PySem.AutoSeq1 (wpAny_loadPart')
open PySem.MeetsSeq PySem.MeetsSeq2 PySem.MeetsSeq3
theorem zg1_:entryFor table "list.__eq__.loop" = some Builtin.«list.__eq__.loop»:=by kernel_rfl!
theorem zeI_ (A:Around) (args:PySem.Args):A.under (Code.builtin "list.__eq__.loop" args)=A.in1:=by rfl
theorem zee_ (args:PySem.Args):(Code.builtin "list.__eq__.loop" args).quiet=true:=by first | kernel_rfl! | simp [Code.quiet] | (unfold Code.quiet; decide +kernel)
theorem zcX_:∀ {vs:List Value}{ns:List Int},IntsAre vs ns→∀ i:Nat,(vs[i]?=none∧ns[i]?=none)∨∃ a t,vs[i]?=some (.int a t)∧ns[i]?=some a
 | _,_,.nil,i=>.inl ⟨rfl,rfl⟩
 | _,_,.cons a t h,0=>.inr ⟨a,t,rfl,rfl⟩
 | _,_,.cons a t h,i+1=>by simpa using zcX_ h i
theorem zcb_ {α:Type}{xs:List α}{i:Nat}{a:α}(h:xs[i]?=some a):xs.drop i=a::xs.drop (i+1):=by
 obtain ⟨hi,e⟩:=List.getElem?_eq_some_iff.mp h
 rw [← e]; exact List.drop_eq_getElem_cons hi
theorem zdA_ {α:Type}{xs:List α}{i:Nat}(h:xs[i]?=none):xs.drop i=[]:=List.drop_eq_nil_of_le (List.getElem?_eq_none_iff.mp h)
theorem zfs_ (l b:Addr) (items items2:Array Value) (n n2:Nat) (dd dd2:Option Addr) (sl sl2:Array (Option Value)) (ns ms:List Int) (hi:IntsAre items.toList ns) (hj:IntsAre items2.toList ms):∀ (k i:Nat),items.size-i=k→i≤items.size→i≤items2.size →
  Meets (Builtin.«list.__eq__.loop» ⟨[.ref l,.ref b,rawInt (i:Nat),rawInt 0],[]⟩)
   (fun _ R s=>s.heap.get? l=some { cls:=.type "list",dict:=dd,data:=.seq items n,slots:=sl }∧s.heap.get? b=some { cls:=.type "list",dict:=dd2,data:=.seq items2 n2,slots:=sl2 } ∧
    R (.ok (.ret (.bool (HT.lexLt (ns.drop i) (ms.drop i))))) s):=by
 intro k
 induction k with
 | zero =>
  intro i hk b1 b2 prog w A R s h
  obtain ⟨hl,hb,h⟩:=h
  wp_walk using wpAny_listItems hl rfl,wpAny_listItems hb rfl
  have e1:items[i]?=none:=Array.getElem?_eq_none (by lia)
  have e1':ns[i]?=none:=by
   rcases zcX_ hi i with ⟨_,z⟩ | ⟨a,t,z,_⟩
   ·exact z
   ·rw [Array.getElem?_toList,e1] at z; cases z
  rw [Int.toNat_natCast,e1]
  rw [zdA_ e1'] at h
  rcases zcX_ hj i with ⟨z1,z2⟩ | ⟨c,u,z1,z2⟩
  ·rw [Array.getElem?_toList] at z1
   rw [z1]
   rw [zdA_ z2] at h
   wp_walk using wpAny_listItems hl rfl,wpAny_listItems hb rfl
   show R (.ok (.ret (.bool (decide (items.size<items2.size))))) s
   have z1:=Array.getElem?_eq_none_iff.mp z1
   rw [decide_eq_false (by lia)]; exact h
  ·rw [Array.getElem?_toList] at z1
   rw [z1]
   rw [zcb_ z2] at h
   wp_walk using wpAny_listItems hl rfl,wpAny_listItems hb rfl
   show R (.ok (.ret (.bool (decide (items.size<items2.size))))) s
   have z3:=(Array.getElem?_eq_some_iff.mp z1).1
   rw [decide_eq_true (by lia)]; exact h
 | succ k ih =>
  intro i hk b1 b2 prog w A R s h
  obtain ⟨hl,hb,h⟩:=h
  wp_walk using wpAny_listItems hl rfl,wpAny_listItems hb rfl
  rw [Int.toNat_natCast]
  rcases zcX_ hi i with ⟨z1,z2⟩ | ⟨a,t,z1,z2⟩
  ·rw [Array.getElem?_toList] at z1
   rw [Array.getElem?_eq_none_iff] at z1; lia
  rw [Array.getElem?_toList] at z1
  rw [z1]
  rw [zcb_ z2] at h
  rcases zcX_ hj i with ⟨y1,y2⟩ | ⟨c,u,y1,y2⟩
  ·rw [Array.getElem?_toList] at y1
   rw [y1]
   rw [zdA_ y2] at h
   wp_walk using wpAny_listItems hl rfl,wpAny_listItems hb rfl
   show R (.ok (.ret (.bool (decide (items.size<items2.size))))) s
   have z3:=(Array.getElem?_eq_some_iff.mp z1).1
   have y3:=Array.getElem?_eq_none_iff.mp y1
   rw [decide_eq_false (by lia)]; exact h
  rw [Array.getElem?_toList] at y1
  rw [y1]
  rw [zcb_ y2,HT.lexLt_cons] at h
  obtain ⟨e,he,hiff⟩:=HT.eqAt_int A.in1 s a t c u
  refine wpAny_bind (he prog w _ _ ?_)
  cases e with
  | true =>
   rw [if_pos (hiff.mp rfl)] at h
   wp_walk
   refine ⟨zee_ _,codeAny_builtin zg1_ ?_⟩
   rw [zeI_]
   have q1:=(Array.getElem?_eq_some_iff.mp z1).1
   have q2:=(Array.getElem?_eq_some_iff.mp y1).1
   exact ih (i+1) (by lia) (by lia) (by lia) prog w A R s ⟨hl,hb,h⟩
  | false =>
   rw [if_neg (fun q=>absurd (hiff.mpr q) Bool.false_ne_true)] at h
   have hri:=HT.rcLt_int A.in1 s a t c u prog w
   wp_walk using wpAny_listItems hl rfl,wpAny_listItems hb rfl
   rw [z1,y1]
   wp_walk using hri
   exact h
theorem zfH_ (l b:Addr) (items items2:Array Value) (n n2:Nat) (dd dd2:Option Addr) (sl sl2:Array (Option Value)) (ns ms:List Int) (hi:IntsAre items.toList ns) (hj:IntsAre items2.toList ms) :
  Meets (Builtin.«list.__lt__» ⟨[.ref l,.ref b],[]⟩)
   (fun _ R s=>s.heap.get? l=some { cls:=.type "list",dict:=dd,data:=.seq items n,slots:=sl }∧s.heap.get? b=some { cls:=.type "list",dict:=dd2,data:=.seq items2 n2,slots:=sl2 } ∧
    R (.ok (.ret (.bool (HT.lexLt ns ms)))) s):=by
 intro prog w A R s h
 obtain ⟨hl,hb,h⟩:=h
 have f2:=AutoSeq1.sub_list_list
 wp_walk using wpAny_loadPart' hl,wpAny_loadPart' hb
 refine ⟨zee_ _,codeAny_builtin zg1_ ?_⟩
 rw [zeI_]
 exact zfs_ l b items items2 n n2 dd dd2 sl sl2 ns ms hi hj _ 0 rfl (Nat.zero_le _) (Nat.zero_le _) prog w A R s ⟨hl,hb,h⟩
theorem zgH_ {prog:Program}{w:World}{A:Around}{E:Value→Shared→Prop}{s:Shared}{l b:Addr}{items items2:Array Value}{ns ms:List Int}{Q:Value→Shared→Prop}(hl:s.heap.IsList l items) (hb:s.heap.IsList b items2) (hi:IntsAre items.toList ns) (hj:IntsAre items2.toList ms)
  (hu:A.units<cLine) (h:Q (.bool (HT.lexLt ns ms)) s):wpAny (model prog w) A (compareOp .Lt (.ref l) (.ref b)) Q E s:=by
 obtain ⟨⟨cls,dd,data,sl⟩,ho,hc,n,hd⟩:=id hl
 obtain ⟨⟨cls2,dd2,data2,sl2⟩,ho2,hc2,n2,hd2⟩:=id hb
 simp only at hc hd hc2 hd2
 subst hc hd hc2 hd2
 exact richCompare_meets_room (op:=.Lt) ⟨_,ho,rfl⟩ ⟨_,ho2,rfl⟩ PySem.F.slot_list_lt PySem.F.entry_list_lt (PySem.F.args_list_lt_2 _ _) (zfH_ l b items items2 n n2 dd dd2 sl sl2 ns ms hi hj)
  ⟨ho,ho2,show Value.bool (HT.lexLt ns ms)≠Value.notImplemented∧Q (.bool (HT.lexLt ns ms)) s from ⟨(fun x=>nomatch x),h⟩⟩ hu
end L2
namespace L2
open PySem PySem.Spec PyProof.Rows
def mLtK (K:Fgg):R2:=fun x y H Q=>match x,y with
 | .ref a,.ref b=>∃ ns ms,SqL K H a (ns.map V.int)∧SqL K H b (ms.map V.int)∧Q (.bl (HT.lexLt ns ms)) H
 | _,_=>mLtS x y H Q
theorem zff_ {X:Cx}(hu:X.A.units+60<cLine):OpR X (compareOp .Lt) (mLtK X.K):=by
 intro pins s σ H x y v u Q I rx ry h
 cases x<;>cases y<;>first
  | exact znm_ pins s σ H _ _ v u Q I rx ry h
  | (obtain ⟨ns,ms,ha,hb,q⟩:=h
     cases rx
     cases ry
     obtain ⟨its,r1,p1,_⟩:=I.list ha
     obtain ⟨its2,r2,p2,_⟩:=I.list hb
     have i1:IntsAre its.toArray.toList ns:=zd8_ r1
     have i2:IntsAre its2.toArray.toList ms:=zd8_ r2
     exact zgH_ p1.isList p2.isList i1 i2 (by lia) ⟨.bl (HT.lexLt ns ms),H,I,rfl,q⟩)
section
variable {K:Fgg}{E:XK}{H:Hp}
theorem zeA_:Op2 K (mLtK K) E tyInt tyInt (fun i j=>.ok (decide (i<j))) tyBl:=by
 rintro a b x y F H Q hs rfl rfl k
 exact k.ok hs _ rfl
theorem znw_:Op2 K (mLtK K) E tyStr tyStr (fun i j=>.ok (decide (i<j))) tyBl:=by
 rintro a b x y F H Q hs rfl rfl k
 exact k.ok hs _ rfl
theorem zij_ {xs:List Int}{vs:List V}(h:Prs tyInt H xs vs):vs=xs.map V.int:=by
 induction h with
 | nil=>rfl
 | cons r t ih=>rw [List.map_cons,← ih,r]
theorem znk_:Op2 K (mLtK K) E (tyL tyInt) (tyL tyInt) (fun i j=>.ok (HT.lexLt i j)) tyBl:=by
 rintro a b x y F H Q hs ⟨p,vs,rfl,hp,hr⟩ ⟨p2,us,rfl,hp2,hr2⟩ k
 refine ⟨a,b,.of ?_,.of ?_,k.ok hs _ rfl⟩
 ·rw [← zij_ hr]; exact hs _ _ hp
 ·rw [← zij_ hr2]; exact hs _ _ hp2
end
end L2
namespace L2
open PySem PySem.Spec PyProof.Rows
section
variable {α:Type}
theorem zix_ {n d:Nat}{i:Int}(h:0≤i):HT.sIx n d (some i)=min i.toNat n:=by
 unfold HT.sIx
 simp only
 split<;>lia
theorem zhG_ {xs:List α}{i:Int}(h:0≤i):cutG xs none (some i)=xs.take i.toNat:=by
 unfold cutG
 rw [zix_ h,show HT.sIx xs.length 0 none=0 from rfl,List.drop_zero,Nat.sub_zero,← List.take_take,List.take_length]
theorem zcy_ {xs:List α}{i:Int}(h:0≤i):cutG xs (some i) none=xs.drop i.toNat:=by
 unfold cutG
 rw [zix_ h,show HT.sIx xs.length xs.length none=xs.length from rfl]
 by_cases hl:i.toNat≤xs.length
 ·rw [Nat.min_eq_left hl,List.take_of_length_le (by rw [List.length_drop]; exact Nat.le_refl _)]
 ·rw [Nat.min_eq_right (by lia),List.drop_length,List.drop_eq_nil_of_le (by lia),List.take_nil]
end
end L2
namespace L2
open PySem PySem.Spec PyProof.Rows
section
variable {K:Fgg}{E:XK}{α β γ ρ S S' B B':Type}{F0 H0 F h H:Hp}{L L':List Sl}{e e1 e2:TE}{T:Ty α}{r:Mo α}{O:Own ρ}{t u:TS}{LS:S→List Sl}{LS':S'→List Sl}{LB:B→List Sl}
theorem zbD_ {C:Cs γ}{f:γ→Mo α}{ta:TA}{r:Mo γ}(h:EvA K ta E L r C):EvF K (tCall (Ct K C f (owF T)) [] E ta) E L (r.bind f) T:=(zj2_ h).fr
theorem zn_ {C:Cs γ}{f:γ→Mo α}{ta:TA}{r:Mo γ}(h:EvA K ta E L r C):EvF K (tCall (Ct K C f (owF T)) [] E0 ta) E L (r.bind fun c=>(f c).noex) T:=(zJ_ h).fr
end
end L2
namespace L2
open PySem PySem.Spec PyProof.Rows
def repL {α:Type}(xs:List α) (n:Int):List α:=(List.replicate n.toNat xs).flatten
def CRep (m:Nat) (n:Int):Prop:=0≤n∧n≤100000∧m≤100000∧m*n.toNat≤100000
instance (m:Nat) (n:Int):Decidable (CRep m n):=inferInstanceAs (Decidable (_∧_))
def mMulX:R2:=fun x y H Q=>match x,y with
 | .int i,.int j=>IntMulOk i j∧Q (.int (i*j)) H
 | .str z,.int n=>CRep z.cps.toList.length n∧Q (tx (repL z.cps.toList n)) H
 | .ref l,.int k=>∃ xs,H l=some (.lst xs)∧CRep xs.length k∧∀ p,H p=none→Q (.ref p) (upd H p (.lst (repL xs k)))
 | _,_=>False
theorem zjD_ (z:Array Nat) (n:Nat):(List.foldl (fun x1 x2=>x1++x2) #[] (List.replicate n z)).toList=(List.replicate n z.toList).flatten:=by
 have:∀ (l:List (Array Nat)) (acc:Array Nat),(l.foldl (fun x1 x2=>x1++x2) acc).toList=acc.toList++(l.map Array.toList).flatten:=by
  intro l
  induction l with
  | nil=>intro acc; simp
  | cons a l ih=>intro acc; rw [List.foldl_cons,ih]; simp
 rw [this]
 simp
theorem zbw_ {X:Cx}:OpR X (binaryOp .Mult) mMulX:=by
 intro pins s σ H x y v u Q I rx ry h
 cases x<;>cases y<;>first
  | exact h.elim
  | exact zmi_ pins s σ H _ _ v u Q I rx ry h
  | (obtain ⟨xs,hl,⟨c1,c2,c3,c4⟩,q⟩:=h
     exact zow_ pins s σ H _ _ v u Q I rx ry ⟨_,_,xs,rfl,rfl,hl,by lia,by lia,zcA_ c4,q⟩)
  | (rename_i z n
     obtain ⟨⟨c1,c2,c3,c4⟩,q⟩:=h
     obtain ⟨t,rfl⟩:=rx
     obtain ⟨t',rfl⟩:=ry
     have hz:z.length=z.cps.toList.length:=by simp [Str.length]
     refine PySem.P.mul_str (by simp; lia) (fun h1 h2=>?_) (fun h1 h2=>?_) ?_
     ·rw [hz]
      have hn:0<n:=by lia
      have:(z.cps.toList.length:Int)*n≤2 ^ 63-1:=by
       have e:n=(n.toNat:Int):=by lia
       rw [e,← Int.natCast_mul]; lia
      have:=Int.le_ediv_of_mul_le hn this
      lia
     ·unfold Builtin.Str.tooLong
      rw [hz]
      have:=zcA_ c4
      exact decide_eq_false (by lia)
     ·by_cases h1:n<1
      ·rw [if_pos h1]
       have:n=0:=by lia
       subst this
       exact ⟨Nat.zero_le _,tx [],H,I.tok _,⟨_,rfl⟩,q⟩
      ·rw [if_neg h1]
       by_cases h2:(n == 1 || z.length == 0)=true
       ·rw [if_pos h2]
        have e:repL z.cps.toList n=z.cps.toList:=by
         unfold repL
         rw [Bool.or_eq_true] at h2
         rcases h2 with h2 | h2
         ·have:n=1:=by simpa using h2
          subst this; simp
         ·have:z.cps.toList=[]:=List.length_eq_zero_iff.mp (by rw [← hz]; simpa using h2)
          rw [this]; simp
        rw [e] at q
        refine ⟨tx z.cps.toList,H,I,⟨t,?_⟩,q⟩
        show Value.str z t=Value.str ⟨z.cps.toList.toArray⟩ t
        rw [← za2_]
       ·rw [if_neg h2]
        refine ⟨?_,tx (repL z.cps.toList n),H,I.tok _,⟨s.toks,?_⟩,q⟩
        ·have e:(⟨List.foldl (fun x1 x2=>x1++x2) #[] (List.replicate n.toNat z.cps)⟩:Str).length=(List.replicate n.toNat z.cps.toList).flatten.length:=by
          rw [← zjD_]; simp [Str.length]
         rw [e,zjM_]
         exact zcA_ (by rw [Nat.mul_comm]; exact c4)
        show Value.str _ _=Value.str _ _
        congr 1
        unfold repL
        rw [← zjD_])
section
variable {K:Fgg}{E:XK}{α β γ ρ S S' B B':Type}{F0 H0 F h H:Hp}{L L':List Sl}{e e1 e2:TE}{T:Ty α}{r:Mo α}{O:Own ρ}{t u:TS}{LS:S→List Sl}{LB:B→List Sl}
theorem za0_:Op2 K mMulX E tyInt tyInt (fun i j=>.grd (IntMulOk i j) (.ok (i*j))) tyInt:=by
 rintro a b x y F H Q hs rfl rfl k
 obtain ⟨c,k⟩:=k.grd
 exact ⟨c,k.ok hs _ rfl⟩
theorem zmm_ {xs:List α}{vs:List V}(hr:Prs T H xs vs) (n:Int):Prs T H (repL xs n) (repL vs n):=by
 unfold repL
 induction n.toNat with
 | zero=>exact .nil
 | succ m ih=>rw [List.replicate_succ,List.replicate_succ,List.flatten_cons,List.flatten_cons]; exact hr.append ih
theorem zll_:Op2O K mMulX E (tyL T) tyInt (fun l n=>.grd (CRep l.length n) (.ok (repL l n))) (owL T):=by
 rintro a b x y F H Q hs ⟨p,vs,rfl,hp,hr⟩ rfl k
 obtain ⟨c,k⟩:=k.grd
 exact ⟨vs,hs _ _ hp,by rw [← hr.len]; exact c,fun q hq=>zbA_ hs hq (zmm_ hr b) k⟩
def strsL (l:List (List Nat)):List Str:=l.map fun z=>⟨z.toArray⟩
theorem zkE_ {l:List (List Nat)}{vs:List V}(h:Prs tyStr H l vs):strsOf vs=some (strsL l):=by
 induction h with
 | nil=>rfl
 | cons r t ih=>cases r; show (strsOf _).map _=_; rw [ih]; rfl
theorem znd_:Me K (mJoin K) E (csLast (tyL tyStr)) (fun l c=>.grd (JoinOk ⟨l.toArray⟩ (strsL c)=true) (.ok (joinS l (strsL c)))) tyStr:=by
 rintro l c vs F H Q hs ⟨v,rfl,p,us,rfl,hp,hr⟩ k
 obtain ⟨z,k⟩:=k.grd
 refine ⟨us,.of (hs _ _ hp),?_⟩
 rw [zkE_ hr]
 exact ⟨z,k.ok hs _ rfl⟩
end
end L2
namespace L2
open PySem PySem.Spec PyProof.Rows
structure KyT (κ:Type) where
 T:Ty κ
 key:κ→Key
 inj:∀ {a b},key a=key b→a=b
 of:∀ {a v H},T.R a v H→keyV v=some (key a)
abbrev kStr:KyT (List Nat):=⟨tyStr,fun l=>Sum.inr ⟨l.toArray⟩,fun h=>by
 injection h with h; injection h with h; simpa using congrArg Array.toList h,fun h=>by cases h; rfl⟩
section
variable {K:Fgg}{E:XK}{α β γ ρ κ S S' B B':Type}{F0 H0 F h H:Hp}{L L':List Sl}{e e1 e2:TE}{T:Ty α}{r:Mo α}{O:Own ρ}{t u:TS}{LS:S→List Sl}{LB:B→List Sl}{KY:KyT κ}
abbrev DPr (KY:KyT κ) (T:Ty α) (H:Hp) (m:List (κ×α)) (kvs:List (Key×V)):Prop:=Paired (fun (q:κ×α) (w:Key×V)=>w.1=KY.key q.1∧T.R q.2 w.2 H) m kvs
theorem DPr.mono {m:List (κ×α)}{kvs:List (Key×V)}{H H':Hp}(g:Same H H') (h:DPr KY T H m kvs):DPr KY T H' m kvs:=zaF_ (fun _ _ r=>⟨r.1,T.mono g r.2⟩) h
theorem DPr.imm (i:Imm T) {m:List (κ×α)}{kvs:List (Key×V)}{H H':Hp}(g:Tups H H') (h:DPr KY T H m kvs):DPr KY T H' m kvs:=zaF_ (fun _ _ r=>⟨r.1,i g r.2⟩) h
abbrev tyD (KY:KyT κ) (T:Ty α):Ty (List (κ×α)):=⟨fun m v H=>∃ p kvs,v=.ref p∧H p=some (.dK kvs)∧DPr KY T H m kvs,fun g ⟨p,kvs,e,h,q⟩=>⟨p,kvs,e,g _ _ h,q.mono g⟩⟩
abbrev owD (KY:KyT κ) (T:Ty α):Own (List (κ×α)):=⟨fun m v F h=>∃ p kvs,v=.ref p∧h=one p (.dK kvs)∧DPr KY T F m kvs,tyD KY T,fun g ⟨p,vs,e,z,q⟩=>⟨p,vs,e,z,q.mono g⟩,
 fun d ⟨p,vs,e,z,q⟩=>⟨p,vs,e,zfy_ d _ _ (by rw [z]; exact zv_),q.mono zb0_⟩,
 fun ⟨p,vs,e,z,q⟩ b xs y=>by rw [z] at y; unfold one at y; split at y<;>cases y⟩
theorem zmX_ (i:Imm T):ImmO (owD KY T):=fun g ⟨p,vs,e,z,q⟩=>⟨p,vs,e,z,q.imm i g⟩
variable [DecidableEq κ]
def getA (m:List (κ×α)) (k:κ):Option α:=(m.find? fun q=>decide (q.1=k)).map (·.2)
def putA (m:List (κ×α)) (k:κ) (v:α):List (κ×α):=if (m.any fun q=>decide (q.1=k))=true then m.map (fun q=>if q.1=k then (q.1,v) else q) else m++[(k,v)]
theorem zjG_ (a b:κ):decide (KY.key a=KY.key b)=decide (a=b):=by rw [decide_eq_decide]; exact ⟨KY.inj,fun h=>by rw [h]⟩
theorem zmH_ {m:List (κ×α)}{kvs:List (Key×V)}(h:DPr KY T H m kvs) (k:κ):(getA m k=none∧valV kvs (KY.key k)=none)∨∃ a v,getA m k=some a∧valV kvs (KY.key k)=some v∧T.R a v H:=by
 induction h with
 | nil=>exact .inl ⟨rfl,rfl⟩
 | cons r t ih =>
  rename_i q w m kvs
  unfold getA valV at ih ⊢
  rw [List.find?_cons,List.find?_cons,r.1,zjG_]
  by_cases e:q.1=k
  ·rw [decide_eq_true e]; exact .inr ⟨_,_,rfl,rfl,r.2⟩
  ·rw [decide_eq_false e]; exact ih
theorem zl8_ {m:List (κ×α)}{kvs:List (Key×V)}(h:DPr KY T H m kvs) (k:κ):(kvs.any fun w=>decide (w.1=KY.key k))=m.any fun q=>decide (q.1=k):=by
 induction h with
 | nil=>rfl
 | cons r t ih=>rw [List.any_cons,List.any_cons,ih,r.1,zjG_]
theorem znz_ {m m':List (κ×α)}{kvs kvs':List (Key×V)}(h:DPr KY T H m kvs) (h':DPr KY T H m' kvs'):DPr KY T H (m++m') (kvs++kvs'):=by
 induction h with
 | nil=>exact h'
 | cons r t ih=>exact .cons r ih
theorem znq_ {m:List (κ×α)}{kvs:List (Key×V)}(h:DPr KY T H m kvs) (k:κ) {a:α}{v:V}(hv:T.R a v H):DPr KY T H (m.map fun q=>if q.1=k then (q.1,a) else q) (kvs.map fun w=>if w.1=KY.key k then (w.1,v) else w):=by
 induction h with
 | nil=>exact .nil
 | cons r t ih =>
  rename_i q w m kvs
  rw [List.map_cons,List.map_cons]
  refine .cons ?_ ih
  by_cases e:q.1=k
  ·rw [if_pos e,if_pos (by rw [r.1,e])]; exact ⟨r.1,hv⟩
  ·rw [if_neg e,if_neg (fun z=>e (KY.inj (by rw [← r.1,z])))]; exact r
theorem zmo_ {m:List (κ×α)}{kvs:List (Key×V)}(h:DPr KY T H m kvs) (k:κ) {a:α}{v:V}(hv:T.R a v H):DPr KY T H (putA m k a) (putK kvs (KY.key k) v):=by
 unfold putA putK
 rw [zl8_ h]
 split
 ·exact znq_ h k hv
 ·exact znz_ h (.cons ⟨rfl,hv⟩ .nil)
theorem zj6_ (KY:KyT κ) (T:Ty α):EvO K tDNewK E L (.ok []) (owD KY T):=by
 intro σ F H Q hL hs q p hp
 have q':OwnK (owD KY T) H Q [] F (upd H p (.dK [])):=q F _ (.heap hs (zaB_ hp _))
 refine q' (.ref p) (one p (.dK [])) (fun b z=>?_) (fun b=>?_) (fun b o z=>?_) ⟨p,[],rfl,rfl,.nil⟩
 ·unfold one at z; split at z
  ·rename_i e; rw [e]; exact hp
  ·exact absurd rfl z
 ·unfold one; split
  ·rename_i e; rw [e]; exact .inl (hs.free hp)
  ·exact .inr rfl
 ·unfold one at z; split at z
  ·rename_i e; rw [e]; cases z; exact zu_
  ·cases z
theorem znp_ (i:Nat) {m:List (κ×α)}(h:L[i]?=some (.ow (owD KY T) m)):EvF K (mVar i) E L (.ok m) (tyD KY T):=zcY_ i h
theorem at_d {x y:V}{R:Addr→List (Key×V)→Key→Prop}{m:List (κ×α)}{k:κ}(hx:(tyD KY T).R m x F) (hy:KY.T.R k y F) (hs:Same F H) (hr:∀ p kvs,H p=some (.dK kvs)→DPr KY T F m kvs→R p kvs (KY.key k)):atD x y H R:=by
 obtain ⟨p,kvs,rfl,hp,hd⟩:=hx
 unfold atD
 simp only
 rw [KY.of hy]
 exact ⟨kvs,hs _ _ hp,hr p kvs (hs _ _ hp) hd⟩
theorem zkV_ (neg:Bool) {r1:Mo (List (κ×α))}{r2:Mo κ}(h2:EvF K e2 E L r2 KY.T) (h1:EvF K e1 E L r1 (tyD KY T)):EvF K (mDIn neg e2 e1) E L (r2.bind fun k=>r1.bind fun m=>.ok (if neg then !(getA m k).isSome else (getA m k).isSome)) tyBl:=by
 intro σ F H Q hL hs q
 refine h2 σ F H _ hL hs (q.bind.imp fun k F1 H1 x1 k1 v1 hv1=>?_)
 refine h1 σ F1 H1 _ (hL.mono x1.1) x1.2.1 (k1.bind.imp fun m F2 H2 x2 k2 v2 hv2=>?_)
 refine at_d hv2 (KY.T.mono x2.1 hv1) x2.2.1 fun p kvs hp hd=>?_
 have e:(valV kvs (KY.key k)).isSome=(getA m k).isSome:=by
  rcases zmH_ hd k with ⟨z1,z2⟩ | ⟨a',v,z1,z2,z3⟩
  ·rw [z1,z2]; rfl
  ·rw [z1,z2]; rfl
 rw [e]
 exact k2.ok x2.2.1 _ rfl
theorem zgi_ {i:Nat}{σ:St}{m:List (κ×α)}(hL:Hold L σ F h) (hi:L[i]?=some (.ow (owD KY T) m)) (ok:Okk F0 H0 F h H) :
  ∃ p kvs,σ[i]?=some (some (.ref p))∧H p=some (.dK kvs)∧DPr KY T F m kvs∧∀ m' kvs',DPr KY T F m' kvs'→∃ h',Hold (L.set i (.ow (owD KY T) m')) σ F h'∧Okk F0 H0 F h' (upd H p (.dK kvs')):=by
 obtain ⟨o,h1,h2,e1,j,⟨v,e2,p,kvs,rfl,rfl,hr⟩,f⟩:=hL.at i hi
 subst e2
 have hp:h p=some (.dK kvs):=j.l _ _ zv_
 have h2p:h2 p=none:=by
  rcases j.dj p with z | z
  ·rw [zv_] at z; cases z
  ·exact z
 refine ⟨p,kvs,e1,ok.2.2.1 _ _ hp,hr,fun m' kvs' hr'=>?_⟩
 have d2:Dj (one p (.dK kvs')) h2:=fun q=>by
  unfold one; split
  ·rename_i z; rw [z]; exact .inr h2p
  ·exact .inl rfl
 have g:=f (.ow (owD KY T) m') (some (.ref p)) (one p (.dK kvs')) _ (zeZ_ d2) ⟨_,rfl,p,kvs',rfl,rfl,hr'⟩
 rw [zcd_ e1] at g
 refine ⟨_,g,zkm_ (h1':=h) (hr:=h) (h':=h) ok (by rw [hp]; exact Option.some_ne_none _) (fun xs z=>by cases z) _ fun b=>?_⟩
 unfold un one
 by_cases z:b=p
 ·simp only [if_pos z]
 ·simp only [if_neg z]
  rcases j b with ⟨_,c⟩ | ⟨a,c⟩
  ·exact c.symm
  ·rw [c,a]; unfold one; rw [if_neg z]
theorem zmE_ {i:Nat}{m:List (κ×α)}{r2:Mo κ}{k:α→κ→Mo (Out ρ B S)}(hi:L[i]?=some (.ow (owD KY T) m)) (hT:Imm T) (hKT:Imm KY.T) (he:EvF K e E L r T) (he2:EvF K e2 E L r2 KY.T) (hk:∀ a y,EvS K u E (L.set i (.ow (owD KY T) (putA m y a))) (k a y) LS LB O) :
  EvS K (tSeq (mDPut (mVar i) e2 e) u) E L (r.bind fun a=>r2.bind fun y=>.lim (m.length+1) (k a y)) LS LB O:=by
 intro F0 H0 σ F h H D hL ok fin
 show e σ H fun v H1=>mVar i σ H1 fun x H2=>e2 σ H2 fun y H3=>atD x y H3 fun a kvs k=>kvs.length<sizeLine∧u D σ (upd H3 a (.dK (putK kvs k v)))
 refine he σ (un F h) H _ (hL.froz ok.2.1) ok.thaw (zak_ (G:=F) ok _ (.inl rfl) fin fun a F1 H1 hra x1 v hv=>?_)
 obtain ⟨o,hs,ht⟩:=ok.back x1
 rw [hra] at fin
 have hL':=hL.mono hs
 have hv':=hT ht hv
 obtain ⟨p,kvs,e1,hp,hr,_⟩:=zgi_ hL' hi o
 refine zdp_ e1 ?_
 refine he2 σ (un _ h) H1 _ (hL'.froz o.2.1) o.thaw (zak_ (G:=F) o _ (.inl rfl) fin fun y F2 H2 hry x2 v2 hv2=>?_)
 obtain ⟨o',hs',ht'⟩:=o.back x2
 rw [hry] at fin
 obtain ⟨hz,fin⟩:=zgg_ (show Fin K (Mo.lim (m.length+1) (k a y)) E LS LB O F0 H0 D from fin)
 obtain ⟨p',kvs',e1',hp',hr',mm⟩:=zgi_ (hL'.mono hs') hi o'
 rw [e1] at e1'; cases e1'
 obtain ⟨h',a1,a2⟩:=mm (putA m y a) (putK kvs' (KY.key y) v) (zmo_ hr' y (T.mono hs' hv'))
 unfold atD
 simp only
 rw [KY.of hv2]
 refine ⟨kvs',hp',?_,hk a y F0 H0 σ _ h' _ D a1 a2 fin⟩
 have:=Paired.length hr'
 lia
end
end L2
namespace L2
open PySem PySem.Spec PyProof.Rows
section
variable {α κ:Type} [DecidableEq κ]
theorem zhy_ (m:List (κ×α)) (k j:κ) (v:α):getA (putA m k v) j=if k=j then some v else getA m j:=by
 unfold getA putA
 by_cases ha:(m.any fun q=>decide (q.1=k))=true
 ·rw [if_pos ha]
  induction m with
  | nil=>cases ha
  | cons q m ih =>
   rw [List.map_cons,List.find?_cons,List.find?_cons]
   by_cases e:q.1=k
   ·rw [if_pos e]
    by_cases e2:k=j
    ·rw [if_pos e2]
     simp [e,e2]
    ·rw [if_neg e2]
     have:¬ q.1=j:=fun z=>e2 (by rw [← e,z])
     simp only [decide_eq_false this]
     by_cases hb:(m.any fun q=>decide (q.1=k))=true
     ·have:=ih hb
      rw [if_neg e2] at this
      exact this
     ·have e3:m.map (fun q=>if q.1=k then (q.1,v) else q)=m:=by
       rw [List.map_congr_left (g:=id) (fun x hx=>?_),List.map_id]
       have:¬ x.1=k:=fun z=>hb (List.any_eq_true.mpr ⟨x,hx,by simpa using z⟩)
       simp [this]
      rw [e3]
   ·rw [if_neg e]
    have hb:(m.any fun q=>decide (q.1=k))=true:=by
     rw [List.any_cons,decide_eq_false e,Bool.false_or] at ha; exact ha
    by_cases e2:q.1=j
    ·simp only [decide_eq_true e2]
     have:¬ k=j:=fun z=>e (by rw [e2,z])
     rw [if_neg this]
    ·simp only [decide_eq_false e2]
     exact ih hb
 ·rw [if_neg ha,List.find?_append]
  by_cases e2:k=j
  ·subst e2
   have:m.find? (fun q=>decide (q.1=k))=none:=by
    rw [List.find?_eq_none]
    intro x hx z
    exact ha (List.any_eq_true.mpr ⟨x,hx,z⟩)
   rw [this,if_pos rfl]
   simp
  ·rw [if_neg e2]
   cases m.find? (fun q=>decide (q.1=j)) with
   | some z=>rfl
   | none=>simp [e2]
theorem zfe_ (m:List (κ×α)) (k:κ) (v:α):(putA m k v).length≤m.length+1:=by
 unfold putA
 split
 ·rw [List.length_map]; lia
 ·rw [List.length_append]; exact Nat.le_refl _
end
section
variable {α:Type}
end
end L2
namespace L2
open PySem PySem.Spec PyProof.Rows
section
variable {K:Fgg}{E:XK}
end
end L2
namespace Att
open PySem PySem.W PySem.Calls PyProof.Rows
theorem zkN_ {ns:List Int}(h:WData.layableAll [WData.list (ns.map WData.int)]=true):∀ x∈ns,Builtin.Int.intBits x≤1048576:=by
 intro x hx
 have h1:=layableW_arg h _ (List.mem_singleton.mpr rfl)
 have h2:=layableW_item h1 (.int x) (List.mem_map.mpr ⟨x,hx,rfl⟩)
 exact PyData.bits_of_layable (layable_int h2)
theorem attach_callB {l:OpenLaw}{n:Nat}{q:Program}{loose:List Str}{XP:(Str→Option Value)→Heap→Prop}{YP:World→Heap→Prop}{d:DefRec}
  (hn:l.most=some n) (hdf:d.params.defaults=[])
  (call:∀ (w:World) (s₀ s₁:Shared) (mg mb:Str→Option Value) (fa:Addr) (o:Obj) (pm cd doc:Value) (a:Addr) (vs:List Value) (ns:List Int),
   (∀ x∈ns,Builtin.Int.intBits x≤1048576) →
   Ground q loose [] XP w s₀ mg mb s₁.heap→YP w s₁.heap →
   s₁.heap.get? fa=some o→o.data=.func (docDef d.name d.params d.body d.scope pm cd doc)→s₁.heap.CodeRec cd d.name→mg d.name=some (.ref fa) →
   s₁.heap.get? a=some { cls:=.type "list",data:=.seq vs.toArray }→IntsAre vs ns→ns.length≤n→s₁.gens=#[] →
   codeAny (model l.prog w) callerA (.call (.ref fa) ⟨[.ref a],[]⟩) (fun r s'=>r=.ok (.ret (.bool true))∧OldK s₁.heap s'.heap∧s'.os=s₁.os∧AllBare s'.gens) s₁) :
  WalkO q loose XP YP l.row.toRowW d [] (fun f vs=>PySem.call f vs):=by
 intro w s₀ s₁ mg mb G Y fa o pm cd doc dV kV ho hd hcd hD hmg hg args vals as hpre hlay hrd hwl hlo
 obtain rfl:dV=.none:=Dflts.none hD hdf
 obtain rfl:kV=.none:=Dflts.noKw hD
 obtain ⟨a,vs,ns,rfl,rfl,hobj,hints,hlen⟩:=ziR_ hn hpre hwl
 refine enter_call (codeAny_mono (call w s₀ s₁ mg mb fa o pm cd doc a vs ns (zkN_ hlay) G Y ho (fd_plain hd) hcd hmg hobj hints hlen hg) fun r s' hq=>?_)
 obtain ⟨rfl,h2,h3,h4⟩:=hq
 exact ⟨.inl ⟨.bool true,.bool true,[],rfl,fun _=>rfl,.bool true,ziA_ l _,fun _=>⟨List.Pairwise.nil,fun _ hm=>(nomatch hm)⟩⟩,h2,h3,h4⟩
end Att
namespace L2
open PySem PySem.Spec PyProof.Rows
theorem zlh_ {l:PySem.W.OpenLaw}{n k:Nat}{q:Program}{loose:List Str}{XP:(Str→Option Value)→Heap→Prop}{YP:World→Heap→Prop}{d:DefRec}{K:Params→Fgg}{CX:World→CXT}{sp:World→Sp}{x:Str}
  (hn:l.most=some n) (hn2:n≤sizeLine) (hdf:d.params.defaults=[]) (hr:Room k callerA)
  (hY:∀ (w:World) (h:Heap),YP w h→(K w.params).In h)
  (F:∀ (w:World) (mg:Str→Option Value) (fa:Addr) (h:Heap),(K w.params).In h→h.Ns mainGlobals mg→mg d.name=some (.ref fa) →
   ∃ fd:FuncData,(∀ (s:Shared) (u:Value),BindsTo s fd ⟨[u],[]⟩ [(x,u)]) ∧
    ∀ base:Heap,(K w.params).In base→base.Ns mainGlobals mg→FnOk l.prog w (K w.params) mg base (CX w) k fa fd [x] (sp w))
  (hsp:∀ (w:World) (H:Hp) (a:Addr) (ns:List Int),ns.length≤n→(∀ x∈ns,Builtin.Int.intBits x≤1048576)→Only H→SqL (K w.params) H a (ns.map V.int)→sp w [.ref a] H (fun v _=>v=.bl true) fun _ _ _=>False)
  (hCX:∀ (w:World) (H:Hp) (s:Shared) (e:Value) (s':Shared),CX w [] H s (fun _ _ _=>False) e s'→False) :
  PySem.W.WalkO q loose XP YP l.row.toRowW d [] (fun f vs=>PySem.call f vs):=by
 refine Att.attach_callB hn hdf fun w s₀ s₁ mg mb fa o pm cd doc a vs ns hbits G Y ho hd hcd hmg hobj hints hlen hg=>?_
 have KX:=hY w _ Y
 obtain ⟨fd,hb,hF⟩:=F w mg fa _ KX G.T.g hmg
 exact zkL_ KX G.T.g G.T.b G.T.builtins G.T.nolimit hg hobj hints (Nat.le_trans hlen hn2) hr hF hb (fun H hO hS=>hsp w H a ns hlen hbits hO hS) fun H e s'=>hCX w H s₁ e s'
abbrev BitsOk (ns:List Int):Prop:=∀ x∈ns,Builtin.Int.intBits x≤1048576
theorem zkK_ {a b:Int}(ha:Builtin.Int.intBits a≤1048576) (hb:Builtin.Int.intBits b≤1000):IntMulOk a b:=PyProof.Rows.mulOk_of_bits ha hb (by decide)
end L2
namespace L2
open PySem PySem.Spec PyProof.Rows PySem.W
section
variable {α β:Type}
variable {lt:Nat→Nat→Bool}{n:Nat}
structure WOr (lt:Nat→Nat→Bool):Prop where
 asym:∀ {a b},lt a b=true→lt b a=false
 tr:∀ {a b c},lt b a=false→lt c b=false→lt c a=false
abbrev le (lt:Nat→Nat→Bool) (a b:Nat):Prop:=lt b a=false
theorem WOr.refl (w:WOr lt) (a:Nat):le lt a a:=by
 cases h:lt a a with
 | false=>exact h
 | true=>exact w.asym h
abbrev Pm (p:Array Nat) (n:Nat):Prop:=p.toList.Perm (List.range n)
theorem zbZ_ {p:Array Nat}(h:Pm p n):p.size=n:=by have:=h.length_eq; rwa [List.length_range,Array.length_toList] at this
theorem pm_lt {p:Array Nat}(h:Pm p n) {i:Nat}(hi:i<n):p.getD i 0<n:=by
 have hs:=zbZ_ h
 have:p.getD i 0=p[i]'(by lia):=by simp [Array.getD,hs,hi]
 rw [this]
 exact List.mem_range.mp (h.mem_iff.mp (by simp))
theorem zbm_ {p q:Array Nat}{i j:Nat}(h:p[i]?=q[j]?):p.getD i 0=q.getD j 0:=by
 rw [Array.getD_eq_getD_getElem?,Array.getD_eq_getD_getElem?,h]
theorem zoH_ {p:Array Nat}(h:Pm p n) (i j:Nat):Pm (kas_rev p i j) n:=(Array.perm_iff_toList_perm.mp (mirror_perm p i j _)).trans h
theorem zdF_ {p:Array Nat}{i j:Nat}(hj:j≤p.size) (k:Nat):(kas_rev p i j).getD k 0=if i≤k∧k<j then p.getD (i+j-1-k) 0 else p.getD k 0:=by
 have:=getElem?_mirror_all (xs:=p) (i:=i) hj k
 split
 ·rename_i q; rw [if_pos q] at this; exact zbm_ this
 ·rename_i q; rw [if_neg q] at this; exact zbm_ this
end
section
variable {prog:Program}{w:World}{A:Around}{E:Value→Shared→Prop}{s:Shared}{vs:List Value}{lt:Nat→Nat→Bool}
def CmpAt (prog:Program) (w:World) (vs:List Value) (lt:Nat→Nat→Bool) (s:Shared):Prop :=
 ∃ κ,(∀ (A:Around) (C:SortKind→Shared→Prop),C κ s→wpAny (model prog w) A (keyKind' vs.toArray) C (fun _ _=>False) s) ∧
  ∀ (A:Around) i j (C:Bool→Shared→Prop),i<vs.length→j<vs.length→C (lt i j) s→kas_ask prog w A κ vs i j C s
def Srtd (lt:Nat→Nat→Bool) (n:Nat) (p:List Nat):Prop:=p.Perm (List.range n)∧p.Pairwise (le lt)
def RunB (b:Nat):Prop:=b≤1000∧∀ {prog:Program}{w:World}{A:Around}{E:Value→Shared→Prop}{s:Shared}{vs:List Value}{lt:Nat→Nat→Bool}{κ:SortKind},2≤vs.length→vs.length<b→WOr lt →
 (∀ (A:Around) i j (C:Bool→Shared→Prop),i<vs.length→j<vs.length→C (lt i j) s→kas_ask prog w A κ vs i j C s) →
 wpAny (model prog w) A ((sortRuns').run (SortSt.mk' κ (vs.toArray.zip vs.toArray) #[] 7 none)) (fun r s'=>s'=s∧∃ p:List Nat,(arrOf r.2).map (·.2)=(p.map fun i=>vs.getD i Value.none).toArray∧failedOf r.2=none∧Srtd lt vs.length p) E s
theorem zlR_ {b:Nat}(hB:RunB b) {a:Addr}{n:Nat}{P:PySem.Fin→Shared→Prop}(ho:s.heap.get? a=some (seqObj "list" vs.toArray n)) (h64:vs.length<b) (wo:WOr lt)
  (kk:2≤vs.length→∀ h':Heap,(∀ b o,b≠a→s.heap.get? b=some o→h'.get? b=some o)→CmpAt prog w vs lt { s with heap:=h' })
  (q:∀ (h':Heap) c (p:List Nat),(∀ b o,b≠a→s.heap.get? b=some o→h'.get? b=some o)→Srtd lt vs.length p→h'.get? a=some (seqObj "list" (p.map fun i=>vs.getD i Value.none).toArray c)→P (.done (.ret .none)) { s with heap:=h' }) :
  wpAny (model prog w) A (Builtin.«list.sort» ⟨[.ref a],[]⟩) P E s:=by
 have hB1:=hB.1
 have ha:a<s.heap.objs.size:=Heap.lt_size ho
 have s1:=Heap.SameBut.update s.heap a (Obj.mapSeq fun _=>(#[]:Array Value))
 obtain ⟨e1,ho1⟩:∃ e1,(s.heap.update a (Obj.mapSeq fun _=>(#[]:Array Value))).get? a=some (seqObj "list" #[] e1):=⟨_,get?_update_seq ho fun _=>#[]⟩
 have kp:∀ b o,b≠a→s.heap.get? b=some o→(((s.heap.update a (Obj.mapSeq fun _=>(#[]:Array Value))).push (seqObj "tuple" vs.toArray 0)).push (seqObj "list" #[] 0)).get? b=some o:=fun b o hb e =>
  Heap.get?_push_of_some _ (Heap.get?_push_of_some _ ((s1.2 b hb).trans e))
 have na:(((s.heap.update a (Obj.mapSeq fun _=>(#[]:Array Value))).push (seqObj "tuple" vs.toArray 0)).push (seqObj "list" #[] 0)).get? a=some (seqObj "list" #[] e1):=Heap.get?_push_of_some _ (Heap.get?_push_of_some _ ho1)
 rw [list_sort_plain]
 refine wpAny_bind (listItems_at ho rfl ?_)
 refine wpAny_bind (listUpdate_at ho rfl ?_ (by rw [List.size_toArray,sizeLine_eq]; lia) (Nat.zero_le _))
 refine wpAny_bind (seqEpoch_at ho1 rfl ?_)
 refine wpAny_bind (wpAny_newTuple ?_ (by show vs.length≤_; rw [sizeLine_eq]; lia))
 refine wpAny_bind (wpAny_newList ?_ (Nat.zero_le _))
 refine wpAny_holding ?_
 show wpAny (model prog w) A _ P E { s with heap:=((s.heap.update a (Obj.mapSeq fun _=>(#[]:Array Value))).push (seqObj "tuple" vs.toArray 0)).push (seqObj "list" #[] 0) }
 generalize hh:((s.heap.update a (Obj.mapSeq fun _=>(#[]:Array Value))).push (seqObj "tuple" vs.toArray 0)).push (seqObj "list" #[] 0)=h2 at kp na
 dsimp only
 have fin:∀ (st':SortSt) (p:List Nat),(arrOf st').map (·.2)=(p.map fun i=>vs.getD i Value.none).toArray→failedOf st'=none→Srtd lt vs.length p→wpAny (model prog w) A (do
   let touched:=(← seqEpoch a) != e1
   Builtin.List.listUpdate (.ref a) fun _=>(arrOf st').map (·.2)
   if let some e:=failedOf st' then rule "list.sort.comparison-raised"; throw e
   if touched then rule "list.sort.modified"; raiseError "ValueError" "list modified during sort"
   ret .none) P E { s with heap:=h2 }:=by
  intro st' p hout hf hp
  rw [hout,hf]
  have hsz:(List.toArray (p.map fun i=>vs.getD i Value.none)).size=vs.length:=by rw [List.size_toArray,List.length_map,hp.1.length_eq,List.length_range]
  have s2:=Heap.SameBut.update h2 a (Obj.mapSeq fun _=>List.toArray (p.map fun i=>vs.getD i Value.none))
  obtain ⟨c2,hc2⟩:∃ c2,(h2.update a (Obj.mapSeq fun _=>List.toArray (p.map fun i=>vs.getD i Value.none))).get? a=some (seqObj "list" (List.toArray (p.map fun i=>vs.getD i Value.none)) c2):=⟨_,get?_update_seq na fun _=>List.toArray (p.map fun i=>vs.getD i Value.none)⟩
  refine wpAny_bind (seqEpoch_at (s:={ s with heap:=h2 }) na rfl ?_)
  refine wpAny_bind (listUpdate_at (s:={ s with heap:=h2 }) na rfl ?_ (Nat.zero_le _) (Nat.le_trans (Nat.le_of_eq hsz) (by rw [sizeLine_eq]; lia)))
  simp only [bne_self_eq_false,Bool.false_eq_true,if_false]
  exact wpAny_pure (q _ c2 p (fun b o hb e=>(s2.2 b hb).trans (kp b o hb e)) hp hc2)
 by_cases hn2:2≤vs.length
 ·have hn2':¬ vs.toArray.size<2:=by rw [List.size_toArray]; lia
  rw [if_neg hn2',if_neg hn2']
  obtain ⟨κ,k1,k2⟩:=kk hn2 h2 kp
  refine wpAny_bind (wpAny_mono (k1 A (fun κ' s'=>κ'=κ∧s'={ s with heap:=h2 }) ⟨rfl,rfl⟩) (fun κ' s0 hk=>?_) fun _ _ x=>x.elim)
  obtain ⟨rfl,rfl⟩:=hk
  refine wpAny_bind (wpAny_mono (hB.2 hn2 h64 wo k2) ?_ fun _ _ e=>e)
  rintro ⟨⟨⟩,st'⟩ s' ⟨rfl,p,hout,hf,hpp⟩
  exact fin st' p hout hf hpp
 ·have hn2':vs.toArray.size<2:=by rw [List.size_toArray]; lia
  rw [if_pos hn2',if_pos hn2']
  refine wpAny_bind (wpAny_pure ?_)
  refine wpAny_bind (wpAny_pure ?_)
  refine fin _ (List.range vs.length) ?_ rfl ⟨List.Perm.refl _,?_⟩
  ·show ((vs.toArray.zip vs.toArray).map (·.2))=_
   apply Array.toList_inj.mp
   rw [Array.toList_map,Array.toList_zip]
   have e:∀ l:List Value,(l.zip l).map (·.2)=l:=fun l=>by
    induction l with
    | nil=>rfl
    | cons x l ih=>rw [List.zip_cons_cons,List.map_cons,ih]
   show (vs.zip vs).map (·.2)=(List.range vs.length).map fun i=>vs.getD i Value.none
   rw [e]
   apply List.ext_getElem?
   intro i
   by_cases hi:i<vs.length
   ·simp [hi]
   ·simp [List.getElem?_eq_none,hi,Nat.le_of_not_lt hi]
  ·rcases (show vs.length=0∨vs.length=1 by lia) with e | e
   ·rw [e]; exact .nil
   ·rw [e]; exact List.pairwise_singleton _ _
theorem zk8_ {b:Nat}(hB:RunB b) {l:Addr}{Q:Value→Shared→Prop}(hl:s.heap.IsList l vs.toArray) (h64:vs.length<b) (wo:WOr lt)
  (kk:2≤vs.length→∀ h':Heap,(∀ b o,s.heap.get? b=some o→h'.get? b=some o)→CmpAt prog w vs lt { s with heap:=h' })
  (q:∀ (h':Heap) c (p:List Nat),(∀ b o,s.heap.get? b=some o→h'.get? b=some o)→Srtd lt vs.length p→h'.get? (s.heap.objs.size+1)=some (seqObj "list" (p.map fun i=>vs.getD i Value.none).toArray c)→Q (.ref (s.heap.objs.size+1)) { s with heap:=h' }) :
  wpAny (model prog w) A (call (.builtin "sorted") [.ref l]) Q E s:=by
 have hB1:=hB.1
 refine Calls.call_function_entry kind_sorted plain_sorted entry_sorted (args_sorted1 _) ?_
 unfold Builtin.«sorted»
 refine wpAny_bind (m:=checkCount "sorted" 1 1 _) (wpAny_pure ?_)
 refine wpAny_bind (collect_list hl ?_ (by rw [sizeLine_eq]; lia))
 refine wpAny_bind (wpAny_newList ?_ (by rw [sizeLine_eq]; lia))
 have hsz:((s.heap.push (seqObj "list" #[] 0)).update s.heap.objs.size (Obj.mapSeq (·++vs.toArray))).objs.size=s.heap.objs.size+1:=by
  rw [Heap.size_update,size_push']
 have hoL:(((s.heap.push (seqObj "list" #[] 0)).update s.heap.objs.size (Obj.mapSeq (·++vs.toArray))).push (seqObj "list" vs.toArray 0)).get? (s.heap.objs.size+1)=some (seqObj "list" vs.toArray 0):=by
  rw [← hsz]; exact Heap.get?_push_size _ rfl
 have keep:∀ b o,s.heap.get? b=some o→(((s.heap.push (seqObj "list" #[] 0)).update s.heap.objs.size (Obj.mapSeq (·++vs.toArray))).push (seqObj "list" vs.toArray 0)).get? b=some o:=fun b o q=>by
  have hlt:b<s.heap.objs.size:=Heap.lt_size q
  rw [Heap.get?_push_ne _ _ _ (by rw [hsz]; exact Nat.ne_of_lt (Nat.lt_succ_of_lt hlt)),Heap.get?_update_ne _ _ _ _ (Nat.ne_of_lt hlt),Heap.get?_push_ne _ _ _ (Nat.ne_of_lt hlt)]
  exact q
 show wpAny _ _ _ _ _ { s with heap:=((s.heap.push (seqObj "list" #[] 0)).update s.heap.objs.size (Obj.mapSeq (·++vs.toArray))).push (seqObj "list" vs.toArray 0) }
 rw [hsz]
 have keep2:∀ (h':Heap),(∀ b o,b≠s.heap.objs.size+1→(((s.heap.push (seqObj "list" #[] 0)).update s.heap.objs.size (Obj.mapSeq (·++vs.toArray))).push (seqObj "list" vs.toArray 0)).get? b=some o→h'.get? b=some o)→∀ b o,s.heap.get? b=some o→h'.get? b=some o:=fun h' hk b o e =>
  hk b o (Nat.ne_of_lt (Nat.lt_succ_of_lt (Heap.lt_size e))) (keep b o e)
 refine wpAny_bind (wpAny_holding (wpAny_call_entry slot_list_sort ⟨_,hoL,rfl⟩ entry_list_sort ?body (args_list_sort _)))
 case body =>
  refine zlR_ hB (s:={ s with heap:=((s.heap.push (seqObj "list" #[] 0)).update s.heap.objs.size (Obj.mapSeq (·++vs.toArray))).push (seqObj "list" vs.toArray 0) }) hoL h64 wo (fun h2 h' hk=>kk h2 h' (keep2 h' hk)) fun h' c p hk hp ho'=>?_
  exact ⟨_,rfl,wpAny_pure ⟨_,rfl,q h' c p (keep2 h' hk) hp ho'⟩⟩
end
end L2
namespace L2
open PySem PySem.Spec PyProof.Rows PySem.W
def knd:V→Nat | .int _=>1 | .str _=>2 | _=>0
def ltF:V→V→Bool | .int a,.int b=>decide (a<b) | .str a,.str b=>decide (a.cps.toList<b.cps.toList) | _,_=>false
def eqF:V→V→Bool | .int a,.int b=>a == b | .str a,.str b=>decide (a=b) | _,_=>false
def lexV:List V→List V→Bool
 | x::xs,y::ys=>if eqF x y then lexV xs ys else ltF x y
 | _,_=>false
section
variable {prog:Program}{w:World}{A:Around}{E:Value→Shared→Prop}{s:Shared}{Q:Bool→Shared→Prop}
theorem zaQ_ {x:V}(h:knd x≠0):(∃ i,x=.int i)∨∃ z,x=.str z:=by
 cases x<;>first | exact .inl ⟨_,rfl⟩ | exact .inr ⟨_,rfl⟩ | exact absurd rfl h
theorem zjS_ {x y:V}{u v:Value}{b:Bool}(hx:RelV x u) (hy:RelV y v) (hk:knd x=knd y) (h0:knd x≠0) (q:Q (ltF x y) s):wpAny (model prog w) A (oneLt' b u v) Q E s:=by
 rcases zaQ_ h0 with ⟨i,rfl⟩ | ⟨z,rfl⟩
 ·rcases zaQ_ (x:=y) (fun e=>h0 (hk.trans e)) with ⟨j,rfl⟩ | ⟨z,rfl⟩
  ·obtain ⟨t,rfl⟩:=hx
   obtain ⟨t',rfl⟩:=hy
   cases b with
   | true=>exact oneLt_int q
   | false=>exact kat_one _ _ (PyProof.Rows.lt_int q)
  ·cases hk
 ·rcases zaQ_ (x:=y) (fun e=>h0 (hk.trans e)) with ⟨j,rfl⟩ | ⟨z',rfl⟩
  ·cases hk
  ·obtain ⟨t,rfl⟩:=hx
   obtain ⟨t',rfl⟩:=hy
   cases b with
   | true=>exact oneLt_str q
   | false=>exact kat_one _ _ (PyProof.Rows.lt_str q)
theorem eq_F {x y:V}{u v:Value}(hx:RelV x u) (hy:RelV y v) (hk:knd x=knd y) (h0:knd x≠0) (q:Q (eqF x y) s):wpAny (model prog w) A (eqBool u v) Q E s:=by
 rcases zaQ_ h0 with ⟨i,rfl⟩ | ⟨z,rfl⟩
 ·rcases zaQ_ (x:=y) (fun e=>h0 (hk.trans e)) with ⟨j,rfl⟩ | ⟨z,rfl⟩
  ·obtain ⟨t,rfl⟩:=hx
   obtain ⟨t',rfl⟩:=hy
   exact wpAny_eqBool_int q
  ·cases hk
 ·rcases zaQ_ (x:=y) (fun e=>h0 (hk.trans e)) with ⟨j,rfl⟩ | ⟨z',rfl⟩
  ·cases hk
  ·obtain ⟨t,rfl⟩:=hx
   obtain ⟨t',rfl⟩:=hy
   exact wpAny_eqBool_str q
theorem zhu_ {b:Bool}:∀ {xs ys:List V}{us vs:List Value}(i:Nat),Vals xs us→Vals ys vs→xs.map knd=ys.map knd→(0:Nat)∉xs.map knd→Q (lexV xs ys) s→KatLex prog w A b false Q (us.zip vs) i s
 | [],[],_,_,i,.nil,.nil,_,_,q=>q
 | x::xs,[],_,_,i,_,_,hk,_,_=>by simp at hk
 | [],x::xs,_,_,i,_,_,hk,_,_=>by simp at hk
 | x::xs,y::ys,_,_,i,.cons hx r,.cons hy r',hk,h0,q=>by
  rw [List.map_cons,List.map_cons] at hk
  injection hk with k1 k2
  rw [List.map_cons] at h0
  have z1:knd x≠0:=fun e=>h0 (by rw [e]; exact List.mem_cons_self ..)
  have z2:(0:Nat)∉xs.map knd:=fun e=>h0 (List.mem_cons_of_mem _ e)
  rw [List.zip_cons_cons]
  refine kat_cons (eq_F hx hy k1 z1 (kat_go (fun e=>kat_yes ?_) fun e=>kat_no ?_))
  ·refine zhu_ (i+1) r r' k2 z2 ?_
   unfold lexV at q
   rw [e,if_pos rfl] at q
   exact q
  ·refine zjS_ hx hy k1 z1 ?_
   unfold lexV at q
   rw [e,if_neg (by decide)] at q
   exact q
end
def SrtV (K:Fgg) (H:Hp) (ys:List V) (lt:Nat→Nat→Bool):Prop :=
 (∃ k,k≠0∧(∀ y∈ys,knd y=k)∧∀ i j x y,ys[i]?=some x→ys[j]?=some y→lt i j=ltF x y) ∨
 (∃ (rows:Nat→List V) (ks:List Nat),ks≠[]∧0∉ks∧(∀ i y,ys[i]?=some y→∃ a,y=.ref a∧SqT K H a (rows i)∧(rows i).map knd=ks)∧∀ i j,i<ys.length→j<ys.length→lt i j=lexV (rows i) (rows j))
def mSorted (b:Nat) (K:Fgg):List V→Hp→VK→Prop:=fun xs H Q=>match xs with
 | [.ref p]=>∃ ys lt,SqL K H p ys∧ys.length<b∧WOr lt∧SrtV K H ys lt∧∀ idx,Srtd lt ys.length idx→∀ l,H l=none→Q (.ref l) (upd H l (.lst (idx.map fun i=>ys.getD i .non)))
 | _=>False
def tyK (k:Nat):Value:=if k=1 then .type "int" else .type "str"
theorem zkb_ {M:Model}{h:Heap}{x:V}{u:Value}{k:Nat}(r:RelV x u) (hk:knd x=k) (h0:k≠0):Looks M h (typeOf u) (tyK k):=by
 subst hk
 rcases zaQ_ h0 with ⟨i,rfl⟩ | ⟨z,rfl⟩
 ·obtain ⟨t,rfl⟩:=r
  exact .now
 ·obtain ⟨t,rfl⟩:=r
  exact .now
theorem zmQ_ (k:Nat):(tyK k != Value.type "tuple")=true:=by unfold tyK; split<;>decide +kernel
theorem zmN_ (k:Nat):(tyK k == tyK k)=true:=by unfold tyK; split<;>decide +kernel
theorem zbQ_ {ys:List V}{us:List Value}(r:Vals ys us) {i:Nat}(h:i<us.length):∃ y,ys[i]?=some y∧RelV y (us.getD i Value.none)∧y∈ys:=by
 have hl:=Vals.length r
 have e:ys[i]?=some ys[i]:=List.getElem?_eq_getElem (by omega)
 obtain ⟨u,eu,ru⟩:=Vals.get r e
 refine ⟨_,e,?_,List.getElem_mem _⟩
 rw [List.getD_eq_getElem?_getD,eu]
 exact ru
theorem zhc_ {ys:List V}{us:List Value}(r:Vals ys us):∀ (idx:List Nat),(∀ i∈idx,i<us.length)→Vals (idx.map fun i=>ys.getD i .non) (idx.map fun i=>us.getD i Value.none)
 | [],_=>.nil
 | i::idx,h=>by
  obtain ⟨y,e,ry,_⟩:=zbQ_ r (h i (List.mem_cons_self ..))
  refine .cons ?_ (zhc_ r idx fun j hj=>h j (List.mem_cons_of_mem _ hj))
  show RelV (ys.getD i V.non) _
  rw [List.getD_eq_getElem?_getD,e]
  exact ry
section
variable {X:Cx}
theorem zfg_ {b:Nat}(hB:RunB b):CallR X (.builtin "sorted") (mSorted b X.K):=by
 have hB1:=hB.1
 intro pins s σ H xs us Q I r h
 unfold mSorted at h
 split at h
 ·rename_i p
  obtain ⟨ys,lt,hp,h64,wo,sv,q⟩:=h
  obtain ⟨u,rfl,rx⟩:=vals1 r
  cases rx
  obtain ⟨its,r',pl,hz⟩:=I.list hp
  have hlen:=Vals.length r'
  refine zk8_ hB pl.isList (by lia) wo (fun h2 h' kp=>?_) fun h' c idx kp hi ho=>?_
  ·rcases sv with ⟨k,hk,hall,hlt⟩ | ⟨rows,ks,hne,h0,hrow,hlt⟩
   ·refine ⟨oneType',fun A C hC=>?_,fun A i j C hi hj hC=>?_⟩
    ·refine kas_kind h2 (T:=tyK k) (fun v hv=>?_) (zmQ_ k) (zmN_ k) hC
     obtain ⟨i,hi⟩:=List.mem_iff_getElem?.mp hv
     obtain ⟨hi',_⟩:=List.getElem?_eq_some_iff.mp hi
     obtain ⟨y,_,ry,hy⟩:=zbQ_ r' hi'
     rw [List.getD_eq_getElem?_getD,hi] at ry
     exact zkb_ ry (hall y hy) hk
    ·obtain ⟨x,ex,rx,hx⟩:=zbQ_ r' hi
     obtain ⟨y,ey,ry,hy⟩:=zbQ_ r' hj
     rw [hlt i j x y ex ey] at hC
     unfold kas_ask
     rw [keyLt'_oneType]
     exact zjS_ rx ry (by rw [hall x hx,hall y hy]) (by rw [hall x hx]; exact hk) hC
   ·have tup:∀ i,i<its.length→∃ (a:Addr) (o:Obj) (ts:List Value) (n:Nat),its[i]?=some (.ref a)∧h'.get? a=some o∧o.cls=.type "tuple" ∧ o.data=.seq ts.toArray n∧Vals (rows i) ts∧(rows i).map knd=ks:=fun i hi=>by
     obtain ⟨y,e,ry,_⟩:=zbQ_ r' hi
     obtain ⟨a,rfl,ht,hk⟩:=hrow i y e
     obtain ⟨ts,rt,⟨o,ho,hc,n,hd⟩,_⟩:=I.tuple ht
     refine ⟨a,o,ts,n,?_,kp _ _ ho,hc,hd,rt,hk⟩
     have:its.getD i Value.none=.ref a:=ry
     rw [List.getD_eq_getElem?_getD,List.getElem?_eq_getElem hi] at this
     rw [List.getElem?_eq_getElem hi]
     exact congrArg some this
    obtain ⟨k,ks',rfl⟩:∃ k ks',ks=k::ks':=by
     cases ks with
     | nil=>exact absurd rfl hne
     | cons k ks'=>exact ⟨k,ks',rfl⟩
    have hk0:k≠0:=fun e=>h0 (by rw [e]; exact List.mem_cons_self ..)
    refine ⟨tuples' true,fun A C hC=>?_,fun A i j C hi hj hC=>?_⟩
    ·have kt:∀ (l:List Value) (d:Nat),its.drop d=l→∃ fs,KatTups h' l fs∧fs.length=l.length∧∀ v∈fs,Looks (model X.prog X.w) h' (typeOf v) (tyK k):=by
      intro l
      induction l with
      | nil=>intro d _; exact ⟨[],.nil,rfl,fun v hv=>by cases hv⟩
      | cons v l ih =>
       intro d hd
       have hdl:d<its.length:=by
        have:=congrArg List.length hd
        rw [List.length_drop,List.length_cons] at this
        lia
       obtain ⟨a,o,ts,n,e,ho,hc,hdd,rt,hk⟩:=tup d hdl
       have e2:its.drop d=its[d]::its.drop (d+1):=List.drop_eq_getElem_cons hdl
       rw [hd] at e2
       injection e2 with e3 e4
       obtain ⟨fs,k1,k2,k3⟩:=ih (d+1) e4.symm
       rw [List.getElem?_eq_getElem hdl] at e
       injection e with e
       rw [e3,e]
       cases hr:rows d with
       | nil=>rw [hr] at hk; simp at hk
       | cons x xr =>
        rw [hr] at rt hk
        cases rt with
        | @cons _ f _ tr rf rr =>
         rw [List.map_cons] at hk
         injection hk with hk1 hk2
         refine ⟨f::fs,.cons ho hc hdd (by simp) k1,by simp [k2],fun v hv=>?_⟩
         rcases List.mem_cons.mp hv with rfl | hv
         ·exact zkb_ rf hk1 hk0
         ·exact k3 v hv
     obtain ⟨fs,k1,k2,k3⟩:=kt its 0 rfl
     have:=kat_kind (M:=model X.prog X.w) (A:=A) (E:=fun _ _=>False) (s:={ s with heap:=h' }) (Q:=C) k1 (by lia) k3 (zmN_ k) (by rw [zmQ_]; exact hC)
     exact this
    ·obtain ⟨a,o,ts,n,e,ho,hc,hd,rt,hk⟩:=tup i hi
     obtain ⟨a2,o2,ts2,n2,e2,ho2,hc2,hd2,rt2,hk2⟩:=tup j hj
     unfold kas_ask
     rw [List.getD_eq_getElem?_getD,List.getD_eq_getElem?_getD,e,e2]
     have hl:ts.length=ts2.length:=by
      have a1:=Vals.length rt
      have a2:=Vals.length rt2
      have:=congrArg List.length (hk.trans hk2.symm)
      rw [List.length_map,List.length_map] at this
      lia
     refine kat_lt (s:={ s with heap:=h' }) ho hd ho2 hd2 ?_
     rw [show decide (ts.toArray.size<ts2.toArray.size)=false from decide_eq_false (by simp [hl])]
     refine zhu_ 0 rt rt2 (hk.trans hk2.symm) (by rw [hk]; exact h0) ?_
     rw [← hlt i j (by lia) (by lia)]
     exact hC
  ·refine ⟨.ref (s.heap.objs.size+1),_,I.laid (o:=.lst (idx.map fun i=>ys.getD i .non)) (t':=s.toks) kp (Nat.le_succ _) ?_,rfl,q idx (by rwa [hlen]) _ (I.hok.fresh (Nat.le_succ _))⟩
   have hi1:∀ i∈idx,i<its.length:=fun i hi'=>List.mem_range.mp (hi.1.mem_iff.mp hi')
   refine ⟨?_,_,c,zhc_ r' idx hi1,ho⟩
   rw [List.length_map,hi.1.length_eq,List.length_range,sizeLine_eq]
   lia
 ·exact h.elim
end
end L2
namespace L2
open PySem PySem.Spec PyProof.Rows PySem.W
section
variable {α β:Type}
structure LOr (lt:α→α→Bool):Prop where
 asym:∀ {a b},lt a b=true→lt b a=false
 tr:∀ {a b c},lt b a=false→lt c b=false→lt c a=false
 anti:∀ {a b},lt a b=false→lt b a=false→a=b
def srtL (lt:α→α→Bool) (xs:List α):List α:=xs.mergeSort (fun a b=>!lt b a)
theorem zf4_ (lt:α→α→Bool) (xs:List α):(srtL lt xs).Perm xs:=List.mergeSort_perm _ _
theorem LOr.irr {lt:α→α→Bool}(o:LOr lt) (a:α):lt a a=false:=by
 cases h:lt a a with
 | false=>rfl
 | true=>rw [← h]; exact o.asym h
theorem zdi_ {lt:α→α→Bool}(o:LOr lt) (xs:List α):(srtL lt xs).Pairwise fun a b=>lt b a=false:=by
 have:=List.pairwise_mergeSort (le:=fun a b=>!lt b a) (fun a b c h1 h2=>by simp only [Bool.not_eq_true'] at *; exact o.tr h1 h2) (fun a b=>by
  cases h:lt b a with
  | false=>simp
  | true=>simp [o.asym h]) xs
 exact this.imp (fun h=>by simpa using h)
theorem zhm_ {lt:α→α→Bool}(o:LOr lt):∀ {ws ys:List α},ws.Perm ys→ws.Pairwise (fun a b=>lt b a=false)→ys.Pairwise (fun a b=>lt b a=false)→ws=ys
 | [],ys,hp,_,_=>by rw [List.Perm.nil_eq hp]
 | w::ws,[],hp,_,_=>by have:=hp.length_eq; simp at this
 | w::ws,y::ys,hp,h1,h2=>by
  obtain ⟨a1,a2⟩:=List.pairwise_cons.mp h1
  obtain ⟨b1,b2⟩:=List.pairwise_cons.mp h2
  have e:w=y:=by
   have m1:w∈y::ys:=hp.mem_iff.mp (List.mem_cons_self ..)
   have m2:y∈w::ws:=hp.mem_iff.mpr (List.mem_cons_self ..)
   rcases List.mem_cons.mp m1 with e | m1
   ·exact e
   ·rcases List.mem_cons.mp m2 with e | m2
    ·exact e.symm
    ·exact o.anti (b1 w m1) (a1 y m2)
  subst e
  rw [zhm_ o (List.Perm.cons_inv hp) a2 b2]
theorem zi1_ {lt:α→α→Bool}(o:LOr lt) {ws xs:List α}(hp:ws.Perm xs) (hs:ws.Pairwise fun a b=>lt b a=false):ws=srtL lt xs :=
 zhm_ o (hp.trans (zf4_ lt xs).symm) hs (zdi_ o xs)
def ltI (a b:Int):Bool:=decide (a<b)
def ltS (a b:List Nat):Bool:=decide (a<b)
def lxP [DecidableEq α] (l:α→α→Bool) (m:β→β→Bool) (x y:α×β):Bool:=if x.1=y.1 then m x.2 y.2 else l x.1 y.1
theorem zlL_:LOr ltI:=by
 unfold ltI
 refine ⟨fun h=>?_,fun h h'=>?_,fun h h'=>?_⟩<;>simp only [decide_eq_true_eq,decide_eq_false_iff_not] at*<;> lia
theorem ziP_:LOr ltS:=by
 unfold ltS
 refine ⟨fun h=>?_,fun h h'=>?_,fun h h'=>?_⟩<;>simp only [decide_eq_true_eq,decide_eq_false_iff_not] at *
 ·exact fun h2=>List.lt_irrefl _ (List.lt_trans h h2)
 ·exact List.not_lt.mpr (List.le_trans (List.not_lt.mp h) (List.not_lt.mp h'))
 ·exact List.le_antisymm (List.not_lt.mp h') (List.not_lt.mp h)
theorem zjC_ [DecidableEq α] {l:α→α→Bool}{m:β→β→Bool}(ol:LOr l) (om:LOr m):LOr (lxP l m):=by
 unfold lxP
 refine ⟨fun {a b} h=>?_,fun {a b c} h h'=>?_,fun {a b} h h'=>?_⟩
 ·by_cases e:a.1=b.1
  ·rw [if_pos e] at h; rw [if_pos e.symm]; exact om.asym h
  ·rw [if_neg e] at h; rw [if_neg (fun z=>e z.symm)]; exact ol.asym h
 ·by_cases e:b.1=a.1
  ·rw [if_pos e] at h
   by_cases e2:c.1=b.1
   ·rw [if_pos e2] at h'; rw [if_pos (e2.trans e)]; exact om.tr h h'
   ·rw [if_neg e2] at h'; rw [if_neg (fun z=>e2 (z.trans e.symm)),← e]; exact h'
  ·rw [if_neg e] at h
   by_cases e2:c.1=b.1
   ·rw [if_neg (fun z=>e (e2.symm.trans z)),e2]; exact h
   ·rw [if_neg e2] at h'
    by_cases e3:c.1=a.1
    ·exfalso
     rw [e3] at h'
     exact e (ol.anti h h')
    ·rw [if_neg e3]; exact ol.tr h h'
 ·by_cases e:a.1=b.1
  ·rw [if_pos e] at h; rw [if_pos e.symm] at h'
   exact Prod.ext e (om.anti h h')
  ·rw [if_neg e] at h; rw [if_neg (fun z=>e z.symm)] at h'
   exact absurd (ol.anti h h') e
end
end L2
namespace L2
open PySem PySem.Spec PyProof.Rows PySem.W
section
variable {α β γ:Type}{K:Fgg}{E:XK}
def FlT (T:Ty α) (k:Nat) (lt:α→α→Bool):Prop:=k≠0∧∀ a v F,T.R a v F→knd v=k∧∀ b u F',T.R b u F'→ltF v u=lt a b∧(eqF v u=true↔a=b)
theorem zor_:FlT tyInt 1 ltI:=by
 refine ⟨by decide,fun a v F h=>?_⟩
 subst h
 refine ⟨rfl,fun b u F' h'=>?_⟩
 subst h'
 exact ⟨rfl,by simp [eqF]⟩
theorem zoJ_:FlT tyStr 2 ltS:=by
 refine ⟨by decide,fun a v F h=>?_⟩
 subst h
 refine ⟨rfl,fun b u F' h'=>?_⟩
 subst h'
 refine ⟨rfl,?_⟩
 show decide ((⟨a.toArray⟩:Str)=⟨b.toArray⟩)=true↔a=b
 rw [decide_eq_true_eq]
 constructor
 ·intro e
  injection e with e
  simpa using congrArg Array.toList e
 ·intro e; rw [e]
def LxC (C:Cs γ) (ks:List Nat) (lt:γ→γ→Bool):Prop:=ks≠[]∧0∉ks∧∀ c vs F,C.R c vs F→vs.map knd=ks∧∀ d us F',C.R d us F'→lexV vs us=lt c d
theorem zns_ {T:Ty α}{k:Nat}{lt:α→α→Bool}(f:FlT T k lt) (o:LOr lt):LxC (csLast T) [k] lt:=by
 refine ⟨by simp,fun h=>f.1 (List.mem_singleton.mp h).symm,?_⟩
 rintro c vs F ⟨v,rfl,hv⟩
 obtain ⟨e,g⟩:=f.2 c v F hv
 refine ⟨by rw [List.map_singleton,e],?_⟩
 rintro d us F' ⟨u,rfl,hu⟩
 obtain ⟨g1,g2⟩:=g d u F' hu
 show (if eqF v u=true then false else ltF v u)=_
 by_cases z:eqF v u=true
 ·rw [if_pos z,g2.mp z]; exact (o.irr d).symm
 ·rw [if_neg z,g1]
theorem zmh_ [DecidableEq α] {T:Ty α}{C:Cs γ}{k:Nat}{ks:List Nat}{lt:α→α→Bool}{lt2:γ→γ→Bool}(f:FlT T k lt) (l:LxC C ks lt2):LxC (csCons T C) (k::ks) (lxP lt lt2):=by
 refine ⟨by simp,fun h=>?_,?_⟩
 ·rcases List.mem_cons.mp h with h | h
  ·exact f.1 h.symm
  ·exact l.2.1 h
 ·rintro c vs F ⟨v,us,rfl,hv,hus⟩
  obtain ⟨e,g⟩:=f.2 c.1 v F hv
  obtain ⟨e2,g'⟩:=l.2.2 c.2 us F hus
  refine ⟨by rw [List.map_cons,e,e2],?_⟩
  rintro d ws F' ⟨u,us',rfl,hu,hus'⟩
  obtain ⟨g1,g2⟩:=g d.1 u F' hu
  show (if eqF v u=true then lexV us us' else ltF v u)=lxP lt lt2 c d
  unfold lxP
  by_cases z:eqF v u=true
  ·rw [if_pos z,if_pos (g2.mp z)]; exact g' d.2 us' F' hus'
  ·rw [if_neg z,if_neg (fun q=>z (g2.mpr q)),g1]
theorem zlF_ {T:Ty α}{H:Hp}:∀ {xs:List α}{vs:List V},Prs T H xs vs→∀ (i:Nat) (v:V),vs[i]?=some v→∃ x,xs[i]?=some x∧T.R x v H
 | _,_,.nil,i,v,e=>by simp at e
 | _,_,.cons a t,0,v,e=>by simp at e; subst e; exact ⟨_,rfl,a⟩
 | _,_,.cons a t,i+1,v,e=>zlF_ t i v (by simpa using e)
theorem zjP_ {T:Ty α}{H:Hp}{xs:List α}{vs:List V}(r:Prs T H xs vs) (d:α):∀ (idx:List Nat),(∀ i∈idx,i<vs.length)→Prs T H (idx.map fun i=>xs.getD i d) (idx.map fun i=>vs.getD i .non)
 | [],_=>.nil
 | i::idx,h=>by
  have hi:=h i (List.mem_cons_self ..)
  obtain ⟨x,e,rx⟩:=zlF_ r i vs[i] (List.getElem?_eq_getElem hi)
  refine .cons ?_ (zjP_ r d idx fun j hj=>h j (List.mem_cons_of_mem _ hj))
  show T.R (xs.getD i d) (vs.getD i .non) H
  rw [List.getD_eq_getElem?_getD,List.getD_eq_getElem?_getD,e,List.getElem?_eq_getElem hi]
  exact rx
theorem zgU_ {lt:α→α→Bool}(o:LOr lt) {xs:List α}{d:α}{idx:List Nat}(h:Srtd (fun i j=>lt (xs.getD i d) (xs.getD j d)) xs.length idx):(idx.map fun i=>xs.getD i d)=srtL lt xs:=by
 refine zi1_ o ?_ ?_
 ·have e:(List.range xs.length).map (fun i=>xs.getD i d)=xs:=by
   apply List.ext_getElem?
   intro i
   by_cases hi:i<xs.length
   ·simp [hi]
   ·simp [List.getElem?_eq_none,hi,Nat.le_of_not_lt hi]
  have:=h.1.map (fun i=>xs.getD i d)
  rwa [e] at this
 ·exact List.pairwise_map.mpr (h.2.imp fun q=>q)
theorem zom_ {lt:α→α→Bool}(o:LOr lt) (f:Nat→α):WOr fun i j=>lt (f i) (f j):=⟨fun h=>o.asym h,fun h h'=>o.tr h h'⟩
theorem zfD_ {b:Nat}(b0:0<b) {T:Ty α}{lt:α→α→Bool}(o:LOr lt) (sv:∀ (d:α) (xs:List α) (vs:List V) (F:Hp),Prs T F xs vs→SrtV K F vs fun i j=>lt (xs.getD i d) (xs.getD j d)) (mono:∀ {F H:Hp}{vs l},Same F H→SrtV K F vs l→SrtV K H vs l) :
  BlO K (mSorted b K) E (csLast (tyL T)) (fun l=>.grd (l.length<b) (.ok (srtL lt l))) (owL T):=by
 rintro c vs F H Q hs ⟨v,rfl,p,us,rfl,h,r⟩ q
 obtain ⟨h64,q⟩:=q.grd
 have hl:=Paired.length r
 cases c with
 | nil =>
  cases r
  refine ⟨[],fun _ _=>false,.of (hs _ _ h),b0,⟨(fun h=>by cases h),(fun _ _=>rfl)⟩,.inl ⟨1,by decide,(fun y hy=>by cases hy),(fun i j x y e=>by simp at e)⟩,fun idx hi l hl=>?_⟩
  have:idx=[]:=by have:=hi.1.length_eq; simpa using this
  subst this
  rw [show srtL lt ([]:List α)=[] by simp [srtL]] at q
  exact zbA_ hs hl (xs:=[]) .nil q
 | cons x xs =>
  refine ⟨us,fun i j=>lt ((x::xs).getD i x) ((x::xs).getD j x),.of (hs _ _ h),by lia,zom_ o _,mono hs (sv x _ us F r),fun idx hi l hl2=>?_⟩
  rw [← hl] at hi
  have e:=zgU_ o hi
  rw [← e] at q
  refine zbA_ hs hl2 (zjP_ r x idx fun i hi'=>?_) q
  have:=List.mem_range.mp (hi.1.mem_iff.mp hi')
  lia
theorem ziG_ {F H:Hp}{vs:List V}{l:Nat→Nat→Bool}(hs:Same F H) (h:SrtV K F vs l):SrtV K H vs l:=by
 rcases h with h | ⟨rows,ks,a,b,c,d⟩
 ·exact .inl h
 ·refine .inr ⟨rows,ks,a,b,fun i y e=>?_,d⟩
  obtain ⟨p,e1,e2,e3⟩:=c i y e
  exact ⟨p,e1,hs.tup e2,e3⟩
theorem zg5_ {b:Nat}{C:Cs γ}{ks:List Nat}{lt:γ→γ→Bool}(l:LxC C ks lt) (o:LOr lt) (b0:0<b:=by decide):BlO K (mSorted b K) E (csLast (tyL (tyTup C))) (fun l=>.grd (l.length<b) (.ok (srtL lt l))) (owL (tyTup C)):=by
 refine zfD_ b0 o (fun d xs vs F r=>?_) ziG_
 have hl:=Paired.length r
 have row:∀ i:Nat,∃ row:List V,∀ y:V,vs[i]?=some y→∃ (a:Addr) (c:γ),xs[i]?=some c∧y=V.ref a∧SqT K F a row∧C.R c row F:=fun i=>by
  cases e:vs[i]? with
  | none=>exact ⟨[],fun y h=>by cases h⟩
  | some y =>
   obtain ⟨x,ex,p,us,rfl,hp,hc⟩:=zlF_ r i y e
   refine ⟨us,fun y' h=>?_⟩
   injection h with h
   subst h
   exact ⟨p,x,ex,rfl,.of hp,hc⟩
 refine .inr ⟨fun i=>Classical.choose (row i),ks,l.1,l.2.1,fun i y e=>?_,fun i j hi hj=>?_⟩
 ·obtain ⟨a,c,ec,rfl,ht,hc⟩:=Classical.choose_spec (row i) y e
  exact ⟨a,rfl,ht,(l.2.2 c _ F hc).1⟩
 ·obtain ⟨a,c,ec,_,ht,hc⟩:=Classical.choose_spec (row i) _ (List.getElem?_eq_getElem hi)
  obtain ⟨a',c',ec',_,ht',hc'⟩:=Classical.choose_spec (row j) _ (List.getElem?_eq_getElem hj)
  show lt (xs.getD i d) (xs.getD j d)=_
  rw [List.getD_eq_getElem?_getD,List.getD_eq_getElem?_getD,ec,ec']
  exact ((l.2.2 c _ F hc).2 c' _ F hc').symm
end
end L2
universe u
namespace L2
open PySem PySem.Spec PyProof.Rows
section
variable {α γ:Type}{K:Fgg}{E:XK}{L:List Sl}{T:Ty α}{e:TE}
end
section
variable {α:Type}{K:Fgg}{E:XK}{L:List Sl}{T:Ty α}{F h H F0 H0:Hp}{ρ B S:Type}{LS:S→List Sl}{LB:B→List Sl}{O:Own ρ}
end
end L2
namespace L2
open PySem PySem.Spec PyProof.Rows PySem.W
section
variable {prog:Program}{w:World}{A:Around}{E:Value→Shared→Prop}{s:Shared}{T:String}{rr dd:Addr}{n:Nat}{PP:Nat→Value→Prop}{OK:Heap→Prop}
end
section
variable {prog:Program}{w:World}{A:Around}{E:Value→Shared→Prop}{s:Shared}{lt:Nat→Nat→Bool}
end
section
variable {X:Cx}
end
section
variable {α β γ κ:Type}{K:Fgg}{E:XK}
end
end L2
namespace L2
open PySem PySem.Spec PyProof.Rows PySem.W
section
variable {prog:Program}{w:World}{A:Around}{E:Value→Shared→Prop}{s:Shared}{z ti to i j:Addr}{f g:List Addr}{n1 n2 k:Nat}{P1 P2:Nat→Value→Prop}{S1 S2:Nat→Heap→Prop}{a b:Value}
end
end L2
namespace L2
open PySem PySem.Spec PyProof.Rows PySem.W
section
variable {prog:Program}{w:World}{A:Around}{E:Value→Shared→Prop}{s:Shared}
end
section
variable {X:Cx}{elts:List Expr}{kk:Nat}{tpos:Pos}
end
section
variable {K:Fgg}{E:XK}{α β:Type}{L:List Sl}{T:Ty α}
end
end L2
namespace L2
open PySem PySem.Spec PyProof.Rows
section
variable {K:Fgg}{E:XK}{α β γ ρ S B:Type}{F0 H0 F h H:Hp}{L:List Sl}{e:TE}{T:Ty α}{r:Mo α}{O:Own ρ}{u:TS}{LS:S→List Sl}{LB:B→List Sl}
theorem Hold.atM:∀ {L:List Sl}{σ:St}{F h:Hp}(i:Nat) {s:Sl},Hold L σ F h→L[i]?=some s →
  ∃ o h1 h2,σ[i]?=some o∧Jn h1 h2 h∧s.P o F h1∧∀ F' s' o' h1' h',Same F F'→Jn h1' h2 h'→s'.P o' F' h1'→Hold (L.set i s') (σ.set i o') F' h'
 | [],_,_,_,_,_,_,e=>by cases e
 | s::L,[],_,_,_,_,q,_=>q.elim
 | s::L,o::σ,F,h,0,t,⟨h1,h2,j,p,r⟩,e=>by
  cases e
  exact ⟨o,h1,h2,rfl,j,p,fun F' s' o' h1' h' g j' p'=>⟨h1',h2,j',p',r.mono g⟩⟩
 | s::L,o::σ,F,h,i+1,t,⟨h1,h2,j,p,r⟩,e=>by
  obtain ⟨o1,k1,k2,e1,j1,p1,f⟩:=Hold.atM i r (by simpa using e)
  have d1:Dj h1 k1:=fun p=>by
   rcases j.dj p with a | a
   ·exact .inl a
   ·exact .inr (j1.l.free a)
  have d2:Dj h1 k2:=fun p=>by
   rcases j.dj p with a | a
   ·exact .inl a
   ·exact .inr (j1.r.free a)
  refine ⟨o1,k1,un h1 k2,by simpa using e1,fun p=>?_,p1,fun F' s' o' k1' h' g j' p'=>?_⟩
  ·rcases j p with ⟨a,b⟩ | ⟨a,b⟩
   ·rcases j1 p with ⟨c,d⟩ | ⟨c,d⟩
    ·refine .inl ⟨c,?_⟩; unfold un; rw [a,b,d]
    ·refine .inr ⟨?_,by rw [b,d]⟩; unfold un; rw [a,c]
   ·refine .inl ⟨j1.l.free a,?_⟩
    have:k2 p=none:=j1.r.free a
    unfold un; rw [b]
    cases h1 p with
    | none=>rw [this]
    | some u=>rfl
  ·have dd:Dj k1' k2:=fun p=>by
    rcases j' p with ⟨a,b⟩ | ⟨a,b⟩
    ·exact .inl a
    ·right; unfold un at a
     cases z:h1 p with
     | none=>rw [z] at a; exact a
     | some u=>rw [z] at a; cases a
   refine ⟨h1,un k1' k2,fun p=>?_,p.mono g,f F' s' o' k1' _ g (zeZ_ dd) p'⟩
   rcases j' p with ⟨a,b⟩ | ⟨a,b⟩
   ·unfold un at b ⊢
    cases z:h1 p with
    | none=>rw [z] at b; exact .inl ⟨rfl,by rw [b,a]⟩
    | some u =>
     rw [z] at b
     refine .inr ⟨?_,b⟩
     rw [a]
     rcases d2 p with y | y
     ·rw [y] at z; cases z
     ·exact y
   ·unfold un at a
    cases z:h1 p with
    | some u=>rw [z] at a; cases a
    | none =>
     rw [z] at a
     refine .inl ⟨rfl,?_⟩
     unfold un; rw [b]
     cases k1' p with
     | none=>exact a.symm
     | some u=>rfl
structure PutC (F2 H2 h H0 k k' F3 H3:Hp):Prop where
 ff:Same F2 F3
 fh:Same F3 H3
 ol:Same (less H2 k) H3
 nw:∀ q,F2 q=none→F3 q≠none→H2 q=none∨k q≠none
 kh:Same k' H3
 dj:Dj F3 k'
 fr:∀ q,k q=none→k' q≠none→h q=none∧H0 q=none
theorem zkA_ {O1:Own α}{i:Nat}{σ:St}{x:α}(hL:Hold L σ F h) (hi:L[i]?=some (.ow O1 x)) (ok:Okk F0 H0 F h H) :
  ∃ v k,σ[i]?=some (some v)∧O1.O x v F k∧Same k H∧Same k h∧Dj F k∧∀ {β:Type}(O2:Own β) (x':β) (v':V) (k' F3 H3:Hp),PutC F H h H0 k k' F3 H3→O2.O x' v' F3 k' →
   ∃ h',Hold (L.set i (.ow O2 x')) (σ.set i (some v')) F3 h'∧Okk F0 H0 F3 h' H3:=by
 obtain ⟨o,k,hr,e1,j,⟨v,e2,ho⟩,f⟩:=hL.atM i hi
 subst e2
 obtain ⟨o1,o2,o3,o4,o5⟩:=ok
 have kh:Same k h:=j.l
 have rh:Same hr h:=j.r
 have kne:∀ q,k q≠none→h q≠none:=fun q z w=>z (kh.free w)
 refine ⟨v,k,e1,ho,kh.trans o3,kh,fun q=>?_,?_⟩
 ·rcases o2 q with z | z
  ·exact .inl z
  ·exact .inr (kh.free z)
 intro β O2 x' v' k' F3 H3 P hv'
 have rk:∀ {q o},hr q=some o→k q=none:=fun {q o} z=>by
  rcases j.dj q with y | y
  ·exact y
  ·rw [y] at z; cases z
 have dj:Dj k' hr:=fun q=>by
  by_cases w:k' q=none
  ·exact .inl w
  ·right
   by_cases w2:k q=none
   ·exact rh.free (P.fr q w2 w).1
   ·rcases j.dj q with y | y
    ·exact absurd y w2
    ·exact y
 have rH:∀ {q o},hr q=some o→H3 q=some o:=fun {q o} z=>P.ol q o (by rw [zax_ (rk z)]; exact o3 _ _ (rh _ _ z))
 refine ⟨un k' hr,f F3 (.ow O2 x') (some v') k' _ P.ff (zeZ_ dj) ⟨_,rfl,hv'⟩,⟨o1.1.trans P.ff,P.fh,fun q o z=>?_,fun q a b=>?_⟩,fun q=>?_,fun q o z=>?_,fun q z=>?_,fun q xs z=>?_⟩
 ·have hq:h q=none:=by
   cases w:h q with
   | none=>rfl
   | some s=>have:=o4 q (by rw [w]; exact Option.some_ne_none _); rw [this] at z; cases z
  exact P.ol q o (by rw [zax_ (kh.free hq)]; exact o1.2.2.1 _ _ z)
 ·by_cases w:F q=none
  ·rcases P.nw q w b with y | y
   ·exact o1.2.2.1.free y
   ·exact o4 q (kne q y)
  ·exact o1.2.2.2 q a w
 ·unfold un
  cases w:k' q with
  | some s =>
   left
   rcases P.dj q with y | y
   ·exact y
   ·rw [y] at w; cases w
  | none =>
   cases y:hr q with
   | none=>exact .inr rfl
   | some s =>
    left
    have hq:h q=some s:=rh _ _ y
    have Fq:F q=none:=by
     rcases o2 q with d | d
     ·exact d
     ·rw [d] at hq; cases hq
    by_cases w3:F3 q=none
    ·exact w3
    ·rcases P.nw q Fq w3 with d | d
     ·rw [o3 _ _ hq] at d; cases d
     ·exact absurd (rk y) d
 ·unfold un at z
  cases w:k' q with
  | some s=>rw [w] at z; rw [P.kh q s w]; exact z
  | none=>rw [w] at z; exact rH z
 ·unfold un at z
  cases w:k' q with
  | some s =>
   by_cases y:k q=none
   ·exact (P.fr q y (by rw [w]; exact Option.some_ne_none _)).2
   ·exact o4 q (kne q y)
  | none =>
   rw [w] at z
   exact o4 q fun y=>z (rh.free y)
 ·unfold un at z
  cases w:k' q with
  | some s=>rw [w] at z; refine O2.notup hv' q xs ?_; rw [w]; exact z
  | none=>rw [w] at z; exact o5 q xs (rh _ _ z)
theorem PutC.same {k k':Hp}{H3:Hp}(ok:Okk F0 H0 F h H) (kh:Same k h) (a:Same k' H3) (b:∀ q,k q=none→k' q=none→H3 q=H q) (c:∀ q,k q=none→k' q≠none→F q=none∧h q=none∧H0 q=none∧H q=k' q):PutC F H h H0 k k' F H3:=by
 have dj:Dj F k':=fun q=>by
  by_cases w:k' q=none
  ·exact .inr w
  ·left
   by_cases y:k q=none
   ·exact (c q y w).1
   ·rcases ok.2.1 q with d | d
    ·exact d
    ·exact absurd (kh.free d) y
 have ol:∀ q o,k q=none→H q=some o→H3 q=some o:=fun q o y z=>by
  by_cases w:k' q=none
  ·rw [b q y w]; exact z
  ·obtain ⟨_,_,_,e⟩:=c q y w
   rw [z] at e
   exact a _ _ e.symm
 refine ⟨Same.refl _,fun q o z=>?_,fun q o z=>?_,fun q y z=>absurd y z,a,dj,fun q y z=>⟨(c q y z).2.1,(c q y z).2.2.1⟩⟩
 ·have y:k q=none:=by
   rcases ok.2.1 q with d | d
   ·rw [d] at z; cases z
   ·exact kh.free d
  exact ol q o y (ok.1.2.1 _ _ z)
 ·unfold less at z
  split at z
  ·rename_i y; exact ol q o y z
  ·cases z
theorem PutC.one {p:Addr}{o o':HO}(ok:Okk F0 H0 F h H) (kh:Same (one p o) h):PutC F H h H0 (one p o) (one p o') F (upd H p o'):=by
 have ne:∀ q,L2.one p o q=none→q≠p:=fun q z w=>by rw [w,zv_] at z; cases z
 refine PutC.same ok kh (fun q s z=>?_) (fun q z1 z2=>zI_ (ne q z1)) fun q z1 z2=>?_
 ·unfold L2.one at z
  split at z
  ·rename_i w; unfold upd; rw [if_pos w]; exact z
  ·cases z
 ·unfold L2.one at z2
  rw [if_neg (ne q z1)] at z2
  exact absurd rfl z2
end
section
variable {K:Fgg}{E:XK}{α β γ ρ S B:Type}{F0 H0 F h H:Hp}{L:List Sl}{e:TE}{T:Ty α}{r:Mo α}{O:Own ρ}{u:TS}{LS:S→List Sl}{LB:B→List Sl}{p:Addr}{vs:List V}
end
end L2
namespace L2
open PySem PySem.Spec PyProof.Rows
section
variable {α β γ:Type}
def OwAll (O:Own α) (F:Hp):List α→List V→Hp→Prop
 | [],[],h=>∀ p,h p=none
 | x::xs,v::vs,h=>∃ h1 h2,Jn h1 h2 h∧O.O x v F h1∧OwAll O F xs vs h2
 | _,_,_=>False
variable {O:Own α}
theorem OwAll.mono:∀ {xs:List α}{vs:List V}{F F' h:Hp},Same F F'→OwAll O F xs vs h→OwAll O F' xs vs h
 | [],[],_,_,_,_,q=>q
 | x::xs,v::vs,F,F',h,g,⟨h1,h2,j,o,r⟩=>⟨h1,h2,j,O.mono g o,r.mono g⟩
 | [],_::_,_,_,_,_,q=>q.elim
 | _::_,[],_,_,_,_,q=>q.elim
theorem OwAll.imm (i:ImmO O):∀ {xs:List α}{vs:List V}{F F' h:Hp},Tups F F'→OwAll O F xs vs h→OwAll O F' xs vs h
 | [],[],_,_,_,_,q=>q
 | x::xs,v::vs,F,F',h,g,⟨h1,h2,j,o,r⟩=>⟨h1,h2,j,i g o,r.imm i g⟩
 | [],_::_,_,_,_,_,q=>q.elim
 | _::_,[],_,_,_,_,q=>q.elim
theorem OwAll.notup:∀ {xs:List α}{vs:List V}{F h:Hp},OwAll O F xs vs h→∀ p ys,h p≠some (.tup ys)
 | [],[],_,_,q,p,ys=>by rw [q p]; exact fun z=>by cases z
 | x::xs,v::vs,F,h,⟨h1,h2,j,o,r⟩,p,ys=>by
  rcases j p with ⟨_,b⟩ | ⟨_,b⟩
  ·rw [b]; exact r.notup p ys
  ·rw [b]; exact O.notup o p ys
 | [],_::_,_,_,q,_,_=>q.elim
 | _::_,[],_,_,q,_,_=>q.elim
theorem OwAll.len:∀ {xs:List α}{vs:List V}{F h:Hp},OwAll O F xs vs h→xs.length=vs.length
 | [],[],_,_,_=>rfl
 | x::xs,v::vs,F,h,⟨h1,h2,j,o,r⟩=>by rw [List.length_cons,List.length_cons,r.len]
 | [],_::_,_,_,q=>q.elim
 | _::_,[],_,_,q=>q.elim
theorem zil_ {F h1 h:Hp}(d:Dj F h) (s:Same h1 h):Same (un F h1) (un F h):=fun p o e=>by
 unfold un at e ⊢
 cases z:F p with
 | some w=>rw [z] at e; exact e
 | none=>rw [z] at e; exact s _ _ e
theorem OwAll.prs:∀ {xs:List α}{vs:List V}{F h G:Hp},Dj F h→Same (un F h) G→OwAll O F xs vs h→Prs O.fr G xs vs
 | [],[],_,_,_,_,_,_=>.nil
 | x::xs,v::vs,F,h,G,d,g,⟨h1,h2,j,o,r⟩=>by
  have d1:Dj F h1:=fun p=>by
   rcases d p with z | z
   ·exact .inl z
   ·exact .inr (j.l.free z)
  have d2:Dj F h2:=fun p=>by
   rcases d p with z | z
   ·exact .inl z
   ·exact .inr (j.r.free z)
  exact .cons (O.fr.mono ((zil_ d j.l).trans g) (O.frz d1 o)) (r.prs d2 ((zil_ d j.r).trans g))
 | [],_::_,_,_,_,_,_,q=>q.elim
 | _::_,[],_,_,_,_,_,q=>q.elim
theorem zmF_ {h1 h2 h:Hp}(j:Jn h1 h2 h):Jn h2 h1 h:=fun p=>by
 rcases j p with ⟨a,b⟩ | ⟨a,b⟩
 ·exact .inr ⟨a,b⟩
 ·exact .inl ⟨a,b⟩
theorem zgX_ {h1 h2 h12 h3 h:Hp}(j:Jn h1 h2 h12) (k:Jn h12 h3 h):∃ h23,Jn h2 h3 h23∧Jn h1 h23 h:=by
 have d:Dj h2 h3:=fun p=>by
  rcases k.dj p with z | z
  ·exact .inl (j.r.free z)
  ·exact .inr z
 refine ⟨un h2 h3,zeZ_ d,fun p=>?_⟩
 unfold un
 rcases k p with ⟨a,b⟩ | ⟨a,b⟩
 ·refine .inl ⟨j.l.free a,?_⟩
  rw [j.r.free a]; exact b
 ·rcases j p with ⟨c,e⟩ | ⟨c,e⟩
  ·refine .inl ⟨c,?_⟩
   rw [b,e]
   cases z:h2 p with
   | none=>exact a.symm ▸ rfl
   | some w=>rfl
  ·refine .inr ⟨?_,by rw [b,e]⟩
   rw [c]; exact a
theorem OwAll.at:∀ {xs:List α}{vs:List V}{F h:Hp}(i:Nat) {x:α},OwAll O F xs vs h→xs[i]?=some x →
  ∃ v h1 h2,vs[i]?=some v∧Jn h1 h2 h∧O.O x v F h1∧∀ x' h1' h' F3,Same F F3→O.O x' v F3 h1'→Jn h1' h2 h'→OwAll O F3 (xs.set i x') vs h'
 | [],_,_,_,_,_,_,e=>by cases e
 | x::xs,[],_,_,_,_,q,_=>q.elim
 | x::xs,v::vs,F,h,0,y,⟨h1,h2,j,o,r⟩,e=>by
  cases e
  exact ⟨v,h1,h2,rfl,j,o,fun x' h1' h' F3 g o' j'=>⟨h1',h2,j',o',r.mono g⟩⟩
 | x::xs,v::vs,F,h,i+1,y,⟨h1,h2,j,o,r⟩,e=>by
  obtain ⟨w,k1,k2,e1,j1,o1,f⟩:=OwAll.at i r (by simpa using e)
  obtain ⟨m,jm,jh⟩:=zgX_ j1 (zmF_ j)
  refine ⟨w,k1,m,by simpa using e1,jh,o1,fun x' k1' h' F3 g o' j'=>?_⟩
  have d:Dj k1' k2:=fun p=>by
   rcases j'.dj p with z | z
   ·exact .inl z
   ·exact .inr (jm.l.free z)
  refine ⟨h1,un k1' k2,?_,O.mono g o,f x' k1' _ F3 g o' (zeZ_ d)⟩
  intro p
  rcases j' p with ⟨a,b⟩ | ⟨a,b⟩
  ·rcases jm p with ⟨c,e⟩ | ⟨c,e⟩
   ·right
    refine ⟨by unfold un; rw [a,c],by rw [b,e]⟩
   ·left
    refine ⟨c,by unfold un; rw [a,b,e]⟩
  ·left
   refine ⟨jm.r.free a,?_⟩
   unfold un
   rw [b]
   cases z:k1' p with
   | none=>exact (jm.l.free a).symm ▸ rfl
   | some w=>rfl
abbrev owLO (O:Own α):Own (List α):=⟨fun xs v F h=>∃ p vs h2,v=.ref p∧Jn (one p (.lst vs)) h2 h∧OwAll O F xs vs h2,tyL O.fr,fun g ⟨p,vs,h2,e,j,q⟩=>⟨p,vs,h2,e,j,q.mono g⟩,
 fun {a v F h} d ⟨p,vs,h2,e,j,q⟩=>⟨p,vs,e,zfy_ d _ _ (j.l _ _ zv_),q.prs (fun b=>by
  rcases d b with z | z
  ·exact .inl z
  ·exact .inr (j.r.free z)) (zil_ d j.r)⟩,
 fun ⟨p,vs,h2,e,j,q⟩ b xs y=>by
  rcases j b with ⟨_,z⟩ | ⟨_,z⟩
  ·rw [z] at y; exact q.notup b xs y
  ·rw [z] at y; unfold one at y; split at y<;>cases y⟩
theorem zmA_ (i:ImmO O):ImmO (owLO O):=fun g ⟨p,vs,h2,e,j,q⟩=>⟨p,vs,h2,e,j,q.imm i g⟩
end
section
variable {K:Fgg}{E:XK}{α β γ ρ S B:Type}{F0 H0 F h H:Hp}{L:List Sl}{e te ei:TE}{T:Ty α}{r:Mo α}{Or:Own ρ}{u:TS}{LS:S→List Sl}{LB:B→List Sl}{σ:St}
def Foc (F0 H0:Hp) (σ:St) (h F1:Hp) (O':Own β) (y:β) (u:V) (LF:β→List Sl):Prop :=
 ∀ F2 H2,Same F1 F2→Okk F0 H0 F2 h H2→∃ k,O'.O y u F2 k∧Same k h ∧
  ∀ y' k' F3 H3,PutC F2 H2 h H0 k k' F3 H3→O'.O y' u F3 k'→∃ h',Hold (LF y') σ F3 h'∧Okk F0 H0 F3 h' H3
theorem zlO_ {O:Own α}{x:α}{i:Nat}(hL:Hold L σ F h) (hi:L[i]?=some (.ow O x)):∃ v,σ[i]?=some (some v)∧Foc F0 H0 σ h F O x v (fun x'=>L.set i (.ow O x')):=by
 obtain ⟨o,_,_,e1,_,⟨v,e2,_⟩,_⟩:=hL.at i hi
 subst e2
 refine ⟨v,e1,fun F2 H2 s ok=>?_⟩
 obtain ⟨v',k,e1',ho,_,kh,_,g⟩:=zkA_ (hL.mono s) hi ok
 rw [e1] at e1'; cases e1'
 refine ⟨k,ho,kh,fun y' k' F3 H3 a b=>?_⟩
 obtain ⟨h',a1,a2⟩:=g O y' v k' F3 H3 a b
 rw [zcd_ e1] at a1
 exact ⟨h',a1,a2⟩
theorem Foc.part {O:Own α}{O':Own β}{F1:Hp}{y:α}{z:β}{w u:V}{LF:α→List Sl}{put:β→α}(f:Foc F0 H0 σ h F1 O y u LF)
  (pt:∀ F2 k,Same F1 F2→Same k h→O.O y u F2 k→∃ k1 k2,Jn k1 k2 k∧O'.O z w F2 k1∧∀ z' k1' k' F3,Same F2 F3→O'.O z' w F3 k1'→Jn k1' k2 k'→O.O (put z') u F3 k'):Foc F0 H0 σ h F1 O' z w (fun z'=>LF (put z')):=by
 intro F2 H2 s ok
 obtain ⟨k,ho,kh,g⟩:=f F2 H2 s ok
 obtain ⟨k1,k2,j,ho',pp⟩:=pt F2 k s kh ho
 refine ⟨k1,ho',j.l.trans kh,fun z' k1' F3 H3 P hz=>?_⟩
 have d:Dj k1' k2:=fun q=>by
  by_cases w1:k1' q=none
  ·exact .inl w1
  ·right
   by_cases w2:k1 q=none
   ·exact (j.r.trans kh).free (P.fr q w2 w1).1
   ·rcases j.dj q with y | y
    ·exact absurd y w2
    ·exact y
 have k2h:∀ {q o},k2 q=some o→k1 q=none∧H3 q=some o:=fun {q o} e=>by
  have y1:k1 q=none:=by
   rcases j.dj q with y1 | y1
   ·exact y1
   ·rw [y1] at e; cases e
  exact ⟨y1,P.ol q o (by rw [zax_ y1]; exact ok.2.2.1 _ _ (kh _ _ (j.r _ _ e)))⟩
 refine g (put z') (un k1' k2) F3 H3 ⟨P.ff,P.fh,fun q o e=>?_,(fun q a b=>(P.nw q a b).imp id fun z w=>z (j.l.free w)),fun q o e=>?_,fun q=>?_,fun q a1 a2=>?_⟩ (pp z' k1' _ F3 P.ff hz (zeZ_ d))
 ·unfold less at e
  split at e
  ·rename_i y; exact P.ol q o (by rw [zax_ (j.l.free y)]; exact e)
  ·cases e
 ·unfold un at e
  cases y:k1' q with
  | some s=>rw [y] at e; rw [P.kh q s y]; exact e
  | none=>rw [y] at e; exact (k2h e).2
 ·unfold un
  cases y:k1' q with
  | some s =>
   rcases P.dj q with d | d
   ·exact .inl d
   ·rw [d] at y; cases y
  | none =>
   cases e:k2 q with
   | none=>exact .inr rfl
   | some s =>
    left
    have hq:h q=some s:=kh _ _ (j.r _ _ e)
    have Fq:F2 q=none:=by
     rcases ok.2.1 q with d | d
     ·exact d
     ·rw [d] at hq; cases hq
    by_cases w3:F3 q=none
    ·exact w3
    ·rcases P.nw q Fq w3 with d | d
     ·rw [ok.2.2.1 _ _ hq] at d; cases d
     ·exact absurd (k2h e).1 d
 ·unfold un at a2
  have y2:k2 q=none:=j.r.free a1
  have y:k1' q≠none:=fun y=>by rw [y] at a2; exact a2 y2
  exact P.fr q (j.l.free a1) y
def EvPt (K:Fgg) (te:TE) (E:XK) (L:List Sl) (i:Nat) (O:Own α) (O':Own β) (r:Mo (β×(β→α))):Prop :=
 ∀ F0 H0 σ F h H (Q:VK),Hold L σ F h→Okk F0 H0 F h H→After K r E (un F h) H (fun yp G1 H1=>∀ u,Foc F0 H0 σ h (less G1 h) O' yp.1 u (fun z=>L.set i (.ow O (yp.2 z)))→Q u H1)→te σ H Q
theorem zjY_ {O:Own α}{x:α}{i:Nat}(hi:L[i]?=some (.ow O x)):EvPt K (mVar i) E L i O O (.ok (x,fun z=>z)):=by
 intro F0 H0 σ F h H Q hL ok q
 obtain ⟨o,hs,_⟩:=ok.back (Ext.refl ok.thaw)
 obtain ⟨v,ev,fc⟩:=zlO_ (F0:=F0) (H0:=H0) (hL.mono hs) hi
 exact zdp_ ev (q.ok ok.thaw v fc)
theorem zmd_ {O:Own β}{p:Addr}{xs:List β}{n:Nat}{y:β}{vs:List V}{w:V}(hv:h p=some (.lst vs)) (hw:vs[n]?=some w) (e:xs[n]?=some y) :
  ∀ F2 k,Same k h→(owLO O).O xs (.ref p) F2 k→∃ k1 k2,Jn k1 k2 k∧O.O y w F2 k1∧∀ y' k1' k' F3,Same F2 F3→O.O y' w F3 k1'→Jn k1' k2 k'→(owLO O).O (xs.set n y') (.ref p) F3 k':=by
 rintro F2 k kh ⟨p',vs',k2,ep,j,all⟩
 cases ep
 have ev:vs'=vs:=by
  have:=kh _ _ (j.l _ _ zv_)
  rw [hv] at this
  injection this with this
  injection this with this
  exact this.symm
 subst ev
 obtain ⟨w',a1,a2,e1,j1,o1,f⟩:=all.at n e
 rw [hw] at e1; cases e1
 obtain ⟨m,jm,jk⟩:=zgX_ j1 (zmF_ j)
 refine ⟨a1,m,jk,o1,fun y' k1' k' F3 g o' j'=>?_⟩
 have d:Dj k1' a2:=fun q=>by
  rcases j'.dj q with z | z
  ·exact .inl z
  ·exact .inr (jm.l.free z)
 refine ⟨p,vs',un k1' a2,rfl,?_,f y' k1' _ F3 g o' (zeZ_ d)⟩
 intro q
 rcases j' q with ⟨a,b⟩ | ⟨a,b⟩
 ·rcases jm q with ⟨c,e⟩ | ⟨c,e⟩
  ·right
   refine ⟨by unfold un; rw [a,c],by rw [b,e]⟩
  ·left
   refine ⟨c,by unfold un; rw [a,b,e]⟩
 ·left
  refine ⟨jm.r.free a,?_⟩
  unfold un
  rw [b]
  cases z:k1' q with
  | none=>exact (jm.l.free a).symm ▸ rfl
  | some w=>rfl
theorem zfZ_ {G1 G2 h:Hp}(s:Same G1 G2):Same (less G1 h) (less G2 h):=fun p o e=>by
 unfold less at e ⊢
 split at e
 ·exact s _ _ e
 ·cases e
theorem zmf_ {O:Own α}{O':Own β}{i:Nat}{r:Mo (List β×(List β→α))}{rj:Mo Int}(hp:EvPt K te E L i O (owLO O') r) (hj:EvF K ei E L rj tyInt) :
  EvPt K (tOp (mIx K) te ei) E L i O O' (r.bind fun yp=>rj.bind fun j=>(Mo.opt (ixN yp.1.length j)).bind fun n=>(Mo.opt (yp.1[n]?)).bind fun z=>.ok (z,fun z'=>yp.2 (yp.1.set n z'))):=by
 intro F0 H0 σ F h H Q hL ok q
 refine hp F0 H0 σ F h H _ hL ok (q.bind.imp fun yp G1 H1 x1 k1 u fc=>?_)
 refine hj σ G1 H1 _ ((hL.froz ok.2.1).mono x1.1) x1.2.1 (k1.bind.imp fun j G2 H2 x2 k2 v2 hv2=>?_)
 cases hv2
 obtain ⟨n,en,k3⟩:=k2.bind.opt
 obtain ⟨z,ez,k4⟩:=(k3.ok x2.2.1).bind.opt
 have k5:=(k4.ok x2.2.1).ok x2.2.1
 obtain ⟨o2,_,_⟩:=ok.back (x1.trans x2)
 obtain ⟨k,⟨p,vs,m,rfl,jn,all⟩,kh,_⟩:=fc (less G2 h) H2 (zfZ_ x2.1) o2
 have hp1:h p=some (.lst vs):=kh _ _ (jn.l _ _ zv_)
 refine ⟨vs,.inl (.of (o2.2.2.1 _ _ hp1)),?_⟩
 have hl:=all.len
 have hn:=zg9_ en
 have hw:vs[n]?=some vs[n]:=List.getElem?_eq_getElem (by lia)
 have en':ixN vs.length j=some n:=by rw [← hl]; exact en
 have ea:atI vs j=some vs[n]:=by unfold atI; rw [en']; exact hw
 rw [ea]
 refine k5 _ (Foc.part (O:=owLO O') (y:=yp.1) (put:=fun z'=>yp.1.set n z') (LF:=fun y'=>L.set i (.ow O (yp.2 y'))) (u:=.ref p) (fun F2 H3 s ok=>fc F2 H3 ((zfZ_ x2.1).trans s) ok) fun F2 k s kh ho=>?_)
 exact zmd_ hp1 hw ez F2 k kh ho
end
end L2
namespace L2
open PySem PySem.Spec PyProof.Rows
section
variable {X:Cx}{e value o:Expr}{es:List Expr}{f m x:Str}{p pos pos' apos:Pos}{ta tv:TE}{t:TA}{C:Addr}{k:Nat}{ps:List Str}{sp:Sp}
end
section
variable {α β γ:Type}
end
section
variable {K:Fgg}{E:XK}{α β γ δ ρ S B:Type}{F0 H0 F h H:Hp}{L:List Sl}{e te ei:TE}{T:Ty α}{r:Mo α}{Or:Own ρ}{u:TS}{LS:S→List Sl}{LB:B→List Sl}{σ:St}{C:Addr}{ns:List Str}{f:Str}{i n:Nat}
end
end L2
namespace L2
open PySem PySem.Spec PyProof.Rows
section
variable {K:Fgg}{E:XK}{α β γ δ ρ ρ' S B:Type}{F0 H0 F h H:Hp}{L:List Sl}{e te ei:TE}{T:Ty α}{r:Mo α}{Or:Own ρ}{t u:TS}{LS:S→List Sl}{LB:B→List Sl}{σ:St}{C:Addr}{ns:List Str}{f m:Str}{i n:Nat}
theorem zme_ {k:Hp}(ok:Okk F0 H0 F h H) (s:Same k h):Okk F0 H0 F k H:=by
 refine ⟨ok.1,fun p=>?_,s.trans ok.2.2.1,fun p z=>ok.2.2.2.1 p fun y=>z (s.free y),fun p xs z=>ok.2.2.2.2 p xs (s _ _ z)⟩
 rcases ok.2.1 p with z | z
 ·exact .inl z
 ·exact .inr (s.free z)
end
end L2
namespace L2
open PySem PySem.Spec PyProof.Rows
section
variable {K:Fgg}{E:XK}{α β γ δ ρ ρ' S B:Type}{F0 H0 F h H:Hp}{L:List Sl}{e te ei:TE}{T:Ty α}{r:Mo α}{Or:Own ρ}{t u:TS}{LS:S→List Sl}{LB:B→List Sl}{σ:St}{C:Addr}{ns:List Str}{f m:Str}{i n:Nat}
def EvAO (K:Fgg) (t:TA) (E:XK) (L:List Sl) (r:Mo (List α)) (O:Own α):Prop :=
 ∀ σ F H (Q:List V→Hp→Prop),HoldF L σ F→Same F H→After K r E F H (fun xs F' H'=>∀ vs h,(∀ p,h p≠none→H p=none)→Dj F' h→Same h H'→OwAll O F' xs vs h→Q vs H')→t σ H Q
theorem zkg_ {O:Own α}:EvAO K tNil E L (.ok ([]:List α)) O:=fun σ F H Q hL hs q=>q.ok hs [] (fun _=>none) (fun p z=>absurd rfl z) (fun p=>.inr rfl) (fun p o z=>by cases z) fun _=>rfl
theorem zdT_ {O:Own α}{t:TA}{r':Mo (List α)}(he:EvO K e E L r O) (ht:EvAO K t E L r' O):EvAO K (tCons e t) E L (r.bind fun a=>r'.bind fun as=>.ok (a::as)) O:=by
 intro σ F H Q hL hs q
 refine he σ F H _ hL hs (q.bind.imp fun a F1 H1 x1 k1 v h1 fr1 d1 s1 o1=>?_)
 refine ht σ F1 H1 _ (hL.mono x1.1) x1.2.1 (k1.bind.imp fun as F2 H2 x2 k2 vs h2 fr2 d2 s2 o2=>?_)
 have dj:Dj h1 h2:=fun p=>by
  by_cases z:h2 p=none
  ·exact .inr z
  ·exact .inl (s1.free (fr2 p z))
 have k3:=k2.ok x2.2.1
 refine k3 (v::vs) (un h1 h2) (fun p z=>?_) (fun p=>?_) (fun p o z=>?_) ⟨h1,h2,zeZ_ dj,O.mono x2.1 o1,o2⟩
 ·unfold un at z
  cases y:h1 p with
  | some w=>exact fr1 p (by rw [y]; exact Option.some_ne_none _)
  | none=>rw [y] at z; exact x1.2.2.1.free (fr2 p z)
 ·unfold un
  cases y:h1 p with
  | some w =>
   left
   have F1p:F1 p=none:=by
    rcases d1 p with z | z
    ·exact z
    ·rw [z] at y; cases y
   by_cases w:F2 p=none
   ·exact w
   ·have:=x2.2.2.2 p F1p w
    rw [s1 _ _ y] at this; cases this
  | none=>exact d2 p
 ·unfold un at z
  cases y:h1 p with
  | some w=>rw [y] at z; rw [← z]; exact x2.2.2.1 _ _ (s1 _ _ y)
  | none=>rw [y] at z; exact s2 _ _ z
theorem zjJ_ {O:Own α}{t:TA}{r:Mo (List α)}(ht:EvAO K t E L r O):EvO K (tLst t) E L (r.bind fun xs=>.lim xs.length (.ok xs)) (owLO O):=by
 intro σ F H Q hL hs q
 refine ht σ F H _ hL hs (q.bind.imp fun xs F1 H1 x1 k1 vs h1 fr d s o=>?_)
 obtain ⟨hz,k1⟩:=k1.lim
 refine ⟨by rw [← o.len]; exact hz,fun p hp=>?_⟩
 have hp1:h1 p=none:=s.free hp
 have dj:Dj (one p (.lst vs)) h1:=fun q=>by
  by_cases z:q=p
  ·rw [z]; exact .inr hp1
  ·left; unfold one; rw [if_neg z]
 have xx:Ext F1 H1 F1 (upd H1 p (.lst vs)):=⟨Same.refl _,fun b o z=>by rw [zI_ (fun e=>by rw [e] at z; have:=x1.2.1 _ _ z; rw [hp] at this; cases this)]; exact x1.2.1 _ _ z,fun b o z=>by rw [zI_ (fun e=>by rw [e,hp] at z; cases z)]; exact z,fun b a c=>absurd a c⟩
 refine k1 F1 _ xx (.ref p) (un (one p (.lst vs)) h1) (fun b z=>?_) (fun b=>?_) (fun b o' z=>?_) ⟨p,vs,h1,rfl,zeZ_ dj,o⟩
 ·unfold un at z
  by_cases e:b=p
  ·rw [e]; exact x1.2.2.1.free hp
  ·unfold one at z; rw [if_neg e] at z; exact fr b z
 ·unfold un
  by_cases e:b=p
  ·left; rw [e]; exact x1.2.1.free hp
  ·unfold one; rw [if_neg e]; exact d b
 ·unfold un at z
  by_cases e:b=p
  ·rw [e,zv_] at z; rw [e,zu_]; exact z
  ·unfold one at z; rw [if_neg e] at z; rw [zI_ e]; exact s _ _ z
end
end L2
namespace L2
open PySem PySem.Spec PyProof.Rows
section
variable {K:Fgg}{E:XK}{γ:Type}{L:List Sl}{C:Addr}{ns:List Str}
end
end L2
namespace L2
open PySem PySem.Spec PyProof.Rows
end L2
namespace L2
open PySem PySem.Spec PyProof.Rows
section
variable {X:Cx}
def mTrL (K:Fgg) (t:TE):TT:=fun σ H Q=>t σ H fun x H'=>match x with
 | .bl k=>Q k H'
 | .ref a=>∃ xs,SqL K H' a xs∧Q (!xs.isEmpty) H'
 | _=>False
theorem zoE_ {e:Expr}{t:TE}(h:PE X e t) (he:∀ whole,isTrue e X.env whole=(do let v ← whole; standAt e.pos; holding [v] (truthy v)):=by intro _; rfl):PT X e (mTrL X.K t):=by
 intro pins s σ H Q I hw
 refine isTrue_plain (thn (h pins s σ H _ I hw) fun v s1 hq_=>?_) (he _)
 obtain ⟨x,H1,I1,r1,q1⟩:=hq_
 cases x with
 | bl c=>cases r1; exact wpAny_truthy_bool ⟨H1,I1,q1⟩
 | ref a =>
  cases r1
  obtain ⟨xs,hq,q⟩:=q1
  obtain ⟨its,rv,p,hz⟩:=I1.list hq
  have hl:=rv.length
  refine wpAny_truthy_list p.isList (by rw [List.size_toArray,← hl]; rw [sizeLine_eq] at hz; lia) ?_
  have e:its.isEmpty=xs.isEmpty:=by cases rv<;>rfl
  refine ⟨H1,I1.tok _,?_⟩
  simpa [e] using q
 | _=>exact q1.elim
end
section
variable {K:Fgg}{E:XK}{α β:Type}{L:List Sl}{e:TE}{T:Ty α}
theorem zn1_ {b:Mo Bool}(h:EvF K e E L b tyBl):EvT K (mTrL K e) E L b:=by
 intro σ F H Q hL hs q
 refine h σ F H _ hL hs (q.imp fun a F1 H1 x k v hv=>?_)
 cases hv
 exact k
theorem zcR_ {r:Mo (Option α)}(h:EvF K e E L r (tyOpt T)):EvF K e E L (r.bind fun o=>Mo.opt o) T:=by
 intro σ F H Q hL hs q
 refine h σ F H _ hL hs (q.bind.imp fun o F1 H1 x k v hv=>?_)
 cases o with
 | none=>exact k.elim
 | some a=>exact k.ok x.2.1 v hv.1
def EvJ (K:Fgg) (k:Nat) (tj:TJ) (E:XK) (L:List Sl) (r:Mo (List Nat)):Prop :=
 ∀ (n:Nat) (acc:List Nat) σ F H (R:Str→Hp→Prop),acc.length≤1000*n→n+k≤90→HoldF L σ F→Same F H→After K r E F H (fun l F' H'=>l.length≤1000*k→R ⟨(acc++l).toArray⟩ H')→tj ⟨acc.toArray⟩ σ H R
theorem zov_:EvJ K 0 tJ0 E L (.ok []):=fun n acc σ F H R ha hn hL hs q=>by
 have:=q.ok hs (Nat.zero_le _)
 rwa [List.append_nil] at this
theorem zf3_ {ta:TE}{tr:TJ}{k:Nat}{r r':Mo (List Nat)}(h:EvF K ta E L r tyStr) (hr:EvJ K k tr E L r'):EvJ K (k+1) (tJ1 ta tr) E L (r.bind fun a=>.grd (a.length≤1000) (r'.bind fun l=>.ok (a++l))):=by
 intro n acc σ F H R ha hn hL hs q
 refine h σ F H _ hL hs (q.bind.imp fun a F1 H1 x1 k1 v hv=>?_)
 cases hv
 obtain ⟨hz,k1⟩:=k1.grd
 have e:((⟨acc.toArray⟩:Str)++(⟨a.toArray⟩:Str))=⟨(acc++a).toArray⟩:=by
  show (⟨acc.toArray++a.toArray⟩:Str)=_
  simp
 show ((⟨acc.toArray⟩:Str)++(⟨a.toArray⟩:Str)).length≤sizeLine∧tr ((⟨acc.toArray⟩:Str)++(⟨a.toArray⟩:Str)) σ H1 R
 rw [e]
 refine ⟨by show (acc++a).toArray.size≤sizeLine; rw [List.size_toArray,List.length_append,sizeLine_eq]; lia,hr (n+1) (acc++a) σ F1 H1 R (by rw [List.length_append]; lia) (by lia) (hL.mono x1.1) x1.2.1 (k1.bind.imp fun l F2 H2 x2 k2 hl=>?_)⟩
 have:=k2.ok x2.2.1 (by rw [List.length_append]; lia)
 rwa [← List.append_assoc] at this
theorem ziF_ {tj:TJ}{k:Nat}{r:Mo (List Nat)}(h:EvJ K k tj E L r) (hk:k≤80:=by decide):EvF K (tJoin tj) E L r tyStr:=by
 intro σ F H Q hL hs q
 refine h 0 [] σ F H _ (by simp) (by lia) hL hs (q.imp fun l F' H' x k1 hl=>?_)
 rw [List.nil_append]
 exact ⟨by show l.toArray.size≤sizeLine; rw [List.size_toArray,sizeLine_eq]; lia,k1 _ rfl⟩
theorem zkd_ {r:Mo Int}(h:EvF K e E L r tyInt):EvF K (tUn mFmt e) E L (r.bind fun i=>.grd (i.natAbs.log2<1920) (.ok (strI i))) tyStr:=by
 intro σ F H Q hL hs q
 refine h σ F H _ hL hs (q.bind.imp fun l F1 H1 x1 k1 v hv=>?_)
 cases hv
 obtain ⟨hz,k1⟩:=k1.grd
 exact ⟨hz,k1.ok x1.2.1 _ rfl⟩
end
end L2
namespace L2
open PySem PySem.Spec PyProof.Rows
end L2
namespace L2
open PySem PySem.Spec PyProof.Rows
section
variable {prog:Program}{w:World}{A:Around}{E:Value→Shared→Prop}{s:Shared}
end
section
variable {X:Cx}
end
section
variable {K:Fgg}{E:XK}{α β γ ρ S B:Type}{F H:Hp}{L:List Sl}{e:TE}{T:Ty α}
end
end L2
namespace L2
open PySem PySem.Spec PyProof.Rows
section
variable {α β γ:Type}
end
section
variable {K:Fgg}{E:XK}{α β γ δ ρ ρ' S B:Type}{F0 H0 F h H:Hp}{L:List Sl}{e te ei:TE}{T:Ty α}{r:Mo α}{Or:Own ρ}{t u:TS}{LS:S→List Sl}{LB:B→List Sl}{σ:St}{C:Addr}{ns:List Str}{f m:Str}{i n w:Nat}
end
end L2
namespace L2
open PySem PySem.Spec PyProof.Rows
section
variable {K:Fgg}{E:XK}{α β γ δ ρ ρ' S B:Type}{F0 H0 F h H:Hp}{L:List Sl}{e te ei tc:TE}{T:Ty α}{r:Mo α}{Or:Own ρ}{Or':Own ρ'}{t u:TS}{LS:S→List Sl}{LB:B→List Sl}{σ:St}{C:Addr}{ns:List Str}{f m:Str}{i n w j:Nat}
end
end L2
namespace L2
open PySem PySem.Spec PyProof.Rows
section
variable {K:Fgg}{E:XK}{α β γ δ ρ ρ' S B:Type}{F0 H0 F h H:Hp}{L:List Sl}{e te ei tc:TE}{T:Ty α}{r:Mo α}{Or:Own ρ}{Or':Own ρ'}{t u:TS}{LS:S→List Sl}{LB:B→List Sl}{σ:St}{C:Addr}{ns:List Str}{f m:Str}{i n w j:Nat}
theorem EvO.weak {O O2:Own α}{e:TE}{r:Mo α}(h:∀ {a v F h},O.O a v F h→O2.O a v F h) (he:EvO K e E L r O):EvO K e E L r O2:=by
 intro σ F H Q hL hs q
 exact he σ F H Q hL hs (q.imp fun a F1 H1 x1 k1 v hp fresh d s o=>k1 v hp fresh d s (h o))
section
open PySem PySem.Spec PyProof.Rows PySem.W
variable {κ:Type}
end
theorem zT_ {α:Type}{us:List α}{n:Nat}(h:us.length=n+1):∃ a t,us=a::t∧t.length=n:=by
 cases us with
 | nil=>cases h
 | cons a t=>exact ⟨a,t,rfl,Nat.succ.inj h⟩
theorem Fun.binds1 {x qual:Str}{st:Stmt}{f:Addr}{fd:FuncData}{ps:List Str}(hp:ps.length=1) (F:Fun K x qual st f fd) (h:∀ (kV doc pm:Value) (an:Option Addr) (cdv ct:Value) (ua:Value),bindArgs (PySem.W.fnOf x qual (defArgs st) (defBody st) (defScope st) .none kV doc pm an cdv ct) ⟨[ua],[]⟩=pure (ps.zip [ua])):Binds K fd ps []:=by
 refine F.binds fun kV doc pm an cdv ct us hl=>?_
 have h0:=hl.trans hp
 obtain ⟨ua,t1,rfl,h1⟩:=zT_ h0
 cases List.length_eq_zero_iff.mp h1
 exact h kV doc pm an cdv ct ua
theorem Fun.binds2 {x qual:Str}{st:Stmt}{f:Addr}{fd:FuncData}{ps:List Str}(hp:ps.length=2) (F:Fun K x qual st f fd) (h:∀ (kV doc pm:Value) (an:Option Addr) (cdv ct:Value) (ua ub:Value),bindArgs (PySem.W.fnOf x qual (defArgs st) (defBody st) (defScope st) .none kV doc pm an cdv ct) ⟨[ua,ub],[]⟩=pure (ps.zip [ua,ub])):Binds K fd ps []:=by
 refine F.binds fun kV doc pm an cdv ct us hl=>?_
 have h0:=hl.trans hp
 obtain ⟨ua,t1,rfl,h1⟩:=zT_ h0
 obtain ⟨ub,t2,rfl,h2⟩:=zT_ h1
 cases List.length_eq_zero_iff.mp h2
 exact h kV doc pm an cdv ct ua ub
theorem Fun.binds3 {x qual:Str}{st:Stmt}{f:Addr}{fd:FuncData}{ps:List Str}(hp:ps.length=3) (F:Fun K x qual st f fd) (h:∀ (kV doc pm:Value) (an:Option Addr) (cdv ct:Value) (ua ub uc:Value),bindArgs (PySem.W.fnOf x qual (defArgs st) (defBody st) (defScope st) .none kV doc pm an cdv ct) ⟨[ua,ub,uc],[]⟩=pure (ps.zip [ua,ub,uc])):Binds K fd ps []:=by
 refine F.binds fun kV doc pm an cdv ct us hl=>?_
 have h0:=hl.trans hp
 obtain ⟨ua,t1,rfl,h1⟩:=zT_ h0
 obtain ⟨ub,t2,rfl,h2⟩:=zT_ h1
 obtain ⟨uc,t3,rfl,h3⟩:=zT_ h2
 cases List.length_eq_zero_iff.mp h3
 exact h kV doc pm an cdv ct ua ub uc
theorem Fun.binds4 {x qual:Str}{st:Stmt}{f:Addr}{fd:FuncData}{ps:List Str}(hp:ps.length=4) (F:Fun K x qual st f fd) (h:∀ (kV doc pm:Value) (an:Option Addr) (cdv ct:Value) (ua ub uc ud:Value),bindArgs (PySem.W.fnOf x qual (defArgs st) (defBody st) (defScope st) .none kV doc pm an cdv ct) ⟨[ua,ub,uc,ud],[]⟩=pure (ps.zip [ua,ub,uc,ud])):Binds K fd ps []:=by
 refine F.binds fun kV doc pm an cdv ct us hl=>?_
 have h0:=hl.trans hp
 obtain ⟨ua,t1,rfl,h1⟩:=zT_ h0
 obtain ⟨ub,t2,rfl,h2⟩:=zT_ h1
 obtain ⟨uc,t3,rfl,h3⟩:=zT_ h2
 obtain ⟨ud,t4,rfl,h4⟩:=zT_ h3
 cases List.length_eq_zero_iff.mp h4
 exact h kV doc pm an cdv ct ua ub uc ud
theorem Fun.binds5 {x qual:Str}{st:Stmt}{f:Addr}{fd:FuncData}{ps:List Str}(hp:ps.length=5) (F:Fun K x qual st f fd) (h:∀ (kV doc pm:Value) (an:Option Addr) (cdv ct:Value) (ua ub uc ud ue:Value),bindArgs (PySem.W.fnOf x qual (defArgs st) (defBody st) (defScope st) .none kV doc pm an cdv ct) ⟨[ua,ub,uc,ud,ue],[]⟩=pure (ps.zip [ua,ub,uc,ud,ue])):Binds K fd ps []:=by
 refine F.binds fun kV doc pm an cdv ct us hl=>?_
 have h0:=hl.trans hp
 obtain ⟨ua,t1,rfl,h1⟩:=zT_ h0
 obtain ⟨ub,t2,rfl,h2⟩:=zT_ h1
 obtain ⟨uc,t3,rfl,h3⟩:=zT_ h2
 obtain ⟨ud,t4,rfl,h4⟩:=zT_ h3
 obtain ⟨ue,t5,rfl,h5⟩:=zT_ h4
 cases List.length_eq_zero_iff.mp h5
 exact h kV doc pm an cdv ct ua ub uc ud ue
end
end L2
namespace L2
open PySem PySem.Spec PyProof.Rows
section
variable {K:Fgg}{E:XK}{L:List Sl}
end
section
variable {K:Fgg}{E:XK}{α β ρ B:Type}{F0 H0 F h H:Hp}{L:List Sl}{te:TE}{Or:Own ρ}{tb:TS}{LB:B→List Sl}{i w:Nat}
end
end L2
namespace L2
open PySem PySem.Spec PyProof.Rows
section
variable {K:Fgg}{E:XK}{α β γ δ ρ ρ' S B:Type}{F0 H0 F h H:Hp}{L:List Sl}{e te ei tc:TE}{ta:TA}{T:Ty α}{r:Mo α}{Or:Own ρ}{Or':Own ρ'}{t u:TS}{LS:S→List Sl}{LB:B→List Sl}{σ:St}{C:Addr}{ns:List Str}{f m:Str}{i n w j:Nat}
end
end L2
namespace L2
open PySem PySem.Spec PyProof.Rows
section
variable {K:Fgg}{E:XK}{α κ:Type} [DecidableEq κ] {KY:KyT κ}{L:List Sl}{e1 e2 e3:TE}{T:Ty α}
end
section
variable {K:Fgg}{E:XK}{α β ρ ρ' B:Type}{L:List Sl}{te:TE}{Or:Own ρ}{Or':Own ρ'}{LB:B→List Sl}{C:Addr}{ns:List Str}{m:Str}{i w:Nat}
end
end L2
namespace L2
open PySem PySem.Spec PyProof.Rows
section
variable {K:Fgg}{E:XK}{α β γ δ ρ ρ' S B:Type}{F0 H0 F h H:Hp}{L:List Sl}{e te te2 tc:TE}{ta:TA}{T:Ty α}{r:Mo α}{Or:Own ρ}{Or':Own ρ'}{t u:TS}{LS:S→List Sl}{LB:B→List Sl}{σ:St}{C:Addr}{ns:List Str}{f m:Str}{i n w j:Nat}
theorem zk6_ {O:Own β}{r0:Mo (List α×(List α→β))}{k:β→Mo (Out ρ B S)}(hp:EvPt K te E L i O (owL T) r0) (hk:∀ x',EvS K u E (L.set i (.ow O x')) (k x') LS LB Or) :
  EvS K (tSeq (tDrop (tBM0 K "list" rClear te)) u) E L (r0.bind fun yp=>(Mo.ok (yp.2 [])).bind k) LS LB Or:=by
 intro F0 H0 σ F h H D hL ok fin
 show te σ H fun x H1=>tyV K "list" x H1∧rClear x [] H1 (fun _ H3=>u D σ H3)
 refine hp F0 H0 σ F h H _ hL ok (zak_ (G:=F) ok _ (.inl rfl) fin fun yp G1 H1 hr0 x1 u0 fc=>?_)
 obtain ⟨o1,hs1,_⟩:=ok.back x1
 rw [hr0] at fin
 obtain ⟨k0,⟨p,vs,rfl,rfl,_⟩,kh,g⟩:=fc _ H1 (Same.refl _) o1
 have hp0:h p=some (.lst vs):=kh _ _ zv_
 obtain ⟨h',a1,a2⟩:=g [] (one p (.lst [])) _ (upd H1 p (.lst [])) (PutC.one o1 kh) ⟨p,_,rfl,rfl,.nil⟩
 exact ⟨.inl ⟨rfl,vs,.of (o1.2.2.1 _ _ hp0)⟩,p,vs,rfl,rfl,o1.2.2.1 _ _ hp0,hk _ F0 H0 σ _ h' _ D a1 a2 fin⟩
end
theorem atF {K:Fgg}{E:XK}{α:Type}{e:TE}{r:Mo α}{T:Ty α}(L:List Sl) (h:EvF K e E L r T):EvF K e E L r T:=h
end L2
namespace L2
open PySem PySem.Spec PyProof.Rows
section
variable {X:Cx}{tg:Expr}
end
section
variable {K:Fgg}{E:XK}{α β:Type}{L:List Sl}{T:Ty α}
end
section
variable {X:Cx}{o e f:Expr}{apos cpos:Pos}{td ty tz:TE}
end
section
variable {K:Fgg}{E:XK}{α β γ ρ κ S B:Type}{F0 H0 F h H:Hp}{L:List Sl}{T:Ty α}{O:Own ρ}{t u:TS}{LS:S→List Sl}{LB:B→List Sl}{KY:KyT κ} [DecidableEq κ]
end
end L2
namespace L2
open PySem PySem.Spec PyProof.Rows
section
variable {X:Cx}{pins:Pnn}{σ:St}{H:Hp}{s:Shared}{d:Addr}{o:Obj}{kvs:List (Key×V)}
end
section
variable {X:Cx}{e:Expr}{te:TE}{apos cpos pos tpos:Pos}{elts:List Expr}{kk:Nat}
end
section
variable {F0 H0 F1 H1 F h H:Hp}{d:Addr}{o:Obj}{u:HO}
end
section
variable {K:Fgg}{E:XK}{α β γ ρ κ S B:Type}{L Li:List Sl}{T:Ty α}{O:Own ρ}{LB:B→List Sl}{KY:KyT κ}
end
end L2
namespace L2
open PySem PySem.Spec PyProof.Rows
section
variable {K:Fgg}{E:XK}{α β γ ρ κ S B:Type}{F0 H0 F h H:Hp}{L:List Sl}{T:Ty α}{O:Own ρ}{t u:TS}{e e1 e2:TE}{LS:S→List Sl}{LB:B→List Sl}{KY:KyT κ}
variable [DecidableEq κ]
end
section
variable {K:Fgg}{E:XK}{α κ:Type}{T:Ty α}{KY:KyT κ} [DecidableEq κ]
end
end L2
namespace L2
open PySem PySem.Spec PyProof.Rows
section
variable {X:Cx}{pins:Pnn}{σ:St}{H:Hp}{s:Shared}{A:Around}{p q:Addr}{ka kb:List (Key×V)}
end
section
variable {K:Fgg}{E:XK}
end
end L2
namespace L2
open PySem PySem.Spec PyProof.Rows
section
variable {K:Fgg}{E:XK}{L:List Sl}{e:TE}
end
end L2
namespace L2
open PySem PySem.Spec PyProof.Rows
section
variable {K:Fgg}{E:XK}{α β γ ρ ρ' S B:Type}{F0 H0 F h H:Hp}{L:List Sl}{T:Ty α}{Or:Own ρ}{t u:TS}{e e1 e2 te:TE}{LS:S→List Sl}{LB:B→List Sl}{i j:Nat}{σ:St}
abbrev owOpt (O:Own α):Own (Option α):=⟨fun a v F h=>match a with | none=>v=.non∧∀ p,h p=none | some x=>O.O x v F h∧v≠.non,tyOpt O.fr,
 fun {a v F F' h} g q=>by cases a with | none=>exact q | some x=>exact ⟨O.mono g q.1,q.2⟩,
 fun {a v F h} d q=>by cases a with | none=>exact q.1 | some x=>exact ⟨O.frz d q.1,q.2⟩,
 fun {a v F h} q p xs z=>by cases a with | none=>rw [q.2] at z; cases z | some x=>exact O.notup q.1 p xs z⟩
theorem zh1_ {O:Own α}(i:ImmO O):ImmO (owOpt O):=fun {a v F F' h} g q=>by cases a with | none=>exact q | some x=>exact ⟨i g q.1,q.2⟩
theorem zof_ {p:Addr}:(V.ref p)≠.non:=fun z=>V.noConfusion z
theorem zk1_ (O:Own α):EvO K (tC .non) E L (.ok none) (owOpt O):=by
 intro σ F H Q hL hs q
 exact q.ok hs .non (fun _=>none) (fun p z=>absurd rfl z) (fun p=>.inr rfl) (fun p o z=>by cases z) ⟨rfl,fun _=>rfl⟩
theorem zni_ {O:Own α}{a:α}(nn:∀ {x v F h},O.O x v F h→v≠.non) (hi:L[i]?=some (.ow O a)):EvS K (tRet (mVar i)) E L (.ok (.rt (some a))) LS LB (owOpt O):=by
 intro F0 H0 σ F h H D hL ok fin
 obtain ⟨o,h1,h2,e1,j,⟨v,e2,hv⟩,f⟩:=hL.at i hi
 subst e2
 exact zdp_ e1 (fin v F h1 H (zme_ ok j.l) ⟨hv,nn hv⟩)
end
section
variable {K:Fgg}{E:XK}{α β γ ρ κ S B:Type}{T:Ty α}{O:Own ρ}{LB:B→List Sl}{KY:KyT κ}
end
end L2
namespace L2
open PySem PySem.Spec PyProof.Rows
section
variable {K:Fgg}{E E0:XK}{α β γ ρ ρ' S B:Type}{F0 H0 F h H:Hp}{L:List Sl}{T:Ty α}{Or:Own ρ}{t u:TS}{e te:TE}{LS:S→List Sl}{LB:B→List Sl}{i j n:Nat}{σ:St}
variable {tc te2:TE}{w:Nat}
end
end L2
namespace L2
open PySem PySem.Spec PyProof.Rows
def Fi (K:Fgg) (x q:Str) (st:Stmt) (f:Addr):Prop:=∃ (oc:Value) (od:Option Addr) (kV doc pm:Value) (an:Option Addr) (cdv ct:Value) (osl:Array (Option Value)),
 K.lookup f=some ⟨oc,od,.func (PySem.W.fnOf x q (defArgs st) (defBody st) (defScope st) .none kV doc pm an cdv ct),osl⟩∧PySem.W.codeIn K cdv q=true∧PySem.W.keepIn K (.ref f)=true
def Fg (K:Fgg) (x:Str) (st:Stmt):Prop:=∃ f,PySem.W.nsIn K mainGlobals x=some (some (.ref f))∧Fi K x x st f
def Fm (K:Fgg) (c m q:Str) (st:Stmt):Prop:=∃ cw f,PySem.W.nsIn K mainGlobals c=some (some (.ref cw))∧PySem.W.findIn K (.ref cw) m=some (some (.ref f))∧PySem.W.isFn K (.ref f)=true∧Fi K m q st f
def Fc (K:Fgg) (c:Str):Prop:=∃ cw,PySem.W.nsIn K mainGlobals c=some (some (.ref cw))∧PySem.W.plainGet K cw Str.empty=true∧PySem.W.hasDictIn K cw=true∧PySem.W.plainOver K cw=true ∧
 PySem.W.findIn K (.ref cw) "__setattr__" = some (some (.builtin "object.__setattr__"))∧PySem.W.makesIn K cw=true∧PySem.W.keepIn K (.ref cw)=true
def Fa (K:Fgg) (c a:Str):Prop:=∃ cw,PySem.W.nsIn K mainGlobals c=some (some (.ref cw))∧PySem.W.findIn K (.ref cw) a=some none
def Fb (K:Fgg) (x:Str):Prop:=PySem.W.nsIn K mainGlobals x=some none
def Fv (K:Fgg) (x:Str) (v:V):Prop:=∃ u,PySem.W.nsIn K mainGlobals x=some (some u)∧RelV v u
def Fk (K:Fgg) (x:Str):Prop:=∃ c,PySem.W.nsIn K mainGlobals x=some (some (.ref c))
def Mgo (K:Fgg) (mg:Str→Option Value):Prop:=∃ h:Heap,K.In h∧h.Ns mainGlobals mg
section
variable {P:Program}{w:World}{K:Fgg}{mg:Str→Option Value}{base:Heap}{CX:CXT}{x q c m a:Str}{st:Stmt}{f:Addr}{fd:FuncData}{N ps:List Str}{k j:Nat}{sp:Sp}{A:Around}{v:V}
theorem Fg.mk_ {oc:Value}{od:Option Addr}{kV doc pm:Value}{an:Option Addr}{cdv ct:Value}{osl:Array (Option Value)}(h:PySem.W.nsIn K mainGlobals x=some (some (.ref f))) (l:K.lookup f=some ⟨oc,od,.func (PySem.W.fnOf x x (defArgs st) (defBody st) (defScope st) .none kV doc pm an cdv ct),osl⟩) (c:PySem.W.codeIn K cdv x=true) (k:PySem.W.keepIn K (.ref f)=true):Fg K x st:=⟨f,h,oc,od,kV,doc,pm,an,cdv,ct,osl,l,c,k⟩
theorem Fm.mk_ {cw:Addr}{oc:Value}{od:Option Addr}{kV doc pm:Value}{an:Option Addr}{cdv ct:Value}{osl:Array (Option Value)}(h:PySem.W.nsIn K mainGlobals c=some (some (.ref cw))) (h1:PySem.W.findIn K (.ref cw) m=some (some (.ref f))) (h2:PySem.W.isFn K (.ref f)=true) (l:K.lookup f=some ⟨oc,od,.func (PySem.W.fnOf m q (defArgs st) (defBody st) (defScope st) .none kV doc pm an cdv ct),osl⟩) (h3:PySem.W.codeIn K cdv q=true) (k:PySem.W.keepIn K (.ref f)=true):Fm K c m q st:=⟨cw,f,h,h1,h2,oc,od,kV,doc,pm,an,cdv,ct,osl,l,h3,k⟩
theorem Fc.mk_ {cw:Addr}(h:PySem.W.nsIn K mainGlobals c=some (some (.ref cw))) (h1:PySem.W.plainGet K cw Str.empty=true) (h2:PySem.W.hasDictIn K cw=true) (h3:PySem.W.plainOver K cw=true) (h4:PySem.W.findIn K (.ref cw) "__setattr__" = some (some (.builtin "object.__setattr__"))) (h5:PySem.W.makesIn K cw=true) (h6:PySem.W.keepIn K (.ref cw)=true):Fc K c:=⟨cw,h,h1,h2,h3,h4,h5,h6⟩
theorem Fa.mk_ {cw:Addr}(h:PySem.W.nsIn K mainGlobals c=some (some (.ref cw))) (h1:PySem.W.findIn K (.ref cw) a=some none):Fa K c a:=⟨cw,h,h1⟩
theorem Fv.mk_ {u:Value}(h:PySem.W.nsIn K mainGlobals x=some (some u)) (h1:RelV v u):Fv K x v:=⟨u,h,h1⟩
theorem Fk.mk_ {cw:Addr}(h:PySem.W.nsIn K mainGlobals x=some (some (.ref cw))):Fk K x:=⟨cw,h⟩
theorem Fi.fun_ (h:Fi K x q st f):∃ fd,Fun K x q st f fd:=by
 obtain ⟨oc,od,kV,doc,pm,an,cdv,ct,osl,l,c,k⟩:=h
 exact ⟨_,zm8_ l c k⟩
theorem Mgo.gb (M:Mgo K mg) (h:Fb K x):Gb mg x:=by
 obtain ⟨_,X,G⟩:=M
 exact PySem.W.mg_none_of X G h
theorem Mgo.gv (M:Mgo K mg) (h:Fv K x v):Gc mg x v:=by
 obtain ⟨_,X,G⟩:=M; obtain ⟨u,e,r⟩:=h
 exact ⟨u,PySem.W.mg_of X G e,r⟩
theorem Mgo.gk (M:Mgo K mg) (h:Fk K x):mg x=some (.ref (gA K x)):=by
 obtain ⟨_,X,G⟩:=M; obtain ⟨u,e⟩:=h
 rw [zlW_ e]; exact PySem.W.mg_of X G e
theorem Mgo.gkc (M:Mgo K mg) (h:Fk K x):Gc mg x (.ref (gA K x)):=⟨_,M.gk h,rfl⟩
abbrev OkF (P:Program) (w:World) (K:Fgg) (mg:Str→Option Value) (base:Heap) (CX:CXT) (k:Nat) (x q:Str) (st:Stmt) (ps:List Str) (sp:Sp):Prop:=∀ f fd,Fun K x q st f fd→FnOk P w K mg base CX k f fd ps sp∧Binds K fd ps []
theorem zbL_ (M:Mgo K mg) (F:Fg K x st) (h:OkF P w K mg base CX k x x st ps sp):Gd P w K mg base CX k x ps sp:=by
 obtain ⟨_,X,G⟩:=M; obtain ⟨f,e,i⟩:=F; obtain ⟨fd,F⟩:=i.fun_
 exact ⟨f,fd,(h f fd F).1,PySem.W.mg_of X G e,F.kp,(h f fd F).2⟩
theorem gn_of (M:Mgo K mg) (F:Fg K x st) (h:∀ f fd,Fun K x x st f fd→FnOkN P w K mg base k f fd ps sp∧Binds K fd ps []):GdN P w K mg base k x ps sp:=by
 obtain ⟨_,X,G⟩:=M; obtain ⟨f,e,i⟩:=F; obtain ⟨fd,F⟩:=i.fun_
 exact ⟨f,fd,(h f fd F).1,PySem.W.mg_of X G e,F.kp,(h f fd F).2⟩
theorem hm (hr:Room k A) (h:j≤k:=by decide):Room j A:=hr.mono h
theorem hmN (hr:RoomN k A) (h:j≤k:=by decide):RoomN j A:=hr.mono h
end
section
variable {P:Program}{w:World}{K:Fgg}{mg:Str→Option Value}{base:Heap}{x q:Str}{st:Stmt}{N ps:List Str}{k:Nat}{α β γ ρ:Type}
abbrev Tm (P:Program) (w:World) (K:Fgg) (mg:Str→Option Value) (base:Heap) (k:Nat) (N:List Str) (q:Str) (st:Stmt) (t:XK→TS):Prop :=
 ∀ (cdv:Value) (A:Around) (outer:List Env) (s:Shared) (H:Hp) (f:Addr) (E:XK),N.Nodup→Room k (A.deeper (envOfC q (defScope st) s.heap.objs.size f cdv))→PSs (cxOf CX0 P w K mg base N q (defScope st) f cdv A outer s H E).nox (defBody st) (t E)
abbrev TmX (P:Program) (w:World) (K:Fgg) (mg:Str→Option Value) (base:Heap) (k:Nat) (N:List Str) (q:Str) (st:Stmt) (t:XK→TS):Prop :=
 ∀ (cdv:Value) (A:Around) (outer:List Env) (s:Shared) (H:Hp) (f:Addr) (E:XK),N.Nodup→Room k (A.deeper (envOfC q (defScope st) s.heap.objs.size f cdv))→PSs (cxOf (CXx P w) P w K mg base N q (defScope st) f cdv A outer s H E) (defBody st) (t E)
abbrev TmN (P:Program) (w:World) (K:Fgg) (mg:Str→Option Value) (base:Heap) (k:Nat) (N:List Str) (q:Str) (st:Stmt) (t:XK→TS):Prop :=
 ∀ (cdv:Value) (A:Around) (outer:List Env) (s:Shared) (H:Hp) (f:Addr) (E:XK),N.Nodup→RoomN k (A.deeper (envOfC q (defScope st) s.heap.objs.size f cdv))→PSs (cxN P w K mg base N q (defScope st) f cdv A outer s H) (defBody st) (t E)
abbrev Bnd (K:Fgg) (x q:Str) (st:Stmt) (ps:List Str):Prop:=∀ f fd,Fun K x q st f fd→Binds K fd ps []
theorem okC {C:Cs γ}{O:Own ρ}{ss:γ→List Sl}{g:γ→Mo (Out ρ Unit Unit)}{t:XK→TS}(n m:Nat) (hC:CsS C ss) (tm:Tm P w K mg base k N q st t)
  (ev:∀ c E,EvS K (t E) E (ss c++List.replicate m .dead) (g c) (fun _:Unit=>[]) (fun _:Unit=>[]) O) (hn:CsN C n:=by repeat first | exact zt_ | exact csn_nil | refine zs_ ?_) (S:FnScope N ps (defScope st):=by exact ⟨rfl,rfl,rfl,by decide +kernel,rfl,by decide +kernel,by decide +kernel⟩) (b:Bnd K x q st ps:=by first | exact fun _ _ F=>Fun.binds1 rfl F fun _ _ _ _ _ _ _=>rfl | exact fun _ _ F=>Fun.binds2 rfl F fun _ _ _ _ _ _ _ _=>rfl | exact fun _ _ F=>Fun.binds3 rfl F fun _ _ _ _ _ _ _ _ _=>rfl | exact fun _ _ F=>Fun.binds4 rfl F fun _ _ _ _ _ _ _ _ _ _=>rfl | exact fun _ _ F=>Fun.binds5 rfl F fun _ _ _ _ _ _ _ _ _ _ _=>rfl | exact fun _ _ F=>Fun.binds6 rfl F fun _ _ _ _ _ _ _ _ _ _ _ _=>rfl | exact fun _ _ F=>Fun.binds7 rfl F fun _ _ _ _ _ _ _ _ _ _ _ _ _=>rfl) (hp:ps.length=n:=by rfl) (hm:N.length-n=m:=by rfl):OkF P w K mg base CX0 (k+1) x q st ps (Ct K C (fun c=>fnO (g c)) O):=fun f fd F =>
 ⟨F.ok S (fun vs H Q E h=>by obtain ⟨F,c,_,hc,_⟩:=h; exact (hn hc).trans hp.symm) fun cdv A outer s H vs Q E hr h=>⟨t E,tm cdv A outer s H f E S.nd hr,znI_ (N:=N) (t:=t) n m hn hm hC ev vs H Q E h⟩,b f fd F⟩
theorem okX {C:Cs γ}{O:Own ρ}{ss:γ→List Sl}{g:γ→Mo (Out ρ Unit Unit)}{t:XK→TS}(n m:Nat) (hC:CsS C ss) (tm:TmX P w K mg base k N q st t)
  (ev:∀ c E,EvS K (t E) E (ss c++List.replicate m .dead) (g c) (fun _:Unit=>[]) (fun _:Unit=>[]) O) (hn:CsN C n:=by repeat first | exact zt_ | exact csn_nil | refine zs_ ?_) (S:FnScope N ps (defScope st):=by exact ⟨rfl,rfl,rfl,by decide +kernel,rfl,by decide +kernel,by decide +kernel⟩) (b:Bnd K x q st ps:=by first | exact fun _ _ F=>Fun.binds1 rfl F fun _ _ _ _ _ _ _=>rfl | exact fun _ _ F=>Fun.binds2 rfl F fun _ _ _ _ _ _ _ _=>rfl | exact fun _ _ F=>Fun.binds3 rfl F fun _ _ _ _ _ _ _ _ _=>rfl | exact fun _ _ F=>Fun.binds4 rfl F fun _ _ _ _ _ _ _ _ _ _=>rfl | exact fun _ _ F=>Fun.binds5 rfl F fun _ _ _ _ _ _ _ _ _ _ _=>rfl | exact fun _ _ F=>Fun.binds6 rfl F fun _ _ _ _ _ _ _ _ _ _ _ _=>rfl | exact fun _ _ F=>Fun.binds7 rfl F fun _ _ _ _ _ _ _ _ _ _ _ _ _=>rfl) (hp:ps.length=n:=by rfl) (hm:N.length-n=m:=by rfl):OkF P w K mg base (CXx P w) (k+1) x q st ps (Ct K C (fun c=>fnO (g c)) O):=fun f fd F =>
 ⟨F.okX S (fun vs H Q E h=>by obtain ⟨F,c,_,hc,_⟩:=h; exact (hn hc).trans hp.symm) fun cdv A outer s H vs Q E hr h=>⟨t E,tm cdv A outer s H f E S.nd hr,znI_ (N:=N) (t:=t) n m hn hm hC ev vs H Q E h⟩,b f fd F⟩
theorem okN {C:Cs γ}{O:Own ρ}{ss:γ→List Sl}{g:γ→Mo (Out ρ Unit Unit)}{t:XK→TS}(n m:Nat) (hC:CsS C ss) (tm:TmN P w K mg base k N q st t)
  (ev:∀ c E,EvS K (t E) E (ss c++List.replicate m .dead) (g c) (fun _:Unit=>[]) (fun _:Unit=>[]) O) (hn:CsN C n:=by repeat first | exact zt_ | exact csn_nil | refine zs_ ?_) (S:FnScope N ps (defScope st):=by exact ⟨rfl,rfl,rfl,by decide +kernel,rfl,by decide +kernel,by decide +kernel⟩) (b:Bnd K x q st ps:=by first | exact fun _ _ F=>Fun.binds1 rfl F fun _ _ _ _ _ _ _=>rfl | exact fun _ _ F=>Fun.binds2 rfl F fun _ _ _ _ _ _ _ _=>rfl | exact fun _ _ F=>Fun.binds3 rfl F fun _ _ _ _ _ _ _ _ _=>rfl | exact fun _ _ F=>Fun.binds4 rfl F fun _ _ _ _ _ _ _ _ _ _=>rfl | exact fun _ _ F=>Fun.binds5 rfl F fun _ _ _ _ _ _ _ _ _ _ _=>rfl | exact fun _ _ F=>Fun.binds6 rfl F fun _ _ _ _ _ _ _ _ _ _ _ _=>rfl | exact fun _ _ F=>Fun.binds7 rfl F fun _ _ _ _ _ _ _ _ _ _ _ _ _=>rfl) (hp:ps.length=n:=by rfl) (hm:N.length-n=m:=by rfl):∀ f fd,Fun K x q st f fd→FnOkN P w K mg base (k+1) f fd ps (Ct K C (fun c=>fnO (g c)) O)∧Binds K fd ps []:=fun f fd F =>
 ⟨F.okN S (fun vs H Q E h=>by obtain ⟨F,c,_,hc,_⟩:=h; exact (hn hc).trans hp.symm) fun cdv A outer s H vs Q E hr h=>⟨t E,tm cdv A outer s H f E S.nd hr,znI_ (N:=N) (t:=t) n m hn hm hC ev vs H Q E h⟩,b f fd F⟩
end
section
variable {l:PySem.W.OpenLaw}{w:World}{K:Fgg}{mg:Str→Option Value}{st:Stmt}{x:Str}{k:Nat}{sp:Sp}{fa:Addr}
theorem okLaw (M:Mgo K mg) (F:Fg K "law" st) (hfa:mg "law" = some (.ref fa)) (hb:∀ (kV doc pm:Value) (an:Option Addr) (cdv ct:Value) (s:Shared) (v:Value),bindArgs (PySem.W.fnOf "law" "law" (defArgs st) (defBody st) (defScope st) .none kV doc pm an cdv ct) ⟨[v],[]⟩=pure [(x,v)])
  (h:∀ (base:Heap) (f:Addr) (fd:FuncData),Fun K "law" "law" st f fd→FnOk l.prog w K mg base CX0 k f fd [x] sp) :
  ∃ fd:FuncData,(∀ (s:Shared) (v:Value),BindsTo s fd ⟨[v],[]⟩ [(x,v)])∧∀ base:Heap,K.In base→base.Ns mainGlobals mg→FnOk l.prog w K mg base CX0 k fa fd [x] sp:=by
 obtain ⟨_,X,G⟩:=M
 obtain ⟨f,e,oc,od,kV,doc,pm,an,cdv,ct,osl,l',c,kk⟩:=F
 cases hfa.symm.trans (PySem.W.mg_of X G e)
 exact ⟨_,fun s v=>.of_eq (hb kV doc pm an cdv ct s v),fun base _ _=>h base _ _ (zm8_ l' c kk)⟩
def spL (K:Fgg):Sp:=fun vs H Q _=>∃ (a:Addr) (ns:List Int),vs=[.ref a]∧SqL K H a (ns.map V.int)∧ns.length≤63∧BitsOk ns∧∀ H',Q (.bl true) H'
theorem okL {base:Heap}{N:List Str}{g:List Int→Mo (Out Bool Unit Unit)}{t:XK→TS}(m:Nat) (tm:Tm l.prog w K mg base k N "law" st t)
  (hf:∀ ns:List Int,ns.length≤63→BitsOk ns→fnO (g ns)=.ok true)
  (ev:∀ c E,EvS K (t E) E (.fz (tySc K) c::List.replicate m .dead) (g c) (fun _:Unit=>[]) (fun _:Unit=>[]) (owF tyBl)) (f:Addr) (fd:FuncData) (F:Fun K "law" "law" st f fd) (S:FnScope N [x] (defScope st):=by exact ⟨rfl,rfl,rfl,by decide +kernel,rfl,by decide +kernel,by decide +kernel⟩) (hm:N.length-1=m:=by rfl):FnOk l.prog w K mg base CX0 (k+1) f fd [x] (spL K) :=
 F.ok S (fun vs H Q E h=>by obtain ⟨a,ns,rfl,_⟩:=h; rfl) fun cdv A outer s H vs Q E hr h=>⟨t E,tm cdv A outer s H f E S.nd hr,by
  obtain ⟨a,ns,rfl,hS,hl,hb,q⟩:=h
  refine znI_ (K:=K) (N:=N) (C:=csLast (tySc K)) (O:=owF tyBl) (t:=t) (ss:=fun c=>[.fz (tySc K) c]) (f:=g) 1 m zt_ hm zp_ ev _ H Q E ⟨H,ns,Same.refl _,⟨_,rfl,a,rfl,hS⟩,?_⟩
  show After K (fnO (g ns)) E H H _
  rw [hf ns hl hb]
  rintro F' H' x v h _ _ _ ⟨_,rfl⟩
  exact q H'⟩
end
section
variable {X:Cx}{x:Str}{pos pos':Pos}{e:Expr}{te:TE}
abbrev FrP (X:Cx) (scope:Scope) (q:Str×Nat):Prop:=X.N[q.2]?=some q.1∧(q.1,NameKind.free)∈scope.names∧(X.env.kindOf q.1=some .cell∨X.env.kindOf q.1=some .free)∧((relabel scope X.env).names.lookup q.1=some .cell∨(relabel scope X.env).names.lookup q.1=some .free)
theorem pgn (i:Nat) (hN:X.N.Nodup:=by assumption) (hi:X.N[i]?=some x:=by rfl) (hx:Loc X.env.scope x:=by first | exact Or.inl rfl | exact Or.inr rfl) (hf:X.fn x=true∨X.env.scope.names.lookup x=some .local:=by first | exact .inl rfl | exact .inr rfl | assumption):PG X (.Name x pos) (gName i):=zjB_ hN hi hx hf
theorem pst (i:Nat) (he:PE X e te) (hN:X.N.Nodup:=by assumption) (hi:X.N[i]?=some x:=by rfl) (hx:Loc X.env.scope x:=by first | exact Or.inl rfl | exact Or.inr rfl) (hs:swapsWith e (some (.Name x pos')) pos.line X.env=pure false:=by rfl) (hf:X.fn x=true∨X.env.scope.names.lookup x=some .local:=by first | exact .inl rfl | exact .inr rfl | assumption) :
  PS X (.Assign [.Name x pos'] e pos) (tAsg te (gName i)):=zn6_ hN hi hx he hs hf
theorem csm {scope:Scope}{cl:List (Str×Addr)}{lv:List Str}{fr:List (Str×Nat)}(h:closeL X.env.cells scope.names []=some cl) (f:∀ q∈fr,FrP X scope q) (h2:∀ y∈scope.names,y.2≠.cell:=by decide +kernel) (h3:scope.kind=.function:=by rfl) (h4:∀ z∈scope.names,z.2=.local→scope.names.lookup z.1=some .local:=by decide +kernel):CScope X scope cl lv fr:=⟨h,h2,h3,h4,f⟩
theorem frc {scope:Scope}{q:Str×Nat}{fr:List (Str×Nat)}(t:∀ q∈fr,FrP X scope q) (h:FrP X scope q:=by refine ⟨rfl,by decide +kernel,?_,?_⟩<;>first | exact Or.inl rfl | exact Or.inr rfl):∀ z∈q::fr,FrP X scope z:=zl1_ h t
theorem fr0 {scope:Scope}:∀ q∈([]:List (Str×Nat)),FrP X scope q:=fun _ h=>by cases h
theorem pgc {scope:Scope}{cl:List (Str×Addr)}{C:Addr}{lv:List Str}{fr:List (Str×Nat)}{fp:List Addr}{s2:Shared}{H2:Hp}(i:Nat) (hN:(cN lv fr).Nodup:=by decide +kernel) (hi:(cN lv fr)[i]?=some x:=by rfl) (hx:Loc (cxComp X scope cl C (cN lv fr) fp s2 H2).env.scope x:=by exact Or.inl rfl) (hf:(cxComp X scope cl C (cN lv fr) fp s2 H2).fn x=true∨(cxComp X scope cl C (cN lv fr) fp s2 H2).env.scope.names.lookup x=some .local:=by first | exact .inl rfl | exact .inr rfl | assumption):PG (cxComp X scope cl C (cN lv fr) fp s2 H2) (.Name x pos) (gName i):=zjB_ hN hi hx hf
end
abbrev zfp_:=@PySem.F.slot_str_index
abbrev zfw_:=@PySem.F.type_str_index
abbrev zgo_:=@PySem.F.slot_str_join
abbrev zgn_:=@PySem.F.type_str_join
abbrev zci_:=@PySem.F.plainAttrs_list
abbrev zZ_:=@PySem.F.slot_list_append
abbrev zW_:=@PySem.F.type_list_append
abbrev zb2_:=@PySem.F.slot_list_extend
abbrev zb1_:=@PySem.F.type_list_extend
abbrev zeC_:=@PySem.F.slot_list_clear
abbrev zd3_:=@PySem.F.type_list_clear
end L2
namespace L2
open PySem PySem.Spec PyProof.Rows PySem.W
def gallop':Bool→Keyed→Array Keyed→Nat→Nat→Nat→StateT SortSt Sem (Option Nat):=sortPriv% PySem.Builtin.gallop
def setG':Nat→StateT SortSt Sem Unit:=sortPriv% PySem.Builtin.setMinGallop
def mrgLo:Array Keyed→Array Keyed→StateT SortSt Sem (Array Keyed):=sortPriv% PySem.Builtin.mergeLo
def mrgHi:Array Keyed→Array Keyed→StateT SortSt Sem (Array Keyed):=sortPriv% PySem.Builtin.mergeHi
def bey (left:Bool) (key:Keyed) (arr:Array Keyed) (base i:Nat):StateT SortSt Sem (Option Bool):=do
 let y ← elem' arr (base+i)
 if left then lt' y key else return (← lt' key y).map (!·)
theorem ziW_ (left:Bool) (key:Keyed) (arr:Array Keyed) (base m hint:Nat):gallop' left key arr base m hint=(do
 let mut la:=0; let mut oo:=1; let mut ll:=0; let mut hj:=0
 let some rr ← bey left key arr base hint | return none
 if rr then
  let mx:=m-hint
  for _ in [0:m] do
   if oo ≥ mx then break
   let some mo ← bey left key arr base (hint+oo) | return none
   if !mo then break
   la:=oo; oo:=2*oo+1
  ll:=hint+la+1; hj:=hint+min oo mx
 else
  let mx:=hint+1
  for _ in [0:m] do
   if oo ≥ mx then break
   let some fo ← bey left key arr base (hint-oo) | return none
   if fo then break
   la:=oo; oo:=2*oo+1
  ll:=hint+1-min oo mx; hj:=hint-la
 for _ in [0:m] do
  if ll ≥ hj then break
  let k:=ll+(hj-ll) / 2
  let some mo ← bey left key arr base k | return none
  if mo then ll:=k+1 else hj:=k
 return some hj):=rfl
theorem zmn_ (g:Nat):setG' g=modify fun s=>SortSt.mk' (kindOf s) (arrOf s) (pendingOf s) g (failedOf s):=rfl
theorem zlE_ (a b:Array Keyed):mrgLo a b=(do
 liftM (rule "list.sort.merge-lo")
 let tot:=a.size+b.size
 let dn (o:Array Keyed) (i j:Nat):=o++a.extract i a.size++b.extract j b.size
 let lst (o:Array Keyed) (i j:Nat):=o++b.extract j b.size++a.extract i a.size
 let mut ou:Array Keyed:=#[← elem' b 0]; let mut ja:=0; let mut jb:=1
 if jb == b.size then return dn ou ja jb
 if ja+1 == a.size then return lst ou ja jb
 let mut mg:=gallopOf (← get)
 for _ in [0:tot] do
  let mut ac:=0; let mut bc:=0
  for _ in [0:tot] do
   let some bw ← lt' (← elem' b jb) (← elem' a ja) | return dn ou ja jb
   if bw then
    ou:=ou.push (← elem' b jb); jb:=jb+1
    bc:=bc+1; ac:=0
    if jb == b.size then return dn ou ja jb
    if bc ≥ mg then break
   else
    ou:=ou.push (← elem' a ja); ja:=ja+1
    ac:=ac+1; bc:=0
    if ja+1 == a.size then return lst ou ja jb
    if ac ≥ mg then break
  liftM (rule "list.sort.gallop")
  mg:=mg+1
  for _ in [0:tot] do
   if mg > 1 then mg:=mg-1
   setG' mg
   let some k ← gallop' false (← elem' b jb) a ja (a.size-ja) 0 | return dn ou ja jb
   ac:=k
   if k > 0 then
    ou:=ou++a.extract ja (ja+k); ja:=ja+k
    if ja+1 == a.size then return lst ou ja jb
    if ja == a.size then return dn ou ja jb
   ou:=ou.push (← elem' b jb); jb:=jb+1
   if jb == b.size then return dn ou ja jb
   let some k ← gallop' true (← elem' a ja) b jb (b.size-jb) 0 | return dn ou ja jb
   bc:=k
   if k > 0 then
    ou:=ou++b.extract jb (jb+k); jb:=jb+k
    if jb == b.size then return dn ou ja jb
   ou:=ou.push (← elem' a ja); ja:=ja+1
   if ja+1 == a.size then return lst ou ja jb
   if ac<7 && bc<7 then break
  mg:=mg+1
  setG' mg
 liftM (unsupported "internal:list.sort.merge-bound" : Sem (Array Keyed))):=rfl
theorem zlI_ (a b:Array Keyed):mrgHi a b=(do
 liftM (rule "list.sort.merge-hi")
 let tot:=a.size+b.size
 let dn (o:Array Keyed) (i j:Nat):=a.extract 0 i++b.extract 0 j++o.reverse
 let fst_ (o:Array Keyed) (i j:Nat):=b.extract 0 j++a.extract 0 i++o.reverse
 let mut na:=a.size-1; let mut nb:=b.size; let mut ou:Array Keyed:=#[← elem' a na]
 if na == 0 then return dn ou na nb
 if nb == 1 then return fst_ ou na nb
 let mut mg:=gallopOf (← get)
 for _ in [0:tot] do
  let mut ac:=0; let mut bc:=0
  for _ in [0:tot] do
   let some aw ← lt' (← elem' b (nb-1)) (← elem' a (na-1)) | return dn ou na nb
   if aw then
    na:=na-1; ou:=ou.push (← elem' a na)
    ac:=ac+1; bc:=0
    if na == 0 then return dn ou na nb
    if ac ≥ mg then break
   else
    nb:=nb-1; ou:=ou.push (← elem' b nb)
    bc:=bc+1; ac:=0
    if nb == 1 then return fst_ ou na nb
    if bc ≥ mg then break
  liftM (rule "list.sort.gallop")
  mg:=mg+1
  for _ in [0:tot] do
   if mg > 1 then mg:=mg-1
   setG' mg
   let some q ← gallop' false (← elem' b (nb-1)) a 0 na (na-1) | return dn ou na nb
   let k:=na-q
   ac:=k
   if k > 0 then
    ou:=ou++(a.extract q na).reverse; na:=q
    if na == 0 then return dn ou na nb
   nb:=nb-1; ou:=ou.push (← elem' b nb)
   if nb == 1 then return fst_ ou na nb
   let some q ← gallop' true (← elem' a (na-1)) b 0 nb (nb-1) | return dn ou na nb
   let k:=nb-q
   bc:=k
   if k > 0 then
    ou:=ou++(b.extract q nb).reverse; nb:=q
    if nb == 1 then return fst_ ou na nb
    if nb == 0 then return dn ou na nb
   na:=na-1; ou:=ou.push (← elem' a na)
   if na == 0 then return dn ou na nb
   if ac<7 && bc<7 then break
  mg:=mg+1
  setG' mg
 liftM (unsupported "internal:list.sort.merge-bound" : Sem (Array Keyed))):=rfl
theorem zkP_ (i:Nat):mergeAt' i=(do
 let s ← get
 let (some (sa,na,pw),some (sb,nb,_)):=((pendingOf s)[i]?,(pendingOf s)[i+1]?) | liftM (unsupported "internal:list.sort.pending" : Sem Bool)
 set (setPending s (((pendingOf s).setIfInBounds i (sa,na+nb,pw)).eraseIdxIfInBounds (i+1)))
 let some k ← gallop' false (← elem' (arrOf s) sb) (arrOf s) sa na 0 | return false
 let (sa,na):=(sa+k,na-k)
 if na == 0 then return true
 let some nb ← gallop' true (← elem' (arrOf s) (sa+na-1)) (arrOf s) sb nb (nb-1) | return false
 if nb == 0 then return true
 let x:=(arrOf s).extract sa sb
 let y:=(arrOf s).extract sb (sb+nb)
 let me ← if na≤nb then mrgLo x y else mrgHi x y
 modify fun s=>setArr s (me.toList.zipIdx.foldl (fun a (p,j)=>a.setIfInBounds (sa+j) p) (arrOf s))
 return (failedOf (← get)).isNone):=rfl
section
variable {prog:Program}{w:World}{A:Around}{E:Value→Shared→Prop}{s:Shared}{κ:SortKind}{it:Nat→Keyed}{lt:Nat→Nat→Bool}{n:Nat}{st:SortSt}
def CmpS (prog:Program) (w:World) (A:Around) (E:Value→Shared→Prop) (s:Shared) (κ:SortKind) (it:Nat→Keyed) (lt:Nat→Nat→Bool) (n:Nat):Prop :=
 ∀ (i j:Nat) (st:SortSt) (Q:Option Bool→SortSt→Prop),i<n→j<n→kindOf st=κ→Q (some (lt i j)) st→wpS (model prog w) A E s (lt' (it i) (it j)) Q st
theorem zD_ {arr:Array Keyed}{i:Nat}{p:Keyed}{Q:Keyed→SortSt→Prop}(h:arr[i]?=some p) (q:Q p st):wpS (model prog w) A E s (elem' arr i) Q st:=by
 rw [elem'_eq,h]; exact wpS_pure q
def Pb (left:Bool) (lt:Nat→Nat→Bool) (k x:Nat):Bool:=if left then lt x k else !(lt k x)
theorem ziO_ (C:CmpS prog w A E s κ it lt n) {left:Bool}{arr:Array Keyed}{base i x k:Nat}{Q:Option Bool→SortSt→Prop}(h:arr[base+i]?=some (it x)) (hx:x<n) (hk:k<n) (kd:kindOf st=κ) (q:Q (some (Pb left lt k x)) st) :
  wpS (model prog w) A E s (bey left (it k) arr base i) Q st:=by
 unfold bey
 refine wpS_bind (zD_ h ?_)
 unfold Pb at q
 cases left with
 | true=>exact C _ _ _ _ hx hk kd q
 | false=>exact wpS_bind (C _ _ _ _ hk hx kd (wpS_pure q))
def gTail (left:Bool) (key:Keyed) (arr:Array Keyed) (base m:Nat) (ll hj:Nat):StateT SortSt Sem (Option Nat):=do
 let mut ll:=ll; let mut hj:=hj
 for _ in [0:m] do
  if ll ≥ hj then break
  let k:=ll+(hj-ll) / 2
  let some mo ← bey left key arr base k | return none
  if mo then ll:=k+1 else hj:=k
 return some hj
theorem zhd_ (C:CmpS prog w A E s κ it lt n) {left:Bool}{arr:Array Keyed}{base m k:Nat}{xs:Nat→Nat}{Q:Option Nat→SortSt→Prop}(harr:∀ i,i<m→arr[base+i]?=some (it (xs i))∧xs i<n) (hk:k<n) (kd:kindOf st=κ)
  (mono:∀ i j,i≤j→j<m→Pb left lt k (xs j)=true→Pb left lt k (xs i)=true) {ll hj:Nat}(h1:ll≤hj) (h2:hj≤m) (lo:∀ i,i<ll→Pb left lt k (xs i)=true) (hi:∀ i,hj≤i→i<m→Pb left lt k (xs i)=false)
  (q:∀ r,r≤m→(∀ i,i<r→Pb left lt k (xs i)=true)→(∀ i,r≤i→i<m→Pb left lt k (xs i)=false)→Q (some r) st):wpS (model prog w) A E s (gTail left (it k) arr base m ll hj) Q st:=by
 unfold gTail
 dsimp only
 refine wpS_bind (wpS_mono (wpS_forRange
  (I:=fun x c st'=>st'=st∧∃ l h,c=(none,l,h)∧l≤h∧h≤m∧h-l≤m-x∧(∀ i,i<l→Pb left lt k (xs i)=true)∧∀ i,h≤i→i<m→Pb left lt k (xs i)=false)
  (Q:=fun c st'=>st'=st∧∃ h,(∃ l,c=(none,l,h))∧h≤m∧(∀ i,i<h→Pb left lt k (xs i)=true)∧∀ i,h≤i→i<m→Pb left lt k (xs i)=false) ?step ?fin ⟨rfl,ll,hj,rfl,h1,h2,by lia,lo,hi⟩) ?post)
 case post =>
  rintro c st' ⟨rfl,h,⟨l,rfl⟩,a,b,d⟩
  exact wpS_pure (q h a b d)
 case fin =>
  rintro c st' ⟨rfl,l,h,rfl,a,b,d,e,f⟩
  exact ⟨rfl,h,⟨l,rfl⟩,b,fun i hi=>e i (by lia),f⟩
 case step =>
  rintro x c st' _ hx ⟨rfl,l,h,rfl,a,b,d,e,f⟩
  dsimp only
  by_cases z:l ≥ h
  ·rw [if_pos z]
   exact wpS_pure ⟨rfl,h,⟨l,rfl⟩,b,fun i hi=>e i (by lia),f⟩
  ·rw [if_neg z]
   have hk2:l+(h-l) / 2<m:=by lia
   refine wpS_bind (ziO_ C (harr _ hk2).1 (harr _ hk2).2 hk kd ?_)
   cases g:Pb left lt k (xs (l+(h-l) / 2)) with
   | true =>
    dsimp only
    rw [if_pos rfl]
    exact wpS_pure ⟨rfl,_,_,rfl,by lia,b,by lia,fun i hi=>mono i (l+(h-l) / 2) (by lia) hk2 g,f⟩
   | false =>
    dsimp only
    rw [if_neg (by decide)]
    refine wpS_pure ⟨rfl,_,_,rfl,by lia,by lia,by lia,e,fun i hi hm=>?_⟩
    cases g2:Pb left lt k (xs i) with
    | false=>rfl
    | true=>rw [mono _ i hi hm g2] at g; cases g
theorem zcz_ (C:CmpS prog w A E s κ it lt n) {left:Bool}{arr:Array Keyed}{base m hint k:Nat}{xs:Nat→Nat}{Q:Option Nat→SortSt→Prop}(harr:∀ i,i<m→arr[base+i]?=some (it (xs i))∧xs i<n) (hk:k<n) (kd:kindOf st=κ)
  (mono:∀ i j,i≤j→j<m→Pb left lt k (xs j)=true→Pb left lt k (xs i)=true) (hh:hint<m)
  (q:∀ r,r≤m→(∀ i,i<r→Pb left lt k (xs i)=true)→(∀ i,r≤i→i<m→Pb left lt k (xs i)=false)→Q (some r) st):wpS (model prog w) A E s (gallop' left (it k) arr base m hint) Q st:=by
 have mono':∀ i j,i≤j→j<m→Pb left lt k (xs i)=false→Pb left lt k (xs j)=false:=fun i j a b g=>by
  cases g2:Pb left lt k (xs j) with
  | false=>rfl
  | true=>rw [mono i j a b g2] at g; cases g
 rw [ziW_]
 dsimp only
 refine wpS_bind (ziO_ C (harr _ hh).1 (harr _ hh).2 hk kd ?_)
 cases g0:Pb left lt k (xs hint) with
 | true =>
  dsimp only
  rw [if_pos rfl]
  refine wpS_bind (wpS_mono (wpS_forRange
   (I:=fun x c st'=>st'=st∧∃ la oo,c=(none,la,oo)∧la<oo∧x+1≤oo∧hint+la<m∧Pb left lt k (xs (hint+la))=true)
   (Q:=fun c st'=>st'=st∧∃ la oo,c=(none,la,oo)∧la<oo∧hint+la<m∧Pb left lt k (xs (hint+la))=true∧(hint+oo<m→Pb left lt k (xs (hint+oo))=false)) ?s1 ?f1 ⟨rfl,0,1,rfl,by lia,by lia,by lia,g0⟩) ?p1)
  case p1 =>
   rintro c st' ⟨rfl,la,oo,rfl,a,b,d,e⟩
   dsimp only
   show wpS (model prog w) A E s (gTail left (it k) arr base m (hint+la+1) (hint+min oo (m-hint))) Q st'
   refine zhd_ C harr hk kd mono (by lia) (by lia) (fun i hi=>mono i (hint+la) (by lia) b d) (fun i h1 h2=>?_) q
   by_cases z:hint+oo<m
   ·exact mono' (hint+oo) i (by lia) h2 (e z)
   ·lia
  case f1 =>
   rintro c st' ⟨rfl,la,oo,rfl,a,b,d,e⟩
   exact ⟨rfl,la,oo,rfl,a,d,e,fun z=>by lia⟩
  case s1 =>
   rintro x c st' _ hx ⟨rfl,la,oo,rfl,a,b,d,e⟩
   dsimp only
   by_cases z:oo ≥ m-hint
   ·rw [if_pos z]
    exact wpS_pure ⟨rfl,la,oo,rfl,a,d,e,fun z=>by lia⟩
   ·rw [if_neg z]
    have h3:hint+oo<m:=by lia
    refine wpS_bind (ziO_ C (harr _ h3).1 (harr _ h3).2 hk kd ?_)
    cases g:Pb left lt k (xs (hint+oo)) with
    | true =>
     dsimp only
     rw [if_neg (by decide)]
     exact wpS_pure ⟨rfl,oo,2*oo+1,rfl,by lia,by lia,h3,g⟩
    | false =>
     dsimp only
     rw [if_pos (by decide)]
     exact wpS_pure ⟨rfl,la,oo,rfl,a,d,e,fun _=>g⟩
 | false =>
  dsimp only
  rw [if_neg (by decide)]
  refine wpS_bind (wpS_mono (wpS_forRange
   (I:=fun x c st'=>st'=st∧∃ la oo,c=(none,la,oo)∧la<oo∧x+1≤oo∧la≤hint∧Pb left lt k (xs (hint-la))=false)
   (Q:=fun c st'=>st'=st∧∃ la oo,c=(none,la,oo)∧la<oo∧la≤hint∧Pb left lt k (xs (hint-la))=false∧(oo≤hint→Pb left lt k (xs (hint-oo))=true)) ?s2 ?f2 ⟨rfl,0,1,rfl,by lia,by lia,by lia,g0⟩) ?p2)
  case p2 =>
   rintro c st' ⟨rfl,la,oo,rfl,a,b,d,e⟩
   dsimp only
   show wpS (model prog w) A E s (gTail left (it k) arr base m (hint+1-min oo (hint+1)) (hint-la)) Q st'
   refine zhd_ C harr hk kd mono (by lia) (by lia) (fun i hi=>?_) (fun i h1 h2=>mono' (hint-la) i h1 h2 d) q
   by_cases z:oo≤hint
   ·exact mono i (hint-oo) (by lia) (by lia) (e z)
   ·lia
  case f2 =>
   rintro c st' ⟨rfl,la,oo,rfl,a,b,d,e⟩
   exact ⟨rfl,la,oo,rfl,a,d,e,fun z=>by lia⟩
  case s2 =>
   rintro x c st' _ hx ⟨rfl,la,oo,rfl,a,b,d,e⟩
   dsimp only
   by_cases z:oo ≥ hint+1
   ·rw [if_pos z]
    exact wpS_pure ⟨rfl,la,oo,rfl,a,d,e,fun z=>by lia⟩
   ·rw [if_neg z]
    have h3:hint-oo<m:=by lia
    refine wpS_bind (ziO_ C (harr _ h3).1 (harr _ h3).2 hk kd ?_)
    cases g:Pb left lt k (xs (hint-oo)) with
    | true =>
     dsimp only
     rw [if_pos rfl]
     exact wpS_pure ⟨rfl,la,oo,rfl,a,d,e,fun _=>g⟩
    | false =>
     dsimp only
     rw [if_neg (by decide)]
     exact wpS_pure ⟨rfl,oo,2*oo+1,rfl,by lia,by lia,by lia,g⟩
end
section
variable {lt:Nat→Nat→Bool}{X Y O:List Nat}{ja jb k:Nat}
structure MI (lt:Nat→Nat→Bool) (X Y O:List Nat) (ja jb:Nat):Prop where
 pm:O.Perm (X.take ja++Y.take jb)
 so:O.Pairwise (le lt)
 ox:∀ o∈O,∀ x∈X.drop ja,le lt o x
 oy:∀ o∈O,∀ y∈Y.drop jb,le lt o y
theorem za6_ (h:ja<X.length):X.drop ja=X.getD ja 0::X.drop (ja+1):=by
 rw [List.drop_eq_getElem_cons h,List.getD_eq_getElem?_getD,List.getElem?_eq_getElem h]; rfl
theorem zia_ (h:ja<X.length):X.take (ja+1)=X.take ja++[X.getD ja 0]:=by
 rw [List.take_add_one,List.getD_eq_getElem?_getD,List.getElem?_eq_getElem h]; rfl
theorem zg0_ (sx:X.Pairwise (le lt)) (w:WOr lt) (h:ja<X.length):∀ x∈X.drop ja,le lt (X.getD ja 0) x:=by
 intro x hx
 have:=sx.drop (i:=ja)
 rw [za6_ h] at this hx
 rcases List.mem_cons.mp hx with rfl | hx
 ·exact w.refl _
 ·exact (List.pairwise_cons.mp this).1 x hx
theorem MI.a (m:MI lt X Y O ja jb) (w:WOr lt) (sx:X.Pairwise (le lt)) (sy:Y.Pairwise (le lt)) (h:ja<X.length) (hl:jb<Y.length→le lt (X.getD ja 0) (Y.getD jb 0)):MI lt X Y (O++[X.getD ja 0]) (ja+1) jb:=by
 have hm:X.getD ja 0∈X.drop ja:=by rw [za6_ h]; exact List.mem_cons_self
 refine ⟨?_,?_,?_,?_⟩
 ·rw [zia_ h,List.append_assoc]
  refine (m.pm.append_right _).trans ?_
  rw [List.append_assoc]
  exact (List.perm_append_comm).append_left _
 ·refine List.pairwise_append.mpr ⟨m.so,List.pairwise_singleton _ _,fun o ho x hx=>?_⟩
  rw [List.mem_singleton.mp hx]; exact m.ox o ho _ hm
 ·intro o ho x hx
  have hx':x∈X.drop ja:=by rw [za6_ h]; exact List.mem_cons_of_mem _ hx
  rcases List.mem_append.mp ho with ho | ho
  ·exact m.ox o ho x hx'
  ·rw [List.mem_singleton.mp ho]; exact zg0_ sx w h x hx'
 ·intro o ho y hy
  rcases List.mem_append.mp ho with ho | ho
  ·exact m.oy o ho y hy
  ·rw [List.mem_singleton.mp ho]
   by_cases z:jb<Y.length
   ·exact w.tr (hl z) (zg0_ sy w z y hy)
   ·rw [List.drop_eq_nil_of_le (by lia)] at hy; cases hy
theorem MI.swap (m:MI lt X Y O ja jb):MI lt Y X O jb ja:=⟨m.pm.trans List.perm_append_comm,m.so,m.oy,m.ox⟩
theorem MI.b (m:MI lt X Y O ja jb) (w:WOr lt) (sx:X.Pairwise (le lt)) (sy:Y.Pairwise (le lt)) (h:jb<Y.length) (hl:ja<X.length→le lt (Y.getD jb 0) (X.getD ja 0)):MI lt X Y (O++[Y.getD jb 0]) ja (jb+1):=(m.swap.a w sy sx h hl).swap
theorem MI.as (w:WOr lt) (sx:X.Pairwise (le lt)) (sy:Y.Pairwise (le lt)):∀ (k:Nat) {O:List Nat}{ja:Nat},MI lt X Y O ja jb→ja+k≤X.length→(∀ i,i<k→jb<Y.length→le lt (X.getD (ja+i) 0) (Y.getD jb 0))→MI lt X Y (O++(X.drop ja).take k) (ja+k) jb
 | 0,O,ja,m,_,_=>by rw [List.take_zero,List.append_nil]; exact m
 | k+1,O,ja,m,h,hl=>by
  have h0:ja<X.length:=by lia
  have:=MI.as w sx sy k (m.a w sx sy h0 fun z=>hl 0 (by lia) z) (by lia) (fun i hi z=>by have:=hl (i+1) (by lia) z; rwa [show ja+(i+1)=ja+1+i by lia] at this)
  rw [za6_ h0,List.take_succ_cons]
  rw [List.append_assoc,show ja+1+k=ja+(k+1) by lia] at this
  exact this
theorem MI.bs (w:WOr lt) (sx:X.Pairwise (le lt)) (sy:Y.Pairwise (le lt)) (k:Nat) (m:MI lt X Y O ja jb) (h:jb+k≤Y.length) (hl:∀ i,i<k→ja<X.length→le lt (Y.getD (jb+i) 0) (X.getD ja 0)):MI lt X Y (O++(Y.drop jb).take k) ja (jb+k):=(MI.as w sy sx k m.swap h hl).swap
theorem MI.dn (m:MI lt X Y O ja jb) (sx:X.Pairwise (le lt)) (sy:Y.Pairwise (le lt)) (h:X.length≤ja∨Y.length≤jb):(O++X.drop ja++Y.drop jb).Perm (X++Y)∧(O++X.drop ja++Y.drop jb).Pairwise (le lt):=by
 have pm:(O++X.drop ja++Y.drop jb).Perm (X++Y):=by
  refine ((m.pm.append_right _).append_right _).trans ?_
  rw [List.append_assoc,List.append_assoc]
  conv=>rhs; rw [← List.take_append_drop ja X,← List.take_append_drop jb Y]
  rw [List.append_assoc]
  refine List.Perm.append_left _ ?_
  rw [← List.append_assoc,← List.append_assoc]
  exact List.perm_append_comm.append_right _
 refine ⟨pm,?_⟩
 rcases h with h | h
 ·rw [List.drop_eq_nil_of_le h,List.append_nil]
  exact List.pairwise_append.mpr ⟨m.so,sy.drop,m.oy⟩
 ·rw [List.drop_eq_nil_of_le h,List.append_nil]
  exact List.pairwise_append.mpr ⟨m.so,sx.drop,m.ox⟩
theorem MI.lst (m:MI lt X Y O ja jb) (sx:X.Pairwise (le lt)) (sy:Y.Pairwise (le lt)) (h:ja+1=X.length) (hL:∀ y∈Y,le lt y (X.getD (X.length-1) 0)):(O++Y.drop jb++X.drop ja).Perm (X++Y)∧(O++Y.drop jb++X.drop ja).Pairwise (le lt):=by
 have e:X.drop ja=[X.getD (X.length-1) 0]:=by rw [za6_ (by lia),List.drop_eq_nil_of_le (by lia),show X.length-1=ja by lia]
 have pm:(O++Y.drop jb++X.drop ja).Perm (X++Y):=by
  rw [List.append_assoc]
  refine ((m.pm.append_right _)).trans ?_
  conv=>rhs; rw [← List.take_append_drop ja X,← List.take_append_drop jb Y]
  rw [List.append_assoc,List.append_assoc]
  refine List.Perm.append_left _ ?_
  rw [← List.append_assoc]
  exact List.perm_append_comm
 refine ⟨pm,?_⟩
 rw [e]
 refine List.pairwise_append.mpr ⟨List.pairwise_append.mpr ⟨m.so,sy.drop,m.oy⟩,List.pairwise_singleton _ _,fun o ho x hx=>?_⟩
 rw [List.mem_singleton.mp hx]
 rcases List.mem_append.mp ho with ho | ho
 ·exact m.ox o ho _ (by rw [e]; exact List.mem_cons_self)
 ·exact hL o (List.mem_of_mem_drop ho)
end
section
variable {prog:Program}{w:World}{A:Around}{E:Value→Shared→Prop}{s:Shared}{κ:SortKind}{it:Nat→Keyed}{lt:Nat→Nat→Bool}{n:Nat}{st st1 st2:SortSt}{X Y:List Nat}
structure Sm (st st':SortSt):Prop where
 k:kindOf st'=kindOf st
 a:arrOf st'=arrOf st
 p:pendingOf st'=pendingOf st
 f:failedOf st'=failedOf st
theorem Sm.refl (st:SortSt):Sm st st:=⟨rfl,rfl,rfl,rfl⟩
theorem Sm.trans (h:Sm st st1) (g:Sm st1 st2):Sm st st2:=⟨g.k.trans h.k,g.a.trans h.a,g.p.trans h.p,g.f.trans h.f⟩
abbrev ar (it:Nat→Keyed) (l:List Nat):Array Keyed:=(l.map it).toArray
theorem zcg_ {l:List Nat}{i:Nat}(h:i<l.length):(ar it l)[i]?=some (it (l.getD i 0)):=by
 rw [List.getElem?_toArray,List.getElem?_map,List.getD_eq_getElem?_getD,List.getElem?_eq_getElem h]; rfl
theorem zcn_ (l:List Nat) (x:Nat):(ar it l).push (it x)=ar it (l++[x]):=by simp [ar]
theorem zeT_ (l l':List Nat):ar it l++ar it l'=ar it (l++l'):=by simp [ar]
theorem zdS_ (l:List Nat) (i j:Nat):(ar it l).extract i j=ar it ((l.drop i).take (j-i)):=by simp [ar,List.map_take,List.map_drop]
theorem zz_ (l:List Nat):(ar it l).size=l.length:=by simp [ar]
theorem zlk_ (l:List Nat):(ar it l).reverse=ar it l.reverse:=by simp [ar]
theorem zde_ {g:Nat}{Q:Unit→SortSt→Prop}(h:∀ st',Sm st st'→Q () st'):wpS (model prog w) A E s (setG' g) Q st:=by
 rw [zmn_]; exact wpS_modify (h _ ⟨rfl,rfl,rfl,rfl⟩)
theorem zK_ {l:List Nat}{i:Nat}(h:i<l.length):l.getD i 0∈l:=by
 rw [List.getD_eq_getElem?_getD,List.getElem?_eq_getElem h]; exact List.getElem_mem h
theorem zis_ (sx:X.Pairwise (le lt)) (w:WOr lt) {i j:Nat}(hij:i≤j) (hj:j<X.length):le lt (X.getD i 0) (X.getD j 0):=by
 have hm:X.getD j 0∈X.drop i:=by
  rw [show j=i+(j-i) by lia,List.getD_eq_getElem?_getD,← List.getElem?_drop,List.getElem?_eq_getElem (by rw [List.length_drop]; lia)]
  exact List.getElem_mem _
 exact zg0_ sx w (by lia) _ hm
abbrev Good (lt:Nat→Nat→Bool) (X Y R:List Nat):Prop:=R.Perm (X++Y)∧R.Pairwise (le lt)
abbrev T7:Type:=Option (Array Keyed)×Array Keyed×Nat×Nat×Nat×Nat×Nat
abbrev T6:Type:=Option (Array Keyed)×Array Keyed×Nat×Nat×Nat×Nat
abbrev T5:Type:=Option (Array Keyed)×Array Keyed×Nat×Nat×Nat
def lo3 (a b ou:Array Keyed) (ja jb mg ac bc:Nat):StateT SortSt Sem (ForInStep T7):=do
 let e ← elem' a ja
 if ja+1+1 == a.size then pure (.done (some (ou.push e++b.extract jb b.size++a.extract (ja+1) a.size),ou.push e,ja+1,jb,mg,ac,bc))
 else if ac<7 && bc<7 then pure (.done (none,ou.push e,ja+1,jb,mg,ac,bc)) else pure (.yield (none,ou.push e,ja+1,jb,mg,ac,bc))
def lo2 (a b ou:Array Keyed) (ja jb mg ac bc:Nat):StateT SortSt Sem (ForInStep T7):=do
 let e ← elem' b jb
 if jb+1 == b.size then pure (.done (some (ou.push e++a.extract ja a.size++b.extract (jb+1) b.size),ou.push e,ja,jb+1,mg,ac,bc))
 else
  let f ← elem' a ja
  let r ← gallop' true f b (jb+1) (b.size-(jb+1)) 0
  match r with
  | some k =>
   if k > 0 then
    if jb+1+k == b.size then pure (.done (some (ou.push e++b.extract (jb+1) (jb+1+k)++a.extract ja a.size++b.extract (jb+1+k) b.size),ou.push e++b.extract (jb+1) (jb+1+k),ja,jb+1+k,mg,ac,k))
    else lo3 a b (ou.push e++b.extract (jb+1) (jb+1+k)) ja (jb+1+k) mg ac k
   else lo3 a b (ou.push e) ja (jb+1) mg ac k
  | _=>pure (.done (some (ou.push e++a.extract ja a.size++b.extract (jb+1) b.size),ou.push e,ja,jb+1,mg,ac,bc))
def lo1 (a b ou:Array Keyed) (ja jb mg k bc:Nat):StateT SortSt Sem (ForInStep T7) :=
 if k > 0 then
  if ja+k+1 == a.size then pure (.done (some (ou++a.extract ja (ja+k)++b.extract jb b.size++a.extract (ja+k) a.size),ou++a.extract ja (ja+k),ja+k,jb,mg,k,bc))
  else if ja+k == a.size then pure (.done (some (ou++a.extract ja (ja+k)++a.extract (ja+k) a.size++b.extract jb b.size),ou++a.extract ja (ja+k),ja+k,jb,mg,k,bc))
  else lo2 a b (ou++a.extract ja (ja+k)) (ja+k) jb mg k bc
 else lo2 a b ou ja jb mg k bc
abbrev LoN (it:Nat→Keyed) (lt:Nat→Nat→Bool) (X Y:List Nat) (st:SortSt) (x:Nat) (c:T7) (st':SortSt):Prop :=
 Sm st st'∧∃ O ja jb mg ac bc,c=(none,ar it O,ja,jb,mg,ac,bc)∧MI lt X Y O ja jb∧ja+1<X.length∧jb<Y.length∧x≤ja+jb
abbrev LoR (it:Nat→Keyed) (lt:Nat→Nat→Bool) (X Y:List Nat) (st:SortSt) (c:T7) (st':SortSt):Prop:=Sm st st'∧∃ R y,c=(some (ar it R),y)∧Good lt X Y R
abbrev LoP (it:Nat→Keyed) (lt:Nat→Nat→Bool) (X Y:List Nat) (st:SortSt) (x:Nat) (r:ForInStep T7) (st':SortSt):Prop:=match r with
 | .done c=>LoR it lt X Y st c st'∨LoN it lt X Y st x c st'
 | .yield c=>LoN it lt X Y st x c st'
theorem ziT_ (O:List Nat) (i j:Nat):ar it O++(ar it X).extract i (ar it X).size++(ar it Y).extract j (ar it Y).size=ar it (O++X.drop i++Y.drop j):=by
 rw [zdS_,zdS_,zeT_,zeT_,zz_,zz_,List.take_of_length_le (by simp),List.take_of_length_le (by simp)]
variable {O:List Nat}{ja jb mg ac bc x:Nat}
theorem zms_ (wo:WOr lt) (sx:X.Pairwise (le lt)) (sy:Y.Pairwise (le lt)) (hL:∀ y∈Y,le lt y (X.getD (X.length-1) 0)) (sm:Sm st st1) (m:MI lt X Y O ja jb) (h1:ja+1<X.length) (h2:jb<Y.length) (hl:le lt (X.getD ja 0) (Y.getD jb 0)) (hx:x≤ja+jb+1) :
  wpS (model prog w) A E s (lo3 (ar it X) (ar it Y) (ar it O) ja jb mg ac bc) (LoP it lt X Y st x) st1:=by
 unfold lo3
 refine wpS_bind (zD_ (zcg_ (by lia)) ?_)
 have m':=m.a wo sx sy (by lia) fun _=>hl
 rw [zcn_]
 by_cases c:ja+1+1=X.length
 ·rw [if_pos (by simp [zz_,c])]
  exact wpS_pure (.inl ⟨sm,_,_,by rw [ziT_],m'.lst sx sy c hL⟩)
 ·rw [if_neg (by simpa [zz_] using c)]
  have g:LoN it lt X Y st x (none,ar it (O++[X.getD ja 0]),ja+1,jb,mg,ac,bc) st1:=⟨sm,_,_,_,_,_,_,rfl,m',by lia,h2,by lia⟩
  split
  ·exact wpS_pure (.inr g)
  ·exact wpS_pure g
theorem zlS_ (C:CmpS prog w A E s κ it lt n) (wo:WOr lt) {left:Bool}{k i:Nat}{Q:Option Nat→SortSt→Prop}(hX:∀ x∈X,x<n) (sx:X.Pairwise (le lt)) (hk:k<n) (kd:kindOf st1=κ) (hi:i<X.length)
  (q:∀ r,i+r≤X.length→(∀ j,j<r→Pb left lt k (X.getD (i+j) 0)=true)→(∀ j,r≤j→i+j<X.length→Pb left lt k (X.getD (i+j) 0)=false)→Q (some r) st1) :
  wpS (model prog w) A E s (gallop' left (it k) (ar it X) i ((ar it X).size-i) 0) Q st1:=by
 rw [zz_]
 refine zcz_ C (xs:=fun j=>X.getD (i+j) 0) (fun j hj=>⟨zcg_ (by lia),hX _ (zK_ (by lia))⟩) hk kd (fun a b hab hb h=>?_) (by lia) fun r h1 h2 h3=>q r (by lia) h2 fun j a b=>h3 j a (by lia)
 have hle:=zis_ sx wo (i:=i+a) (j:=i+b) (by lia) (by lia)
 cases left with
 | true =>
  have h:lt (X.getD (i+b) 0) k=true:=h
  show lt (X.getD (i+a) 0) k=true
  cases z:lt (X.getD (i+a) 0) k with
  | true=>rfl
  | false=>rw [wo.tr (a:=k) (b:=X.getD (i+a) 0) (c:=X.getD (i+b) 0) z hle] at h; cases h
 | false =>
  have h:(!(lt k (X.getD (i+b) 0)))=true:=h
  show (!(lt k (X.getD (i+a) 0)))=true
  have h':lt k (X.getD (i+b) 0)=false:=by simpa using h
  rw [wo.tr hle h']; rfl
theorem znB_ (C:CmpS prog w A E s κ it lt n) (wo:WOr lt) (hX:∀ x∈X,x<n) (hY:∀ y∈Y,y<n) (sx:X.Pairwise (le lt)) (sy:Y.Pairwise (le lt)) (hL:∀ y∈Y,le lt y (X.getD (X.length-1) 0)) (sm:Sm st st1) (kd:kindOf st=κ) (m:MI lt X Y O ja jb) (h1:ja+1<X.length) (h2:jb<Y.length) (hl:le lt (Y.getD jb 0) (X.getD ja 0)) (hx:x≤ja+jb+1) :
  wpS (model prog w) A E s (lo2 (ar it X) (ar it Y) (ar it O) ja jb mg ac bc) (LoP it lt X Y st x) st1:=by
 unfold lo2
 refine wpS_bind (zD_ (zcg_ h2) ?_)
 have m':=m.b wo sx sy h2 fun _=>hl
 rw [zcn_]
 by_cases c:jb+1=Y.length
 ·rw [if_pos (by simp [zz_,c])]
  exact wpS_pure (.inl ⟨sm,_,_,by rw [ziT_],m'.dn sx sy (.inr (by lia))⟩)
 ·rw [if_neg (by simpa [zz_] using c)]
  refine wpS_bind (zD_ (zcg_ (by lia)) ?_)
  refine wpS_bind (zlS_ C wo hY sy (hX _ (zK_ (by lia))) (sm.k.trans kd) (by lia) fun k hk k1 k2=>?_)
  dsimp only
  have mb:=MI.bs wo sx sy k m' hk fun i hi _=>by have:=k1 i hi; exact wo.asym this
  have ex:(ar it Y).extract (jb+1) (jb+1+k)=ar it ((Y.drop (jb+1)).take k):=by rw [zdS_,show jb+1+k-(jb+1)=k by lia]
  have fin:∀ (O':List Nat) (jb':Nat),MI lt X Y O' ja jb'→jb'=jb+1+k→jb'<Y.length→le lt (X.getD ja 0) (Y.getD jb' 0):=fun O' jb' _ e h=>by
   subst e
   have:=k2 k (Nat.le_refl _) h
   exact this
  by_cases c2:k > 0
  ·rw [if_pos c2,ex,zeT_]
   by_cases c3:jb+1+k=Y.length
   ·rw [if_pos (by simp [zz_,c3])]
    exact wpS_pure (.inl ⟨sm,_,_,by rw [ziT_],mb.dn sx sy (.inr (by lia))⟩)
   ·rw [if_neg (by simpa [zz_] using c3)]
    exact zms_ wo sx sy hL sm mb h1 (by lia) (fin _ _ mb rfl (by lia)) (by lia)
  ·rw [if_neg c2]
   obtain rfl:k=0:=by lia
   exact zms_ wo sx sy hL sm m' h1 (by lia) (fin _ _ m' rfl (by lia)) (by lia)
theorem zoB_ (C:CmpS prog w A E s κ it lt n) (wo:WOr lt) (hX:∀ x∈X,x<n) (hY:∀ y∈Y,y<n) (sx:X.Pairwise (le lt)) (sy:Y.Pairwise (le lt)) (hL:∀ y∈Y,le lt y (X.getD (X.length-1) 0)) (sm:Sm st st1) (kd:kindOf st=κ) (m:MI lt X Y O ja jb) (h1:ja+1<X.length) (h2:jb<Y.length) (hx:x≤ja+jb+1) {k:Nat}
  (hk:ja+k≤X.length) (k1:∀ j,j<k→Pb false lt (Y.getD jb 0) (X.getD (ja+j) 0)=true) (k2:∀ j,k≤j→ja+j<X.length→Pb false lt (Y.getD jb 0) (X.getD (ja+j) 0)=false) :
  wpS (model prog w) A E s (lo1 (ar it X) (ar it Y) (ar it O) ja jb mg k bc) (LoP it lt X Y st x) st1:=by
 unfold lo1
 have ma:=MI.as wo sx sy k m hk fun i hi _=>by have:=k1 i hi; unfold Pb at this; simpa using this
 have ex:(ar it X).extract ja (ja+k)=ar it ((X.drop ja).take k):=by rw [zdS_,show ja+k-ja=k by lia]
 have fin:∀ ja',ja'=ja+k→ja'<X.length→le lt (Y.getD jb 0) (X.getD ja' 0):=fun ja' e h=>by
  subst e
  have:=k2 k (Nat.le_refl _) h
  unfold Pb at this
  exact wo.asym (by simpa using this)
 by_cases c2:k > 0
 ·rw [if_pos c2,ex,zeT_]
  by_cases c3:ja+k+1=X.length
  ·rw [if_pos (by simp [zz_,c3])]
   exact wpS_pure (.inl ⟨sm,_,_,by rw [ziT_],ma.lst sx sy c3 hL⟩)
  ·rw [if_neg (by simpa [zz_] using c3)]
   by_cases c4:ja+k=X.length
   ·rw [if_pos (by simp [zz_,c4])]
    exact wpS_pure (.inl ⟨sm,_,_,by rw [ziT_],ma.dn sx sy (.inl (by lia))⟩)
   ·rw [if_neg (by simpa [zz_] using c4)]
    exact znB_ C wo hX hY sx sy hL sm kd ma (by lia) h2 (fin _ rfl (by lia)) (by lia)
 ·rw [if_neg c2]
  obtain rfl:k=0:=by lia
  exact znB_ C wo hX hY sx sy hL sm kd m h1 h2 (fin _ rfl (by lia)) (by lia)
theorem zlp_ (C:CmpS prog w A E s κ it lt n) (wo:WOr lt) {Q:Array Keyed→SortSt→Prop}(hX:∀ x∈X,x<n) (hY:∀ y∈Y,y<n) (sx:X.Pairwise (le lt)) (sy:Y.Pairwise (le lt)) (nx:0<X.length) (ny:0<Y.length) (kd:kindOf st=κ)
  (h0:le lt (Y.getD 0 0) (X.getD 0 0)) (hL:∀ y∈Y,le lt y (X.getD (X.length-1) 0)) (q:∀ R st',Good lt X Y R→Sm st st'→Q (ar it R) st') :
  wpS (model prog w) A E s (mrgLo (ar it X) (ar it Y)) Q st:=by
 rw [zlE_]
 refine wpS_bind (wpS_lift (wpAny_rule ⟨rfl,?_⟩))
 dsimp only
 refine wpS_bind (zD_ (zcg_ ny) ?_)
 have m1:MI lt X Y [Y.getD 0 0] 0 1:=by
  have:=MI.b (O:=[]) (ja:=0) (jb:=0) ⟨by simp,List.Pairwise.nil,(fun o ho=>by cases ho),(fun o ho=>by cases ho)⟩ wo sx sy ny fun _=>h0
  simpa using this
 have e1:(#[it (Y.getD 0 0)]:Array Keyed)=ar it [Y.getD 0 0]:=rfl
 rw [e1]
 by_cases c1:1=Y.length
 ·rw [if_pos (by simp [zz_,← c1])]
  rw [ziT_]
  exact wpS_pure (q _ _ (m1.dn sx sy (.inr (by lia))) (.refl _))
 ·rw [if_neg (by simpa [zz_] using c1)]
  by_cases c2:0+1=X.length
  ·rw [if_pos (by simp [zz_,← c2])]
   rw [ziT_]
   exact wpS_pure (q _ _ (m1.lst sx sy c2 hL) (.refl _))
  ·rw [if_neg (by simpa [zz_] using c2)]
   refine wpS_bind (wpS_get ?_)
   refine wpS_bind (wpS_mono (wpS_forRange
    (I:=fun x c st'=>Sm st st'∧∃ O ja jb mg,c=(none,ar it O,ja,jb,mg)∧MI lt X Y O ja jb∧ja+1<X.length∧jb<Y.length∧x+1≤ja+jb)
    (Q:=fun c st'=>Sm st st'∧∃ R y,c=(some (ar it R),y)∧Good lt X Y R) ?step ?fin ⟨.refl _,_,_,_,_,rfl,m1,by lia,by lia,by lia⟩) ?post)
   case post =>
    rintro c st' ⟨sm,R,y,rfl,g⟩
    exact wpS_pure (q R st' g sm)
   case fin =>
    rintro c st' ⟨sm,O,ja,jb,mg,rfl,m,a,b,d⟩
    rw [zz_,zz_] at d
    lia
   case step =>
    rintro x c st1 _ hx ⟨sm,O,ja,jb,mg,rfl,m,a,b,d⟩
    dsimp only
    refine wpS_bind (wpS_mono (wpS_forRange
     (I:=fun _ c st'=>st'=st1∧∃ O ja jb ac bc,c=(none,ar it O,ja,jb,ac,bc)∧MI lt X Y O ja jb∧ja+1<X.length∧jb<Y.length∧x+1≤ja+jb)
     (Q:=fun c st'=>st'=st1∧((∃ R y,c=(some (ar it R),y)∧Good lt X Y R)∨∃ O ja jb ac bc,c=(none,ar it O,ja,jb,ac,bc)∧MI lt X Y O ja jb∧ja+1<X.length∧jb<Y.length∧x+1≤ja+jb)) ?s1 (fun c st' h=>⟨h.1,.inr h.2⟩) ⟨rfl,_,_,_,_,_,rfl,m,a,b,d⟩) ?p1)
    case s1 =>
     rintro y c st' _ hy ⟨rfl,O,ja,jb,ac,bc,rfl,m,a,b,d⟩
     dsimp only
     refine wpS_bind (zD_ (zcg_ b) (wpS_bind (zD_ (zcg_ (by lia)) ?_)))
     refine wpS_bind (C _ _ _ _ (hY _ (zK_ b)) (hX _ (zK_ (by lia))) (sm.k.trans kd) ?_)
     cases g:lt (Y.getD jb 0) (X.getD ja 0) with
     | true =>
      dsimp only
      rw [if_pos rfl]
      refine wpS_bind (zD_ (zcg_ b) ?_)
      have m':=m.b wo sx sy b fun _=>wo.asym g
      rw [zcn_]
      by_cases c3:jb+1=Y.length
      ·rw [if_pos (by simp [zz_,c3]),ziT_]
       exact wpS_pure ⟨rfl,.inl ⟨_,_,rfl,m'.dn sx sy (.inr (by lia))⟩⟩
      ·rw [if_neg (by simpa [zz_] using c3)]
       split
       ·exact wpS_pure ⟨rfl,.inr ⟨_,_,_,_,_,rfl,m',a,by lia,by lia⟩⟩
       ·exact wpS_pure ⟨rfl,_,_,_,_,_,rfl,m',a,by lia,by lia⟩
     | false =>
      dsimp only
      rw [if_neg (by decide)]
      refine wpS_bind (zD_ (zcg_ (by lia)) ?_)
      have m':=m.a wo sx sy (by lia) fun _=>g
      rw [zcn_]
      by_cases c3:ja+1+1=X.length
      ·rw [if_pos (by simp [zz_,c3]),ziT_]
       exact wpS_pure ⟨rfl,.inl ⟨_,_,rfl,m'.lst sx sy c3 hL⟩⟩
      ·rw [if_neg (by simpa [zz_] using c3)]
       split
       ·exact wpS_pure ⟨rfl,.inr ⟨_,_,_,_,_,rfl,m',by lia,b,by lia⟩⟩
       ·exact wpS_pure ⟨rfl,_,_,_,_,_,rfl,m',by lia,b,by lia⟩
    case p1 =>
     rintro c st' ⟨rfl,h⟩
     rcases h with ⟨R,y,rfl,g⟩ | ⟨O,ja,jb,ac,bc,rfl,m,a,b,d⟩
     ·exact wpS_pure ⟨sm,R,_,rfl,g⟩
     ·dsimp only
      refine wpS_bind (wpS_lift (wpAny_rule ⟨rfl,?_⟩))
      refine wpS_bind (wpS_mono (wpS_forRange
       (I:=fun y c st'=>LoN it lt X Y st (x+1+min y 1) c st')
       (Q:=fun c st'=>LoR it lt X Y st c st'∨LoN it lt X Y st (x+1+1) c st') ?s2 ?f2 ⟨sm,_,_,_,_,_,_,rfl,m,a,b,by lia⟩) ?p2)
      case f2 =>
       rintro c st2 h
       rw [zz_,zz_,show min (max 0 (X.length+Y.length)) 1=1 by lia] at h
       exact .inr h
      case p2 =>
       rintro c st2 (⟨sm2,R,y,rfl,g⟩ | ⟨sm2,O,ja,jb,mg,ac,bc,rfl,m,a,b,d⟩)
       ·exact wpS_pure ⟨sm2,R,_,rfl,g⟩
       ·dsimp only
        refine wpS_bind (zde_ fun st3 sm3=>wpS_pure ⟨sm2.trans sm3,_,_,_,_,rfl,m,a,b,by lia⟩)
      case s2 =>
       rintro y c st2 _ hy ⟨sm2,O,ja,jb,mg,ac,bc,rfl,m,a,b,d⟩
       dsimp only
       have key:∀ mg st3 k,Sm st st3→ja+k≤X.length→(∀ j,j<k→Pb false lt (Y.getD jb 0) (X.getD (ja+j) 0)=true)→(∀ j,k≤j→ja+j<X.length→Pb false lt (Y.getD jb 0) (X.getD (ja+j) 0)=false)→wpS (model prog w) A E s (lo1 (ar it X) (ar it Y) (ar it O) ja jb mg k bc) (LoP it lt X Y st (x+1+1)) st3:=fun mg st3 k sm3 hk k1 k2 =>
        zoB_ C wo hX hY sx sy hL sm3 kd m a b (by lia) hk k1 k2
       by_cases c3:mg > 1
       ·rw [if_pos c3]
        refine wpS_bind (zde_ fun st3 sm3=>wpS_bind (zD_ (zcg_ b) (wpS_bind (zlS_ C wo hX sx (hY _ (zK_ b)) ((sm2.trans sm3).k.trans kd) (by lia) fun k hk k1 k2=>?_))))
        dsimp only
        refine wpS_mono (key (mg-1) st3 k (sm2.trans sm3) hk k1 k2) fun r st' h=>?_
        cases r with
        | done c=>exact h
        | yield c =>
         show LoN it lt X Y st (x+1+min (y+1) 1) c st'
         rw [show min (y+1) 1=1 by lia]; exact h
       ·rw [if_neg c3]
        refine wpS_bind (zde_ fun st3 sm3=>wpS_bind (zD_ (zcg_ b) (wpS_bind (zlS_ C wo hX sx (hY _ (zK_ b)) ((sm2.trans sm3).k.trans kd) (by lia) fun k hk k1 k2=>?_))))
        dsimp only
        refine wpS_mono (key mg st3 k (sm2.trans sm3) hk k1 k2) fun r st' h=>?_
        cases r with
        | done c=>exact h
        | yield c =>
         show LoN it lt X Y st (x+1+min (y+1) 1) c st'
         rw [show min (y+1) 1=1 by lia]; exact h
end
section
variable {lt:Nat→Nat→Bool}{X Y O R:List Nat}{na nb i k q:Nat}
abbrev op (lt:Nat→Nat→Bool):Nat→Nat→Bool:=fun a b=>lt b a
theorem op_wo (w:WOr lt):WOr (op lt):=⟨fun h=>w.asym h,fun h1 h2=>w.tr (lt:=lt) h2 h1⟩
theorem zir_ (h:X.Pairwise (le lt)):X.reverse.Pairwise (le (op lt)):=List.pairwise_reverse.mpr h
theorem zhY_ (h:Good (op lt) X.reverse Y.reverse R):Good lt X Y R.reverse:=by
 refine ⟨(List.reverse_perm R).trans (h.1.trans ((List.reverse_perm X).append (List.reverse_perm Y))),List.pairwise_reverse.mpr h.2⟩
theorem zce_ (h:0<na) (h2:na≤X.length):X.reverse.getD (X.length-na) 0=X.getD (na-1) 0:=by
 rw [List.getD_eq_getElem?_getD,List.getD_eq_getElem?_getD,List.getElem?_reverse (by lia),show X.length-1-(X.length-na)=na-1 by lia]
theorem zca_ (h2:na≤X.length):(X.reverse.drop (X.length-na)).reverse=X.take na:=by
 rw [List.drop_reverse,List.reverse_reverse,show X.length-(X.length-na)=na by lia]
theorem znF_ (h:q≤na) (h2:na≤X.length):((X.drop q).take (na-q)).reverse=(X.reverse.drop (X.length-na)).take (na-q):=by
 rw [List.drop_reverse,List.take_reverse,show X.length-(X.length-na)=na by lia,List.length_take,Nat.min_eq_left h2,show na-(na-q)=q by lia,← List.drop_take]
abbrev MH (lt:Nat→Nat→Bool) (X Y O:List Nat) (na nb:Nat):Prop:=na≤X.length∧nb≤Y.length∧MI (op lt) X.reverse Y.reverse O (X.length-na) (Y.length-nb)
theorem MH.a (m:MH lt X Y O na nb) (w:WOr lt) (sx:X.Pairwise (le lt)) (sy:Y.Pairwise (le lt)) (h:0<na) (hl:0<nb→le lt (Y.getD (nb-1) 0) (X.getD (na-1) 0)):MH lt X Y (O++[X.getD (na-1) 0]) (na-1) nb:=by
 obtain ⟨a,b,m⟩:=m
 have:=m.a (op_wo w) (zir_ sx) (zir_ sy) (by rw [List.length_reverse]; lia) fun z=>by
  rw [List.length_reverse] at z
  rw [zce_ h a,zce_ (by lia) b]
  exact hl (by lia)
 rw [zce_ h a,show X.length-na+1=X.length-(na-1) by lia] at this
 exact ⟨by lia,b,this⟩
theorem MH.swap (m:MH lt X Y O na nb):MH lt Y X O nb na:=⟨m.2.1,m.1,m.2.2.swap⟩
theorem MH.b (m:MH lt X Y O na nb) (w:WOr lt) (sx:X.Pairwise (le lt)) (sy:Y.Pairwise (le lt)) (h:0<nb) (hl:0<na→le lt (X.getD (na-1) 0) (Y.getD (nb-1) 0)):MH lt X Y (O++[Y.getD (nb-1) 0]) na (nb-1):=(m.swap.a w sy sx h hl).swap
theorem MH.as (m:MH lt X Y O na nb) (w:WOr lt) (sx:X.Pairwise (le lt)) (sy:Y.Pairwise (le lt)) (hq:q≤na) (hl:∀ i,q≤i→i<na→0<nb→le lt (Y.getD (nb-1) 0) (X.getD i 0)):MH lt X Y (O++((X.drop q).take (na-q)).reverse) q nb:=by
 obtain ⟨a,b,m⟩:=m
 have:=MI.as (op_wo w) (zir_ sx) (zir_ sy) (na-q) m (by rw [List.length_reverse]; lia) fun i hi z=>by
  rw [List.length_reverse] at z
  rw [zce_ (by lia) b,show X.length-na+i=X.length-(na-i) by lia,zce_ (by lia) (by lia)]
  exact hl _ (by lia) (by lia) (by lia)
 rw [← znF_ hq a,show X.length-na+(na-q)=X.length-q by lia] at this
 exact ⟨by lia,b,this⟩
theorem MH.bs (m:MH lt X Y O na nb) (w:WOr lt) (sx:X.Pairwise (le lt)) (sy:Y.Pairwise (le lt)) (hq:q≤nb) (hl:∀ i,q≤i→i<nb→0<na→le lt (X.getD (na-1) 0) (Y.getD i 0)):MH lt X Y (O++((Y.drop q).take (nb-q)).reverse) na q:=(m.swap.as w sy sx hq hl).swap
theorem zjt_ (h:Good lt X Y R):Good lt Y X R:=⟨h.1.trans List.perm_append_comm,h.2⟩
theorem MH.dn (m:MH lt X Y O na nb) (sx:X.Pairwise (le lt)) (sy:Y.Pairwise (le lt)) (h:na=0∨nb=0):Good lt X Y (X.take na++Y.take nb++O.reverse):=by
 obtain ⟨a,b,m⟩:=m
 rcases h with rfl | rfl
 ·have:=zhY_ (m.dn (zir_ sx) (zir_ sy) (.inl (by rw [List.length_reverse]; lia)))
  rw [List.reverse_append,List.reverse_append,zca_ a,zca_ b,List.take_zero,List.nil_append] at this
  rw [List.take_zero,List.nil_append]; exact this
 ·have:=zhY_ (m.dn (zir_ sx) (zir_ sy) (.inr (by rw [List.length_reverse]; lia)))
  rw [List.reverse_append,List.reverse_append,zca_ a,zca_ b,List.take_zero,List.nil_append] at this
  rw [List.take_zero,List.append_nil]; exact this
theorem MH.fst (m:MH lt X Y O na nb) (sx:X.Pairwise (le lt)) (sy:Y.Pairwise (le lt)) (h:nb=1) (hF:∀ x∈X,le lt (Y.getD 0 0) x):Good lt X Y (Y.take nb++X.take na++O.reverse):=by
 obtain ⟨a,b,m⟩:=m
 subst h
 have:=zhY_ (m.swap.lst (zir_ sy) (zir_ sx) (by rw [List.length_reverse]; lia) fun x hx=>by
  rw [List.length_reverse,zce_ (by lia) b]
  exact hF x (List.mem_reverse.mp hx))
 rw [List.reverse_append,List.reverse_append,zca_ a,zca_ b,← List.append_assoc] at this
 exact zjt_ this
end
section
variable {prog:Program}{w:World}{A:Around}{E:Value→Shared→Prop}{s:Shared}{κ:SortKind}{it:Nat→Keyed}{lt:Nat→Nat→Bool}{n:Nat}{st st1 st2:SortSt}{X Y:List Nat}
abbrev U7:Type:=Option (Array Keyed)×Nat×Nat×Array Keyed×Nat×Nat×Nat
def hi3 (a b:Array Keyed) (na nb:Nat) (ou:Array Keyed) (mg ac bc:Nat):StateT SortSt Sem (ForInStep U7):=do
 let e ← elem' a (na-1)
 if na-1 == 0 then pure (.done (some (a.extract 0 (na-1)++b.extract 0 nb++(ou.push e).reverse),na-1,nb,ou.push e,mg,ac,bc))
 else if ac<7 && bc<7 then pure (.done (none,na-1,nb,ou.push e,mg,ac,bc)) else pure (.yield (none,na-1,nb,ou.push e,mg,ac,bc))
def hi2b (a b:Array Keyed) (na nb q:Nat) (ou:Array Keyed) (mg ac:Nat):StateT SortSt Sem (ForInStep U7) :=
 if nb-q > 0 then
  if q == 1 then pure (.done (some (b.extract 0 q++a.extract 0 na++(ou++(b.extract q nb).reverse).reverse),na,q,ou++(b.extract q nb).reverse,mg,ac,nb-q))
  else if q == 0 then pure (.done (some (a.extract 0 na++b.extract 0 q++(ou++(b.extract q nb).reverse).reverse),na,q,ou++(b.extract q nb).reverse,mg,ac,nb-q))
  else hi3 a b na q (ou++(b.extract q nb).reverse) mg ac (nb-q)
 else hi3 a b na nb ou mg ac (nb-q)
def hi2 (a b:Array Keyed) (na nb:Nat) (ou:Array Keyed) (mg ac bc:Nat):StateT SortSt Sem (ForInStep U7):=do
 let e ← elem' b (nb-1)
 if nb-1 == 1 then pure (.done (some (b.extract 0 (nb-1)++a.extract 0 na++(ou.push e).reverse),na,nb-1,ou.push e,mg,ac,bc))
 else
  let f ← elem' a (na-1)
  let r ← gallop' true f b 0 (nb-1) (nb-1-1)
  match r with
  | some q=>hi2b a b na (nb-1) q (ou.push e) mg ac
  | _=>pure (.done (some (a.extract 0 na++b.extract 0 (nb-1)++(ou.push e).reverse),na,nb-1,ou.push e,mg,ac,bc))
def hi1 (a b:Array Keyed) (na nb q:Nat) (ou:Array Keyed) (mg bc:Nat):StateT SortSt Sem (ForInStep U7) :=
 if na-q > 0 then
  if q == 0 then pure (.done (some (a.extract 0 q++b.extract 0 nb++(ou++(a.extract q na).reverse).reverse),q,nb,ou++(a.extract q na).reverse,mg,na-q,bc))
  else hi2 a b q nb (ou++(a.extract q na).reverse) mg (na-q) bc
 else hi2 a b na nb ou mg (na-q) bc
abbrev HiN (it:Nat→Keyed) (lt:Nat→Nat→Bool) (X Y:List Nat) (st:SortSt) (x:Nat) (c:U7) (st':SortSt):Prop :=
 Sm st st'∧∃ O na nb mg ac bc,c=(none,na,nb,ar it O,mg,ac,bc)∧MH lt X Y O na nb∧0<na∧1<nb∧x+na+nb≤X.length+Y.length
abbrev HiR (it:Nat→Keyed) (lt:Nat→Nat→Bool) (X Y:List Nat) (st:SortSt) (c:U7) (st':SortSt):Prop:=Sm st st'∧∃ R y,c=(some (ar it R),y)∧Good lt X Y R
abbrev HiP (it:Nat→Keyed) (lt:Nat→Nat→Bool) (X Y:List Nat) (st:SortSt) (x:Nat) (r:ForInStep U7) (st':SortSt):Prop:=match r with
 | .done c=>HiR it lt X Y st c st'∨HiN it lt X Y st x c st'
 | .yield c=>HiN it lt X Y st x c st'
theorem zdX_ (O:List Nat) (i j:Nat):(ar it X).extract 0 i++(ar it Y).extract 0 j++(ar it O).reverse=ar it (X.take i++Y.take j++O.reverse):=by
 rw [zdS_,zdS_,zlk_,zeT_,zeT_]; rfl
variable {O:List Nat}{na nb mg ac bc x:Nat}
theorem zmR_ (wo:WOr lt) (sx:X.Pairwise (le lt)) (sy:Y.Pairwise (le lt)) (sm:Sm st st1) (m:MH lt X Y O na nb) (h1:0<na) (h2:1<nb) (hl:le lt (Y.getD (nb-1) 0) (X.getD (na-1) 0)) (hx:x+na+nb≤X.length+Y.length+1) :
  wpS (model prog w) A E s (hi3 (ar it X) (ar it Y) na nb (ar it O) mg ac bc) (HiP it lt X Y st x) st1:=by
 unfold hi3
 have ha:=m.1
 refine wpS_bind (zD_ (zcg_ (by lia)) ?_)
 have m':=m.a wo sx sy h1 fun _=>hl
 rw [zcn_]
 by_cases c:na-1=0
 ·rw [if_pos (by simp [c])]
  exact wpS_pure (.inl ⟨sm,_,_,by rw [zdX_],m'.dn sx sy (.inl c)⟩)
 ·rw [if_neg (by simpa using c)]
  have g:HiN it lt X Y st x (none,na-1,nb,ar it (O++[X.getD (na-1) 0]),mg,ac,bc) st1:=⟨sm,_,_,_,_,_,_,rfl,m',by lia,h2,by lia⟩
  split
  ·exact wpS_pure (.inr g)
  ·exact wpS_pure g
theorem zk2_ (C:CmpS prog w A E s κ it lt n) (wo:WOr lt) {left:Bool}{k i:Nat}{Q:Option Nat→SortSt→Prop}(hX:∀ x∈X,x<n) (sx:X.Pairwise (le lt)) (hk:k<n) (kd:kindOf st1=κ) (hi:i≤X.length) (h0:0<i)
  (q:∀ r,r≤i→(∀ j,j<r→Pb left lt k (X.getD j 0)=true)→(∀ j,r≤j→j<i→Pb left lt k (X.getD j 0)=false)→Q (some r) st1) :
  wpS (model prog w) A E s (gallop' left (it k) (ar it X) 0 i (i-1)) Q st1:=by
 refine zcz_ C (xs:=fun j=>X.getD j 0) (fun j hj=>⟨by rw [Nat.zero_add]; exact zcg_ (by lia),hX _ (zK_ (by lia))⟩) hk kd (fun a b hab hb h=>?_) (by lia) fun r h1 h2 h3=>q r (by lia) h2 fun j a b=>h3 j a (by lia)
 have hle:=zis_ sx wo (i:=a) (j:=b) (by lia) (by lia)
 cases left with
 | true =>
  have h:lt (X.getD b 0) k=true:=h
  show lt (X.getD a 0) k=true
  cases z:lt (X.getD a 0) k with
  | true=>rfl
  | false=>rw [wo.tr (a:=k) (b:=X.getD a 0) (c:=X.getD b 0) z hle] at h; cases h
 | false =>
  have h:(!(lt k (X.getD b 0)))=true:=h
  show (!(lt k (X.getD a 0)))=true
  have h':lt k (X.getD b 0)=false:=by simpa using h
  rw [wo.tr hle h']; rfl
theorem zmU_ (C:CmpS prog w A E s κ it lt n) (wo:WOr lt) (hX:∀ x∈X,x<n) (hY:∀ y∈Y,y<n) (sx:X.Pairwise (le lt)) (sy:Y.Pairwise (le lt)) (hF:∀ x∈X,le lt (Y.getD 0 0) x) (sm:Sm st st1) (kd:kindOf st=κ) (m:MH lt X Y O na nb) (h1:0<na) (h2:1<nb) (hl:le lt (X.getD (na-1) 0) (Y.getD (nb-1) 0)) (hx:x+na+nb≤X.length+Y.length+1) :
  wpS (model prog w) A E s (hi2 (ar it X) (ar it Y) na nb (ar it O) mg ac bc) (HiP it lt X Y st x) st1:=by
 unfold hi2
 have ha:=m.1
 have hb:=m.2.1
 refine wpS_bind (zD_ (zcg_ (by lia)) ?_)
 have m':=m.b wo sx sy (by lia) fun _=>hl
 rw [zcn_]
 by_cases c:nb-1=1
 ·rw [if_pos (by simp [c])]
  exact wpS_pure (.inl ⟨sm,_,_,by rw [zdX_],m'.fst sx sy c hF⟩)
 ·rw [if_neg (by simpa using c)]
  refine wpS_bind (zD_ (zcg_ (by lia)) ?_)
  refine wpS_bind (zk2_ C wo hY sy (hX _ (zK_ (by lia))) (sm.k.trans kd) (by lia) (by lia) fun q hq k1 k2=>?_)
  dsimp only
  unfold hi2b
  have mb:=m'.bs wo sx sy (q:=q) hq fun i a b _=>k2 i a b
  have ex:(ar it Y).extract q (nb-1)=ar it ((Y.drop q).take (nb-1-q)):=by rw [zdS_]
  have fin:∀ nb',nb'=q→0<nb'→le lt (Y.getD (nb'-1) 0) (X.getD (na-1) 0):=fun nb' e h=>by
   subst e
   exact wo.asym (k1 (nb'-1) (by lia))
  by_cases c2:nb-1-q > 0
  ·rw [if_pos c2,ex,zlk_,zeT_]
   by_cases c3:q=1
   ·rw [if_pos (by simp [c3])]
    exact wpS_pure (.inl ⟨sm,_,_,by rw [zdX_],mb.fst sx sy c3 hF⟩)
   ·rw [if_neg (by simpa using c3)]
    by_cases c4:q=0
    ·rw [if_pos (by simp [c4])]
     exact wpS_pure (.inl ⟨sm,_,_,by rw [zdX_],mb.dn sx sy (.inr c4)⟩)
    ·rw [if_neg (by simpa using c4)]
     exact zmR_ wo sx sy sm mb h1 (by lia) (fin _ rfl (by lia)) (by lia)
  ·rw [if_neg c2]
   exact zmR_ wo sx sy sm m' h1 (by lia) (fin _ (by lia) (by lia)) (by lia)
theorem znR_ (C:CmpS prog w A E s κ it lt n) (wo:WOr lt) (hX:∀ x∈X,x<n) (hY:∀ y∈Y,y<n) (sx:X.Pairwise (le lt)) (sy:Y.Pairwise (le lt)) (hF:∀ x∈X,le lt (Y.getD 0 0) x) (sm:Sm st st1) (kd:kindOf st=κ) (m:MH lt X Y O na nb) (h1:0<na) (h2:1<nb) (hx:x+na+nb≤X.length+Y.length+1) {q:Nat}
  (hq:q≤na) (k1:∀ j,j<q→Pb false lt (Y.getD (nb-1) 0) (X.getD j 0)=true) (k2:∀ j,q≤j→j<na→Pb false lt (Y.getD (nb-1) 0) (X.getD j 0)=false) :
  wpS (model prog w) A E s (hi1 (ar it X) (ar it Y) na nb q (ar it O) mg bc) (HiP it lt X Y st x) st1:=by
 unfold hi1
 have ma:=m.as wo sx sy (q:=q) hq fun i a b _=>wo.asym (by have:=k2 i a b; unfold Pb at this; simpa using this)
 have ex:(ar it X).extract q na=ar it ((X.drop q).take (na-q)):=by rw [zdS_]
 have fin:∀ na',na'=q→0<na'→le lt (X.getD (na'-1) 0) (Y.getD (nb-1) 0):=fun na' e h=>by
  subst e
  have:=k1 (na'-1) (by lia)
  unfold Pb at this
  simpa using this
 by_cases c2:na-q > 0
 ·rw [if_pos c2,ex,zlk_,zeT_]
  by_cases c3:q=0
  ·rw [if_pos (by simp [c3])]
   exact wpS_pure (.inl ⟨sm,_,_,by rw [zdX_],ma.dn sx sy (.inl c3)⟩)
  ·rw [if_neg (by simpa using c3)]
   exact zmU_ C wo hX hY sx sy hF sm kd ma (by lia) h2 (fin _ rfl (by lia)) (by lia)
 ·rw [if_neg c2]
  exact zmU_ C wo hX hY sx sy hF sm kd m h1 h2 (fin _ (by lia) (by lia)) (by lia)
theorem zle_ (C:CmpS prog w A E s κ it lt n) (wo:WOr lt) {Q:Array Keyed→SortSt→Prop}(hX:∀ x∈X,x<n) (hY:∀ y∈Y,y<n) (sx:X.Pairwise (le lt)) (sy:Y.Pairwise (le lt)) (nx:0<X.length) (ny:0<Y.length) (kd:kindOf st=κ)
  (hF:∀ x∈X,le lt (Y.getD 0 0) x) (hL:le lt (Y.getD (Y.length-1) 0) (X.getD (X.length-1) 0)) (q:∀ R st',Good lt X Y R→Sm st st'→Q (ar it R) st') :
  wpS (model prog w) A E s (mrgHi (ar it X) (ar it Y)) Q st:=by
 rw [zlI_]
 refine wpS_bind (wpS_lift (wpAny_rule ⟨rfl,?_⟩))
 dsimp only
 have m0:MH lt X Y [] X.length Y.length:=⟨Nat.le_refl _,Nat.le_refl _,by simp,List.Pairwise.nil,(fun o ho=>by cases ho),(fun o ho=>by cases ho)⟩
 have m1:=m0.a wo sx sy nx fun _=>hL
 rw [List.nil_append] at m1
 rw [zz_,zz_]
 refine wpS_bind (zD_ (zcg_ (by lia)) ?_)
 have e1:(#[it (X.getD (X.length-1) 0)]:Array Keyed)=ar it [X.getD (X.length-1) 0]:=rfl
 rw [e1]
 by_cases c1:X.length-1=0
 ·rw [if_pos (by simp [c1]),zdX_]
  exact wpS_pure (q _ _ (m1.dn sx sy (.inl c1)) (.refl _))
 ·rw [if_neg (by simpa using c1)]
  by_cases c2:Y.length=1
  ·rw [if_pos (by simp [c2]),zdX_]
   exact wpS_pure (q _ _ (m1.fst sx sy c2 hF) (.refl _))
  ·rw [if_neg (by simpa using c2)]
   refine wpS_bind (wpS_get ?_)
   refine wpS_bind (wpS_mono (wpS_forRange
    (I:=fun x c st'=>Sm st st'∧∃ O na nb mg,c=(none,na,nb,ar it O,mg)∧MH lt X Y O na nb∧0<na∧1<nb∧x+1+na+nb≤X.length+Y.length)
    (Q:=fun c st'=>Sm st st'∧∃ R y,c=(some (ar it R),y)∧Good lt X Y R) ?step ?fin ⟨.refl _,_,_,_,_,rfl,m1,by lia,by lia,by lia⟩) ?post)
   case post =>
    rintro c st' ⟨sm,R,y,rfl,g⟩
    exact wpS_pure (q R st' g sm)
   case fin =>
    rintro c st' ⟨sm,O,na,nb,mg,rfl,m,a,b,d⟩
    lia
   case step =>
    rintro x c st1 _ hx ⟨sm,O,na,nb,mg,rfl,m,a,b,d⟩
    dsimp only
    refine wpS_bind (wpS_mono (wpS_forRange
     (I:=fun _ c st'=>st'=st1∧∃ O na nb ac bc,c=(none,na,nb,ar it O,ac,bc)∧MH lt X Y O na nb∧0<na∧1<nb∧x+1+na+nb≤X.length+Y.length)
     (Q:=fun c st'=>st'=st1∧((∃ R y,c=(some (ar it R),y)∧Good lt X Y R)∨∃ O na nb ac bc,c=(none,na,nb,ar it O,ac,bc)∧MH lt X Y O na nb∧0<na∧1<nb∧x+1+na+nb≤X.length+Y.length)) ?s1 (fun c st' h=>⟨h.1,.inr h.2⟩) ⟨rfl,_,_,_,_,_,rfl,m,a,b,d⟩) ?p1)
    case s1 =>
     rintro y c st' _ hy ⟨rfl,O,na,nb,ac,bc,rfl,m,a,b,d⟩
     have ha:=m.1
     have hb:=m.2.1
     dsimp only
     refine wpS_bind (zD_ (zcg_ (by lia)) (wpS_bind (zD_ (zcg_ (by lia)) ?_)))
     refine wpS_bind (C _ _ _ _ (hY _ (zK_ (by lia))) (hX _ (zK_ (by lia))) (sm.k.trans kd) ?_)
     cases g:lt (Y.getD (nb-1) 0) (X.getD (na-1) 0) with
     | true =>
      dsimp only
      rw [if_pos rfl]
      refine wpS_bind (zD_ (zcg_ (by lia)) ?_)
      have m':=m.a wo sx sy a fun _=>wo.asym g
      rw [zcn_]
      by_cases c3:na-1=0
      ·rw [if_pos (by simp [c3]),zdX_]
       exact wpS_pure ⟨rfl,.inl ⟨_,_,rfl,m'.dn sx sy (.inl c3)⟩⟩
      ·rw [if_neg (by simpa using c3)]
       split
       ·exact wpS_pure ⟨rfl,.inr ⟨_,_,_,_,_,rfl,m',by lia,b,by lia⟩⟩
       ·exact wpS_pure ⟨rfl,_,_,_,_,_,rfl,m',by lia,b,by lia⟩
     | false =>
      dsimp only
      rw [if_neg (by decide)]
      refine wpS_bind (zD_ (zcg_ (by lia)) ?_)
      have m':=m.b wo sx sy (by lia) fun _=>g
      rw [zcn_]
      by_cases c3:nb-1=1
      ·rw [if_pos (by simp [c3]),zdX_]
       exact wpS_pure ⟨rfl,.inl ⟨_,_,rfl,m'.fst sx sy c3 hF⟩⟩
      ·rw [if_neg (by simpa using c3)]
       split
       ·exact wpS_pure ⟨rfl,.inr ⟨_,_,_,_,_,rfl,m',a,by lia,by lia⟩⟩
       ·exact wpS_pure ⟨rfl,_,_,_,_,_,rfl,m',a,by lia,by lia⟩
    case p1 =>
     rintro c st' ⟨rfl,h⟩
     rcases h with ⟨R,y,rfl,g⟩ | ⟨O,na,nb,ac,bc,rfl,m,a,b,d⟩
     ·exact wpS_pure ⟨sm,R,_,rfl,g⟩
     ·dsimp only
      refine wpS_bind (wpS_lift (wpAny_rule ⟨rfl,?_⟩))
      refine wpS_bind (wpS_mono (wpS_forRange
       (I:=fun y c st'=>HiN it lt X Y st (x+1+min y 1) c st')
       (Q:=fun c st'=>HiR it lt X Y st c st'∨HiN it lt X Y st (x+1+1) c st') ?s2 ?f2 ⟨sm,_,_,_,_,_,_,rfl,m,a,b,by lia⟩) ?p2)
      case f2 =>
       rintro c st2 h
       rw [show min (max 0 (X.length+Y.length)) 1=1 by lia] at h
       exact .inr h
      case p2 =>
       rintro c st2 (⟨sm2,R,y,rfl,g⟩ | ⟨sm2,O,na,nb,mg,ac,bc,rfl,m,a,b,d⟩)
       ·exact wpS_pure ⟨sm2,R,_,rfl,g⟩
       ·dsimp only
        refine wpS_bind (zde_ fun st3 sm3=>wpS_pure ⟨sm2.trans sm3,_,_,_,_,rfl,m,a,b,by lia⟩)
      case s2 =>
       rintro y c st2 _ hy ⟨sm2,O,na,nb,mg,ac,bc,rfl,m,a,b,d⟩
       have ha:=m.1
       have hb:=m.2.1
       dsimp only
       have key:∀ mg st3 q,Sm st st3→q≤na→(∀ j,j<q→Pb false lt (Y.getD (nb-1) 0) (X.getD j 0)=true)→(∀ j,q≤j→j<na→Pb false lt (Y.getD (nb-1) 0) (X.getD j 0)=false)→wpS (model prog w) A E s (hi1 (ar it X) (ar it Y) na nb q (ar it O) mg bc) (HiP it lt X Y st (x+1+1)) st3:=fun mg st3 q sm3 hq k1 k2 =>
        znR_ C wo hX hY sx sy hF sm3 kd m a b (by lia) hq k1 k2
       by_cases c3:mg > 1
       ·rw [if_pos c3]
        refine wpS_bind (zde_ fun st3 sm3=>wpS_bind (zD_ (zcg_ (by lia)) (wpS_bind (zk2_ C wo hX sx (hY _ (zK_ (by lia))) ((sm2.trans sm3).k.trans kd) ha a fun q hq k1 k2=>?_))))
        dsimp only
        refine wpS_mono (key (mg-1) st3 q (sm2.trans sm3) hq k1 k2) fun r st' h=>?_
        cases r with
        | done c=>exact h
        | yield c =>
         show HiN it lt X Y st (x+1+min (y+1) 1) c st'
         rw [show min (y+1) 1=1 by lia]; exact h
       ·rw [if_neg c3]
        refine wpS_bind (zde_ fun st3 sm3=>wpS_bind (zD_ (zcg_ (by lia)) (wpS_bind (zk2_ C wo hX sx (hY _ (zK_ (by lia))) ((sm2.trans sm3).k.trans kd) ha a fun q hq k1 k2=>?_))))
        dsimp only
        refine wpS_mono (key mg st3 q (sm2.trans sm3) hq k1 k2) fun r st' h=>?_
        cases r with
        | done c=>exact h
        | yield c =>
         show HiN it lt X Y st (x+1+min (y+1) 1) c st'
         rw [show min (y+1) 1=1 by lia]; exact h
end
end L2
namespace L2
open PySem PySem.Spec PyProof.Rows PySem.W
section
variable {prog:Program}{w:World}{A:Around}{E:Value→Shared→Prop}{s:Shared}{κ:SortKind}{it:Nat→Keyed}{lt:Nat→Nat→Bool}{n:Nat}{st st1 st2:SortSt}
theorem znY_ (L M N:List Nat) (x y:Nat) {i:Nat}(h:i=L.length):(ar it (L++x::N)).setIfInBounds i (it y)=ar it (L++y::N):=by
 subst h
 simp [ar,List.set_append]
theorem zjy_:∀ (R L M N:List Nat) (j sa:Nat),M.length=R.length→sa+j=L.length→((R.map it).zipIdx j).foldl (fun a (p:Keyed×Nat)=>a.setIfInBounds (sa+p.2) p.1) (ar it (L++M++N))=ar it (L++R++N)
 | [],L,M,N,j,sa,h,_=>by
  have:M=[]:=List.length_eq_zero_iff.mp h
  subst this; rfl
 | r::R,L,[],N,j,sa,h,_=>by cases h
 | r::R,L,m::M,N,j,sa,h,e=>by
  rw [List.map_cons,List.zipIdx_cons,List.foldl_cons]
  show List.foldl _ ((ar it (L++m::M++N)).setIfInBounds (sa+j) (it r)) _=_
  rw [List.append_assoc,List.cons_append,znY_ L [] (M++N) m r e]
  have:=zjy_ R (L++[r]) M N (j+1) sa (by simpa using h) (by rw [List.length_append,List.length_singleton]; lia)
  rw [List.append_assoc (L++[r]),List.append_assoc L [r],List.singleton_append] at this
  rw [this]
  simp
theorem zha_ {X Y:List Nat}{k m:Nat}{R:List Nat}(wo:WOr lt) (sx:X.Pairwise (le lt)) (sy:Y.Pairwise (le lt)) (hk:∀ i,i<k→i<X.length→le lt (X.getD i 0) (Y.getD 0 0)) (hm:∀ j,m≤j→j<Y.length→le lt (X.getD (X.length-1) 0) (Y.getD j 0)) (g:Good lt (X.drop k) (Y.take m) R) :
  Good lt X Y (X.take k++R++Y.drop m):=by
 have mem:∀ {l:List Nat}{x:Nat},x∈l→∃ i,i<l.length∧l.getD i 0=x:=fun {l x} h=>by
  obtain ⟨i,hi,e⟩:=List.mem_iff_getElem.mp h
  exact ⟨i,hi,by rw [List.getD_eq_getElem?_getD,List.getElem?_eq_getElem hi]; exact e⟩
 have mt:∀ {l:List Nat}{x k:Nat},x∈l.take k→∃ i,i<k∧i<l.length∧l.getD i 0=x:=fun {l x k} h=>by
  obtain ⟨i,hi,e⟩:=mem h
  rw [List.length_take] at hi
  refine ⟨i,by lia,by lia,?_⟩
  rw [← e,List.getD_eq_getElem?_getD,List.getD_eq_getElem?_getD,List.getElem?_take,if_pos (by lia)]
 have md:∀ {l:List Nat}{x k:Nat},x∈l.drop k→∃ i,k≤i∧i<l.length∧l.getD i 0=x:=fun {l x k} h=>by
  obtain ⟨i,hi,e⟩:=mem h
  rw [List.length_drop] at hi
  refine ⟨k+i,by lia,by lia,?_⟩
  rw [← e,List.getD_eq_getElem?_getD,List.getD_eq_getElem?_getD,List.getElem?_drop]
 refine ⟨?_,?_⟩
 ·refine ((g.1.append_left _).append_right _).trans ?_
  rw [List.append_assoc,List.append_assoc,List.take_append_drop,← List.append_assoc,List.take_append_drop]
 ·refine List.pairwise_append.mpr ⟨List.pairwise_append.mpr ⟨sx.take,g.2,fun a ha b hb=>?_⟩,sy.drop,fun a ha b hb=>?_⟩
  ·obtain ⟨i,h1,h2,rfl⟩:=mt ha
   rcases List.mem_append.mp (g.1.mem_iff.mp hb) with h | h
   ·obtain ⟨j,h3,h4,rfl⟩:=md h
    exact zis_ sx wo (by lia) h4
   ·obtain ⟨j,h3,h4,rfl⟩:=mt h
    exact wo.tr (hk i h1 h2) (zis_ sy wo (Nat.zero_le _) h4)
  ·obtain ⟨j,h3,h4,rfl⟩:=md hb
   have hlast:∀ i,i<X.length→le lt (X.getD i 0) (Y.getD j 0):=fun i hi=>wo.tr (zis_ sx wo (j:=X.length-1) (by lia) (by lia)) (hm j h3 h4)
   rcases List.mem_append.mp ha with h | h
   ·obtain ⟨i,_,h2,rfl⟩:=mt h
    exact hlast i h2
   ·rcases List.mem_append.mp (g.1.mem_iff.mp h) with h | h
    ·obtain ⟨i,_,h2,rfl⟩:=md h
     exact hlast i h2
    ·obtain ⟨i,h1,h2,rfl⟩:=mt h
     exact zis_ sy wo (by lia) h4
theorem zkk_ (L M N:List Nat) {i j:Nat}(hi:i=L.length) (hj:j=L.length+M.length):(ar it (L++M++N)).extract i j=ar it M:=by
 subst hi; subst hj
 rw [zdS_,List.append_assoc,List.drop_append_of_le_length (Nat.le_refl _),List.drop_length,List.nil_append,show L.length+M.length-L.length=M.length by lia,List.take_append_of_le_length (Nat.le_refl _),List.take_length]
theorem cut4 (L1 X Y L2:List Nat) (k m:Nat):L1++X++Y++L2=(L1++X.take k)++(X.drop k++Y.take m)++(Y.drop m++L2):=by
 conv=>lhs; rw [← List.take_append_drop k X,← List.take_append_drop m Y]
 simp only [List.append_assoc]
theorem zot_ {x:SortSt}{Q:PUnit→SortSt→Prop}(h:Q ⟨⟩ x):wpS (model prog w) A E s (set x:StateT SortSt Sem PUnit) Q st:=by
 unfold wpS; rw [StateT.run_set]; exact wpAny_pure ⟨rfl,h⟩
theorem zib_ (C:CmpS prog w A E s κ it lt n) (wo:WOr lt) {P1 P2:List (Nat×Nat×Nat)}{L1 X Y L2:List Nat}{pw pw2 sa sb na nb i:Nat}{Q:Bool→SortSt→Prop}(kd:kindOf st=κ) (fl:failedOf st=none) (hp:pendingOf st=(P1++(sa,na,pw)::(sb,nb,pw2)::P2).toArray) (ha:arrOf st=ar it (L1++X++Y++L2))
  (hb:∀ x∈L1++X++Y++L2,x<n) (h1:L1.length=sa) (h2:X.length=na) (h3:Y.length=nb) (h4:sb=sa+na) (hi:i=P1.length) (nx:0<na) (ny:0<nb) (sx:X.Pairwise (le lt)) (sy:Y.Pairwise (le lt))
  (q:∀ M (st':SortSt),Good lt X Y M→kindOf st'=κ→failedOf st'=none→pendingOf st'=(P1++(sa,na+nb,pw)::P2).toArray→arrOf st'=ar it (L1++M++L2)→Q true st') :
  wpS (model prog w) A E s (mergeAt' i) Q st:=by
 rw [zkP_]
 refine wpS_bind (wpS_get ?_)
 have g1:(pendingOf st)[i]?=some (sa,na,pw):=by rw [hp,hi]; simp
 have g2:(pendingOf st)[i+1]?=some (sb,nb,pw2):=by rw [hp,hi]; simp
 rw [g1,g2]
 dsimp only
 refine wpS_bind (zot_ ?_)
 have hpd:((pendingOf st).setIfInBounds i (sa,na+nb,pw)).eraseIdxIfInBounds (i+1)=(P1++(sa,na+nb,pw)::P2).toArray:=by
  rw [hp,hi]
  simp [List.set_append,List.eraseIdx_append_of_length_le]
 rw [hpd]
 generalize hst:setPending st (P1++(sa,na+nb,pw)::P2).toArray=st0
 have k0:kindOf st0=κ:=by rw [← hst]; exact kd
 have f0:failedOf st0=none:=by rw [← hst]; exact fl
 have p0:pendingOf st0=(P1++(sa,na+nb,pw)::P2).toArray:=by rw [← hst]
 have a0:arrOf st0=ar it (L1++X++Y++L2):=by rw [← hst]; exact ha
 have atX:∀ i,i<X.length→(L1++X++Y++L2).getD (sa+i) 0=X.getD i 0:=fun i hi=>by
  rw [List.append_assoc,List.append_assoc,List.getD_eq_getElem?_getD,List.getD_eq_getElem?_getD,← h1,List.getElem?_append_right (by lia),show L1.length+i-L1.length=i by lia,List.getElem?_append_left hi]
 have atY:∀ i,i<Y.length→(L1++X++Y++L2).getD (sb+i) 0=Y.getD i 0:=fun i hi=>by
  rw [List.append_assoc,List.getD_eq_getElem?_getD,List.getD_eq_getElem?_getD,List.getElem?_append_right (by rw [List.length_append]; lia),List.length_append,show sb+i-(L1.length+X.length)=i by lia,List.getElem?_append_left hi]
 have ln:(L1++X++Y++L2).length=sa+na+nb+L2.length:=by rw [List.length_append,List.length_append,List.length_append]; lia
 have hX:∀ x∈X,x<n:=fun x hx=>hb x (by simp [hx])
 have hY:∀ x∈Y,x<n:=fun x hx=>hb x (by simp [hx])
 rw [ha]
 have y0:=atY 0 (by lia)
 rw [Nat.add_zero] at y0
 refine wpS_bind (zD_ (zcg_ (by lia)) ?_)
 rw [y0]
 refine wpS_bind (zcz_ C (xs:=fun j=>X.getD j 0) (fun j hj=>⟨by rw [← atX j (by lia)]; exact zcg_ (by lia),hX _ (zK_ (by lia))⟩) (hY _ (zK_ (by lia))) k0 (fun a b hab hb h=>?_) (by lia) fun k hk k1 k2=>?_)
 ·have h:(!(lt (Y.getD 0 0) (X.getD b 0)))=true:=h
  show (!(lt (Y.getD 0 0) (X.getD a 0)))=true
  have h':lt (Y.getD 0 0) (X.getD b 0)=false:=by simpa using h
  rw [wo.tr (zis_ sx wo hab (by lia)) h']; rfl
 ·dsimp only
  have k1':∀ i,i<k→i<X.length→le lt (X.getD i 0) (Y.getD 0 0):=fun i hi _=>by have:=k1 i hi; unfold Pb at this; simpa using this
  have done:∀ m,(∀ j,m≤j→j<Y.length→le lt (X.getD (X.length-1) 0) (Y.getD j 0))→∀ R,Good lt (X.drop k) (Y.take m) R→R=X.drop k++Y.take m→Q true st0:=fun m hm R hR e=>by
   have:=zha_ wo sx sy k1' hm hR
   refine q _ st0 this k0 f0 p0 ?_
   rw [a0,e,cut4 L1 X Y L2 k m]
   simp only [List.append_assoc]
  by_cases c1:na-k=0
  ·rw [if_pos (by simp [c1])]
   refine wpS_pure (done 0 (fun j _ hj=>?_) [] ⟨by rw [List.drop_eq_nil_of_le (by lia)]; simp,List.Pairwise.nil⟩ (by rw [List.drop_eq_nil_of_le (by lia)]; simp))
   exact wo.tr (k1' (X.length-1) (by lia) (by lia)) (zis_ sy wo (Nat.zero_le _) hj)
  ·rw [if_neg (by simpa using c1)]
   have xl:=atX (na-1) (by lia)
   rw [show sa+k+(na-k)-1=sa+(na-1) by lia]
   refine wpS_bind (zD_ (zcg_ (by lia)) ?_)
   rw [xl]
   refine wpS_bind (zcz_ C (xs:=fun j=>Y.getD j 0) (fun j hj=>⟨by rw [← atY j (by lia)]; exact zcg_ (by lia),hY _ (zK_ (by lia))⟩) (hX _ (zK_ (by lia))) k0 (fun a b hab hb h=>?_) (by lia) fun m hm m1 m2=>?_)
   ·have h:lt (Y.getD b 0) (X.getD (na-1) 0)=true:=h
    show lt (Y.getD a 0) (X.getD (na-1) 0)=true
    cases z:lt (Y.getD a 0) (X.getD (na-1) 0) with
    | true=>rfl
    | false=>rw [wo.tr (a:=X.getD (na-1) 0) (b:=Y.getD a 0) (c:=Y.getD b 0) z (zis_ sy wo hab (by lia))] at h; cases h
   ·dsimp only
    have hm2:∀ j,m≤j→j<Y.length→le lt (X.getD (X.length-1) 0) (Y.getD j 0):=fun j a b=>by
     have:=m2 j a (by lia)
     rw [h2]; exact this
    by_cases c2:m=0
    ·rw [if_pos (by simp [c2])]
     subst c2
     refine wpS_pure (done 0 hm2 (X.drop k) ⟨by simp,sx.drop⟩ (by simp))
    ·rw [if_neg (by simpa using c2)]
     have e1:(ar it (L1++X++Y++L2)).extract (sa+k) sb=ar it (X.drop k):=by
      rw [show L1++X++Y++L2=(L1++X.take k)++X.drop k++(Y++L2) by rw [cut4 L1 X Y L2 k 0]; simp]
      exact zkk_ _ _ _ (by rw [List.length_append,List.length_take]; lia) (by rw [List.length_append,List.length_take,List.length_drop]; lia)
     have e2:(ar it (L1++X++Y++L2)).extract sb (sb+m)=ar it (Y.take m):=by
      rw [show L1++X++Y++L2=(L1++X)++Y.take m++(Y.drop m++L2) by rw [cut4 L1 X Y L2 0 m]; simp]
      exact zkk_ _ _ _ (by rw [List.length_append]; lia) (by rw [List.length_append,List.length_take]; lia)
     rw [e1,e2]
     have fin:∀ R st',Good lt (X.drop k) (Y.take m) R→Sm st0 st'→wpS (model prog w) A E s (do
       modify fun s=>setArr s ((ar it R).toList.zipIdx.foldl (fun a (p,j)=>a.setIfInBounds (sa+k+j) p) (arrOf s))
       return (failedOf (← get)).isNone) Q st':=fun R st' g sm=>by
      refine wpS_bind (wpS_modify (wpS_bind (wpS_get (wpS_pure ?_))))
      have good:=zha_ wo sx sy k1' hm2 g
      have hl:(X.drop k++Y.take m).length=R.length:=g.1.length_eq.symm
      have put:=zjy_ (it:=it) R (L1++X.take k) (X.drop k++Y.take m) (Y.drop m++L2) 0 (sa+k) hl (by rw [List.length_append,List.length_take]; lia)
      rw [← cut4 L1 X Y L2 k m] at put
      have ff:failedOf (setArr st' ((ar it R).toList.zipIdx.foldl (fun a (p,j)=>a.setIfInBounds (sa+k+j) p) (arrOf st')))=none:=sm.f.trans f0
      show Q (failedOf (setArr st' ((ar it R).toList.zipIdx.foldl (fun a (p,j)=>a.setIfInBounds (sa+k+j) p) (arrOf st')))).isNone _
      rw [ff]
      refine q _ _ good (sm.k.trans k0) ff (sm.p.trans p0) ?_
      show (ar it R).toList.zipIdx.foldl (fun a (p,j)=>a.setIfInBounds (sa+k+j) p) (arrOf st')=_
      rw [sm.a,a0]
      refine Eq.trans ?_ (put.trans ?_)
      ·rfl
      ·simp only [List.append_assoc]
     have hX':∀ x∈X.drop k,x<n:=fun x hx=>hX x (List.mem_of_mem_drop hx)
     have hY':∀ x∈Y.take m,x<n:=fun x hx=>hY x (List.mem_of_mem_take hx)
     have dx:∀ i,(X.drop k).getD i 0=X.getD (k+i) 0:=fun i=>by rw [List.getD_eq_getElem?_getD,List.getD_eq_getElem?_getD,List.getElem?_drop]
     have dy:∀ i,i<m→(Y.take m).getD i 0=Y.getD i 0:=fun i hi=>by rw [List.getD_eq_getElem?_getD,List.getD_eq_getElem?_getD,List.getElem?_take,if_pos hi]
     have lx:(X.drop k).length=na-k:=by rw [List.length_drop]; lia
     have ly:(Y.take m).length=m:=by rw [List.length_take]; lia
     have h0:le lt ((Y.take m).getD 0 0) ((X.drop k).getD 0 0):=by
      rw [dx,dy 0 (by lia)]
      have:=k2 k (Nat.le_refl _) (by lia)
      unfold Pb at this
      exact wo.asym (by simpa using this)
     have hlast:(X.drop k).getD ((X.drop k).length-1) 0=X.getD (na-1) 0:=by rw [dx,lx,show k+(na-k-1)=na-1 by lia]
     have hL:∀ y∈Y.take m,le lt y ((X.drop k).getD ((X.drop k).length-1) 0):=fun y hy=>by
      obtain ⟨j,hj,e⟩:=List.mem_iff_getElem.mp hy
      rw [hlast]
      have:y=Y.getD j 0:=by rw [← dy j (by lia),List.getD_eq_getElem?_getD,List.getElem?_eq_getElem hj]; exact e.symm
      rw [this]
      exact wo.asym (m1 j (by lia))
     by_cases c3:na-k≤m
     ·rw [if_pos c3]
      exact wpS_bind (zlp_ C wo hX' hY' sx.drop sy.take (by lia) (by lia) k0 h0 hL fun R st' g sm=>fin R st' g sm)
     ·rw [if_neg c3]
      refine wpS_bind (zle_ C wo hX' hY' sx.drop sy.take (by lia) (by lia) k0 (fun x hx=>?_) (hL _ (zK_ (by lia))) fun R st' g sm=>fin R st' g sm)
      obtain ⟨j,hj,e⟩:=List.mem_iff_getElem.mp hx
      have:x=(X.drop k).getD j 0:=by rw [List.getD_eq_getElem?_getD,List.getElem?_eq_getElem hj]; exact e.symm
      rw [this]
      exact wo.tr h0 (zis_ sx.drop wo (Nat.zero_le _) hj)
end
section
variable {prog:Program}{w:World}{A:Around}{E:Value→Shared→Prop}{s:Shared}{κ:SortKind}{it:Nat→Keyed}{lt:Nat→Nat→Bool}{n lo:Nat}{st st1 st2:SortSt}{p:Array Nat}{pd:Array (Nat×Nat×Nat)}
structure SA (κ:SortKind) (it:Nat→Keyed) (n:Nat) (pd:Array (Nat×Nat×Nat)) (p:Array Nat) (st:SortSt):Prop where
 k:kindOf st=κ
 f:failedOf st=none
 d:pendingOf st=pd
 a:arrOf st=p.map it
 m:Pm p n
theorem SA.at (h:SA κ it n pd p st) {i:Nat}(hi:i<n):(arrOf st)[i]?=some (it (p.getD i 0)):=by
 have hs:=zbZ_ h.m
 rw [h.a,Array.getElem?_map,Array.getD_eq_getD_getElem?,getElem?_pos p i (by lia)]; rfl
theorem zdc_ (C:CmpS prog w A E s κ it lt n) (h:SA κ it n pd p st) {i j:Nat}{Q:Option Bool→SortSt→Prop}(hi:i<n) (hj:j<n) (q:Q (some (lt (p.getD i 0) (p.getD j 0))) st):wpS (model prog w) A E s (ltAt' i j) Q st:=by
 rw [ltAt'_eq]
 refine wpS_bind (wpS_get ?_)
 show wpS _ _ _ _ (do let x ← elem' (arrOf st) i; let y ← elem' (arrOf st) j; lt' x y) Q st
 exact wpS_bind (zD_ (h.at hi) (wpS_bind (zD_ (h.at hj) (C _ _ _ _ (pm_lt h.m hi) (pm_lt h.m hj) h.k q))))
theorem zi0_ (h:SA κ it n pd p st) {i j:Nat}{Q:Unit→SortSt→Prop}(q:∀ st',SA κ it n pd (kas_rev p i j) st'→Q () st'):wpS (model prog w) A E s (reverseSlice' i j) Q st:=by
 rw [reverseSlice'_eq]
 refine wpS_modify (q _ ⟨h.k,h.f,h.d,?_,zoH_ h.m i j⟩)
 show mirror (arrOf st) i j ((j-i) / 2)=_
 rw [h.a]; exact kas_swaps_map it _ _ _ p
def AscR (lt:Nat→Nat→Bool) (p:Array Nat) (a b:Nat):Prop:=∀ i j,a≤i→i≤j→j<b→le lt (p.getD i 0) (p.getD j 0)
def DscR (lt:Nat→Nat→Bool) (p:Array Nat) (a b:Nat):Prop:=∀ i j,a≤i→i≤j→j<b→le lt (p.getD j 0) (p.getD i 0)
abbrev Pre (p p':Array Nat) (lo:Nat):Prop:=∀ k,k<lo→p'.getD k 0=p.getD k 0
theorem zf1_ {p':Array Nat}(h:Pre p p' lo) {i j:Nat}(hi:lo≤i) (hj:j≤p'.size):Pre p (kas_rev p' i j) lo:=fun k hk=>by
 rw [zdF_ hj,if_neg (by lia)]; exact h k hk
theorem AscR.more (wo:WOr lt) {b:Nat}(h:AscR lt p lo b) (hb:lo<b) (hl:lt (p.getD b 0) (p.getD (b-1) 0)=false):AscR lt p lo (b+1):=fun i j hi hij hj=>by
 by_cases e:j<b
 ·exact h i j hi hij e
 ·obtain rfl:j=b:=by lia
  by_cases e2:i=j
  ·subst e2; exact wo.refl _
  ·exact wo.tr (h i (j-1) hi (by lia) (by lia)) hl
theorem AscR.one (wo:WOr lt):AscR lt p lo (lo+1):=fun i j hi hij hj=>by
 obtain rfl:i=j:=by lia
 exact wo.refl _
abbrev Run (κ:SortKind) (it:Nat→Keyed) (lt:Nat→Nat→Bool) (n:Nat) (pd:Array (Nat×Nat×Nat)) (p:Array Nat) (lo nrem:Nat) (r:Option Nat) (st:SortSt):Prop:=∃ m p',r=some m∧1≤m∧m≤nrem∧SA κ it n pd p' st∧AscR lt p' lo (lo+m)∧Pre p p' lo
def cr4 (lo nrem m:Nat):StateT SortSt Sem (Option Nat):=do
 let mut m:=m
 for _ in [m:nrem] do
  let some sm ← ltAt' (lo+m) (lo+m-1) | return none
  if sm then break
  m:=m+1
 return some m
theorem znN_ (C:CmpS prog w A E s κ it lt n) (wo:WOr lt) {p0:Array Nat}{nrem m:Nat}(h:SA κ it n pd p st) (hn:lo+nrem=n) (h1:1≤m) (hm:m≤nrem) (ha:AscR lt p lo (lo+m)) (hp:Pre p0 p lo):wpS (model prog w) A E s (cr4 lo nrem m) (Run κ it lt n pd p0 lo nrem) st:=by
 unfold cr4
 dsimp only
 refine wpS_bind (wpS_mono (wpS_forRange (I:=fun x c st'=>st'=st∧c=(none,x)∧AscR lt p lo (lo+x)) (Q:=fun c st'=>st'=st∧∃ x,m≤x∧x≤nrem∧c=(none,x)∧AscR lt p lo (lo+x)) ?s1 ?f1 ⟨rfl,rfl,ha⟩) ?p1)
 case p1 =>
  rintro c st' ⟨rfl,x,a,b,rfl,d⟩
  exact wpS_pure ⟨x,p,rfl,by lia,b,h,d,hp⟩
 case f1 =>
  rintro c st' ⟨rfl,rfl,d⟩
  exact ⟨rfl,_,by lia,by lia,rfl,d⟩
 case s1 =>
  rintro x c st' hx1 hx2 ⟨rfl,rfl,d⟩
  dsimp only
  refine wpS_bind (zdc_ C h (by lia) (by lia) ?_)
  cases g:lt (p.getD (lo+x) 0) (p.getD (lo+x-1) 0) with
  | true=>dsimp only; rw [if_pos rfl]; exact wpS_pure ⟨rfl,x,hx1,by lia,rfl,d⟩
  | false=>dsimp only; rw [if_neg (by decide)]; exact wpS_pure ⟨rfl,rfl,d.more wo (by lia) g⟩
def cr3 (lo nrem m:Nat):StateT SortSt Sem (Option Nat):=do
 reverseSlice' lo (lo+m)
 cr4 lo nrem m
theorem znl_ (C:CmpS prog w A E s κ it lt n) (wo:WOr lt) {p0:Array Nat}{nrem m:Nat}(h:SA κ it n pd p st) (hn:lo+nrem=n) (h1:1≤m) (hm:m≤nrem) (hd:DscR lt p lo (lo+m)) (hp:Pre p0 p lo):wpS (model prog w) A E s (cr3 lo nrem m) (Run κ it lt n pd p0 lo nrem) st:=by
 unfold cr3
 have hsz:=zbZ_ h.m
 refine wpS_bind (zi0_ h fun st' h'=>znN_ C wo h' hn h1 hm (fun i j hi hij hj=>?_) (zf1_ hp (Nat.le_refl _) (by lia)))
 rw [zdF_ (by lia),zdF_ (by lia),if_pos (by lia),if_pos (by lia)]
 exact hd _ _ (by lia) (by lia) (by lia)
theorem zkl_ (wo:WOr lt) {a m q:Nat}(hm:m≤p.size) (hq:a+q+1≤m) (hd:DscR lt p a m) (he:∀ i,m-(q+1)≤i→i<m→le lt (p.getD i 0) (p.getD (m-1) 0)):DscR lt (kas_rev p (m-(q+1)) m) a m:=by
 intro i j hi hij hj
 have r1:=zdF_ (p:=p) (i:=m-(q+1)) hm i
 have r2:=zdF_ (p:=p) (i:=m-(q+1)) hm j
 show lt _ _=false
 rw [r1,r2]
 by_cases b:m-(q+1)≤i
 ·rw [if_pos ⟨b,by lia⟩,if_pos ⟨by lia,hj⟩]
  exact wo.tr (he _ (by lia) (by lia)) (hd _ (m-1) (by lia) (by lia) (by lia))
 ·rw [if_neg (fun z=>b z.1)]
  by_cases d:m-(q+1)≤j
  ·rw [if_pos ⟨d,hj⟩]; exact hd _ _ (by lia) (by lia) (by lia)
  ·rw [if_neg (fun z=>d z.1)]; exact hd _ _ hi hij hj
def cr1 (lo nrem m:Nat):StateT SortSt Sem (Option Nat):=do
 liftM (rule "list.sort.descending-run")
 let mut m:=m+1; let mut q:=0
 for _ in [m:nrem] do
  let some sm ← ltAt' (lo+m) (lo+m-1) | return none
  if sm then
   if q > 0 then reverseSlice' (lo+m-(q+1)) (lo+m)
   q:=0
  else
   let some lg ← ltAt' (lo+m-1) (lo+m) | return none
   if lg then break
   q:=q+1
  m:=m+1
 if q > 0 then reverseSlice' (lo+m-(q+1)) (lo+m)
 cr3 lo nrem m
theorem znh_ (C:CmpS prog w A E s κ it lt n) (wo:WOr lt) {p0:Array Nat}{nrem m:Nat}(h:SA κ it n pd p st) (hn:lo+nrem=n) (hm:m+1≤nrem) (hd:DscR lt p lo (lo+m+1)) (hp:Pre p0 p lo):wpS (model prog w) A E s (cr1 lo nrem m) (Run κ it lt n pd p0 lo nrem) st:=by
 unfold cr1
 dsimp only
 refine wpS_bind (wpS_lift (wpAny_rule ⟨rfl,?_⟩))
 have i1:∀ i,lo+(m+1)-(0+1)≤i→i<lo+(m+1)→le lt (p.getD i 0) (p.getD (lo+(m+1)-1) 0):=fun i a b=>by
  obtain rfl:i=lo+m:=by lia
  exact wo.refl _
 let J:=fun (x q:Nat) (st':SortSt)=>∃ p',SA κ it n pd p' st'∧q+1≤x∧DscR lt p' lo (lo+x)∧Pre p0 p' lo∧∀ i,lo+x-(q+1)≤i→i<lo+x→le lt (p'.getD i 0) (p'.getD (lo+x-1) 0)
 refine wpS_bind (wpS_mono (wpS_forRange (I:=fun x c st'=>∃ q,c=(none,x,q)∧J x q st') (Q:=fun c st'=>∃ x q,m+1≤x∧x≤nrem∧c=(none,x,q)∧J x q st') ?s1 ?f1 ⟨0,rfl,p,h,by lia,hd,hp,i1⟩) ?p1)
 case p1 =>
  rintro c st' ⟨x,q,a,b,rfl,p',h',e1,e2,e3,e4⟩
  have hsz:=zbZ_ h'.m
  dsimp only
  by_cases z:q > 0
  ·rw [if_pos z]
   exact wpS_bind (zi0_ h' fun st2 h2=>znl_ C wo h2 hn (by lia) b (zkl_ wo (by lia) (by lia) e2 e4) (zf1_ e3 (by lia) (by lia)))
  ·rw [if_neg z]
   exact znl_ C wo h' hn (by lia) b e2 e3
 case f1 =>
  rintro c st' ⟨q,rfl,d⟩
  exact ⟨_,q,by lia,by lia,rfl,d⟩
 case s1 =>
  rintro x c st' hx1 hx2 ⟨q,rfl,p',h',e1,e2,e3,e4⟩
  have hsz:=zbZ_ h'.m
  dsimp only
  refine wpS_bind (zdc_ C h' (by lia) (by lia) ?_)
  cases g:lt (p'.getD (lo+x) 0) (p'.getD (lo+x-1) 0) with
  | true =>
   dsimp only
   rw [if_pos rfl]
   have fin:∀ (p1:Array Nat) (st2:SortSt),SA κ it n pd p1 st2→DscR lt p1 lo (lo+x)→p1.getD (lo+x) 0=p'.getD (lo+x) 0→(∀ i,lo≤i→i<lo+x→le lt (p'.getD (lo+x-1) 0) (p1.getD i 0))→Pre p0 p1 lo→J (x+1) 0 st2:=by
    intro p1 st2 hp1 hd1 f1 hb f2
    refine ⟨p1,hp1,by lia,fun i j hi hij hj=>?_,f2,fun i a b=>?_⟩
    ·by_cases e:j<lo+x
     ·exact hd1 i j hi hij e
     ·obtain rfl:j=lo+x:=by lia
      by_cases e2:i=lo+x
      ·subst e2; exact wo.refl _
      ·rw [f1]; exact wo.tr (wo.asym g) (hb i hi (by lia))
    ·obtain rfl:i=lo+x:=by lia
     exact wo.refl _
   by_cases z:q > 0
   ·rw [if_pos z]
    refine wpS_bind (zi0_ h' fun st2 h2=>wpS_pure ⟨0,rfl,fin _ st2 h2 (zkl_ wo (by lia) (by lia) e2 e4) ?_ (fun i hi hi2=>?_) (zf1_ e3 (by lia) (by lia))⟩)
    ·rw [zdF_ (by lia),if_neg (by lia)]
    ·rw [zdF_ (by lia)]
     split
     ·exact e2 _ _ (by lia) (by lia) (by lia)
     ·exact e2 _ _ (by lia) (by lia) (by lia)
   ·rw [if_neg z]
    exact wpS_pure ⟨0,rfl,fin p' st' h' e2 rfl (fun i hi hi2=>e2 _ _ hi (by lia) (by lia)) e3⟩
  | false =>
   dsimp only
   rw [if_neg (by decide)]
   refine wpS_bind (zdc_ C h' (by lia) (by lia) ?_)
   cases g2:lt (p'.getD (lo+x-1) 0) (p'.getD (lo+x) 0) with
   | true=>dsimp only; rw [if_pos rfl]; exact wpS_pure ⟨x,q,hx1,by lia,rfl,p',h',e1,e2,e3,e4⟩
   | false =>
    dsimp only
    rw [if_neg (by decide)]
    refine wpS_pure ⟨q+1,rfl,p',h',by lia,fun i j hi hij hj=>?_,e3,fun i a b=>?_⟩
    ·by_cases e:j<lo+x
     ·exact e2 i j hi hij e
     ·obtain rfl:j=lo+x:=by lia
      by_cases e5:i=lo+x
      ·subst e5; exact wo.refl _
      ·exact wo.tr g2 (e2 i (lo+x-1) hi (by lia) (by lia))
    ·show le lt (p'.getD i 0) (p'.getD (lo+x) 0)
     by_cases e:i=lo+x
     ·subst e; exact wo.refl _
     ·exact wo.tr (e4 i (by lia) (by lia)) g
theorem zly_ (C:CmpS prog w A E s κ it lt n) (wo:WOr lt) {nrem:Nat}(h:SA κ it n pd p st) (hn:lo+nrem=n) (h1:1≤nrem):wpS (model prog w) A E s (countRun' lo nrem) (Run κ it lt n pd p lo nrem) st:=by
 rw [countRun'_eq]
 dsimp only
 have hsz:=zbZ_ h.m
 refine wpS_bind (wpS_mono (wpS_forRange (I:=fun x c st'=>st'=st∧c=(none,x)∧AscR lt p lo (lo+x)) (Q:=fun c st'=>st'=st∧∃ x,1≤x∧x≤nrem∧c=(none,x)∧AscR lt p lo (lo+x)∧(x<nrem→lt (p.getD (lo+x) 0) (p.getD (lo+x-1) 0)=true)) ?s1 ?f1 ⟨rfl,rfl,AscR.one wo⟩) ?p1)
 case f1 =>
  rintro c st' ⟨rfl,rfl,d⟩
  exact ⟨rfl,_,by lia,by lia,rfl,d,fun z=>by lia⟩
 case s1 =>
  rintro x c st' hx1 hx2 ⟨rfl,rfl,d⟩
  dsimp only
  refine wpS_bind (zdc_ C h (by lia) (by lia) ?_)
  cases g:lt (p.getD (lo+x) 0) (p.getD (lo+x-1) 0) with
  | true=>dsimp only; rw [if_pos rfl]; exact wpS_pure ⟨rfl,x,hx1,by lia,rfl,d,fun _=>g⟩
  | false=>dsimp only; rw [if_neg (by decide)]; exact wpS_pure ⟨rfl,rfl,d.more wo (by lia) g⟩
 case p1 =>
  rintro c st' ⟨rfl,x,a,b,rfl,d,g⟩
  dsimp only
  by_cases e:x=nrem
  ·rw [if_pos (by simp [e])]
   exact wpS_pure ⟨x,p,rfl,a,b,h,d,fun _ _=>rfl⟩
  ·rw [if_neg (by simpa using e)]
   have hl:=g (by lia)
   by_cases z:x > 1
   ·rw [if_pos z]
    refine wpS_bind (zdc_ C h (by lia) (by lia) ?_)
    cases c:lt (p.getD lo 0) (p.getD (lo+x-1) 0) with
    | true=>dsimp only; rw [if_pos rfl]; exact wpS_pure ⟨x,p,rfl,a,b,h,d,fun _ _=>rfl⟩
    | false =>
     dsimp only
     rw [if_neg (by decide)]
     have hall:∀ i j,lo≤i→i<lo+x→lo≤j→j<lo+x→le lt (p.getD i 0) (p.getD j 0):=fun i j hi hi2 hj hj2=>wo.tr (wo.tr (d i (lo+x-1) hi (by lia) (by lia)) c) (d lo j (by lia) hj hj2)
     refine wpS_bind (zi0_ h fun st2 h2=>znh_ C wo h2 hn (by lia) (fun i j hi hij hj=>?_) (zf1_ (fun _ _=>rfl) (by lia) (by lia)))
     have r1:=zdF_ (p:=p) (i:=lo) (j:=lo+x) (by lia) i
     have r2:=zdF_ (p:=p) (i:=lo) (j:=lo+x) (by lia) j
     show lt _ _=false
     rw [r1,r2]
     by_cases f:j<lo+x
     ·rw [if_pos (by lia),if_pos (by lia)]; exact hall _ _ (by lia) (by lia) (by lia) (by lia)
     ·obtain rfl:j=lo+x:=by lia
      rw [if_neg (c:=lo≤lo+x∧lo+x<lo+x) (by lia)]
      by_cases f2:i<lo+x
      ·rw [if_pos (by lia)]; exact wo.tr (wo.asym hl) (hall _ _ (by lia) (by lia) (by lia) (by lia))
      ·obtain rfl:i=lo+x:=by lia
       rw [if_neg (by lia)]; exact wo.refl _
   ·rw [if_neg z]
    obtain rfl:x=1:=by lia
    refine znh_ C wo h hn (by lia) (fun i j hi hij hj=>?_) fun _ _=>rfl
    by_cases f:i=j
    ·subst f; exact wo.refl _
    ·obtain rfl:i=lo:=by lia
     obtain rfl:j=i+1:=by lia
     exact wo.asym hl
theorem zos_ (C:CmpS prog w A E s κ it lt n) (wo:WOr lt) {m ok:Nat}{Q:Bool→SortSt→Prop}(h:SA κ it n pd p st) (hn:lo+m≤n) (hok:ok≤m) (ha:AscR lt p lo (lo+ok))
  (q:∀ p' st',SA κ it n pd p' st'→AscR lt p' lo (lo+m)→Pre p p' lo→Q true st'):wpS (model prog w) A E s (binarySort' lo m ok) Q st:=by
 rw [binarySort'_eq]
 have i1:AscR lt p lo (lo+min (max ok 1) m):=fun i j hi hij hj=>by
  by_cases e:j<lo+ok
  ·exact ha i j hi hij e
  ·obtain rfl:i=j:=by lia
   exact wo.refl _
 refine wpS_bind (wpS_mono (wpS_forRange (I:=fun k c st'=>c=(none,())∧∃ p',SA κ it n pd p' st'∧AscR lt p' lo (lo+min k m)∧Pre p p' lo)
  (Q:=fun c st'=>c=(none,())∧∃ p',SA κ it n pd p' st'∧AscR lt p' lo (lo+m)∧Pre p p' lo) ?step ?fin ⟨rfl,p,h,i1,fun _ _=>rfl⟩) ?post)
 case post =>
  rintro c st' ⟨rfl,p',h',a,b⟩
  exact wpS_pure (q p' st' h' a b)
 case fin =>
  rintro c st' ⟨rfl,p',h',a,b⟩
  rw [show min (max (max ok 1) m) m=m by lia] at a
  exact ⟨rfl,p',h',a,b⟩
 case step =>
  rintro k c st' hk1 hk2 ⟨rfl,p',h',a,b⟩
  rw [show min k m=k by lia] at a
  have hsz:=zbZ_ h'.m
  dsimp only
  refine wpS_bind (wpS_mono (wpS_forRange (I:=fun x c st2=>st2=st'∧∃ l r,c=(none,l,r)∧l≤r∧r≤k∧r-l≤k-x∧(∀ i,i<l→le lt (p'.getD (lo+i) 0) (p'.getD (lo+k) 0))∧∀ i,r≤i→i<k→le lt (p'.getD (lo+k) 0) (p'.getD (lo+i) 0))
   (Q:=fun c st2=>st2=st'∧∃ l r,c=(none,l,r)∧l≤k∧(∀ i,i<l→le lt (p'.getD (lo+i) 0) (p'.getD (lo+k) 0))∧∀ i,l≤i→i<k→le lt (p'.getD (lo+k) 0) (p'.getD (lo+i) 0)) ?s1 ?f1 ⟨rfl,0,k,rfl,by lia,by lia,by lia,fun i hi=>by lia,fun i h1 h2=>by lia⟩) ?p1)
  case f1 =>
   rintro c st2 ⟨rfl,l,r,rfl,d1,d2,d3,d4,d5⟩
   exact ⟨rfl,l,r,rfl,by lia,d4,fun i x1 x2=>d5 i (by lia) x2⟩
  case s1 =>
   rintro x c st2 _ hx ⟨rfl,l,r,rfl,d1,d2,d3,d4,d5⟩
   dsimp only
   by_cases z:l ≥ r
   ·rw [if_pos z]
    exact wpS_pure ⟨rfl,l,r,rfl,by lia,d4,fun i x1 x2=>d5 i (by lia) x2⟩
   ·rw [if_neg z]
    refine wpS_bind (zdc_ C h' (by lia) (by lia) ?_)
    cases g:lt (p'.getD (lo+k) 0) (p'.getD (lo+(l+r) / 2) 0) with
    | true =>
     dsimp only; rw [if_pos rfl]
     exact wpS_pure ⟨rfl,_,_,rfl,by lia,by lia,by lia,d4,fun i x1 x2=>wo.tr (wo.asym g) (a _ _ (by lia) (by lia) (by lia))⟩
    | false =>
     dsimp only; rw [if_neg (by decide)]
     exact wpS_pure ⟨rfl,_,_,rfl,by lia,by lia,by lia,fun i hi=>wo.tr (a (lo+i) (lo+(l+r) / 2) (by lia) (by lia) (by lia)) g,d5⟩
  case p1 =>
   rintro c st2 ⟨rfl,l,r,rfl,d1,d2,d3⟩
   dsimp only
   rw [moveDown'_eq]
   have hb:∀ i,(bubble p' (lo+k) (lo+k-(lo+l))).getD i 0=if i=lo+l then p'.getD (lo+k) 0 else if lo+l<i∧i≤lo+k then p'.getD (i-1) 0 else p'.getD i 0:=fun i=>by
    have:=getElem?_bubble (xs:=p') (src:=lo+k) (by lia) (lo+k-(lo+l)) (by lia) i
    rw [show lo+k-(lo+k-(lo+l))=lo+l by lia] at this
    split
    ·rename_i z; rw [if_pos z] at this; exact zbm_ this
    ·rename_i z
     rw [if_neg z] at this
     split
     ·rename_i y; rw [if_pos y] at this; exact zbm_ this
     ·rename_i y; rw [if_neg y] at this; exact zbm_ this
   refine wpS_bind (wpS_modify (wpS_pure ⟨rfl,bubble p' (lo+k) (lo+k-(lo+l)),⟨h'.k,h'.f,h'.d,?_,(Array.perm_iff_toList_perm.mp (bubble_perm p' _ _)).trans h'.m⟩,fun i j hi hij hj=>?_,fun i hi=>?_⟩))
   ·show bubble (arrOf st2) _ _=_
    rw [h'.a]; exact kas_swaps_map it _ _ _ p'
   ·rw [show min (k+1) m=k+1 by lia] at hj
    rw [hb,hb]
    by_cases e1:i=lo+l
    ·rw [if_pos e1]
     by_cases e2:j=lo+l
     ·rw [if_pos e2]; exact wo.refl _
     ·rw [if_neg e2,if_pos (by lia)]
      have:=d3 (j-1-lo) (by lia) (by lia)
      rwa [show lo+(j-1-lo)=j-1 by lia] at this
    ·rw [if_neg e1]
     by_cases e2:j=lo+l
     ·rw [if_pos e2,if_neg (by lia)]
      have:=d2 (i-lo) (by lia)
      rwa [show lo+(i-lo)=i by lia] at this
     ·rw [if_neg e2]
      by_cases e3:lo+l<i
      ·rw [if_pos (by lia),if_pos (by lia)]; exact a _ _ (by lia) (by lia) (by lia)
      ·rw [if_neg (by lia)]
       by_cases e4:lo+l<j
       ·rw [if_pos (by lia)]; exact a _ _ (by lia) (by lia) (by lia)
       ·rw [if_neg (by lia)]; exact a _ _ hi hij (by lia)
   ·rw [hb,if_neg (by lia),if_neg (by lia)]; exact b i hi
end
end L2
namespace L2
open PySem PySem.Spec PyProof.Rows PySem.W
section
variable {lt:Nat→Nat→Bool}
def Rns (lt:Nat→Nat→Bool):List (Nat×Nat×Nat)→List Nat→Nat→Prop
 | [],L,_=>L=[]
 | (s,m,_)::r,L,a=>s=a∧∃ X L',L=X++L'∧X.length=m∧0<m∧X.Pairwise (le lt)∧Rns lt r L' (a+m)
theorem Rns.app:∀ {P Q:List (Nat×Nat×Nat)}{L:List Nat}{a:Nat},Rns lt (P++Q) L a↔∃ L1 L2,L=L1++L2∧Rns lt P L1 a∧Rns lt Q L2 (a+L1.length)
 | [],Q,L,a=>⟨fun h=>⟨[],L,rfl,rfl,h⟩,fun ⟨L1,L2,e,h1,h2⟩=>by cases h1; subst e; exact h2⟩
 | (s,m,x)::P,Q,L,a=>by
  constructor
  ·rintro ⟨e,X,L',rfl,h1,h2,h3,h4⟩
   obtain ⟨L1,L2,rfl,g1,g2⟩:=Rns.app.mp h4
   exact ⟨X++L1,L2,by rw [List.append_assoc],⟨e,X,L1,rfl,h1,h2,h3,g1⟩,by rw [List.length_append,h1,← Nat.add_assoc]; exact g2⟩
  ·rintro ⟨L1,L2,rfl,⟨e,X,L',rfl,h1,h2,h3,h4⟩,g2⟩
   refine ⟨e,X,L'++L2,by rw [List.append_assoc],h1,h2,h3,Rns.app.mpr ⟨L',L2,rfl,h4,?_⟩⟩
   rw [List.length_append,h1,← Nat.add_assoc] at g2; exact g2
theorem Rns.one {s m x a:Nat}{L:List Nat}:Rns lt [(s,m,x)] L a↔s=a∧L.length=m∧0<m∧L.Pairwise (le lt):=by
 constructor
 ·rintro ⟨e,X,L',rfl,h1,h2,h3,h4⟩
  cases h4
  rw [List.append_nil]; exact ⟨e,h1,h2,h3⟩
 ·rintro ⟨e,h1,h2,h3⟩
  exact ⟨e,L,[],by rw [List.append_nil],h1,h2,h3,rfl⟩
end
section
variable {prog:Program}{w:World}{A:Around}{E:Value→Shared→Prop}{s:Shared}{κ:SortKind}{it:Nat→Keyed}{lt:Nat→Nat→Bool}{n lo c:Nat}{st:SortSt}{T:List Nat}
structure RI (κ:SortKind) (it:Nat→Keyed) (lt:Nat→Nat→Bool) (n lo c:Nat) (T:List Nat) (st:SortSt):Prop where
 k:kindOf st=κ
 f:failedOf st=none
 d:∃ (pd:List (Nat×Nat×Nat)) (L:List Nat),pendingOf st=pd.toArray∧pd.length=c∧arrOf st=ar it (L++T)∧(L++T).Perm (List.range n)∧Rns lt pd L 0∧L.length=lo
theorem zcG_ (C:CmpS prog w A E s κ it lt n) (wo:WOr lt) {i:Nat}{Q:Bool→SortSt→Prop}(h:RI κ it lt n lo c T st) (hi:i+1<c) (q:∀ st',RI κ it lt n lo (c-1) T st'→Q true st'):wpS (model prog w) A E s (mergeAt' i) Q st:=by
 obtain ⟨kd,fl,pd,L,d1,d2,d3,d4,d5,d6⟩:=h
 obtain ⟨P1,x,y,P2,rfl,hP⟩:∃ P1 x y P2,pd=P1++x::y::P2∧P1.length=i:=by
  refine ⟨pd.take i,pd[i]'(by lia),pd[i+1]'(by lia),pd.drop (i+2),?_,by rw [List.length_take]; lia⟩
  rw [← List.drop_eq_getElem_cons,← List.drop_eq_getElem_cons,List.take_append_drop]
 obtain ⟨sa,na,pw⟩:=x
 obtain ⟨sb,nb,pw2⟩:=y
 obtain ⟨L1,M,rfl,r1,e1,X,M',rfl,hx,hx0,sx,e2,Y,L2,rfl,hy,hy0,sy,r2⟩:=Rns.app.mp d5
 rw [Nat.zero_add] at e1 e2 r2
 have hb:∀ x∈L1++X++Y++(L2++T),x<n:=fun x hx=>List.mem_range.mp (d4.mem_iff.mp (by simpa using hx))
 refine zib_ C wo (P1:=P1) (P2:=P2) (L1:=L1) (X:=X) (Y:=Y) (L2:=L2++T) kd fl d1 (by rw [d3]; simp only [List.append_assoc]) hb e1.symm hx hy (by lia) hP.symm hx0 hy0 sx sy fun M st' g k' f' p' a'=>q st' ⟨k',f',_,L1++(M++L2),p',?_,?_,?_,Rns.app.mpr ⟨L1,M++L2,rfl,r1,?_⟩,?_⟩
 ·rw [← d2]; simp
 ·rw [a']; simp only [List.append_assoc]
 ·refine List.Perm.trans ?_ d4
  rw [List.append_assoc,List.append_assoc,List.append_assoc,List.append_assoc,List.append_assoc,← List.append_assoc X]
  exact (g.1.append_right _).append_left _
 ·have hl:=g.1.length_eq
  rw [List.length_append] at hl
  refine ⟨by lia,M,L2,rfl,by lia,by lia,g.2,?_⟩
  rw [Nat.zero_add,← Nat.add_assoc]; exact r2
 ·have hl:=g.1.length_eq
  rw [← d6]
  simp only [List.length_append] at hl ⊢
  lia
theorem RI.setPow (h:RI κ it lt n lo c T st) (g:Nat×Nat×Nat→Nat×Nat×Nat) (hg:∀ x,(g x).1=x.1∧(g x).2.1=x.2.1):RI κ it lt n lo c T (setPending st ((pendingOf st).modify ((pendingOf st).size-1) g)):=by
 obtain ⟨kd,fl,pd,L,d1,d2,d3,d4,d5,d6⟩:=h
 have key:∀ (pd:List (Nat×Nat×Nat)) (i:Nat) (L:List Nat) (a:Nat),Rns lt pd L a→Rns lt (pd.modify i g) L a:=by
  intro pd
  induction pd with
  | nil=>intro i L a h; simpa using h
  | cons x pd ih =>
   obtain ⟨s,m,y⟩:=x
   rintro i L a ⟨e,X,L',rfl,h1,h2,h3,h4⟩
   cases i with
   | zero =>
    rw [List.modify_zero_cons]
    have:=hg (s,m,y)
    rcases hh:g (s,m,y) with ⟨s',m',y'⟩
    rw [hh] at this
    obtain ⟨z1,z2⟩:=this
    dsimp only at z1 z2
    subst z1; subst z2
    exact ⟨e,X,L',rfl,h1,h2,h3,h4⟩
   | succ i=>rw [List.modify_succ_cons]; exact ⟨e,X,L',rfl,h1,h2,h3,ih i L' _ h4⟩
 refine ⟨kd,fl,pd.modify (pd.length-1) g,L,?_,by rw [List.length_modify]; exact d2,d3,d4,key _ _ _ _ d5,d6⟩
 show (pendingOf st).modify ((pendingOf st).size-1) g=_
 rw [d1]; simp
theorem RI.push (h:RI κ it lt n lo c T st) {X T':List Nat}{m:Nat}(e:T=X++T') (hm:X.length=m) (h0:0<m) (sx:X.Pairwise (le lt)):RI κ it lt n (lo+m) (c+1) T' (setPending st ((pendingOf st).push (lo,m,0))):=by
 obtain ⟨kd,fl,pd,L,d1,d2,d3,d4,d5,d6⟩:=h
 subst e
 refine ⟨kd,fl,pd++[(lo,m,0)],L++X,?_,by rw [List.length_append,d2]; rfl,by rw [List.append_assoc]; exact d3,by rw [List.append_assoc]; exact d4,Rns.app.mpr ⟨L,X,rfl,d5,Rns.one.mpr ⟨by lia,hm,h0,sx⟩⟩,by rw [List.length_append]; lia⟩
 show (pendingOf st).push _=_
 rw [d1]; simp
theorem toList_map {p:Array Nat}:p.map it=ar it p.toList:=by
 apply Array.toList_inj.mp; simp [ar]
theorem znD_ (wo:WOr lt) {p p':Array Nat}{L:List Nat}{m:Nat}(hp:p.toList=L++T) (hl:L.length=lo) (hm':Pm p' n) (hn:lo+m≤n) (pre:Pre p p' lo) (ha:AscR lt p' lo (lo+m)):∃ X T',p'.toList=L++(X++T')∧X.length=m∧X.Pairwise (le lt):=by
 have hs:=zbZ_ hm'
 refine ⟨(p'.toList.drop lo).take m,(p'.toList.drop lo).drop m,?_,by rw [List.length_take,List.length_drop,Array.length_toList]; lia,?_⟩
 ·rw [List.take_append_drop]
  conv=>lhs; rw [← List.take_append_drop lo p'.toList]
  congr 1
  apply List.ext_getElem?
  intro i
  rw [List.getElem?_take]
  by_cases hi:i<lo
  ·rw [if_pos hi]
   have:=pre i hi
   have hL:L[i]?=some (p.getD i 0):=by
    rw [Array.getD_eq_getD_getElem?,← Array.getElem?_toList,hp,List.getElem?_append_left (by lia),List.getElem?_eq_getElem (by lia)]; rfl
   rw [hL,← this,Array.getD_eq_getD_getElem?,← Array.getElem?_toList,List.getElem?_eq_getElem (by rw [Array.length_toList]; lia)]; rfl
  ·rw [if_neg hi,List.getElem?_eq_none (by lia)]
 ·refine List.pairwise_iff_getElem.mpr fun i j hi hj hij=>?_
  rw [List.length_take,List.length_drop,Array.length_toList] at hi hj
  have:=ha (lo+i) (lo+j) (by lia) (by lia) (by lia)
  have e:∀ k (hk:lo+k<p'.size),p'.getD (lo+k) 0=p'.toList[lo+k]'(by simpa using hk):=fun k hk=>by simp [Array.getD,hk]
  rw [e i (by lia),e j (by lia)] at this
  simpa [List.getElem_take,List.getElem_drop] using this
theorem RI.sa (h:RI κ it lt n lo c T st):∃ (pd:List (Nat×Nat×Nat)) (L:List Nat),pd.length=c∧Rns lt pd L 0∧L.length=lo∧SA κ it n pd.toArray (L++T).toArray st∧lo+T.length=n:=by
 obtain ⟨kd,fl,pd,L,d1,d2,d3,d4,d5,d6⟩:=h
 refine ⟨pd,L,d2,d5,d6,⟨kd,fl,d1,?_,d4⟩,?_⟩
 ·rw [toList_map]; exact d3
 ·have:=d4.length_eq; rw [List.length_append,List.length_range] at this; lia
theorem zgK_ (C:CmpS prog w A E s κ it lt n) (wo:WOr lt) {Q:Unit→SortSt→Prop}(h:RI κ it lt n 0 0 (List.range n) st) (q:∀ L st',failedOf st'=none→arrOf st'=ar it L→L.Perm (List.range n)→L.Pairwise (le lt)→Q () st'):wpS (model prog w) A E s sortRuns' Q st:=by
 rw [sortRuns'_eq]
 refine wpS_bind (wpS_get ?_)
 have hsz:(arrOf st).size=n:=by
  obtain ⟨_,_,_,_,_,hh,_⟩:=h.sa
  rw [hh.a,Array.size_map]; exact zbZ_ hh.m
 dsimp only
 rw [hsz]
 generalize minRun' n n 0=mr
 refine wpS_bind (wpS_mono (wpS_forRange (I:=fun x c st'=>∃ lo k T,c=(none,lo)∧RI κ it lt n lo k T st'∧x≤lo∧k≤x) (Q:=fun c st'=>∃ k,c=(none,n)∧RI κ it lt n n k [] st'∧k≤n) ?step ?fin ⟨0,0,_,rfl,h,Nat.le_refl _,Nat.le_refl _⟩) ?post)
 case fin =>
  rintro c st' ⟨lo,k,T,rfl,h,a,b⟩
  obtain ⟨_,_,_,_,_,hh,ht⟩:=h.sa
  obtain rfl:lo=n:=by lia
  have:T=[]:=List.length_eq_zero_iff.mp (by lia)
  subst this
  exact ⟨k,rfl,h,by lia⟩
 case step =>
  rintro x c st' _ hx ⟨lo,k,T,rfl,h,a,b⟩
  dsimp only
  obtain ⟨pd,L,l1,l2,l3,hh,ht⟩:=h.sa
  by_cases z:lo ≥ n
  ·rw [if_pos z]
   have:T=[]:=List.length_eq_zero_iff.mp (by lia)
   subst this
   obtain rfl:lo=n:=by lia
   exact wpS_pure ⟨k,rfl,h,by lia⟩
  ·rw [if_neg z]
   refine wpS_bind (wpS_mono (zly_ C wo hh (by lia) (by lia)) ?_)
   rintro r st2 ⟨m,p',rfl,m1,m2,h2,ha,hp⟩
   dsimp only
   by_cases y:m<mr
   ·rw [if_pos y]
    refine wpS_bind (wpS_lift (wpAny_rule ⟨rfl,?_⟩))
    refine wpS_bind (zos_ C wo h2 (by lia) (by lia) ha fun p2 st3 h3 ha3 hp3=>?_)
    rw [if_neg (by decide)]
    obtain ⟨X,T',e1,e2,e3⟩:=znD_ (T:=T) (L:=L) wo rfl l3 h3.m (m:=min (n-lo) mr) (by lia) (fun i hi=>(hp3 i hi).trans (hp i hi)) ha3
    have h4:RI κ it lt n lo k (X++T') st3:=⟨h3.k,h3.f,pd,L,h3.d,l1,by rw [h3.a,toList_map,e1],by rw [← e1]; exact h3.m,l2,l3⟩
    refine wpS_bind (wpS_get ?_)
    cases e:(pendingOf st3).back? with
    | none=>exact wpS_bind (wpS_modify (wpS_pure ⟨_,_,T',rfl,h4.push rfl e2 (by lia) e3,by lia,by lia⟩))
    | some y =>
     obtain ⟨s1,n1,u⟩:=y
     dsimp only
     refine wpS_bind (wpS_mono (wpS_forRange (I:=fun _ c st'=>c=(none,())∧∃ k',RI κ it lt n lo k' (X++T') st'∧k'≤k) (Q:=fun c st'=>c=(none,())∧∃ k',RI κ it lt n lo k' (X++T') st'∧k'≤k) ?s1 (fun c st' h=>h) ⟨rfl,k,h4,Nat.le_refl _⟩) ?p1)
     case s1 =>
      rintro x c st' _ _ ⟨rfl,k',h',hk⟩
      refine wpS_bind (wpS_get ?_)
      by_cases z:(pendingOf st').size > 1
      ·rw [if_pos z]
       have hs:(pendingOf st').size=k':=by
        obtain ⟨_,_,pd,L,d1,d2,_⟩:=h'
        rw [d1,List.size_toArray]; exact d2
       rw [getElem?_pos (pendingOf st') ((pendingOf st').size-2) (by lia)]
       rcases (pendingOf st')[(pendingOf st').size-2]'(by lia) with ⟨a1,a2,a3⟩
       dsimp only
       split
       ·exact wpS_pure ⟨rfl,k',h',hk⟩
       ·refine wpS_bind (zcG_ C wo h' (by lia) fun st2 h2=>?_)
        rw [if_neg (by decide)]
        exact wpS_pure ⟨rfl,_,h2,by lia⟩
      ·rw [if_neg z]
       exact wpS_pure ⟨rfl,k',h',hk⟩
     case p1 =>
      rintro c st' ⟨rfl,k',h',hk⟩
      dsimp only
      exact wpS_bind (wpS_modify (wpS_bind (wpS_modify (wpS_pure ⟨_,k'+1,T',rfl,(h'.setPow (fun x=>(x.fst,x.2.fst,power' n (2*s1+n1) (2*s1+n1+n1+min (n-lo) mr) n)) fun x=>⟨rfl,rfl⟩).push rfl e2 (by lia) e3,by lia,by lia⟩))))
   ·rw [if_neg y]
    obtain ⟨X,T',e1,e2,e3⟩:=znD_ (T:=T) (L:=L) wo rfl l3 h2.m (m:=m) (by lia) hp ha
    have h4:RI κ it lt n lo k (X++T') st2:=⟨h2.k,h2.f,pd,L,h2.d,l1,by rw [h2.a,toList_map,e1],by rw [← e1]; exact h2.m,l2,l3⟩
    refine wpS_bind (wpS_get ?_)
    cases e:(pendingOf st2).back? with
    | none=>exact wpS_bind (wpS_modify (wpS_pure ⟨_,_,T',rfl,h4.push rfl e2 m1 e3,by lia,by lia⟩))
    | some y =>
     obtain ⟨s1,n1,u⟩:=y
     dsimp only
     refine wpS_bind (wpS_mono (wpS_forRange (I:=fun _ c st'=>c=(none,())∧∃ k',RI κ it lt n lo k' (X++T') st'∧k'≤k) (Q:=fun c st'=>c=(none,())∧∃ k',RI κ it lt n lo k' (X++T') st'∧k'≤k) ?s1 (fun c st' h=>h) ⟨rfl,k,h4,Nat.le_refl _⟩) ?p1)
     case s1 =>
      rintro x c st' _ _ ⟨rfl,k',h',hk⟩
      refine wpS_bind (wpS_get ?_)
      by_cases z:(pendingOf st').size > 1
      ·rw [if_pos z]
       have hs:(pendingOf st').size=k':=by
        obtain ⟨_,_,pd,L,d1,d2,_⟩:=h'
        rw [d1,List.size_toArray]; exact d2
       rw [getElem?_pos (pendingOf st') ((pendingOf st').size-2) (by lia)]
       rcases (pendingOf st')[(pendingOf st').size-2]'(by lia) with ⟨a1,a2,a3⟩
       dsimp only
       split
       ·exact wpS_pure ⟨rfl,k',h',hk⟩
       ·refine wpS_bind (zcG_ C wo h' (by lia) fun st2 h2=>?_)
        rw [if_neg (by decide)]
        exact wpS_pure ⟨rfl,_,h2,by lia⟩
      ·rw [if_neg z]
       exact wpS_pure ⟨rfl,k',h',hk⟩
     case p1 =>
      rintro c st' ⟨rfl,k',h',hk⟩
      dsimp only
      exact wpS_bind (wpS_modify (wpS_bind (wpS_modify (wpS_pure ⟨_,k'+1,T',rfl,(h'.setPow (fun x=>(x.fst,x.2.fst,power' n (2*s1+n1) (2*s1+n1+n1+m) n)) fun x=>⟨rfl,rfl⟩).push rfl e2 m1 e3,by lia,by lia⟩))))
 case post =>
  rintro c st' ⟨k,rfl,h,hk⟩
  dsimp only
  refine wpS_bind (wpS_mono (wpS_forRange (I:=fun y c st'=>c=(none,())∧∃ k,RI κ it lt n n k [] st'∧(k≤1∨k+y≤n)) (Q:=fun c st'=>c=(none,())∧∃ k,RI κ it lt n n k [] st'∧k≤1) ?s1 ?f1 ⟨rfl,k,h,.inr hk⟩) ?p1)
  case p1 =>
   rintro c st2 ⟨rfl,k,⟨kd,fl,pd,L,d1,d2,d3,d4,d5,d6⟩,hk⟩
   dsimp only
   rw [List.append_nil] at d3 d4
   refine wpS_pure (q L st2 fl d3 d4 ?_)
   match pd,d2,d5 with
   | [],_,d5=>cases d5; exact List.Pairwise.nil
   | [(a,b,c)],_,d5=>exact (Rns.one.mp d5).2.2.2
   | _::_::_,d2,_=>simp at d2; lia
  case f1 =>
   rintro c st2 ⟨rfl,k,h,hk⟩
   exact ⟨rfl,k,h,by lia⟩
  case s1 =>
   rintro y c st2 _ hy ⟨rfl,k,h,hk⟩
   refine wpS_bind (wpS_get ?_)
   have hs:(pendingOf st2).size=k:=by
    obtain ⟨_,_,pd,L,d1,d2,_⟩:=h
    rw [d1,List.size_toArray]; exact d2
   rw [hs]
   by_cases z:k≤1
   ·rw [if_pos z]
    exact wpS_pure ⟨rfl,k,h,z⟩
   ·rw [if_neg z]
    refine wpS_bind (zcG_ C wo h ?_ fun st3 h3=>?_)
    ·have:∀ b:Bool,(if b=true then k-2-1 else k-2)+1<k:=fun b=>by cases b<;>simp<;>lia
     exact this _
    ·rw [if_neg (by decide)]
     exact wpS_pure ⟨rfl,_,h3,by lia⟩
end
section
variable {prog:Program}{w:World}{A:Around}{E:Value→Shared→Prop}{s:Shared}{vs:List Value}{lt:Nat→Nat→Bool}
theorem zm1_ {κ:SortKind}(h:∀ (A:Around) i j (C:Bool→Shared→Prop),i<vs.length→j<vs.length→C (lt i j) s→kas_ask prog w A κ vs i j C s):CmpS prog w A E s κ (kas_item (vs.toArray.zip vs.toArray)) lt vs.length:=by
 intro i j st Q hi hj kd q
 rw [lt'_eq]
 refine wpS_bind (wpS_get ?_)
 rw [kd,kat_item rfl,kat_item rfl]
 refine wpS_bind (wpS_lift (wpAny_attempt (wpAny_mono (h A i j (fun b s'=>s'=s∧b=lt i j) hi hj ⟨rfl,rfl⟩) (fun b s' hb=>?_) fun _ _ x=>x.elim)))
 obtain ⟨rfl,rfl⟩:=hb
 exact ⟨rfl,wpS_pure q⟩
theorem runBig:RunB 1000:=by
 refine ⟨Nat.le_refl _,fun {prog w A E s vs lt κ} hn2 hb wo k2=>?_⟩
 have e0:=kas_range (vs.toArray.zip vs.toArray)
 rw [show (vs.toArray.zip vs.toArray).size=vs.length by simp] at e0
 have r0:RI κ (kas_item (vs.toArray.zip vs.toArray)) lt vs.length 0 0 (List.range vs.length) (SortSt.mk' κ (vs.toArray.zip vs.toArray) #[] 7 none):=by
  refine ⟨rfl,rfl,[],[],rfl,rfl,?_,by simp,rfl,rfl⟩
  have e1:=e0
  rw [toList_map] at e1
  exact e1.symm
 exact zgK_ (Q:=fun _ st'=>∃ p:List Nat,(arrOf st').map (·.2)=(p.map fun i=>vs.getD i Value.none).toArray∧failedOf st'=none∧Srtd lt vs.length p) (zm1_ k2) wo r0 fun L st' hf ha hp hs=>⟨L,kat_snds rfl (p:=L.toArray) (by rw [ha,toList_map]),hf,hp,hs⟩
end
end L2
namespace L2
open PySem PySem.Spec PyProof.Rows
section
variable {K:Fgg}{E:XK}{α β γ ρ S S' B B':Type}{F0 H0 F h H:Hp}{L L':List Sl}{e e1 e2:TE}{T:Ty α}{O:Own ρ}{t u:TS}{LS:S→List Sl}{LS':S'→List Sl}{LB:B→List Sl}
def extN (xss:List (List α)) (j:Nat) (a:List α):List (List α):=match xss[j]? with | some xs=>xss.set j (xs++a) | none=>xss
theorem ziC_ {r:Mo (List α)}{i:Nat}{xss:List (List α)}{ei:TE}{ri:Mo Int}{k:Nat→List α→Mo (Out ρ B S)}(hi:L[i]?=some (.ow (owLL T) xss)) (hT:Imm T) (hei:EvF K ei E L ri tyInt) (he:EvF K e E L r (tyL T)) (hk:∀ j a,EvS K u E (L.set i (.ow (owLL T) (extN xss j a))) (k j a) LS LB O) :
  EvS K (tSeq (tDrop (tBM K "list" rExtend (tOp (mIx K) (mVar i) ei) (tCons e tNil))) u) E L (ri.bind fun j=>(Mo.opt (ixN xss.length j)).bind fun n=>r.bind fun a=>.lim ((xss[n]?.getD []).length+a.length) (k n a)) LS LB O:=by
 intro F0 H0 σ F h H D hL ok fin
 show mVar i σ H fun o H0'=>ei σ H0' fun y H1=>mIx K o y H1 fun x H1=>tyV K "list" x H1∧tCons e tNil σ H1 fun xs H2=>rExtend x xs H2 (fun _ H3=>u D σ H3)
 obtain ⟨o0,g1,g2,e0,_,⟨v0,e00,p0,vs0,_,rfl,_,_⟩,_⟩:=hL.at i hi
 subst e00
 refine zdp_ e0 ?_
 refine hei σ (un F h) H _ (hL.froz ok.2.1) ok.thaw (zak_ (G:=F) ok _ (.inl rfl) fin fun j F1 H1 hrj x1 v1 hv1=>?_)
 cases hv1
 obtain ⟨o,hs,ht⟩:=ok.back x1
 rw [hrj] at fin
 have hL':=hL.mono hs
 obtain ⟨n,en,fin⟩:=zkc_ fin
 have hn:=zg9_ en
 obtain ⟨p,vs,q,us,e1,hp,hlen,e3,hq,hr,_⟩:=zfY_ hL' hi (List.getElem?_eq_getElem hn) o
 rw [e0] at e1; cases e1
 refine ⟨vs,.inl (.of hp),?_⟩
 have ea:atI vs j=some (.ref q):=by unfold atI; rw [← hlen,en]; exact e3
 rw [ea]
 refine ⟨.inl ⟨rfl,us,.of hq⟩,?_⟩
 refine he σ (un _ h) H1 _ (hL'.froz o.2.1) o.thaw (zak_ (G:=F) o _ (.inl rfl) fin fun a F2 H2 hra x2 v hv=>?_)
 obtain ⟨p2,zs,ev,hp2,hr2⟩:=hv
 obtain ⟨o',hs',ht'⟩:=o.back x2
 rw [hra] at fin
 subst ev
 obtain ⟨hz,fin⟩:=zgg_ (show Fin K (Mo.lim ((xss[n]?.getD []).length+a.length) (k n a)) E LS LB O F0 H0 D from fin)
 obtain ⟨p',vs',q',us',e1',hp',hlen',e3',hq',hr',mm⟩:=zfY_ (hL'.mono hs') hi (List.getElem?_eq_getElem hn) o'
 rw [e0] at e1'; cases e1'
 have:vs'=vs:=by
  have h1:=x2.2.2.1 _ _ hp
  rw [hp'] at h1; injection h1 with h1; injection h1
 subst this
 rw [e3] at e3'; cases e3'
 have:us'=us:=by
  have h1:=x2.2.2.1 _ _ hq
  rw [hq'] at h1; injection h1 with h1; injection h1
 subst this
 obtain ⟨h',a1,a2⟩:=mm (xss[n]++a) (us'++zs) (hr'.append (hr2.imm hT ht'))
 have ex:extN xss n a=xss.set n (xss[n]++a):=by unfold extN; rw [List.getElem?_eq_getElem hn]
 have hk':=hk n a
 rw [ex] at hk'
 rw [List.getElem?_eq_getElem hn] at hz
 have hl:=hr'.len
 have hl2:=hr2.len
 exact ⟨q,p2,us',zs,rfl,rfl,hq',x2.2.1 _ _ hp2,by simp only [Option.getD_some] at hz; lia,hk' F0 H0 σ _ h' _ D a1 a2 fin⟩
theorem zjQ_:∀ {xss:List (List α)}{vs:List V}{F h:Hp},OwAll (owL T) F xss vs h→OwIn T F xss vs h
 | [],[],_,_,q=>q
 | _::_,_::_,_,_,⟨h1,h2,j,o,r⟩=>⟨h1,h2,j,o,zjQ_ r⟩
 | [],_::_,_,_,q=>q.elim
 | _::_,[],_,_,q=>q.elim
theorem zlG_ {t:TA}{r:Mo (List (List α))}(ht:EvAO K t E L r (owL T)):EvO K (tLst t) E L (r.bind fun xs=>.lim xs.length (.ok xs)) (owLL T) :=
 EvO.weak (O:=owLO (owL T)) (O2:=owLL T) (fun ⟨p,vs,h2,e,j,q⟩=>⟨p,vs,h2,e,j,zjQ_ q⟩) (zjJ_ ht)
abbrev tyRng:Ty (Int×Int):=⟨fun a v F=>∃ p,v=.ref p∧F p=some (.rng a.1 a.2),fun g ⟨p,e,h⟩=>⟨p,e,g _ _ h⟩⟩
theorem zjf_:Bl K mRange E (csCons tyInt (csLast tyInt)) (fun c=>.ok c) tyRng:=by
 rintro c vs F H Q hs ⟨v,us,rfl,rfl,w,rfl,rfl⟩ q p hp
 have x:=Ext.new (o:=.rng c.1 c.2) hs hp
 exact q _ _ x _ ⟨p,rfl,zu_⟩
theorem zgR_:BlO K (mList K) E (csLast tyRng) (fun c=>.grd (-50000≤c.1∧c.1≤50000 ∧ -50000≤c.2∧c.2≤50000) (.ok (rngI c.1 (c.2-c.1).toNat))) (owL tyInt):=by
 rintro c vs F H Q hs ⟨v,rfl,p,rfl,h⟩ q
 obtain ⟨z,q⟩:=q.grd
 refine .inr ⟨_,_,hs _ _ h,z,fun l hl=>zbA_ hs hl ?_ q⟩
 have e:intsV c.1 c.2=(rngI c.1 (c.2-c.1).toNat).map V.int:=by unfold intsV rngI; rw [List.map_map]; rfl
 rw [e]; exact zhl_
def fnU (r:Mo (Out Unit Unit Unit)):Mo Unit:=r.bind fun o=>match o with | .rt a=>.ok a | .nx _=>.ok () | _=>.no
theorem zn7_ {t:XK→TS}{C:Cs γ}{ss:γ→List Sl}{f:γ→Mo (Out Unit Unit Unit)}{LS:Unit→List Sl}{N:List Str}(n m:Nat) (hn:CsN C n) (hm:N.length-n=m) (hC:CsS C ss) (h:∀ c E,EvS K (t E) E (ss c++List.replicate m .dead) (f c) LS (fun _:Unit=>[]) (owF tyNon)) :
  ∀ vs H Q E,Ct K C (fun c=>fnU (f c)) (owF tyNon) vs H Q E→t E { nx:=fun _ H'=>Q .non H',rt:=Q } (start N vs) H:=by
 rintro vs H Q E ⟨F,c,hs,hc,q⟩
 have hstart:start N vs=vs.map some++List.replicate m none:=by unfold start; rw [hn hc,hm]
 rw [hstart]
 refine h c E F H _ F (fun _=>none) H _ ((hC hc).hold m) (zgc_ hs) ?_
 have q:After K (fnU (f c)) E F H (OwnK (owF tyNon) H Q):=q
 cases e:f c with
 | no=>rw [e] at q; exact q
 | ex cc=>rw [e] at q; exact fun F h H ok=>q F H ok.1
 | ok o =>
  rw [e] at q
  cases o with
  | nx s=>exact fun σ F' h' H' _ ok=>q F' H' ok.1 .non (fun _=>none) (fun p z=>absurd rfl z) (fun p=>.inr rfl) (fun p o z=>by cases z) ⟨fun _=>rfl,rfl⟩
  | bk s=>exact q.elim
  | ct s=>exact q.elim
  | rt a=>exact fun v F' h' H' ok hv=>q F' H' ok.1 v h' (fun p z=>ok.2.2.2.1 p z) ok.2.1 ok.2.2.1 hv
end
section
variable {P:Program}{w:World}{K:Fgg}{mg:Str→Option Value}{base:Heap}{x q:Str}{st:Stmt}{N ps:List Str}{k:Nat}{α β γ ρ:Type}
theorem okXU {C:Cs γ}{ss:γ→List Sl}{g:γ→Mo (Out Unit Unit Unit)}{LS:Unit→List Sl}{t:XK→TS}(n m:Nat) (hC:CsS C ss) (tm:TmX P w K mg base k N q st t)
  (ev:∀ c E,EvS K (t E) E (ss c++List.replicate m .dead) (g c) LS (fun _:Unit=>[]) (owF tyNon)) (hn:CsN C n:=by repeat first | exact zt_ | exact csn_nil | refine zs_ ?_) (S:FnScope N ps (defScope st):=by exact ⟨rfl,rfl,rfl,by decide +kernel,rfl,by decide +kernel,by decide +kernel⟩) (b:Bnd K x q st ps:=by first | exact fun _ _ F=>Fun.binds1 rfl F fun _ _ _ _ _ _ _=>rfl | exact fun _ _ F=>Fun.binds2 rfl F fun _ _ _ _ _ _ _ _=>rfl | exact fun _ _ F=>Fun.binds3 rfl F fun _ _ _ _ _ _ _ _ _=>rfl | exact fun _ _ F=>Fun.binds4 rfl F fun _ _ _ _ _ _ _ _ _ _=>rfl | exact fun _ _ F=>Fun.binds5 rfl F fun _ _ _ _ _ _ _ _ _ _ _=>rfl | exact fun _ _ F=>Fun.binds6 rfl F fun _ _ _ _ _ _ _ _ _ _ _ _=>rfl | exact fun _ _ F=>Fun.binds7 rfl F fun _ _ _ _ _ _ _ _ _ _ _ _ _=>rfl) (hp:ps.length=n:=by rfl) (hm:N.length-n=m:=by rfl):OkF P w K mg base (CXx P w) (k+1) x q st ps (Ct K C (fun c=>fnU (g c)) (owF tyNon)):=fun f fd F =>
 ⟨F.okX S (fun vs H Q E h=>by obtain ⟨F,c,_,hc,_⟩:=h; exact (hn hc).trans hp.symm) fun cdv A outer s H vs Q E hr h=>⟨t E,tm cdv A outer s H f E S.nd hr,zn7_ (N:=N) (t:=t) n m hn hm hC ev vs H Q E h⟩,b f fd F⟩
end
def Fe1 (K:Fgg) (a:Str) (P:Addr→Prop):Prop:=∃ v,PySem.W.nsIn K mainGlobals a=some (some (.ref v))∧P v
theorem Fe1.mk_ {K:Fgg}{a:Str}{P:Addr→Prop}{v:Addr}(h:PySem.W.nsIn K mainGlobals a=some (some (.ref v))) (p:P v):Fe1 K a P:=⟨v,h,p⟩
theorem Fe1.g {K:Fgg}{a:Str}{P:Addr→Prop}(h:Fe1 K a P):P (gA K a):=by
 obtain ⟨v,h,p⟩:=h
 rw [zlW_ h]; exact p
def Fe2 (K:Fgg) (a b:Str) (P:Addr→Addr→Prop):Prop:=∃ v w,PySem.W.nsIn K mainGlobals a=some (some (.ref v))∧PySem.W.nsIn K mainGlobals b=some (some (.ref w))∧P v w
theorem Fe2.mk_ {K:Fgg}{a b:Str}{P:Addr→Addr→Prop}{v w:Addr}(h:PySem.W.nsIn K mainGlobals a=some (some (.ref v))) (h2:PySem.W.nsIn K mainGlobals b=some (some (.ref w))) (p:P v w):Fe2 K a b P:=⟨v,w,h,h2,p⟩
theorem Fe2.g {K:Fgg}{a b:Str}{P:Addr→Addr→Prop}(h:Fe2 K a b P):P (gA K a) (gA K b):=by
 obtain ⟨v,w,h,h2,p⟩:=h
 rw [zlW_ h,zlW_ h2]; exact p
end L2
namespace L2
open PySem PySem.Spec PyProof.Rows
section
variable {K:Fgg}{E:XK}{L:List Sl}{e:TE}{α γ δ:Type}{T:Ty α}{C:Cs γ}{C':Cs δ}{f:γ→δ}{n m:Nat}
end
end L2
namespace L2
open PySem PySem.Spec PyProof.Rows
section
variable {K:Fgg}{E:XK}{α β γ ρ ρ' S B:Type}{F0 H0 F h H:Hp}{L:List Sl}{T:Ty α}{Or:Own ρ}{t u:TS}{e e1 e2 te:TE}{LS:S→List Sl}{LB:B→List Sl}{i j:Nat}{σ:St}
end
end L2
namespace L2
open PySem PySem.Spec PyProof.Rows
section
variable {K:Fgg}{E:XK}{α β γ ρ ρ' S B:Type}{F0 H0 F h H:Hp}{L:List Sl}{T:Ty α}{Or:Own ρ}{t u:TS}{e e1 e2 te:TE}{LS:S→List Sl}{LB:B→List Sl}{i j:Nat}{σ:St}
end
end L2
namespace L2
open PySem PySem.Spec PyProof.Rows
section
variable {K:Fgg}{E:XK}{α β γ ρ ρ' S B:Type}{F0 H0 F h H:Hp}{L:List Sl}{T:Ty α}{Or:Own ρ}{t u:TS}{e e1 e2 te:TE}{LS:S→List Sl}{LB:B→List Sl}{i j:Nat}{σ:St}
end
section
variable {X:Cx}
end
section
variable {K:Fgg}{E:XK}
end
end L2
namespace L2
open PySem PySem.Spec PyProof.Rows
section
variable {K:Fgg}{E:XK}{α β γ δ ρ ρ' S B:Type}{F0 H0 F h H:Hp}{L:List Sl}{e te ei tc:TE}{T:Ty α}{r:Mo α}{Or:Own ρ}{Or':Own ρ'}{t u:TS}{LS:S→List Sl}{LB:B→List Sl}{σ:St}{C:Addr}{ns:List Str}{f m:Str}{i n w j:Nat}
end
end L2
namespace L2
open PySem PySem.Spec PyProof.Rows
open PySem.SeqAt
open PySem.AutoSeq1 (wpAny_loadPart')
open PySem.MeetsSeq PySem.MeetsSeq2 PySem.MeetsSeq3
end L2
namespace L2
open PySem PySem.Spec PyProof.Rows
section
variable {K:Fgg}{E:XK}{H:Hp}
end
end L2
namespace L2
open PySem PySem.Spec PyProof.Rows
section
variable {α:Type}{O:Own α}
end
section
variable {K:Fgg}{E:XK}{α β γ δ ρ ρ' S B:Type}{F0 H0 F h H:Hp}{L:List Sl}{e te ei tc:TE}{T:Ty α}{r:Mo α}{Or:Own ρ}{Or':Own ρ'}{t u:TS}{LS:S→List Sl}{LB:B→List Sl}{σ:St}{C:Addr}{ns:List Str}{f m:Str}{i n w j:Nat}
end
end L2
namespace L2
open PySem PySem.Spec PyProof.Rows
section
variable {X:Cx}
end
section
variable {K:Fgg}{E:XK}{L:List Sl}{ta:TA}
end
end L2
namespace L2
open PySem PySem.Spec PyProof.Rows
section
variable {K:Fgg}{E E0:XK}{α β γ ρ ρ' S B:Type}{F0 H0 F h H:Hp}{L:List Sl}{T:Ty α}{Or:Own ρ}{t u:TS}{e te:TE}{LS:S→List Sl}{LB:B→List Sl}{i j n:Nat}{σ:St}
end
end L2
namespace L2
open PySem PySem.Spec PyProof.Rows
section
variable {K:Fgg}{E:XK}{α β γ δ ρ ρ' S B:Type}{F0 H0 F h H:Hp}{L:List Sl}{e te te2 ei tc:TE}{T:Ty α}{Or:Own ρ}{Or':Own ρ'}{t u:TS}{LS:S→List Sl}{LB:B→List Sl}{σ:St}{i n w j:Nat}
end
end L2
namespace L2
end L2
namespace L2
open PySem PySem.Spec PyProof.Rows
section
variable {X:Cx}{e:Expr}{es:List Expr}{m x:Str}{p pos apos:Pos}{t:TA}{k:Nat}{ps:List Str}{sp:Sp}
end
def Fs (K:Fgg) (c m q:Str) (st:Stmt):Prop:=∃ cw f,PySem.W.nsIn K mainGlobals c=some (some (.ref cw))∧PySem.W.specialIn K (.ref cw) "__getattribute__" = some (some (.builtin "type.__getattribute__"))∧PySem.W.readsIn K cw (.type "type")=true∧PySem.W.findCls K (.ref cw) (.type "type") m=some (.val (.ref f))∧Fi K m q st f
section
variable {P:Program}{w:World}{K:Fgg}{mg:Str→Option Value}{base:Heap}{CX:CXT}{x q c m a:Str}{st:Stmt}{f:Addr}{fd:FuncData}{N ps:List Str}{k j:Nat}{sp:Sp}
theorem Fs.mk_ {cw:Addr}{oc:Value}{od:Option Addr}{kV doc pm:Value}{an:Option Addr}{cdv ct:Value}{osl:Array (Option Value)}(h:PySem.W.nsIn K mainGlobals c=some (some (.ref cw))) (h1:PySem.W.specialIn K (.ref cw) "__getattribute__" = some (some (.builtin "type.__getattribute__"))) (h2:PySem.W.readsIn K cw (.type "type")=true) (h3:PySem.W.findCls K (.ref cw) (.type "type") m=some (.val (.ref f)))
  (l:K.lookup f=some ⟨oc,od,.func (PySem.W.fnOf m q (defArgs st) (defBody st) (defScope st) .none kV doc pm an cdv ct),osl⟩) (hc:PySem.W.codeIn K cdv q=true) (hk:PySem.W.keepIn K (.ref f)=true):Fs K c m q st:=⟨cw,f,h,h1,h2,h3,oc,od,kV,doc,pm,an,cdv,ct,osl,l,hc,hk⟩
end
section
variable {K:Fgg}{E:XK}{α β γ δ ρ ρ' S B κ:Type}{F0 H0 F h H:Hp}{L:List Sl}{e te ei tc:TE}{T:Ty α}{r:Mo α}{Or:Own ρ}{Or':Own ρ'}{t u:TS}{ta:TA}{LS:S→List Sl}{LB:B→List Sl}{σ:St}{C s:Addr}{ns:List Str}{f m:Str}{i n w j:Nat}
section
variable [DecidableEq κ] {KY:KyT κ}
end
variable {te2:TE}
end
end L2
namespace L2
open PySem PySem.Spec PyProof.Rows
section
variable {K:Fgg}{E:XK}{α β γ δ ρ ρ' S B κ:Type}{F0 H0 F h H:Hp}{L:List Sl}{e te te1 tc:TE}{T:Ty α}{r:Mo α}{Or:Own ρ}{Or':Own ρ'}{t u:TS}{ta:TA}{LS:S→List Sl}{LB:B→List Sl}{σ:St}{C s:Addr}{ns:List Str}{f m:Str}{i n w j:Nat}
end
section
variable {prog:Program}{w:World}{A:Around}{E:Value→Shared→Prop}{s:Shared}
end
section
variable {X:Cx}
end
section
variable {K:Fgg}{E:XK}{α:Type}{L:List Sl}{e:TE}{T:Ty α}
end
end L2
namespace L2
open PySem PySem.Spec PyProof.Rows
section
variable {K:Fgg}{E:XK}{α β γ δ ρ ρ' S B κ:Type}{F0 H0 F h H:Hp}{L:List Sl}{e te te1 tc e1 e2:TE}{T:Ty α}{r:Mo α}{Or:Own ρ}{Or':Own ρ'}{t u:TS}{ta:TA}{LS:S→List Sl}{LB:B→List Sl}{σ:St}{C s:Addr}{ns:List Str}{f m:Str}{i n w j:Nat}
end
end L2
namespace L2
open PySem PySem.Spec PyProof.Rows
section
variable {prog:Program}{w:World}{A:Around}{E:Value→Shared→Prop}{h:Heap}{g:Array GenState}{d:Drawn}{t:Nat}{os:OsState}{nm q:Str}{C N:Addr}{bs bm:List Value}{hd:Bool}{sn:List Str}{sub:List Value}{ab:Bool}{col:Option Bool}{dd:Option Addr}{k0 k1 k2 k3 k5:Option Value}
def exH (h:Heap) (C:Addr) (vs:List Value):Heap:=(h.push { cls:=.type "tuple",data:=.seq vs.toArray }).push { cls:=.ref C,data:=.fields #[.ref h.objs.size,.none,.none,.none,.bool false,.none] }
theorem zeY_ {vs:List Value}{b:Addr}{o:Obj}(e:h.get? b=some o):(exH h C vs).get? b=some o:=Heap.get?_push_of_some _ (Heap.get?_push_of_some _ e)
theorem zl0_ {vs:List Value}:(exH h C vs).get? (h.objs.size+1)=some { cls:=.ref C,data:=.fields #[.ref h.objs.size,.none,.none,.none,.bool false,.none] }:=by unfold exH; heap_get
theorem zk9_ {vs:List Value}:Heap.MadeExcOf h (exH h C vs) (h.objs.size+1) (.ref C) vs :=
 ⟨fun _ _ e=>zeY_ e,Heap.get?_none_of_le (Nat.le_succ _),_,zl0_,Heap.get?_none_of_le (Nat.le_refl _),Heap.get?_push_of_some _ (Heap.get?_push_at rfl rfl)⟩
theorem zkv_ (T:OwnTail h bmV bm) {mN:Str→Option Value}{vs:List Value}{f:Addr}{fo:Obj}{Q:PySem.Fin→Shared→Prop}(hC:h.get? C=some (excClassObj nm q C N bs bm hd sn sub ab col dd k0 k1 k2 k3 k5 "ValueError.__new__")) (hn:h.Ns N mN) (hi:mN "__init__" = some (.ref f)) (hf:h.get? f=some fo) (hfc:fo.cls=.type "function")
  (hq:∀ h' e,Heap.MadeExcOf h h' e (.ref C) vs→h.objs.size≤e→wpAny (model prog w) A (call (.ref f) (.ref e::vs)) (fun r s'=>r=.none∧Q (.done (.ret (.ref e))) s') E ⟨h',g,d,t,os⟩) (hl:vs.length≤sizeLine) :
  wpAny (model prog w) A (Builtin.«type.__call__» ⟨.ref C::vs,[]⟩) Q E ⟨h,g,d,t,os⟩:=by
 have F:=PySem.F.excBase_ValueError
 have c1:(Value.ref C::bm).contains (.ref C)=true:=List.contains_iff_mem.mpr List.mem_cons_self
 have hC1:=zeY_ (C:=C) (vs:=vs) hC
 have f1:=zeY_ (C:=C) (vs:=vs) hf
 have T1:=T.keeps (h':=exH h C vs) fun _ _ e=>zeY_ e
 have n1:(exH h C vs).Ns N mN:=by obtain ⟨o,es,ep,e,r⟩:=hn; exact ⟨o,es,ep,zeY_ e,r⟩
 repeat (first | with_reducible refine wpAny_madeBy_exc hC ?_ | with_reducible refine wpAny_loadPart_at hC ?_ | wp_step)
 refine codeAny_call_builtin_code (Code.quiet_builtin _ F.quiet) (wpAny_check_new_subT F T hC (codeAny_exc_new_subT F T hC ?_ hl)); show wpAny _ _ _ _ _ ⟨exH h C vs,_,_,_,_⟩
 unfold isInstance; repeat (first | (with_reducible refine wpAny_isSubtype_exc hC1 ?_; rw [c1]) | with_reducible refine wpAny_loadPart_at zl0_ ?_ | wp_step)
 show wpAny _ _ (typeLookup (.ref C) "__init__") _ _ _; refine wpAny_typeLookup_tail hC1 n1 T1 F.mroIs F.init.lookup ?_
 rw [hi]; refine wpAny_holding (wpAny_bind ?_); unfold bindSpecial; refine wpAny_bind (wpAny_typeOf (T := "function") ⟨_,f1,hfc⟩ ?_); rw [if_pos (by decide)]
 refine wpAny_pure (wpAny_bind (wpAny_mono (hq _ _ zk9_ (Nat.le_succ _)) (fun r s' z=>?_) fun _ _ y=>y))
 obtain ⟨rfl,z⟩:=z; wp_walk; exact z
theorem zkC_ (T:OwnTail h bmV bm) {mN:Str→Option Value}{vs:List Value}{f:Addr}{fo:Obj}{Q:Value→Shared→Prop}(hC:h.get? C=some (excClassObj nm q C N bs bm hd sn sub ab col dd k0 k1 k2 k3 k5 "ValueError.__new__")) (hn:h.Ns N mN) (hi:mN "__init__" = some (.ref f)) (hf:h.get? f=some fo) (hfc:fo.cls=.type "function")
  (hq:∀ h' e,Heap.MadeExcOf h h' e (.ref C) vs→h.objs.size≤e→wpAny (model prog w) (A.under (.builtin "type.__call__" ⟨.ref C::vs,[]⟩)) (call (.ref f) (.ref e::vs)) (fun r s'=>r=.none∧Q (.ref e) s') E ⟨h',g,d,t,os⟩) (hl:vs.length≤sizeLine) :
  wpAny (model prog w) A (call (.ref C) vs) Q E ⟨h,g,d,t,os⟩:=by
 have t1:=tc_lookup; have t2:=tc_bind (.ref C)
 have ty:(⟨h,g,d,t,os⟩:Shared).TypeIs (.ref C) "type" := ⟨_,hC,rfl⟩
 refine wpAny_call (codeAny_of_tree ?_); show wpAny _ _ (callAny (.ref C) _) _ _ _
 repeat (any_goals (first | with_reducible refine wpAny_loadPart_at hC ?_ | assumption | wp_step))
 exact ⟨rfl,codeAny_call_builtin_at (Code.quiet_builtin _ (by decide +kernel)) entry_typeCall (wpAny_check_type_call_sub hC (zkv_ T hC hn hi hf hfc (fun h' e hm hz=>hq h' e hm hz) hl))⟩
end
section
variable {M:Model}{A:Around}{E:Value→Shared→Prop}{env:Env}{nm q:Str}{C N:Addr}{bs bm:List Value}{hd:Bool}{sn:List Str}{sub:List Value}{ab:Bool}{col:Option Bool}{dd:Option Addr}{k0 k1 k2 k3 k5:Option Value}{ni:String}
theorem ziu_ {s:Shared}{x:Sem Value}{Q:Flow→Shared→Prop}(hb:bm.contains (.type "BaseException")=true) (hh:A.handled=none)
  (k:wpAny M A x (fun v s1=>∃ e oe vs,v=.ref e∧s1.heap.get? C=some (excClassObj nm q C N bs bm hd sn sub ab col dd k0 k1 k2 k3 k5 ni)∧s1.heap.get? e=some oe∧oe.cls=.ref C∧oe.data=.fields vs∧vs[1]?=some .none∧E (.ref e) s1) E s) :
  wpAny M A (raiseStmt env (some x) none) Q E s:=by
 have c1:(Value.ref C::bm).contains (.type "BaseException")=true:=by rw [List.contains_cons,hb,Bool.or_true]
 unfold raiseStmt
 refine wpAny_bind (wpAny_mono k (fun v s1 z=>?_) fun _ _ y=>y)
 obtain ⟨e,oe,vs,rfl,hC,he,hc,hdt,h1v,z⟩:=z; obtain ⟨h1,g1,d1,t1,os1⟩:=s1
 repeat (first | (with_reducible refine wpAny_isSubtype_exc hC ?_; rw [c1]) | with_reducible refine wpAny_loadPart_at hC ?_ | (with_reducible refine wpAny_loadPart_at he ?_; try rw [hc]) | wp_step)
 rw [hdt]; refine wpAny_pure ?_; rw [h1v]; refine wpAny_pure ?_; rw [if_neg (by decide)]
 exact wpAny_pure (wpAny_raiseNew_none hh z)
end
section
variable {prog:Program}{w:World}{A:Around}{E:Value→Shared→Prop}{h:Heap}{g:Array GenState}{d:Drawn}{t:Nat}{os:OsState}{nm q:Str}{C N a:Addr}{bs bm:List Value}{sn:List Str}{sub:List Value}{ab:Bool}{col:Option Bool}{dd:Option Addr}{k0 k1 k2 k3 k5:Option Value}{ni:String}{K:Fgg}{mA:Str→Option Value}{name:Str}{v:Value}
theorem ziV_ {tk:Tok}{Q:PySem.Fin→Shared→Prop}(kin:K.In h) (hC:h.get? C=some (excClassObj nm q C N bs bm true sn sub ab col dd k0 k1 k2 k3 k5 ni)) (hn:PySem.W.findIn K (.ref C) name=some none) (I:h.Inst a C mA) (hv:mA name=some v) (k:Q (.done (.ret v)) ⟨h,g,d,t,os⟩) :
  wpAny (model prog w) A (Builtin.«object.__getattribute__» ⟨[.ref a,.str name tk],[]⟩) Q E ⟨h,g,d,t,os⟩:=by
 obtain ⟨o,hx,hc,hnc,hdx⟩:=I
 rcases hdx with ⟨_,z⟩ | ⟨dx,hdx,ne,ns⟩
 ·rw [z name] at hv; cases hv
 have l1:=PySem.W.looks_findIn (M:=model prog w) kin hn
 unfold Builtin.«object.__getattribute__»
 repeat (first | (with_reducible refine l1.at ?_) | (with_reducible refine wpAny_loadPart_at hx ?_; try rw [hc]) | wp_step)
 split
 ·rename_i c e; exact absurd e (hnc c)
 unfold instanceDict
 repeat (first | with_reducible refine wpAny_loadPart_at hC ?_ | (with_reducible refine wpAny_loadPart_at hx ?_; try rw [hc]) | wp_step)
 rw [hdx]
 unfold Builtin.ObjectAttr.inDict
 repeat (first | (with_reducible refine wpAny_nsGet ns.ns ?_; rw [hv]) | wp_step)
 exact k
end
def excJ (K:Fgg) (C:Addr):Bool:=(K.lookup C).any fun o=>match o.data,o.slots.toList with
 | .cls cd,[_,_,_,_,some (.builtin n),_]=>o.cls == .type "type" && (n == "ValueError.__new__" && (cd.mro == .ref C::cd.mro.tail && (!cd.hasDel && (cd.hasDict && (PySem.W.tailIn K bmV cd.mro.tail && (PySem.W.nsOkIn K cd.ns && (PySem.W.nsIn K cd.ns "__init__" == PySem.W.findIn K (.ref C) "__init__" && PySem.W.keepIn K (.ref C))))))))
 | _,_=>false
theorem znW_ {K:Fgg}{h:Heap}{N:Addr}{m:Str→Option Value}{n:Str}{v:Value}(kin:K.In h) (G:h.Ns N m) (e:PySem.W.nsIn K N n=some (some v)):m n=some v:=by
 obtain ⟨o,es,ep,ho,hd,_,hf⟩:=G
 unfold PySem.W.nsIn at e; split at e
 case h_2=>cases e
 case h_1 c d es' n' sl q =>
  have z:=(kin _ _ q).symm.trans ho; cases z; cases hd
  split at e
  case h_2=>split at e<;>cases e
  case h_1 en he=>cases e; rw [← hf]; unfold nsFind findBy; rw [← Array.find?_toList,he]; rfl
theorem zdh_ {K:Fgg}{h:Heap}{C:Addr}(kin:K.In h) (q:excJ K C=true) :
  ∃ nm qn N bs bm sn sub ab col dd k0 k1 k2 k3 k5 mN,h.get? C=some (excClassObj nm qn C N bs bm true sn sub ab col dd k0 k1 k2 k3 k5 "ValueError.__new__")∧h.Ns N mN∧(∀ f,PySem.W.findIn K (.ref C) "__init__" = some (some (.ref f))→mN "__init__" = some (.ref f))∧OwnTail h bmV bm∧PySem.W.keepIn K (.ref C)=true:=by
 unfold excJ at q
 cases e:K.lookup C with
 | none=>rw [e] at q; cases q
 | some o =>
  rw [e] at q
  obtain ⟨oc,od,odt,osl⟩:=o
  simp only [Option.any_some] at q
  split at q
  case h_2=>cases q
  case h_1 _ _ cd y0 y1 y2 y3 n y5 m2 =>
   simp only [Bool.and_eq_true,beq_iff_eq,Bool.not_eq_true'] at q
   obtain ⟨rfl,rfl,q3,q4,q5,q6,q7,q8,q9⟩:=q
   have hs:osl=#[y0,y1,y2,y3,some (.builtin "ValueError.__new__"),y5]:=by rw [← Array.toList_inj]; exact m2
   subst hs
   obtain ⟨nm,bs,mro,ns,qn,hd,sn,sub,ab,col,del⟩:=cd
   dsimp only at q3 q4 q5 q6 q7 q8
   rw [q3] at e
   subst q4 q5
   exact ⟨_,_,_,_,_,_,_,_,_,_,y0,y1,y2,y3,y5,_,kin _ _ e,.of_isNs (PySem.W.isNs_of_in kin q7),fun f z=>znW_ kin (.of_isNs (PySem.W.isNs_of_in kin q7)) (q8.trans z),PySem.W.tail_of_in kin q6,q9⟩
def exA (K:Fgg) (C:Addr) (a:Str):Bool:=PySem.W.findIn K (.ref C) "__getattribute__" == some (some (.builtin "BaseException.__getattribute__")) && (PySem.W.findIn K (.ref C) "__getattr__" == some none && (PySem.W.mroIn K C (.type "BaseException") == some true &&
 (PySem.W.mroIn K C (.type "object") == some true && (PySem.W.findIn K (.ref C) "__setattr__" == some (some (.builtin "object.__setattr__")) && PySem.W.findIn K (.ref C) a == some none))))
section
variable {prog:Program}{w:World}{A:Around}{E:Value→Shared→Prop}{s:Shared}{K:Fgg}{C a dx:Addr}{name:Str}{v:Value}{mA:Str→Option Value}{o:Obj}{vs:Array Value}
theorem zjO_ (h:exA K C name=true):PySem.W.findIn K (.ref C) "__getattribute__" = some (some (.builtin "BaseException.__getattribute__"))∧PySem.W.findIn K (.ref C) "__getattr__" = some none∧PySem.W.mroIn K C (.type "BaseException")=some true∧PySem.W.mroIn K C (.type "object")=some true∧PySem.W.findIn K (.ref C) "__setattr__" = some (some (.builtin "object.__setattr__"))∧PySem.W.findIn K (.ref C) name=some none:=by
 unfold exA at h; simpa only [Bool.and_eq_true,beq_iff_eq] using h
theorem ty_of {M:Model}{h:Heap}(e:h.get? a=some o) (c:o.cls=.ref C):PySem.W.Looks M h (typeOf (.ref a)) (.ref C):=c ▸ (PySem.W.Looks.ld e).andThen .now
theorem zkT_ {expr:Bool}{Q:Value→Shared→Prop}(kin:K.In s.heap) (hj:excJ K C=true) (ha:exA K C name=true) (I:s.heap.Inst a C mA) (hv:mA name=some v) (hh:PySem.W.handedIn v=true) (k:Q v { s with toks:=s.toks+1 }) :
  wpAny (model prog w) A (getAttr (.ref a) name expr) Q E s:=by
 obtain ⟨g1,g2,g3,g4,g5,g6⟩:=zjO_ ha
 obtain ⟨nm,qn,N,bs,bm,sn,sub,ab,col,dd,k0,k1,k2,k3,k5,mN,hC,_⟩:=zdh_ kin hj
 cases s with
 | mk hp gs dr tk ost =>
 have T0:PySem.W.Looks (model prog w) hp (typeOf (.ref a)) (.ref C):=by obtain ⟨o,e,c,_⟩:=id I; exact ty_of e c
 have T1:=PySem.W.looks_findIn (M:=model prog w) kin g1; have T2:=PySem.W.looks_findIn (M:=model prog w) kin g2; have T8:=PySem.W.looks_mroIn (M:=model prog w) kin g3
 have n0:(expr && onTheHeap (Value.builtin "BaseException.__getattribute__"))=false:=by cases expr<;>rfl
 have n2:(onTheHeap (Value.ref C) && Value.builtin "BaseException.__getattribute__" == Value.builtin "object.__getattribute__")=false:=(show (Value.builtin "BaseException.__getattribute__" == Value.builtin "object.__getattribute__")=false by decide +kernel)
 have b3:=F.excAttr_ValueError.ga.bind (.ref a)
 unfold getAttr getAttrBy; refine wpAny_bind (wpAny_mkText (wpAny_holding (wpAny_bind (T0.at (wpAny_bind (T1.at ?_)))))); simp only [n2]; rw [if_neg (by decide)]
 unfold getAttrByItsOwn hookBefore; refine wpAny_bind ?_; show wpAny _ _ (typeLookup (.ref C) "__getattr__") _ _ _
 refine T2.at (wpAny_bind (wpAny_attempt (wpAny_holding ?_))); unfold callGetattribute; rw [n0,if_neg (by decide)]; unfold boundAndCalled; rw [b3]
 refine wpAny_bind (wpAny_pure (wpAny_call (codeAny_call_builtin F.excAttr_ValueError.ga.plain F.entry_bexc_ga ?_)))
 show wpAny _ _ (checkBuiltinCall "BaseException.__getattribute__" ⟨[.ref a,.str name tk],[]⟩) _ _ _
 refine LX.check_ga T0 T8 (ziV_ kin hC g6 I hv ?_)
 show wpAny _ _ (handedOut v) _ _ _; rw [PySem.W.handedOut_of hh]; exact wpAny_pure k
theorem zg3_ {h:Heap}{bm:List Value}(self:Value) (T:OwnTail h bmV bm):refuseLoop self "__setattr__" bm=pure ():=by
 induction T with
 | base=>exact PySem.F.store_ValueError.passes self
 | own _ _ _ _ ih=>rw [refuseLoop_ref]; exact ih
theorem zfP_ {Q:Unit→Shared→Prop}(kin:K.In s.heap) (hj:excJ K C=true) (ha:exA K C name=true) (hx:s.heap.get? a=some o) (hc:o.cls=.ref C)
  (h:wpAny (model prog w) A.in1 (Builtin.ObjectAttr.storeInOwnDict (.ref a) (.ref C) (.str name s.toks) name v false) (fun r s'=>match r with | .done (.ret _)=>Q () s' | _=>False) E { s with toks:=s.toks+1 }):wpAny (model prog w) A (setAttr (.ref a) name v) Q E s:=by
 obtain ⟨g1,g2,g3,g4,g5,g6⟩:=zjO_ ha
 obtain ⟨nm,qn,N,bs,bm,sn,sub,ab,col,dd,k0,k1,k2,k3,k5,mN,hC,_,_,TL,_⟩:=zdh_ kin hj
 have T0:=ty_of (M:=model prog w) hx hc
 have SF:=PySem.F.store_object
 refine wpAny_bind (wpAny_mkText (wpAny_bind (wpAny_bind (wpAny_bind (T0 _ _ _ _ (fun _ _ e=>e) (PySem.W.looks_findIn kin g5 _ _ _ _ (fun _ _ e=>e) (wpAny_holding ?_)))))))
 rw [SF.slot.bind]; refine wpAny_bind (wpAny_pure (wpAny_bind (wpAny_call ?_)))
 have sub:PySem.W.Looks (model prog w) s.heap (isInstance (.ref a) (.type "object")) true:=T0.andThen (PySem.W.looks_mroIn kin g4)
 refine codeAny_call_builtin SF.slot.plain SF.entry (@PySem.W.check_slot (model prog w) _ _ { s with toks:=s.toks+1 } "object.__setattr__" "object" "__setattr__" (.ref a) [.str name s.toks,v] [] _ SF.kind SF.split sub (SF.args (.ref a) (.str name s.toks) v) ?_)
 have hm:PySem.W.Looks (model prog w) s.heap (mroOf (.ref C)) (.ref C::bm):=fun A' Q' E' s' k q=>wpAny_mroOf_exc (h:=s'.heap) (k _ _ hC) q
 show wpAny _ _ (Builtin.«object.__setattr__» ⟨[.ref a,.str name s.toks,v],[]⟩) _ _ _
 rw [PySem.W.osa_eq,refuse_eq]
 refine wpAny_bind (wpAny_bind (T0.here (s:={ s with toks:=s.toks+1 }) (wpAny_bind (hm.here (s:={ s with toks:=s.toks+1 }) ?_))))
 rw [refuseLoop_ref,zg3_ _ TL]
 refine wpAny_pure (wpAny_bind (T0.here (s:={ s with toks:=s.toks+1 }) (wpAny_bind ((PySem.W.looks_findIn kin g6).here (s:={ s with toks:=s.toks+1 }) (wpAny_bind (wpAny_pure ?_))))))
 refine wpAny_mono h (fun r s' z=>?_) fun _ _ z=>z
 rcases r with (_ | _ | _ | _) | _<;>first | exact z.elim | exact wpAny_pure (wpAny_pure z)
end
end L2
namespace L2
open PySem PySem.Spec PyProof.Rows
section
variable {prog:Program}{w:World}{A:Around}{E:Value→Shared→Prop}{s:Shared}{K:Fgg}{C a dx:Addr}{name:Str}{v:Value}{mA:Str→Option Value}{vs:Array Value}{sl:Array (Option Value)}
def Stop (P:Prop):Prop:=P
theorem zj9_ {M:Model}{d:Addr}{Q:Unit→Shared→Prop}(h:Stop (wpAny M A (nsSet d name v) Q E s)):wpAny M A (nsSet d name v) Q E s:=h
theorem zkB_ {Q:Unit→Shared→Prop}(kin:K.In s.heap) (hj:excJ K C=true) (ha:exA K C name=true) (hx:s.heap.get? a=some ⟨.ref C,none,.fields vs,sl⟩)
  (k:∀ h' tk,h'.get? a=some ⟨.ref C,some s.heap.objs.size,.fields vs,sl⟩→(∀ b u,b≠a→s.heap.get? b=some u→h'.get? b=some u)→h'.Ns1 s.heap.objs.size (fun y=>if y=name then some v else none)→Q () { s with heap:=h',toks:=tk }) :
  wpAny (model prog w) A (setAttr (.ref a) name v) Q E s:=by
 refine zfP_ kin hj ha hx rfl ?_
 obtain ⟨nm,qn,N,bs,bm,sn,sub,ab,col,dd,k0,k1,k2,k3,k5,mN,hC,_⟩:=zdh_ kin hj
 cases s with
 | mk hp gs dr tk ost =>
 unfold Builtin.ObjectAttr.storeInOwnDict
 repeat (first | with_reducible refine zj9_ ?_ | with_reducible refine wpAny_loadPart_at hC ?_ | with_reducible refine wpAny_loadPart_at hx ?_ | wp_step)
 have hxs:a≠hp.objs.size:=Nat.ne_of_lt (Heap.lt_size hx)
 refine wpAny_nsSet1 (Heap.Ns1.of_empty ⟨_,#[],_,(Heap.get?_update_ne _ _ _ _ hxs.symm).trans (Heap.get?_push_at rfl rfl),rfl,fun e he=>absurd he (by simp),fun _=>rfl⟩) fun h' hn' hs=>?_
 obtain ⟨oD,esD,epD,hoD,hdD,hcD⟩:=hn'.count (Within.cons name v Within.nil)
 refine wpAny_bind (wpAny_lookBehind hoD (by rw [hdD]; exact pastItsLine_dict (Nat.le_trans hcD (by rw [List.length_cons,List.length_nil,sizeLine_eq]; lia))) ?_)
 wp_walk
 exact k h' _ ((hs.2 a hxs).trans (Heap.get?_update_self _ (Heap.get?_push_of_some _ hx) rfl)) (fun b u hb q=>(hs.2 b (Nat.ne_of_lt (Heap.lt_size q))).trans ((Heap.get?_update_ne _ _ _ _ hb).trans (Heap.get?_push_of_some _ q))) hn'
theorem zkx_ {Q:Unit→Shared→Prop}{ns:List Str}(kin:K.In s.heap) (hj:excJ K C=true) (ha:exA K C name=true) (hx:s.heap.get? a=some ⟨.ref C,some dx,.fields vs,sl⟩) (hn:s.heap.Ns1 dx mA) (hw:PySem.Within mA ns) (hz:ns.length≤sizeLine)
  (k:∀ h' tk,h'.Ns1 dx (fun y=>if y=name then some v else mA y)→Heap.SameBut dx s.heap h'→Q () { s with heap:=h',toks:=tk }) :
  wpAny (model prog w) A (setAttr (.ref a) name v) Q E s:=by
 refine zfP_ kin hj ha hx rfl ?_
 obtain ⟨nm,qn,N,bs,bm,sn,sub,ab,col,dd,k0,k1,k2,k3,k5,mN,hC,_⟩:=zdh_ kin hj
 cases s with
 | mk hp gs dr tk ost =>
 unfold Builtin.ObjectAttr.storeInOwnDict
 repeat (first | with_reducible refine zj9_ ?_ | with_reducible refine wpAny_loadPart_at hC ?_ | with_reducible refine wpAny_loadPart_at hx ?_ | wp_step)
 refine wpAny_nsSet1 hn fun h' hn' hs=>?_
 obtain ⟨oD,esD,epD,hoD,hdD,hcD⟩:=hn'.count (Within.cons name v hw)
 refine wpAny_bind (wpAny_lookBehind hoD (by rw [hdD]; exact pastItsLine_dict (Nat.le_trans hcD (by rw [List.length_cons]; lia))) ?_)
 wp_walk
 exact k h' _ hn' hs
theorem zkJ_ {Q:Value→Shared→Prop}{d:Option Addr}{t0:Addr}(kin:K.In s.heap) (hj:excJ K C=true) (hx:s.heap.get? a=some { cls:=.ref C,dict:=d,data:=.fields #[.ref t0,.none,.none,.none,.bool false,.none] })
  (k:∀ h',h'.get? a=some { cls:=.ref C,dict:=d,data:=.fields #[.ref s.heap.objs.size,.none,.none,.none,.bool false,.none] }→(∀ b u,b≠a→s.heap.get? b=some u→h'.get? b=some u)→Q .none { s with heap:=h' }) :
  wpAny (model prog w) A (call (.builtin "ValueError.__init__") [.ref a,v]) Q E s:=by
 obtain ⟨nm,qn,N,bs,bm,sn,sub,ab,col,dd,k0,k1,k2,k3,k5,mN,hC,_,_,TL,_⟩:=zdh_ kin hj
 have F:=PySem.F.excBase_ValueError
 cases s with
 | mk hp gs dr tk ost =>
 refine wpAny_call (codeAny_call_builtin F.init.plain F.initEntry (wpAny_check_init_subU F TL hC hx rfl ?_))
 wp_walk
 refine k _ ?_ fun b u hb q=>(Heap.get?_update_other _ _ (Ne.symm hb)).trans (Heap.get?_push_of_some _ q)
 rw [Heap.get?_update_self _ (Heap.get?_push_of_some _ hx) rfl]; rfl
end
def XMt (x C:Addr) (d:Option Addr) (h:Heap):Prop:=∃ t,h.get? x=some { cls:=.ref C,dict:=d,data:=.fields #[.ref t,.none,.none,.none,.bool false,.none] }
abbrev XM (x C:Addr) (d:Option Addr):HO:=.ext (XMt x C d)
theorem zoI_ {P:Program}{w:World}{H:Hp}{x C:Addr}{d:Option Addr}{h:Heap}(q:XMt x C d h):ObjOk P w H h x (XM x C d):=⟨q,(by obtain ⟨t,e⟩:=q; exact ⟨_,e⟩),fun h1 h2 ⟨t,e⟩ k=>⟨t,k _ e⟩⟩
theorem zkZ_ {H:Hp}{a:Addr}{o:HO}(h:H a=some o):upd H a o=H:=by
 funext b
 unfold upd
 split
 ·rename_i e; rw [e,h]
 ·rfl
def rem (H:Hp) (a:Addr):Hp:=fun b=>if b=a then none else H b
theorem zeD_ {H:Hp}{a b:Addr}(h:b≠a):rem H a b=H b:=if_neg h
theorem zhh_ {H:Hp}{a:Addr}:rem H a a=none:=if_pos rfl
section
variable {X:Cx}{pins:Pnn}{σ:St}{H:Hp}{s:Shared}{a C dx:Addr}{d:Option Addr}{fs:List (Str×V)}{f:Str}{y v:V}{u:Value}{A:Around}{E:Value→Shared→Prop}{φ:Heap→Prop}
theorem Inv.drop (I:Inv X pins σ H s) (e:H a=some (.ext φ)) (n:X.s₀.heap.get? a=none):Inv X pins σ (rem H a) s:=by
 have g:∀ b,H b=none→rem H a b=none:=fun b z=>by
  unfold rem; split
  ·rfl
  ·exact z
 refine ⟨I.ok,I.os,I.bare,⟨I.base.keep,I.base.slot,fun b o q z hx=>g b (I.base.free b o q z hx),I.base.there,fun b xs q=>?_,fun b o u q=>?_,fun b ps q=>?_⟩,I.loc,I.cell,g _ I.free,fun x c q=>g _ (I.freeC x c q),fun p hp=>?_,fun b o q=>?_,I.len⟩
 ·have z:=I.base.tups b xs q
  rw [zeD_ (fun w=>by rw [w,e] at z; cases z)]; exact z
 ·have z:=I.base.frzs b o u q
  rw [zeD_ (fun w=>by rw [w,e] at z; cases z)]; exact z
 ·obtain ⟨m,z⟩:=I.base.tbls b ps q
  exact ⟨m,by rw [zeD_ (fun w=>by rw [w,e] at z; cases z)]; exact z⟩
 ·obtain ⟨q1,q2,q3⟩:=I.pin p hp
  exact ⟨q1,g _ q2,q3⟩
 ·by_cases hb:b=a
  ·rw [hb,zhh_] at q; cases q
  ·rw [zeD_ hb] at q
   exact (I.hok b o q).stay (fun _ _ _ z=>z) (fun c z=>by rw [zeD_ (fun w=>by rw [w,e] at z; cases z)]; exact z) fun c xs z=>by rw [zeD_ (fun w=>by rw [w,e] at z; cases z)]; exact z
theorem Inv.addX {h':Heap}{us:List Value}(I:Inv X pins σ H s) (m:Heap.MadeExcOf s.heap h' a (.ref C) us) (hs:s.heap.objs.size≤a):Inv X pins σ (upd H a (XM a C none)) { s with heap:=h' }:=by
 obtain ⟨t,he,_,_⟩:=m.there
 exact I.laid (t':=s.toks) m.keeps hs (zoI_ ⟨t,he⟩)
theorem zmr_ {Q:Unit→Shared→Prop}(I:Inv X pins σ H s) (e:H a=some (XM a C none)) (hj:excJ X.K C=true) (ha:exA X.K C f=true) (ry:RelV y u)
  (h:∀ s' dx,H dx=none→Inv X pins σ (upd (upd H dx (XDO dx [(f,y)])) a (XM a C (some dx))) s'→Q () s'):wpAny (model X.prog X.w) A (setAttr (.ref a) f u) Q E s:=by
 obtain ⟨⟨t,hx⟩,_⟩:=I.hok a _ e
 have fr:H s.heap.objs.size=none:=I.hok.fresh (Nat.le_refl _)
 refine zkB_ I.kIn hj ha hx fun h' tk g1 g2 g3=>h _ s.heap.objs.size fr ?_
 have na:s.heap.objs.size≠a:=fun z=>by rw [z,e] at fr; cases fr
 have nd:∀ b o,s.heap.get? b=some o→b≠s.heap.objs.size:=fun b o q=>Nat.ne_of_lt (Heap.lt_size q)
 have tr:∀ b,b≠a→b≠s.heap.objs.size→upd (upd H s.heap.objs.size (XDO s.heap.objs.size [(f,y)])) a (XM a C (some s.heap.objs.size)) b=H b:=fun b z1 z2=>by rw [zI_ z1,zI_ z2]
 have nH:∀ b o,H b=some o→b≠s.heap.objs.size:=fun b o q z=>by rw [z,fr] at q; cases q
 refine I.un (h':=h') (t':=tk) ⟨fun b o q n _ _=>g2 b o (fun z=>by rw [z,e] at n; cases n) q,fun b o q n _ _=>⟨o.slots,g2 b o (fun z=>by rw [z,e] at n; cases n) q⟩,fun b o q n _=>?_,fun b o q _=>?_,fun b xs q=>?_,fun b o u q=>?_,fun b ps q=>⟨#[],?_⟩⟩ fun b o q=>?_
 ·rw [tr b (fun z=>by rw [z,e] at n; cases n) (nd b o q)]; exact n
 ·by_cases hb:b=a
  ·rw [hb]; exact ⟨_,g1⟩
  ·exact ⟨o,g2 b o hb q⟩
 ·rw [tr b (fun z=>by rw [z,e] at q; cases q) (nH b _ q)]; exact q
 ·rw [tr b (fun z=>by rw [z,e] at q; cases q) (nH b _ q)]; exact q
 ·rw [tr b (fun z=>by rw [z,e] at q; cases q) (nH b _ q),Array.append_empty]; exact q
 ·by_cases hb:b=a
  ·subst hb; rw [zu_] at q; cases q; exact zoI_ ⟨t,g1⟩
  ·rw [zI_ hb] at q
   by_cases hd:b=s.heap.objs.size
   ·rw [hd,zu_] at q; cases q
    rw [hd]
    refine xd_ok ⟨_,g3,fun g=>?_,fun g hg=>?_⟩
    ·rw [List.lookup_cons]
     by_cases z:g=f
     ·rw [z,beq_self_eq_true,if_pos rfl]; exact ry
     ·rw [beq_eq_false_iff_ne.mpr z,if_neg z]; exact True.intro
    ·by_cases z:g=f
     ·rw [z]; exact List.mem_cons_self
     ·exact absurd (if_neg z) hg
   ·rw [zI_ hd] at q
    refine (I.hok b o q).stay (fun c w hc z=>g2 c w (fun zz=>?_) z) (fun c z=>?_) fun c xs z=>?_
    ·rcases hc with rfl | hc
     ·exact hb zz
     ·rw [zz,e] at hc; cases hc
    ·rw [tr c (fun w=>by rw [w,e] at z; cases z) (nH c _ z)]; exact z
    ·rw [tr c (fun w=>by rw [w,e] at z; cases z) (nH c _ z)]; exact z
theorem zmx_ {Q:Unit→Shared→Prop}(I:Inv X pins σ H s) (e:H a=some (XM a C (some dx))) (ed:H dx=some (XDO dx fs)) (hj:excJ X.K C=true) (ha:exA X.K C f=true) (hl:fs.length<1000) (ry:RelV y u)
  (h:∀ s',Inv X pins σ (upd H dx (XDO dx (putF f y fs))) s'→Q () s'):wpAny (model X.prog X.w) A (setAttr (.ref a) f u) Q E s:=by
 obtain ⟨⟨t,hx⟩,_⟩:=I.hok a _ e
 obtain ⟨⟨mA,n1,n2,n3⟩,_⟩:=I.hok dx _ ed
 have hz:(fs.map (·.1)).length≤sizeLine:=by rw [List.length_map,sizeLine_eq]; lia
 refine zkx_ I.kIn hj ha hx n1 n3 hz fun h' tk g1 g2=>h _ ?_
 refine I.write (t':=tk) (x:=dx) (e:=dx) (by rw [ed]; exact True.intro) (.inl rfl) (fun b q hb z=>(g2.2 b hb).trans z) (by obtain ⟨o,_,_,z,_⟩:=g1; exact ⟨o,z⟩) (xd_ok ⟨_,g1,fun g=>?_,fun g hg=>?_⟩)
 ·rw [zdj_]
  by_cases q:g=f
  ·rw [if_pos q,if_pos q]; exact ry
  ·rw [if_neg q,if_neg q]; exact n2 g
 ·by_cases q:g=f
  ·rw [q]; exact (zdx_ f y fs).1
  ·refine (zdx_ f y fs).2 g (n3 g fun z=>hg ?_)
   show (if g=f then some u else mA g)=none
   rw [if_neg q]; exact z
theorem zmz_ {Q:Value→Shared→Prop}{u:Value}(I:Inv X pins σ H s) (e:H a=some (XM a C d)) (hj:excJ X.K C=true) (h:∀ s',Inv X pins σ H s'→Q .none s'):wpAny (model X.prog X.w) A (call (.builtin "ValueError.__init__") [.ref a,u]) Q E s:=by
 obtain ⟨⟨t,hx⟩,_⟩:=I.hok a _ e
 refine zkJ_ I.kIn hj hx fun h' g1 g2=>h _ ?_
 have z:=I.write (t':=s.toks) (o:=XM a C d) (x:=a) (e:=a) (by rw [e]; exact True.intro) (.inl rfl) g2 ⟨_,g1⟩ (zoI_ ⟨_,g1⟩)
 rw [zkZ_ e] at z
 exact z
theorem znn_ {b:Bool}{Q:Value→Shared→Prop}(I:Inv X pins σ H s) (e:H a=some (XO a C (some dx))) (ed:H dx=some (XDO dx fs)) (hj:excJ X.K C=true) (ha:exA X.K C f=true) (l:fs.lookup f=some v)
  (h:∀ u s',Inv X pins σ H s'→RelV v u→Q u s'):wpAny (model X.prog X.w) A (getAttr (.ref a) f b) Q E s:=by
 obtain ⟨⟨o,vs,q1,q2,q3,q4⟩,_⟩:=I.hok a _ e
 obtain ⟨⟨mA,n1,n2,n3⟩,_⟩:=I.hok dx _ ed
 obtain ⟨u,hu,ru⟩:=RelO.some_of (v:=v) (o:=mA f) (by rw [← l]; exact n2 f)
 have ne:dx≠a:=by
  rintro rfl
  obtain ⟨o',es,ep,z1,z2,_⟩:=id n1
  cases q1.symm.trans z1
  rw [q4] at z2; cases z2
 exact zkT_ I.kIn hj ha ⟨o,q1,q2,(fun c z=>by rw [q4] at z; cases z),.inr ⟨dx,q3,ne,n1⟩⟩ hu (zjj_ ru) (h u _ (I.tok _) ru)
end
def mXFld (K:Fgg) (te:TE) (f:Str):TE:=fun σ H Q=>te σ H fun x H1=>match x with
 | .ref a=>∃ C dx fs v,H1 a=some (XO a C (some dx))∧H1 dx=some (XDO dx fs)∧(excJ K C=true∧exA K C f=true)∧fs.lookup f=some v∧Q v H1
 | _=>False
def mXSet (C:Addr) (te tv:TE) (f:Str):TS:=fun D σ H=>tv σ H fun y H1=>te σ H1 fun x H2=>match x with
 | .ref a=>(∃ dx fs,H2 a=some (XM a C (some dx))∧H2 dx=some (XDO dx fs)∧fs.length<1000∧D.nx σ (upd H2 dx (XDO dx (putF f y fs))))∨(H2 a=some (XM a C none)∧∀ dx,H2 dx=none→D.nx σ (upd (upd H2 dx (XDO dx [(f,y)])) a (XM a C (some dx))))
 | _=>False
def mBInit (C:Addr) (t:TA):TS:=fun D σ H=>t σ H fun vs H1=>match vs with
 | [.ref a,_]=>∃ d,H1 a=some (XM a C d)∧D.nx σ H1
 | _=>False
def binK (K:Fgg) (B:Addr):Bool:=PySem.W.specialIn K (.ref B) "__getattribute__" == some (some (.builtin "type.__getattribute__")) && (PySem.W.readsIn K B (.type "type") && match PySem.W.findCls K (.ref B) (.type "type") "__init__" with | some (.val v)=>v == .builtin "ValueError.__init__" | _=>false)
section
variable {X:Cx}{e value o:Expr}{es:List Expr}{f x:Str}{p pos pos' apos:Pos}{ta tv te:TE}{t:TA}{C B:Addr}{k:Nat}{ps:List Str}{sp:Sp}
theorem zjz_ (he:PE X e te) (hb:attributeBase e f X.env (eval e X.env)=eval e X.env:=by rfl):PE X (.Attribute e f pos) (mXFld X.K te f):=by
 intro pins s σ H Q I h
 refine zmI_ hb (thn (he pins s σ H _ I h) fun u s1 hq_=>?_)
 obtain ⟨x,H1,I1,rx,q1⟩:=hq_
 cases x with
 | ref a =>
  obtain ⟨C,dx,fs,v,ea,ed,⟨hj,ha⟩,l,q⟩:=q1
  obtain rfl:u=Value.ref a:=rx
  exact znn_ I1 ea ed hj ha l fun u' s2 I2 ru=>⟨v,H1,I2,ru,q⟩
 | _=>exact q1.elim
theorem zjN_ (hj:excJ X.K C=true) (hA:exA X.K C f=true) (ha:PE X o ta) (hv:PE X value tv) (hs:swapsWith value (some (.Attribute o f pos')) pos.line X.env=pure false:=by rfl):PS X (.Assign [.Attribute o f pos'] value pos) (mXSet C ta tv f):=by
 intro pins s σ H D I h
 refine plainObj_wpAny_Assign_Attribute (thn (hv pins s σ H _ I h) fun u s1 ⟨y,H1,I1,ry,q⟩=>thn (ha pins s1 σ H1 _ I1 q) fun ov s2 hq_=>?_) hs
 obtain ⟨x,H2,I2,rx,q2⟩:=hq_
 cases x with
 | ref a =>
  obtain rfl:ov=Value.ref a:=rx
  rcases q2 with ⟨dx,fs,ea,ed,l,q3⟩ | ⟨ea,q3⟩
  ·exact zmx_ I2 ea ed hj hA l ry fun s3 I3=>⟨σ,_,I3,q3⟩
  ·exact zmr_ I2 ea hj hA ry fun s3 dx hd I3=>⟨σ,_,I3,q3 dx hd⟩
 | _=>exact q2.elim
theorem zkn_ {pl:Sem Bool}{e2:Expr}(hj:excJ X.K C=true) (hk:binK X.K B=true) (hm:X.mg x=some (.ref B)) (ha:PA X [e,e2] t) (hg:Gl X x:=by rfl) (hdb:(x == ("__debug__" : Str))=false:=by decide)
  (hst:starEach [e,e2] X.env=(false,eval e X.env)::starEach [e2] X.env:=by rfl) (hpl:(backTo pos (starEach [e2] X.env)).any (·.1)=false:=by rfl)
  (ht:eval (.Call (.Attribute (.Name x p) "__init__" apos) [e,e2] [] pos) X.env=(do
   let ov ← eval (.Name x p) X.env
   standAt apos.atName
   let (f,first) ← holding [ov] (getMethod ov "__init__" pl)
   callWith pos f first (backTo pos (starEach [e,e2] X.env)) (backToKw pos (keywordEach [] X.env))):=by rfl)
  (hs:swapsWith (.Call (.Attribute (.Name x p) "__init__" apos) [e,e2] [] pos) none pos'.line X.env=pure false:=by rfl) :
  PS X (.Expr (.Call (.Attribute (.Name x p) "__init__" apos) [e,e2] [] pos) pos') (mBInit C t):=by
 unfold binK at hk
 simp only [Bool.and_eq_true,beq_iff_eq] at hk
 obtain ⟨h1,h2,h3⟩:=hk
 split at h3
 case h_2=>cases h3
 case h_1 v0 h4 =>
  obtain rfl:v0=_:=beq_iff_eq.mp h3
  have hn:PE X (.Name x p) (tC (.ref B)):=zj4_ hg hm rfl hdb
  intro pins s σ H D I h
  refine wpAny_Expr_any (Q:=SP X pins D) ?_ I.quiet hs
  refine PySem.W.methodCall_KW (pl:=pl) (thn (hn pins s σ H (fun v H1=>v=.ref B∧mBInit C t D σ H1) I ⟨rfl,h⟩) fun u s1 hq_=>?_) ht
  obtain ⟨x,H1,I1,rx,ex,q⟩:=hq_
  subst ex
  obtain rfl:u=Value.ref B:=rx
  refine PySem.W.method_cls I1.kIn h1 (PySem.W.cls_value I1.kIn h2 h4 rfl ?_)
  refine PyProof.Rows.callWith_builtin1 (thn (ha pos pins _ σ H1 _ (I1.tok _) q) fun us s2 hq_=>?_) hst hpl
  obtain ⟨vs,H2,I2,r,q2⟩:=hq_
  match vs,q2 with
  | [.ref a,w],⟨d,ea,q3⟩ =>
   obtain ⟨u1,u2,rfl,r1,r2⟩:=vals2 r
   obtain rfl:u1=Value.ref a:=r1
   exact zmz_ I2 ea hj fun s3 I3=>⟨σ,H2,I3,q3⟩
end
end L2
namespace L2
open PySem PySem.Spec PyProof.Rows
def GxI (P:Program) (w:World) (K:Fgg) (mg:Str→Option Value) (base:Heap) (k:Nat) (x:Str) (C:Addr) (ps:List Str) (sp:Sp):Prop :=
 ∃ f fd,FnOk P w K mg base CX0 k f fd ps sp∧excJ K C=true∧PySem.W.findIn K (.ref C) "__init__" = some (some (.ref f))∧PySem.W.isFn K (.ref f)=true∧mg x=some (.ref C)∧Binds K fd ps []
def tRaiseI (C:Addr) (sp:Sp) (E:XK) (t:TA):TS:=fun _ σ H=>t σ H fun vs H1=>vs.length≤100∧∀ x,H1 x=none→sp (.ref x::(vs++[])) (upd H1 x (XM x C none)) (fun v H2=>v=.non∧∃ d,H2 x=some (XM x C d)∧E (.ref C) d (rem H2 x)) E0
theorem fn_at {K:Fgg}{h:Heap}{f:Addr}(kin:K.In h) (q:PySem.W.isFn K (.ref f)=true):∃ o,h.get? f=some o∧o.cls=.type "function" := by
 unfold PySem.W.isFn PySem.W.typeIn at q
 have q:Option.map (fun x=>x.cls) (List.lookup f K)=some (.type "function"):=beq_iff_eq.mp q
 cases e:List.lookup f K with
 | none=>rw [e] at q; cases q
 | some o=>rw [e] at q; exact ⟨o,kin _ _ e,Option.some.inj q⟩
section
variable {X:Cx}{E:XK}{C:Addr}{x:Str}{e:Expr}{es:List Expr}{t:TA}{np cpos pos:Pos}{k:Nat}{ps:List Str}{sp:Sp}
theorem zjo_ (hT:Takes X E) (hcm:X.calm=true) (G:GxI X.prog X.w X.K X.mg X.base k x C ps sp) (hr:Room (k+1) X.A) (ha:PA X (e::es) t) (hg:Gl X x:=by rfl) (hdb:(x == ("__debug__" : Str))=false:=by decide)
  (he:starEach (e::es) X.env=(false,eval e X.env)::starEach es X.env:=by rfl) (hpl:(backTo cpos (starEach es X.env)).any (·.1)=false:=by rfl) (hex:X.ex=[]:=by rfl) :
  PS X (.Raise (some (.Call (.Name x np) (e::es) [] cpos)) none pos) (tRaiseI C sp E t):=by
 obtain ⟨f,fd,Fo,hj,hf,hfn,hm,hb⟩:=G
 intro pins s σ H D I h
 obtain ⟨nm,qn,N,bs,bm,sn,sub,ab,col,dd,k0,k1,k2,k3,k5,mN,hC,hN,hni,TL,hkp⟩:=zdh_ I.ok.mod.kin hj
 rw [arm_exec_Raise]
 refine wpAny_bind (wpAny_standAt (ziu_ (C:=C) (nm:=nm) (q:=qn) (N:=N) (bs:=bs) (bm:=bm) (hd:=true) (sn:=sn) (sub:=sub) (ab:=ab) (col:=col) (dd:=dd) (k0:=k0) (k1:=k1) (k2:=k2) (k3:=k3) (k5:=k5) (ni := "ValueError.__new__") (TL.hasType rfl) (I.ok.hd hcm) ?_))
 refine wpAny_bind (thn (wpAny_Call_Name_kw (zcS_ I hg hm (PySem.W.callWith_K (h₀:=X.base) I.ok.mod.kin hkp (thn (ha cpos pins s σ H _ I h) fun us s1 ⟨vs,H1,I1,r,q⟩=>⟨I1.kIn,?_⟩) he hpl) hdb)) fun v s3 h3=>wpAny_bind (wpAny_standAt (wpAny_pure h3)))
 obtain ⟨hl,q⟩:=q
 obtain ⟨fo,hfo,hfc⟩:=fn_at I1.kIn hfn
 obtain ⟨hp,gg,dr,tk,ost⟩:=s1
 refine zkC_ (TL.keeps I1.bk) (I1.bk _ _ hC) (hN.keeps I1.bk) (hni f hf) hfo hfc (fun h' a hmd hz=>?_) (by show us.length≤_; rw [← r.length]; exact Nat.le_trans hl (by rw [sizeLine_eq]; decide))
 have I2:=I1.addX hmd hz
 have hq:=q a (I1.hok.none_at hmd.new)
 have r2:Vals (V.ref a::(vs++[])) (Value.ref a::(us++[])):=.cons rfl (r.append .nil)
 have hl2:(Value.ref a::us++[]).length=ps.length:=by
  have e:=r2.length
  rw [Fo.len _ _ _ _ hq] at e
  exact e.symm
 have yg:X.s₀.heap.get? a=none:=by
  cases e:X.s₀.heap.get? a with
  | none=>rfl
  | some o =>
   obtain ⟨o',z⟩:=I1.base.there a o e (fun z=>by rw [hex] at z; cases z)
   rw [hmd.new] at z; cases z
 have hb2:BindsTo ⟨h',gg,dr,tk,ost⟩ fd ⟨Value.ref a::us,[]⟩ (ps.zip (Value.ref a::(us++[]))):=by have z:=hb ⟨h',gg,dr,tk,ost⟩ (Value.ref a::us) I2.kIn hl2; rwa [List.cons_append] at z
 refine wpAny_call (codeAny_mono (Fo.run _ X.stack _ _ ⟨Value.ref a::us,[]⟩ (Value.ref a::(us++[])) _ _ E0 (hr.make C us []) (I2.env0.make C us []) hb2 r2 hq) fun r s' hq'=>?_)
 cases r with
 | error e=>exact pass0 (X:=X) pins σ _ _ e s' I2 hq'
 | ok fl =>
  cases fl with
  | ret u =>
   obtain ⟨v,H',I3,rv,ev,d,hd,q3⟩:=I2.after hq'
   subst ev
   obtain ⟨⟨t,hx⟩,_⟩:=I3.hok a _ hd
   exact ⟨rv,a,_,_,rfl,I3.bk _ _ hC,hx,rfl,rfl,rfl,hT pins σ (rem H' a) s' a C _ _ _ (I3.drop hd yg) zhh_ yg hx rfl rfl rfl rfl q3⟩
  | next=>exact False.elim hq'
  | brk=>exact False.elim hq'
  | cont=>exact False.elim hq'
end
def CtI {γ:Type}(K:Fgg) (C:Addr) (Q:Cs γ) (g:γ→Mo (List Nat)) (ns:List Str):Sp:=fun vs H R E=>∃ F c x ws,vs=.ref x::ws∧Same F H∧H x=some (XM x C none)∧Q.R c ws F ∧
 After K (g c) E F H fun _ _ H'=>∀ dx,H' dx=none→R .non (upd (upd H' dx (XDO dx (ns.zip ws))) x (XM x C (some dx)))
section
variable {K:Fgg}{E:XK}{α β γ ρ S B:Type}{F0 H0 F h H:Hp}{L:List Sl}{O:Own ρ}{LS:S→List Sl}{LB:B→List Sl}{C:Addr}
theorem xi_rd {te:TE}{T1:Ty α}{T2:Ty β}{g:α×β→Mo (List Nat)}{n1 n2:Str}{N:List Str}(hN:N.length=3) (hne:n1≠n2) (ev:∀ c E,EvF K te E [.dead,.fz T1 c.1,.fz T2 c.2] (g c) tyStr) :
  ∀ vs H R E,CtI K C (csCons T1 (csLast T2)) g [n1,n2] vs H R E→tSeq (mBInit C (tCons (mVar 0) (tCons te tNil))) (tSeq (mXSet C (mVar 0) (mVar 1) n1) (mXSet C (mVar 0) (mVar 2) n2)) { nx:=fun _ H'=>R .non H',rt:=R } (start N vs) H:=by
 rintro vs H R E ⟨F,c,x,ws,rfl,hs,hx,⟨w1,us,rfl,h1,w2,rfl,h2⟩,q⟩
 have hst:start N [V.ref x,w1,w2]=[some (.ref x),some w1,some w2]:=by unfold start; rw [hN]; rfl
 rw [hst]
 refine ev c E _ F H _ (fun i s e=>?_) hs (q.imp fun txt F1 H1 ex k v hv=>?_)
 ·match i with
  | 0=>cases e; trivial
  | 1=>cases e; exact ⟨w1,rfl,h1⟩
  | 2=>cases e; exact ⟨w2,rfl,h2⟩
  | i+3=>cases e
 ·have hx1:H1 x=some (XM x C none):=ex.2.2.1 _ _ hx
  refine ⟨none,hx1,?_⟩
  refine .inr ⟨hx1,fun dx hd=>?_⟩
  have ne:dx≠x:=fun z=>by rw [z,hx1] at hd; cases hd
  refine .inl ⟨dx,[(n1,w1)],zu_,by rw [zI_ ne]; exact zu_,(show (1:Nat)<1000 by decide),?_⟩
  have e1:putF n2 w2 [(n1,w1)]=[(n1,w1),(n2,w2)]:=by unfold putF; rw [if_neg hne]; rfl
  rw [e1]
  have e2:upd (upd (upd H1 dx (XDO dx [(n1,w1)])) x (XM x C (some dx))) dx (XDO dx [(n1,w1),(n2,w2)])=upd (upd H1 dx (XDO dx [(n1,w1),(n2,w2)])) x (XM x C (some dx)):=by
   funext b
   unfold upd
   by_cases z1:b=dx
   ·rw [if_pos z1,if_neg (fun z2=>ne (z1.symm.trans z2)),if_pos z1]
   ·rw [if_neg z1,if_neg z1,if_neg z1]
  rw [e2]
  exact k dx hd
theorem zkq_ {cn:String}{Q:Cs γ}{n:Nat}{ns:List Str}{g:γ→Mo (List Nat)}{as:γ→List (Str×Av)}{ta:TA}{r:Mo γ}(hl:CsN Q n) (hat:∀ c ws F,Q.R c ws F→AtR (as c) (ns.zip ws) F) (h:EvA K ta E L r Q) (hn:n≤100:=by decide) :
  EvS K (tRaiseI (gA K cn) (CtI K (gA K cn) Q g ns) E ta) E L (r.bind fun c=>(Mo.noex (g c)).bind fun _=>.ex (.at cn (as c))) LS LB O:=by
 intro F0 H0 σ F hh H D hL ok fin
 refine h σ (un F hh) H _ (hL.froz ok.2.1) ok.thaw (zak_ (G:=F) ok _ (.inl rfl) fin fun a F' H' hr x vs hv=>?_)
 rw [hr] at fin
 refine ⟨by rw [hl hv]; exact hn,fun xx hxx=>⟨F',a,xx,vs,by rw [List.append_nil],x.2.1.trans (zaB_ hxx _),zu_,hv,?_⟩⟩
 cases e:g a with
 | no=>rw [show Mo.bind (Mo.ok a) (fun c=>(Mo.noex (g c)).bind fun _=>.ex (.at cn (as c)))=(Mo.noex (g a)).bind fun _=>(.ex (.at cn (as a)):Mo (Out ρ B S)) from rfl,e] at fin; exact fin
 | ex c=>rw [show Mo.bind (Mo.ok a) (fun c=>(Mo.noex (g c)).bind fun _=>.ex (.at cn (as c)))=(Mo.noex (g a)).bind fun _=>(.ex (.at cn (as a)):Mo (Out ρ B S)) from rfl,e] at fin; exact fin.elim
 | ok txt =>
  rw [show Mo.bind (Mo.ok a) (fun c=>(Mo.noex (g c)).bind fun _=>.ex (.at cn (as c)))=(Mo.noex (g a)).bind fun _=>(.ex (.at cn (as a)):Mo (Out ρ B S)) from rfl,e] at fin
  intro F2 H2 y dx hd
  refine ⟨rfl,some dx,zu_,?_⟩
  have hxx2:H2 xx=some (XM xx (gA K cn) none):=y.2.2.1 _ _ zu_
  have ne:dx≠xx:=fun z=>by rw [z,hxx2] at hd; cases hd
  have hF':F' xx=none:=x.2.1.free hxx
  have hF2:F2 xx=none:=by
   cases z:F2 xx with
   | none=>rfl
   | some o=>have:=y.2.2.2 xx hF' (by rw [z]; exact Option.some_ne_none _); rw [zu_] at this; cases this
  have hF2d:F2 dx=none:=y.2.1.free hd
  have up:∀ p,H' p≠none→p≠xx:=fun p z w=>z (by rw [w]; exact hxx)
  have s12:Same H' H2:=(zaB_ hxx _).trans y.2.2.1
  have hH3:∀ p o,p≠xx→H2 p=some o→rem (upd (upd H2 dx (XDO dx (ns.zip vs))) xx (XM xx (gA K cn) (some dx))) xx p=some o:=fun p o n z=>by
   rw [zeD_ n,zI_ n,zI_ (fun w=>by rw [w,hd] at z; cases z)]; exact z
  have hH3d:rem (upd (upd H2 dx (XDO dx (ns.zip vs))) xx (XM xx (gA K cn) (some dx))) xx dx=some (XDO dx (ns.zip vs)):=by rw [zeD_ ne,zI_ ne]; exact zu_
  have Y:Ext (un F hh) H (upd F2 dx (XDO dx (ns.zip vs))) (rem (upd (upd H2 dx (XDO dx (ns.zip vs))) xx (XM xx (gA K cn) (some dx))) xx):=by
   refine ⟨(x.1.trans y.1).trans (zaB_ hF2d _),fun p o z=>?_,fun p o z=>hH3 p o (up p (by rw [x.2.2.1 _ _ z]; exact Option.some_ne_none _)) (s12 _ _ (x.2.2.1 _ _ z)),fun p a1 b1=>?_⟩
   ·by_cases w:p=dx
    ·rw [w,zu_] at z; cases z; rw [w]; exact hH3d
    ·rw [zI_ w] at z
     exact hH3 p o (fun v=>by rw [v,hF2] at z; cases z) (y.2.1 _ _ z)
   ·by_cases w:p=dx
    ·rw [w]; exact (x.2.2.1.trans s12).free hd
    ·rw [zI_ w] at b1
     cases z:F' p with
     | some o=>exact x.2.2.2 p a1 (by rw [z]; exact Option.some_ne_none _)
     | none =>
      have q:=y.2.2.2 p z b1
      exact x.2.2.1.free ((zaB_ hxx (XM xx (gA K cn) none)).free q)
  obtain ⟨o1,o2,o3⟩:=ok.back Y
  have hhd:hh dx=none:=ok.2.2.1.free ((x.2.2.1.trans s12).free hd)
  refine fin _ hh _ o1 dx _ (ok.1.2.2.1.free ((x.2.2.1.trans s12).free hd)) ?_ ((hat a vs F' hv).imm fun p xs z=>o3 p xs ?_)
  ·rw [zax_ hhd]; exact zu_
  ·rw [zI_ (fun w=>by rw [w] at z; have:=y.1 _ _ z; rw [hF2d] at this; cases this)]; exact y.1 _ _ z
end
end L2
namespace L2
open PySem PySem.Spec PyProof.Rows
def Xc.c:Xc→String
 | .pl c=>c
 | .at c _=>c
def XAtt (x:Xc) (d:Option Addr) (H:Hp):Prop:=match x with
 | .pl _=>d=none
 | .at _ as=>∃ dx fs,d=some dx∧H dx=some (XDO dx fs)∧AtR as fs H
theorem XAtt.mono {x:Xc}{d:Option Addr}{H H':Hp}(g:Same H H') (h:XAtt x d H):XAtt x d H':=by
 cases x with
 | pl c=>exact h
 | «at» c as=>obtain ⟨dx,fs,e,q,r⟩:=h; exact ⟨dx,fs,e,g _ _ q,r.imm g.tups⟩
abbrev tyXc (K:Fgg):Ty Xc:=⟨fun x v H=>∃ p d,v=.ref p∧H p=some (XO p (gA K x.c) d)∧XAtt x d H,fun g ⟨p,d,e,q,r⟩=>⟨p,d,e,g _ _ q,r.mono g⟩⟩
abbrev tyTop:Ty Unit:=⟨fun _ _ _=>True,fun _ h=>h⟩
theorem ziq_:Imm tyTop:=fun _ h=>h
def Mo.tr {α β:Type}(r:Mo α) (k:α→Mo β) (hd:Xc→Mo β):Mo β:=match r with | .ok a=>k a | .ex x=>hd x | .no=>.no
def Mo.cat {β:Type}(t:List (String×Bool)) (c:String) (k1 k2:Mo β):Mo β:=match t.lookup c with | some true=>k1 | some false=>k2 | none=>.no
def CatT (K:Fgg) (S:String) (t:List (String×Bool)):Prop:=∀ p∈t,(if p.2 then catK K (gA K p.1) (gA K S) else catN K (gA K p.1) (gA K S))=true
def IsaT (K:Fgg) (v:Value) (t:List (String×Bool)):Prop:=∀ p∈t,isaK K (gA K p.1) v=some p.2
theorem zbT_ {β:Type}{c:String}{b:β}:∀ {t:List (String×β)},t.lookup c=some b→(c,b)∈t
 | [],h=>by cases h
 | (d,x)::t,h=>by
  rw [List.lookup_cons] at h
  split at h
  ·rename_i e; cases h; rw [eq_of_beq e]; exact List.mem_cons_self
  ·exact List.mem_cons_of_mem _ (zbT_ h)
theorem zh9_ {K:Fgg}{S:String}:CatT K S []:=fun _ h=>nomatch h
theorem zmK_ {K:Fgg}{S c:String}{t:List (String×Bool)}(h:catK K (gA K c) (gA K S)=true) (r:CatT K S t):CatT K S ((c,true)::t):=fun p hp=>by
 rcases List.mem_cons.mp hp with rfl | hp
 ·exact h
 ·exact r p hp
theorem zng_ {K:Fgg}{S c:String}{t:List (String×Bool)}(h:catN K (gA K c) (gA K S)=true) (r:CatT K S t):CatT K S ((c,false)::t):=fun p hp=>by
 rcases List.mem_cons.mp hp with rfl | hp
 ·exact h
 ·exact r p hp
theorem zan_ {K:Fgg}{v:Value}:IsaT K v []:=fun _ h=>nomatch h
theorem zar_ {K:Fgg}{v:Value}{c:String}{b:Bool}{t:List (String×Bool)}(h:isaK K (gA K c) v=some b) (r:IsaT K v t):IsaT K v ((c,b)::t):=fun p hp=>by
 rcases List.mem_cons.mp hp with rfl | hp
 ·exact h
 ·exact r p hp
theorem zkO_ {K:Fgg}{C S:Addr}(h:catN K C S=true):¬ catK K C S=true:=fun h2=>by
 unfold catN at h; unfold catK at h2
 simp only [Bool.and_eq_true,beq_iff_eq] at h h2
 have:=h.2.symm.trans h2.2
 cases this
section
variable {K:Fgg}{E:XK}{α β γ δ ρ S B:Type}{F0 H0 F h H:Hp}{L:List Sl}{O:Own ρ}{LS:S→List Sl}{LB:B→List Sl}{i:Nat}{x:Xc}{ts:TS}{rest th:TH}{e:TE}{r:Mo α}{T:Ty α}
def EvH (K:Fgg) (th:TH) (E:XK) (L:List Sl) (x:Xc) (r:Mo (Out ρ B S)) (LS:S→List Sl) (LB:B→List Sl) (O:Own ρ):Prop :=
 ∀ F0 H0 σ F h H d (D:Ends),Hold L σ F h→Okk F0 H0 F h H→XAtt x d F→Fin K r E LS LB O F0 H0 D→th (gA K x.c) d D σ H
theorem eh_0:EvH K tH0 E L x .no LS LB O:=fun _ _ _ _ _ _ _ _ _ _ _ fin=>fin
theorem zdC_:∀ {L:List Sl}{σ:St}{F h:Hp}{i:Nat}{o:Option V},L[i]?=some .dead→Hold L σ F h→Hold L (σ.set i o) F h
 | [],_,_,_,_,_,e,_=>by simp at e
 | s::L,[],_,_,_,_,_,q=>q.elim
 | s::L,a::σ,F,h,0,o,e,⟨h1,h2,j,p,q⟩=>by
  cases (show s=.dead by simpa using e)
  exact ⟨h1,h2,j,trivial,q⟩
 | s::L,a::σ,F,h,i+1,o,e,⟨h1,h2,j,p,q⟩=>⟨h1,h2,j,p,zdC_ (by simpa using e) q⟩
theorem zeK_ {L:List Sl}{σ:St}{F h:Hp}{i:Nat}{o:Option V}(e:L[i]?=some .dead∨L=[]) (q:Hold L σ F h):Hold L (σ.set i o) F h:=by
 rcases e with e | rfl
 ·exact zdC_ e q
 ·cases σ with
  | nil=>exact q
  | cons a σ=>exact q.elim
theorem zlM_ {D:Ends}{r:Mo (Out ρ B S)}(hd:∀ s,(LS s)[i]?=some .dead) (hb:∀ b,(LB b)[i]?=some .dead∨LB b=[]) (fin:Fin K r E LS LB O F0 H0 D):Fin K r E LS LB O F0 H0 (gone i D):=by
 cases r with
 | no=>exact fin
 | ex c=>exact fin
 | ok o =>
  cases o with
  | nx s=>exact fun σ F h H q ok=>fin _ F h H (zdC_ (hd s) q) ok
  | bk s=>exact fun σ F h H q ok=>fin _ F h H (zeK_ (hb s) q) ok
  | ct s=>exact fun σ F h H q ok=>fin _ F h H (zeK_ (hb s) q) ok
  | rt a=>exact fin
theorem eh_as {c:String}{t:List (String×Bool)}{r1 r2:Mo (Out ρ B S)}(hT:CatT K c t) (hi:L[i]?=some .dead) (hd:∀ s,(LS s)[i]?=some .dead)
  (h1:EvS K ts E (L.set i (.fz (tyXc K) x)) r1 LS LB O) (h2:EvH K rest E L x r2 LS LB O) (hb:∀ b,(LB b)[i]?=some .dead∨LB b=[]:=by first | exact fun _=>.inl rfl | exact fun _=>.inr rfl):EvH K (tHAs K (gA K c) i ts rest) E L x (Mo.cat t x.c r1 r2) LS LB O:=by
 intro F0 H0 σ F h H d D hL ok hx fin
 unfold Mo.cat at fin
 split at fin
 case h_1 e =>
  have z:catK K (gA K x.c) (gA K c)=true:=hT _ (zbT_ e)
  unfold tHAs
  rw [if_pos z]
  intro p hp
  have y:=Ext.new (o:=XO p (gA K x.c) d) ok.1.2.1 hp
  exact h1 F0 H0 _ (upd F p (XO p (gA K x.c) d)) h _ (gone i D) (zbV_ hi (hL.mono y.1) ⟨p,d,rfl,zu_,hx.mono y.1⟩) (ok.cold y) (zlM_ hd hb fin)
 case h_2 e =>
  have z:catN K (gA K x.c) (gA K c)=true:=hT _ (zbT_ e)
  unfold tHAs
  rw [if_neg (zkO_ z)]
  exact ⟨z,h2 F0 H0 σ F h H d D hL ok hx fin⟩
 case h_3=>exact fin.elim
theorem zob_ {C:Cs γ}{fn:γ→Mo δ}{O0:Own δ}{ta:TA}{ra:Mo γ}{rn:Mo (Out ρ B S)}{hand:Xc→Mo (Out ρ B S)}(ha:EvA K ta E L ra C) (hn:EvS K tNext E L rn LS LB O) (hh:∀ x,EvH K th E L x (hand x) LS LB O) :
  EvS K (tTryH (tDropX (Ct K C fn O0) ta) th) E L (ra.bind fun c=>Mo.tr (fn c) (fun _=>rn) hand) LS LB O:=by
 intro F0 H0 σ F h H D hL ok fin
 refine ha σ (un F h) H _ (hL.froz ok.2.1) ok.thaw (zak_ (G:=F) ok _ (.inl rfl) fin fun c F1 H1 hr x1 vs hv=>?_)
 rw [hr] at fin
 have fin:Fin K (Mo.tr (fn c) (fun _=>rn) hand) E LS LB O F0 H0 D:=fin
 refine ⟨F1,c,x1.2.1,by rw [List.append_nil]; exact hv,?_⟩
 cases e:fn c with
 | no=>rw [e] at fin; exact fin
 | ok a =>
  rw [e] at fin
  intro F2 H2 x2 v k _ _ _ _
  obtain ⟨o,hs,ht⟩:=ok.back (x1.trans x2)
  exact hn F0 H0 σ _ h H2 D (hL.mono hs) o fin
 | ex x =>
  rw [e] at fin
  have fin:Fin K (hand x) E LS LB O F0 H0 D:=fin
  intro F2 H2 x2
  obtain ⟨o,hs,ht⟩:=ok.back (x1.trans x2)
  cases x with
  | pl c'=>exact ⟨_,rfl,hh (.pl c') F0 H0 σ _ h H2 none D (hL.mono hs) o rfl fin⟩
  | «at» c' as =>
   intro dx fs e1 e2 e3
   refine ⟨_,rfl,hh (.at c' as) F0 H0 σ _ h H2 (some dx) D (hL.mono hs) o ⟨dx,fs,rfl,?_,e3.imm ht⟩ fin⟩
   rw [zax_ (ok.2.2.1.free (x1.2.2.1.free e1))]; exact e2
def isaQ (t:List (String×Bool)) (c:String):Option Bool:=t.lookup c
theorem zbl_ {t:List (String×Bool)}{v:V}{u:Value}{re:Mo Xc}(hT:IsaT K u t) (hv:clsV v=some u) (h:EvF K e E L re (tyXc K)):EvF K (tCB (mIsaX K) (tCons e (tCons (tC v) tNil))) E L (re.bind fun x=>Mo.opt (isaQ t x.c)) tyBl:=by
 intro σ F H R hL hs q
 refine h σ F H _ hL hs (q.bind.imp fun x F1 H1 x1 k1 w hq_=>?_)
 obtain ⟨p,d,e,hp,_⟩:=hq_
 subst e
 obtain ⟨b,e,k2⟩:=k1.opt
 have z:(x.c,b)∈t:=zbT_ (show t.lookup x.c=some b from e)
 have z2:isaK K (gA K x.c) u=some b:=hT (x.c,b) z
 have z3:H1 p=some (XO p (gA K x.c) d):=x1.2.1 _ _ hp
 have z4:R (.bl b) H1:=k2.ok x1.2.1 _ rfl
 generalize gA K x.c=D at z2 z3
 show ∃ D d v' b,H1 p=some (XO p D d)∧clsV v=some v'∧isaK K D v'=some b∧R (.bl b) H1
 exact ⟨D,d,u,b,z3,hv,z2,z4⟩
def attI (c:String) (n:Str) (x:Xc):Option Int:=match x with
 | .at c' as=>if c'=c then (match as.lookup n with | some (.i k)=>some k | _=>none) else none
 | _=>none
theorem zeG_ {n:Str}{a:Av}{H:Hp}:∀ {as:List (Str×Av)}{fs:List (Str×V)},AtR as fs H→as.lookup n=some a→∃ v,fs.lookup n=some v∧a.R v H
 | _,_,.nil,h=>by cases h
 | (m,b)::as,(m',v)::fs,.cons ⟨e,r⟩ t,h=>by
  cases (show m=m' from e)
  rw [List.lookup_cons] at h ⊢
  split at h
  ·cases h; exact ⟨v,rfl,r⟩
  ·exact zeG_ t h
theorem zhC_ {c:String}{n:Str}{re:Mo Xc}(hj:excJ K (gA K c)=true) (ha:exA K (gA K c) n=true) (h:EvF K e E L re (tyXc K)):EvF K (mXFld K e n) E L (re.bind fun x=>Mo.opt (attI c n x)) tyInt:=by
 intro σ F H R hL hs q
 refine h σ F H _ hL hs (q.bind.imp fun x F1 H1 x1 k1 w hq_=>?_)
 obtain ⟨p,d,e,hp,hx⟩:=hq_
 subst e
 obtain ⟨b,e,k2⟩:=k1.opt
 unfold attI at e
 split at e
 case h_2=>cases e
 case h_1 c' as =>
  split at e
  case isFalse=>cases e
  case isTrue z =>
   subst z
   split at e
   case h_2=>cases e
   case h_1 kk z2 =>
    cases e
    obtain ⟨dx,fs,rfl,hd,hr⟩:=hx
    obtain ⟨v,l,z3⟩:=zeG_ hr z2
    exact ⟨_,dx,fs,v,x1.2.1 _ _ hp,x1.2.1 _ _ hd,⟨hj,ha⟩,l,k2.ok x1.2.1 _ z3⟩
theorem zmG_ {xs:List (List Nat)}{te e1 e2:TE}{u:TS}{re:Mo (List Nat×List Nat)}{r1 r2:Mo Int}{k:List (List Nat)→Mo (Out ρ B S)}(hi:L[i]?=some (.ow (owL tyStr) xs)) (he:EvF K te E L re (tyTup (csCons tyStr (csLast tyStr)))) (h1:EvF K e1 E L r1 tyInt) (h2:∀ ys,EvF K e2 E (L.set i (.ow (owL tyStr) ys)) r2 tyInt) (hk:∀ ys,EvS K u E (L.set i (.ow (owL tyStr) ys)) (k ys) LS LB O) :
  EvS K (tSeq (tAsg te (gTupM K 2 (gConsM (gSub (mVar i) e1 mSet) (gConsM (gSub (mVar i) e2 mSet) gNilM)))) u) E L (re.bind fun ab=>r1.bind fun j=>(Mo.opt ((ixN xs.length j).map fun n=>xs.set n ab.1)).bind fun ys=>r2.bind fun j2=>(Mo.opt ((ixN ys.length j2).map fun n=>ys.set n ab.2)).bind k) LS LB O:=by
 intro F0 H0 σ F h H D hL ok fin
 refine he σ (un F h) H _ (hL.froz ok.2.1) ok.thaw (zak_ (G:=F) ok _ (.inl rfl) fin fun ab F' H' hr x v hv=>?_)
 obtain ⟨p,us,rfl,hp,v1,us2,rfl,z1,v2,rfl,z2⟩:=hv
 cases z1; cases z2
 obtain ⟨o,hs,ht⟩:=ok.back x
 rw [hr] at fin
 have hl:i<L.length:=(List.getElem?_eq_some_iff.mp hi).1
 have A:=zna_ (K:=K) (E:=E) (u:=tSeq (tAsg (tC (tx ab.2)) (gSub (mVar i) e2 mSet)) u) hi zr_ (zc6_ ab.1) h1 (k:=fun ys=>r2.bind fun j2=>(Mo.opt ((ixN ys.length j2).map fun n=>ys.set n ab.2)).bind k) (LS:=LS) (LB:=LB) (O:=O)
  (fun ys=>zna_ (K:=K) (E:=E) (u:=u) (T:=tyStr) (xs:=ys) (List.getElem?_set_self hl) zr_ (zc6_ ab.2) (h2 ys) (k:=k) (fun zs=>by rw [List.set_set]; exact hk zs)) F0 H0 σ _ h H' D (hL.mono hs) o fin
 exact ⟨_,.of (x.2.1 _ _ hp),rfl,A⟩
theorem nno_l {xs:List α}{v:V}{F h:Hp}(q:(owL T).O xs v F h):v≠.non:=by obtain ⟨p,vs,rfl,_⟩:=q; exact zof_
theorem zoK_:Flt tyBl (fun a b=>decide (a=b)):=⟨fun h=>by cases h; rfl,fun h h'=>by cases h; cases h'; unfold eqV; exact rfl⟩
theorem ziE_ {O':Own β}{te e:TE}{u:TS}{T:Ty α}{re:Mo (List α)}{r0:Mo (List α×(List α→β))}{k:β→Mo (Out ρ B S)}(hp:EvPt K te E L i O' (owL T) r0) (hT:Imm T) (he:EvF K e E L re (tyL T)) (hk:∀ x',EvS K u E (L.set i (.ow O' x')) (k x') LS LB O) :
  EvS K (tSeq (tDrop (tBM K "list" rExtend te (tCons e tNil))) u) E L (r0.bind fun yp=>re.bind fun a=>.lim (yp.1.length+a.length) ((Mo.ok (yp.2 (yp.1++a))).bind k)) LS LB O:=by
 intro F0 H0 σ F h H D hL ok fin
 show te σ H fun x H1=>tyV K "list" x H1∧tCons e tNil σ H1 fun xs H2=>rExtend x xs H2 (fun _ H3=>u D σ H3)
 refine hp F0 H0 σ F h H _ hL ok (zak_ (G:=F) ok _ (.inl rfl) fin fun yp G1 H1 hr0 x1 u0 fc=>?_)
 obtain ⟨o1,hs1,_⟩:=ok.back x1
 rw [hr0] at fin
 obtain ⟨k0,⟨p,vs,rfl,rfl,_⟩,kh,_⟩:=fc _ H1 (Same.refl _) o1
 have hp0:h p=some (.lst vs):=kh _ _ zv_
 refine ⟨.inl ⟨rfl,vs,.of (o1.2.2.1 _ _ hp0)⟩,?_⟩
 refine he σ (un (less G1 h) h) H1 _ ((hL.mono hs1).froz o1.2.1) o1.thaw (zak_ (G:=F) o1 _ (.inl rfl) fin fun a G2 H2 hra x2 v hv=>?_)
 obtain ⟨p2,zs,rfl,hp2,hr2⟩:=hv
 obtain ⟨o2,hs2,ht2⟩:=o1.back x2
 rw [hra] at fin
 obtain ⟨hz,fin⟩:=zgg_ (show Fin K (Mo.lim (yp.1.length+a.length) (k (yp.2 (yp.1++a)))) E LS LB O F0 H0 D from fin)
 obtain ⟨k1,⟨p',vs',e',rfl,pr⟩,kh',g⟩:=fc _ H2 hs2 o2
 cases e'
 have ev:vs'=vs:=by
  have:=kh' _ _ zv_
  rw [hp0] at this
  injection this with this
  injection this with this
  exact this.symm
 subst ev
 obtain ⟨h',a1,a2⟩:=g (yp.1++a) (one p (.lst (vs'++zs))) _ (upd H2 p (.lst (vs'++zs))) (PutC.one o2 kh') ⟨p,_,rfl,rfl,pr.append (hr2.imm hT ht2)⟩
 have hl:=pr.len
 have hl2:=hr2.len
 exact ⟨p,p2,vs',zs,rfl,rfl,o2.2.2.1 _ _ hp0,x2.2.1 _ _ hp2,by lia,hk _ F0 H0 σ _ h' _ D a1 a2 fin⟩
theorem zkG_ (h:EvF K e E L r T):EvF K e E L (r.bind fun _=>.ok ()) tyTop:=by
 intro σ F H Q hL hs q
 exact h σ F H Q hL hs (q.bind.imp fun a F1 H1 x k v hv=>k.ok x.2.1 v trivial)
theorem zn3_ {n1 n2:Str}:∀ (c:Int×Int) (ws:List V) (F:Hp),(csCons tyInt (csLast tyInt)).R c ws F→AtR [(n1,.i c.1),(n2,.i c.2)] ([n1,n2].zip ws) F:=by
 rintro c ws F ⟨w1,us,rfl,h1,w2,rfl,h2⟩
 exact .cons ⟨rfl,h1⟩ (.cons ⟨rfl,h2⟩ .nil)
end
section
variable {P:Program}{w:World}{K:Fgg}{mg:Str→Option Value}{base:Heap}{x q c:Str}{st:Stmt}{N ps:List Str}{k:Nat}{α β:Type}{sp:Sp}
theorem okXI {cn:String}{T1:Ty α}{T2:Ty β}{g:α×β→Mo (List Nat)}{n1 n2:Str}{te:TE}(tm:Tm P w K mg base k N q st (fun _=>tSeq (mBInit (gA K cn) (tCons (mVar 0) (tCons te tNil))) (tSeq (mXSet (gA K cn) (mVar 0) (mVar 1) n1) (mXSet (gA K cn) (mVar 0) (mVar 2) n2))))
  (ev:∀ c E,EvF K te E [.dead,.fz T1 c.1,.fz T2 c.2] (g c) tyStr) (hne:n1≠n2:=by decide) (S:FnScope N ps (defScope st):=by exact ⟨rfl,rfl,rfl,by decide +kernel,rfl,by decide +kernel,by decide +kernel⟩) (b:Bnd K x q st ps:=by exact fun _ _ F=>Fun.binds3 rfl F fun _ _ _ _ _ _ _ _ _=>rfl) (hN:N.length=3:=by rfl) (hp:ps.length=3:=by rfl) :
  OkF P w K mg base CX0 (k+1) x q st ps (CtI K (gA K cn) (csCons T1 (csLast T2)) g [n1,n2]):=fun f fd F =>
 ⟨F.ok S (fun vs H Q E h=>by obtain ⟨_,_,_,ws,rfl,_,_,⟨w1,us,rfl,_,w2,rfl,_⟩,_⟩:=h; exact hp.symm) fun cdv A outer s H vs Q E hr h=>⟨_,tm cdv A outer s H f E S.nd hr,xi_rd hN hne ev vs H Q E h⟩,b f fd F⟩
theorem gx_of (M:Mgo K mg) (F:Fm K c "__init__" q st) (hj:excJ K (gA K c)=true) (h:OkF P w K mg base CX0 k "__init__" q st ps sp):GxI P w K mg base k c (gA K c) ps sp:=by
 obtain ⟨cw,f,e,e2,e3,i⟩:=F; obtain ⟨fd,F⟩:=i.fun_
 exact ⟨f,fd,(h f fd F).1,hj,by rw [zlW_ e]; exact e2,e3,M.gk ⟨_,e⟩,(h f fd F).2⟩
end
end L2
namespace K22
open PySem PySem.Spec PyProof.Rows L2
open Mo renaming bind→Mb,ok→Mq
open Sl renaming fz→Zf,dead→Zd,ow→Zo
theorem S4 {a b c d:Sl}{L L':List Sl}(h:Sub L L'):Sub (a::b::c::d::L) (a::b::c::d::L'):=.same (.same (.same (.same h)))
abbrev Qn0:List Str:=["_law_way", "_law_one", "_law_field", "_law_other", "_law_other_field"]
abbrev Qq0:=(tyTup (csCons tyInt (csLast tyInt)))
abbrev Qq1:=(csCons (tyL tyStr) (csCons Qq0 (csCons (tyL tyStr) (csLast Qq0))))
def za9_ (p_script:(List Int)) (p_k:Int):Mo (Out Int Unit Unit) :=
 (thenO (S:=Unit) (Mb (Mb (Mq p_k) fun a_2=>Mb (Mb (Mq p_script) fun c_1=>Mq (c_1.length:Int)) fun b_3=>Mq (decide (a_2<b_3))) fun c_4=>if c_4 then (Mb (Mb (Mq p_script) fun v6=>Mb (Mq p_k) fun v7=>Mo.opt (atI v6 v7)) fun v8=>Mq (.rt v8)) else (Mq (.nx ()))) fun _=>(Mb (Mq (0:Int)) fun r9=>Mq (.rt r9)))
def zA_ (p_script:(List Int)) (p_k:Int):Mo Int:=fnO (za9_ p_script p_k)
def zbG_ (p_script:(List Int)):Mo (Out (List (Int×Int)) Unit Unit) :=
 (Mb (Mb (Mb (Mq p_script) fun a_2=>Mb (Mq (0:Int)) fun c_3=>Mq (a_2,c_3)) fun c_4=>Mo.noex (zA_ c_4.1 c_4.2)) fun v1'=>(Mb (Mb (Mq (1:Int)) fun a8=>Mb (Mb (Mq v1') fun v6=>Mb (Mq (4:Int)) fun v7=>Mo.grd (0<v7) (Mq (v6 % v7))) fun b9=>Mq (a8+b9)) fun u5'=>(thenO (S:=Int) (Mb (Mb (Mb (Mb (Mq v1') fun a10=>Mb (Mq (4:Int)) fun b11=>Mo.grd (CDivG a10 b11) (Mq (a10 / b11))) fun a12=>Mb (Mq (4:Int)) fun b13=>Mo.grd (0<b13) (Mq (a12 % b13))) fun a14=>Mb (Mq (1:Int)) fun b15=>Mq (decide (a14=b15))) fun c16=>if c16 then (Mb (Mb (Mq (1:Int)) fun a23=>Mb (Mb (Mb (Mq v1') fun a19=>Mb (Mq (16:Int)) fun b20=>Mo.grd (CDivG a19 b20) (Mq (a19 / b20))) fun a21=>Mb (Mq (36:Int)) fun b22=>Mo.grd (0<b22) (Mq (a21 % b22))) fun b24=>Mq (a23+b24)) fun w18=>(Mq (.nx w18))) else (Mq (.nx u5'))) fun s17=>(Mb (Mq ([]:List (Int×Int))) fun v25=>(thenO (S:=(List (Int×Int))) (Mb (Mb (Mb (Mq (1:Int)) fun a27=>Mb (Mq (3:Int)) fun c28=>Mq (a27,c28)) fun c29=>Mo.grd (-(2 ^ 62)≤c29.1∧c29.1<2 ^ 62 ∧ -(2 ^ 62)≤c29.2∧c29.2<2 ^ 62) (Mq (rngI c29.1 (c29.2-c29.1).toNat))) fun x48=>forO (fun (s26:(List (Int×Int))) x30=>(Mb (Mb (Mq (1:Int)) fun a39=>Mb (Mb (Mb (Mb (Mq p_script) fun a32=>Mb (Mq x30) fun c33=>Mq (a32,c33)) fun c34=>Mo.noex (zA_ c34.1 c34.2)) fun a37=>Mb (Mb (Mq (37:Int)) fun a35=>Mb (Mq s17) fun b36=>Mq (a35-b36)) fun b38=>Mo.grd (0<b38) (Mq (a37 % b38))) fun b40=>Mq (a39+b40)) fun b31=>(Mb (Mb (Mq b31) fun a45=>Mb (Mb (Mb (Mq b31) fun a41=>Mb (Mq s17) fun b42=>Mq (a41+b42)) fun a43=>Mb (Mq (1:Int)) fun b44=>Mq (a43-b44)) fun c46=>Mq (a45,c46)) fun a47=>Mo.lim (s26.length+1) (Mq (.nx (s26++[a47])))))) x48 v25) fun s26=>(Mq (.rt s26)))))))
def zaT_ (p_script:(List Int)):Mo (List (Int×Int)):=fnO (zbG_ p_script)
def zcF_ (p_number:Int):Mo (Out (List Nat) Unit Unit) :=
 (Mb (Mq (SG:List Nat)) fun q1'=>(Mb (Mq ([]:List Nat)) fun y2'=>(thenO (S:=((List Nat)×Int)) (Mb (Mb (Mq (40:Int)) fun c_4=>Mo.grd (-(2 ^ 62)≤c_4∧c_4<2 ^ 62) (Mq (rngI 0 c_4.toNat))) fun x16=>forO (fun (s_3:((List Nat)×Int)) x_5=>(Mb (Mb (Mq s_3.1) fun a11=>Mb (Mb (Mq q1') fun a9=>Mb (Mb (Mq s_3.2) fun a7=>Mb (Mq (37:Int)) fun b8=>Mo.grd (0<b8) (Mq (a7 % b8))) fun b10=>Mo.lim a9.length (Mo.opt ((atI a9 b10).map fun c=>[c]))) fun b12=>Mo.lim (a11.length+b12.length) (Mq (a11++b12))) fun t6=>(Mb (Mb (Mq s_3.2) fun a14=>Mb (Mq (37:Int)) fun b15=>Mo.grd (CDivG a14 b15) (Mq (a14 / b15))) fun n13=>(Mq (.nx (t6,n13)))))) x16 (y2',p_number)) fun s_3=>(Mb (Mq s_3.1) fun r17=>Mq (.rt r17)))))
def zbX_ (p_number:Int):Mo (List Nat):=fnO (zcF_ p_number)
def zc1_ (p_cell:Int) (p_wide:Int) (p_number:Int):Mo (Out (List Nat) Unit Unit) :=
 (Mb (Mq (SG:List Nat)) fun q1'=>(Mb (Mb (Mq ([]:List Nat)) fun a20=>Mb (Mb (Mb (Mq p_wide) fun c_3=>Mo.grd (-(2 ^ 62)≤c_3∧c_3<2 ^ 62) (Mq (rngI 0 c_3.toNat))) fun x19=>compM (fun x_4=>cond1 (Mq true) (Mb (Mq q1') fun a17=>Mb (Mb (Mb (Mq p_cell) fun a13=>Mb (Mb (Mb (Mq x_4) fun v5=>Mb (Mq x_4) fun w6=>Mo.grd (IntMulOk v5 w6) (Mq (v5*w6))) fun a11=>Mb (Mb (Mq (1:Int)) fun a9=>Mb (Mb (Mq p_cell) fun a7=>Mb (Mq (5:Int)) fun b8=>Mo.grd (0<b8) (Mq (a7 % b8))) fun b10=>Mq (a9+b10)) fun b12=>Mo.grd (IntMulOk a11 b12) (Mq (a11*b12))) fun b14=>Mq (a13+b14)) fun a15=>Mb (Mq (37:Int)) fun b16=>Mo.grd (0<b16) (Mq (a15 % b16))) fun b18=>Mo.lim a17.length (Mo.opt ((atI a17 b18).map fun c=>[c])))) x19 []) fun b21=>Mo.grd (JoinOk ⟨a20.toArray⟩ (strsL b21)=true) (Mq (joinS a20 (strsL b21)))) fun v2'=>(Mb (Mb (Mq p_cell) fun a23=>Mb (Mq p_wide) fun b24=>Mo.grd (0<b24) (Mq (a23 % b24))) fun v22=>(Mb (Mb (Mb (Mb (Mq v2') fun a26=>Mb (Mq none) fun b27=>Mb (Mb (Mq v22) fun i25=>Mq (some i25)) fun d28=>Mo.lim a26.length (Mq (cutG a26 b27 d28))) fun a33=>Mb (Mb (Mq q1') fun a31=>Mb (Mb (Mq p_number) fun a29=>Mb (Mq (37:Int)) fun b30=>Mo.grd (0<b30) (Mq (a29 % b30))) fun b32=>Mo.lim a31.length (Mo.opt ((atI a31 b32).map fun c=>[c]))) fun b34=>Mo.lim (a33.length+b34.length) (Mq (a33++b34))) fun a41=>Mb (Mb (Mq v2') fun a38=>Mb (Mb (Mb (Mq v22) fun a35=>Mb (Mq (1:Int)) fun b36=>Mq (a35+b36)) fun i37=>Mq (some i37)) fun b39=>Mb (Mq none) fun d40=>Mo.lim a38.length (Mq (cutG a38 b39 d40))) fun b42=>Mo.lim (a41.length+b42.length) (Mq (a41++b42))) fun r43=>Mq (.rt r43)))))
def zbO_ (p_cell:Int) (p_wide:Int) (p_number:Int):Mo (List Nat):=fnO (zc1_ p_cell p_wide p_number)
def zb6_ (p_script:(List Int)) (p_fields_here:(List (Int×Int))):Mo (Out (List (List (List Nat))) Unit Unit) :=
 (Mb (Mb (Mb (Mq p_script) fun a_2=>Mb (Mq (3:Int)) fun c_3=>Mq (a_2,c_3)) fun c_4=>Mo.noex (zA_ c_4.1 c_4.2)) fun x1'=>(Mb (Mb (Mb (Mb (Mb (Mq p_fields_here) fun v6=>Mb (Mq (0:Int)) fun v7=>Mo.opt (atI v6 v7)) fun a8=>Mq a8.2) fun a12=>Mb (Mb (Mb (Mq p_fields_here) fun a9=>Mb (Mq (0:Int)) fun b10=>Mo.opt (atI a9 b10)) fun a11=>Mq a11.1) fun b13=>Mq (a12-b13)) fun a14=>Mb (Mq (1:Int)) fun b15=>Mq (a14+b15)) fun u5'=>(Mb (Mb (Mb (Mq ([]:List (List Nat))) fun a22=>Mb (Mb (Mq ([]:List (List Nat))) fun a20=>Mb (Mq ([]:List (List (List Nat)))) fun l21=>Mq (a20::l21)) fun l23=>Mq (a22::l23)) fun l24=>Mo.lim l24.length (Mq l24)) fun d16=>(thenO (S:=(List (List (List Nat)))) (Mb (Mb (Mq p_script) fun a28=>Mb (Mb (Mq (5:Int)) fun i26=>Mq (some i26)) fun b29=>Mb (Mb (Mq (67:Int)) fun i27=>Mq (some i27)) fun d30=>Mq (cutG a28 b29 d30)) fun x116=>forO (fun (s25:(List (List (List Nat)))) x31=>(Mb (Mb (Mb (Mb (Mb (Mq x31) fun a33=>Mb (Mq (4:Int)) fun b34=>Mo.grd (CDivG a33 b34) (Mq (a33 / b34))) fun a39=>Mb (Mb (Mq (1:Int)) fun a37=>Mb (Mb (Mq x1') fun a35=>Mb (Mq (6:Int)) fun b36=>Mo.grd (0<b36) (Mq (a35 % b36))) fun b38=>Mq (a37+b38)) fun b40=>Mo.grd (0<b40) (Mq (a39 % b40))) fun a41=>Mb (Mq (7:Int)) fun b42=>Mo.grd (IntMulOk a41 b42) (Mq (a41*b42))) fun a45=>Mb (Mb (Mq x1') fun a43=>Mb (Mq (6:Int)) fun b44=>Mo.grd (CDivG a43 b44) (Mq (a43 / b44))) fun b46=>Mq (a45+b46)) fun n32=>(Mb (Mb (Mb (Mb (Mq x31) fun a66=>Mb (Mb (Mb (Mb (Mq (1:Int)) fun a52=>Mb (Mb (Mq (5:Int)) fun a50=>Mb (Mb (Mq (37:Int)) fun a48=>Mb (Mq (13:Int)) fun b49=>Mo.grd (CPow a48 b49) (Mq (a48 ^ b49.toNat))) fun b51=>Mo.grd (IntMulOk a50 b51) (Mq (a50*b51))) fun b53=>Mq (a52+b53)) fun a58=>Mb (Mb (Mq (11:Int)) fun a56=>Mb (Mb (Mq (37:Int)) fun a54=>Mb (Mq (29:Int)) fun b55=>Mo.grd (CPow a54 b55) (Mq (a54 ^ b55.toNat))) fun b57=>Mo.grd (IntMulOk a56 b57) (Mq (a56*b57))) fun b59=>Mq (a58+b59)) fun a64=>Mb (Mb (Mq (3:Int)) fun a62=>Mb (Mb (Mq (37:Int)) fun a60=>Mb (Mq (36:Int)) fun b61=>Mo.grd (CPow a60 b61) (Mq (a60 ^ b61.toNat))) fun b63=>Mo.grd (IntMulOk a62 b63) (Mq (a62*b63))) fun b65=>Mq (a64+b65)) fun b67=>Mo.grd (IntMulOk a66 b67) (Mq (a66*b67))) fun a70=>Mb (Mb (Mq (37:Int)) fun a68=>Mb (Mq (40:Int)) fun b69=>Mo.grd (CPow a68 b69) (Mq (a68 ^ b69.toNat))) fun b71=>Mo.grd (0<b71) (Mq (a70 % b71))) fun c72=>Mo.noex (zbX_ c72)) fun t47=>(Mb (Mb (Mq p_fields_here) fun a76=>Mb (Mb (Mq x31) fun a74=>Mb (Mq (2:Int)) fun b75=>Mo.grd (0<b75) (Mq (a74 % b75))) fun b77=>Mo.opt (atI a76 b77)) fun f73=>(Mb (Mb (Mb (Mb (Mq t47) fun a83=>Mb (Mq none) fun b84=>Mb (Mb (Mb (Mb (Mq f73) fun a79=>Mq a79.1) fun a80=>Mb (Mq (1:Int)) fun b81=>Mq (a80-b81)) fun i82=>Mq (some i82)) fun d85=>Mo.lim a83.length (Mq (cutG a83 b84 d85))) fun a93=>Mb (Mb (Mb (Mb (Mq x1') fun a86=>Mb (Mq (6:Int)) fun b87=>Mo.grd (CDivG a86 b87) (Mq (a86 / b87))) fun a90=>Mb (Mb (Mq u5') fun a88=>Mb (Mq n32) fun c89=>Mq (a88,c89)) fun c91=>Mq (a90,c91)) fun c92=>Mo.noex (zbO_ c92.1 c92.2.1 c92.2.2)) fun b94=>Mo.lim (a93.length+b94.length) (Mq (a93++b94))) fun a100=>Mb (Mb (Mq t47) fun a97=>Mb (Mb (Mb (Mq f73) fun a95=>Mq a95.2) fun i96=>Mq (some i96)) fun b98=>Mb (Mq none) fun d99=>Mo.lim a97.length (Mq (cutG a97 b98 d99))) fun b101=>Mo.lim (a100.length+b101.length) (Mq (a100++b101))) fun c78=>(Mb (Mb (Mq x31) fun a102=>Mb (Mq (2:Int)) fun b103=>Mo.grd (0<b103) (Mq (a102 % b103))) fun j113=>Mb (Mo.opt (ixN (s25).length j113)) fun n114=>Mb (Mb (Mb (Mq c78) fun c104=>Mq [c104]) fun a111=>Mb (Mb (Mq (1:Int)) fun a109=>Mb (Mb (Mb (Mq x31) fun a105=>Mb (Mq (2:Int)) fun b106=>Mo.grd (CDivG a105 b106) (Mq (a105 / b106))) fun a107=>Mb (Mq (2:Int)) fun b108=>Mo.grd (0<b108) (Mq (a107 % b108))) fun b110=>Mq (a109+b110)) fun b112=>Mo.grd (CRep a111.length b112) (Mq (repL a111 b112))) fun a115=>Mo.lim (((s25)[n114]?.getD []).length+a115.length) (Mq (.nx (extN s25 n114 a115))))))))) x116 d16) fun s25=>(Mq (.rt s25))))))
def zbn_ (p_script:(List Int)) (p_fields_here:(List (Int×Int))):Mo (List (List (List Nat))):=fnO (zb6_ p_script p_fields_here)
def zbe_ (p_deck:(List (List Nat))) (p_drawn_here:(List (List Nat))) (p_cell:Int):Mo (Out (List (List Nat)) Unit Unit) :=
 (Mb (Mb (Mq p_deck) fun c_2=>Mq c_2) fun w1'=>(thenO (S:=Unit) (Mb (Mb (Mb (Mq w1') fun c_3=>Mq (c_3.length:Int)) fun w4=>Mb (Mq (0:Int)) fun w5=>Mq (decide (w4=w5))) fun y6=>if y6 then (Mq (.rt w1')) else (Mq (.nx ()))) fun _=>(thenO (S:=(List (List Nat))) (Mb (Mb (Mb (Mq p_cell) fun a8=>Mb (Mq (4:Int)) fun b9=>Mo.grd (0<b9) (Mq (a8 % b9))) fun a10=>Mb (Mq (1:Int)) fun b11=>Mq (decide (a10=b11))) fun c12=>if c12 then (Mb (Mb (Mb (Mq p_cell) fun a15=>Mb (Mq (4:Int)) fun b16=>Mo.grd (CDivG a15 b16) (Mq (a15 / b16))) fun a18=>Mb (Mb (Mq w1') fun c17=>Mq (c17.length:Int)) fun b19=>Mo.grd (0<b19) (Mq (a18 % b19))) fun h14=>(Mb (Mb (Mb (Mb (Mq p_cell) fun a21=>Mb (Mq (4:Int)) fun b22=>Mo.grd (CDivG a21 b22) (Mq (a21 / b22))) fun a24=>Mb (Mb (Mq w1') fun c23=>Mq (c23.length:Int)) fun b25=>Mo.grd (CDivG a24 b25) (Mq (a24 / b25))) fun a27=>Mb (Mb (Mq w1') fun c26=>Mq (c26.length:Int)) fun b28=>Mo.grd (0<b28) (Mq (a27 % b28))) fun t20=>(Mb (Mb (Mb (Mq w1') fun a29=>Mb (Mq t20) fun b30=>Mo.opt (atI a29 b30)) fun a33=>Mb (Mb (Mq w1') fun a31=>Mb (Mq h14) fun b32=>Mo.opt (atI a31 b32)) fun c34=>Mq (a33,c34)) fun v35=>Mb (Mq h14) fun j36=>Mb (Mo.opt ((ixN w1'.length j36).map fun n=>w1'.set n v35.1)) fun y37=>Mb (Mq t20) fun j38=>Mb (Mo.opt ((ixN y37.length j38).map fun n=>y37.set n v35.2)) fun z39=>(Mq (.nx z39))))) else (Mq (.nx w1'))) fun s13=>(thenO (S:=(List (List Nat))) (Mb (Mb (Mb (Mq p_cell) fun a40=>Mb (Mq (4:Int)) fun b41=>Mo.grd (0<b41) (Mq (a40 % b41))) fun a42=>Mb (Mq (2:Int)) fun b43=>Mq (decide (a42=b43))) fun c44=>if c44 then (Mb (Mb (Mb (Mq s13) fun a49=>Mb (Mb (Mb (Mq (1:Int)) fun a47=>Mq (-a47)) fun i48=>Mq (some i48)) fun b50=>Mb (Mq none) fun d51=>Mq (cutG a49 b50 d51)) fun a57=>Mb (Mb (Mq s13) fun a54=>Mb (Mq none) fun b55=>Mb (Mb (Mb (Mq (1:Int)) fun a52=>Mq (-a52)) fun i53=>Mq (some i53)) fun d56=>Mq (cutG a54 b55 d56)) fun b58=>Mo.lim (a57.length+b58.length) (Mq (a57++b58))) fun f46=>(Mq (.nx f46))) else (Mq (.nx s13))) fun s45=>(thenO (S:=(List (List Nat))) (Mb (Mb (Mb (Mq p_cell) fun a59=>Mb (Mq (4:Int)) fun b60=>Mo.grd (0<b60) (Mq (a59 % b60))) fun a61=>Mb (Mq (3:Int)) fun b62=>Mq (decide (a61=b62))) fun c63=>if c63 then (Mb (Mb (Mq p_drawn_here) fun c66=>Mq c66) fun f65=>(Mq (.nx f65))) else (Mq (.nx s45))) fun s64=>(Mq (.rt s64)))))))
def z8_ (p_deck:(List (List Nat))) (p_drawn_here:(List (List Nat))) (p_cell:Int):Mo (List (List Nat)):=fnO (zbe_ p_deck p_drawn_here p_cell)
def zbB_ (p_deck:(List (List Nat))) (p_field:(Int×Int)):Mo (Out (List (List Nat)) Unit Unit) :=
 (Mb (Mb (Mb (Mb (Mq p_deck) fun c_2=>Mq (c_2.length:Int)) fun c_3=>Mo.grd (-(2 ^ 62)≤c_3∧c_3<2 ^ 62) (Mq (rngI 0 c_3.toNat))) fun x18=>compM (fun x_4=>cond1 (Mq true) (Mb (Mb (Mb (Mq p_deck) fun v5=>Mb (Mq x_4) fun w6=>Mo.opt (atI v5 w6)) fun a13=>Mb (Mb (Mb (Mb (Mq p_field) fun a7=>Mq a7.1) fun a8=>Mb (Mq (1:Int)) fun b9=>Mq (a8-b9)) fun i10=>Mq (some i10)) fun b14=>Mb (Mb (Mb (Mq p_field) fun a11=>Mq a11.2) fun i12=>Mq (some i12)) fun d15=>Mo.lim a13.length (Mq (cutG a13 b14 d15))) fun a16=>Mb (Mq x_4) fun c17=>Mq (a16,c17))) x18 []) fun z1'=>(Mb (Mb (Mb (Mq z1') fun c19=>Mo.grd (c19.length<1000) (Mq (srtL (lxP ltS ltI) c19))) fun x23=>compM (fun x20=>cond1 (Mq true) (Mb (Mq p_deck) fun a21=>Mb (Mq x20.2) fun b22=>Mo.opt (atI a21 b22))) x23 []) fun r24=>Mq (.rt r24)))
def zaO_ (p_deck:(List (List Nat))) (p_field:(Int×Int)):Mo (List (List Nat)):=fnO (zbB_ p_deck p_field)
def zb7_ (p_field:(Int×Int)):Mo (Out (Int×Int) Unit Unit) :=
 (thenO (S:=Unit) (Mb (Mb (Mb (Mq p_field) fun a_1=>Mq a_1.2) fun a_2=>Mb (Mq (36:Int)) fun b_3=>Mq (decide (a_2<b_3))) fun c_4=>if c_4 then (Mb (Mb (Mb (Mq p_field) fun v6=>Mq v6.1) fun a10=>Mb (Mb (Mb (Mq p_field) fun a7=>Mq a7.2) fun a8=>Mb (Mq (1:Int)) fun b9=>Mq (a8+b9)) fun c11=>Mq (a10,c11)) fun r12=>Mq (.rt r12)) else (Mq (.nx ()))) fun _=>(thenO (S:=Unit) (Mb (Mb (Mb (Mq p_field) fun a13=>Mq a13.1) fun a14=>Mb (Mq (1:Int)) fun b15=>Mq (decide (b15<a14))) fun c16=>if c16 then (Mb (Mb (Mb (Mb (Mq p_field) fun a18=>Mq a18.1) fun a19=>Mb (Mq (1:Int)) fun b20=>Mq (a19-b20)) fun a22=>Mb (Mb (Mq p_field) fun a21=>Mq a21.2) fun c23=>Mq (a22,c23)) fun r24=>Mq (.rt r24)) else (Mq (.nx ()))) fun _=>(Mb (Mb (Mq (1:Int)) fun a25=>Mb (Mq (35:Int)) fun c26=>Mq (a25,c26)) fun r27=>Mq (.rt r27))))
def zaJ_ (p_field:(Int×Int)):Mo (Int×Int):=fnO (zb7_ p_field)
def zdv_ (p_deck:(List (List Nat))) (p_field:(Int×Int)):Mo (Out (Option Int) Unit Unit) :=
 (thenO (S:=Unit) (Mb (Mb (Mb (Mq (1:Int)) fun v3=>Mb (Mb (Mq p_deck) fun c_2=>Mq (c_2.length:Int)) fun c_4=>Mq (v3,c_4)) fun z5=>Mo.grd (-(2 ^ 62)≤z5.1∧z5.1<2 ^ 62 ∧ -(2 ^ 62)≤z5.2∧z5.2<2 ^ 62) (Mq (rngI z5.1 (z5.2-z5.1).toNat))) fun x36=>forO (fun (_:Unit) z6=>(Mb (Mb (Mb (Mb (Mq p_deck) fun a7=>Mb (Mq z6) fun b8=>Mo.opt (atI a7 b8)) fun a15=>Mb (Mb (Mb (Mb (Mq p_field) fun a9=>Mq a9.1) fun a10=>Mb (Mq (1:Int)) fun b11=>Mq (a10-b11)) fun i12=>Mq (some i12)) fun b16=>Mb (Mb (Mb (Mq p_field) fun a13=>Mq a13.2) fun i14=>Mq (some i14)) fun d17=>Mo.lim a15.length (Mq (cutG a15 b16 d17))) fun a31=>Mb (Mb (Mb (Mq p_deck) fun a20=>Mb (Mb (Mq z6) fun a18=>Mb (Mq (1:Int)) fun b19=>Mq (a18-b19)) fun b21=>Mo.opt (atI a20 b21)) fun a28=>Mb (Mb (Mb (Mb (Mq p_field) fun a22=>Mq a22.1) fun a23=>Mb (Mq (1:Int)) fun b24=>Mq (a23-b24)) fun i25=>Mq (some i25)) fun b29=>Mb (Mb (Mb (Mq p_field) fun a26=>Mq a26.2) fun i27=>Mq (some i27)) fun d30=>Mo.lim a28.length (Mq (cutG a28 b29 d30))) fun b32=>Mq (decide (a31<b32))) fun c33=>if c33 then (Mb (Mb (Mq z6) fun a34=>Mq (some a34)) fun r35=>Mq (.rt r35)) else (Mq (.nx ())))) x36 ()) fun _=>(Mb (Mq (none:(Option Int))) fun r37=>Mq (.rt r37)))
def zaV_ (p_deck:(List (List Nat))) (p_field:(Int×Int)):Mo (Option Int):=fnO (zdv_ p_deck p_field)
def zdV_ (p_way:Int) (p_one:(List (List Nat))) (p_field:(Int×Int)) (p_other:(List (List Nat))) (p_other_field:(Int×Int)):Mo (Out (List Int) Unit Unit) :=
 (thenO (S:=Unit) (Mb (Mb (Mb (Mq p_way) fun a_1=>Mb (Mq (2:Int)) fun b_2=>Mq (decide (a_1<b_2))) fun c13=>if c13 then (Mb (Mb (Mb (Mq p_field) fun v3=>Mq v3.2) fun v5=>Mb (Mb (Mq p_field) fun w4=>Mq w4.1) fun w6=>Mq (v5-w6)) fun a11=>Mb (Mb (Mb (Mq p_other_field) fun a7=>Mq a7.2) fun a9=>Mb (Mb (Mq p_other_field) fun a8=>Mq a8.1) fun b10=>Mq (a9-b10)) fun b12=>Mq (!decide (a11=b12))) else Mq false) fun c14=>if c14 then (Mb (Mb (Mb (Mq (0:Int)) fun a16=>Mb (Mq (0:Int)) fun c17=>Mq (a16,c17)) fun c18=>Mq [c18.1,c18.2]) fun r19=>Mq (.rt r19)) else (Mq (.nx ()))) fun _=>(thenO (S:=Unit) (Mb (Mb (Mb (Mq p_way) fun a20=>Mb (Mq (2:Int)) fun b21=>Mq (decide (a20<b21))) fun c27=>if c27 then (Mb (Mb (Mb (Mq p_other) fun a22=>Mb (Mq p_other_field) fun c23=>Mq (a22,c23)) fun c24=>Mo.noex (zaV_ c24.1 c24.2)) fun a25=>Mb (Mq ()) fun b26=>Mq a25.isSome) else Mq false) fun c28=>if c28 then (Mb (Mb (Mb (Mq (2:Int)) fun a37=>Mb (Mb (Mb (Mb (Mq p_other) fun a33=>Mb (Mq p_other_field) fun c34=>Mq (a33,c34)) fun c35=>Mo.noex (zaV_ c35.1 c35.2)) fun a36=>Mo.opt a36) fun c38=>Mq (a37,c38)) fun c39=>Mq [c39.1,c39.2]) fun r40=>Mq (.rt r40)) else (Mq (.nx ()))) fun _=>(thenO (S:=Unit) (Mb (Mb (Mb (Mb (Mq p_one) fun a41=>Mb (Mq p_field) fun c42=>Mq (a41,c42)) fun c43=>Mo.noex (zaV_ c43.1 c43.2)) fun a44=>Mb (Mq ()) fun b45=>Mq a44.isSome) fun c46=>if c46 then (Mb (Mb (Mb (Mq (1:Int)) fun a55=>Mb (Mb (Mb (Mb (Mq p_one) fun a51=>Mb (Mq p_field) fun c52=>Mq (a51,c52)) fun c53=>Mo.noex (zaV_ c53.1 c53.2)) fun a54=>Mo.opt a54) fun c56=>Mq (a55,c56)) fun c57=>Mq [c57.1,c57.2]) fun r58=>Mq (.rt r58)) else (Mq (.nx ()))) fun _=>(Mb (Mq ([]:List Int)) fun r59=>Mq (.rt r59)))))
def zcr_ (p_way:Int) (p_one:(List (List Nat))) (p_field:(Int×Int)) (p_other:(List (List Nat))) (p_other_field:(Int×Int)):Mo (List Int):=fnO (zdV_ p_way p_one p_field p_other p_other_field)
def zdB_ (p_text:(List Nat)):Mo (Out Bool Unit Unit) :=
 (Mb (Mb (Mb (Mb (Mq p_text) fun c_1=>Mo.lim c_1.length (Mq (c_1.length:Int))) fun a_2=>Mb (Mq (1:Int)) fun b_3=>Mq (decide (a_2=b_3))) fun y6=>if y6 then (Mb (Mq p_text) fun w4=>Mb (Mq (SG:List Nat)) fun w5=>Mq (inS w4 w5)) else Mq false) fun t7=>Mq (.rt t7))
def zcs_ (p_text:(List Nat)):Mo Bool:=fnO (zdB_ p_text)
def zdU_ (p_sign:(List Nat)):Mo (Out Int Unit Unit) :=
 (thenO (S:=Unit) (Mb (Mb (Mb (Mq p_sign) fun c_1=>Mo.noex (zcs_ c_1)) fun a_2=>Mq (!a_2)) fun c_3=>if c_3 then Mo.no else (Mq (.nx ()))) fun _=>(Mb (Mb (Mq (SG:List Nat)) fun v5=>Mb (Mq p_sign) fun w6=>Mo.grd (findS v5 w6 ≠ -1) (Mq (findS v5 w6))) fun t7=>Mq (.rt t7)))
def zct_ (p_sign:(List Nat)):Mo Int:=fnO (zdU_ p_sign)
def zdu_ (p_card:(List Nat)) (p_column:Int):Mo (Out (List Nat) Unit Unit) :=
 (Mb (Mb (Mq p_card) fun v3=>Mb (Mb (Mq p_column) fun a_1=>Mb (Mq (1:Int)) fun b_2=>Mq (a_1-b_2)) fun y4=>Mo.lim v3.length (Mo.opt ((atI v3 y4).map fun c=>[c]))) fun r_5=>Mq (.rt r_5))
def zcv_ (p_card:(List Nat)) (p_column:Int):Mo (List Nat):=fnO (zdu_ p_card p_column)
def zcZ_ (p_card:(List Nat)) (p_columns:(List Int)):Mo (Out (List Int) Unit Unit) :=
 (Mb (Mb (Mq p_columns) fun r6=>compM (fun x_1=>cond1 (Mq true) (Mb (Mb (Mb (Mq p_card) fun a_2=>Mb (Mq x_1) fun c_3=>Mq (a_2,c_3)) fun c_4=>Mo.noex (zcv_ c_4.1 c_4.2)) fun z5=>Mo.noex (zct_ z5))) r6 []) fun t7=>Mq (.rt t7))
def zbk_ (p_card:(List Nat)) (p_columns:(List Int)):Mo (List Int):=fnO (zcZ_ p_card p_columns)
def zba_ (p_card:(List Nat)) (p_other:(List Nat)) (p_columns:(List Int)):Mo (Out Bool Unit Unit) :=
 (Mb (Mb (Mb (Mb (Mq p_card) fun a_1=>Mb (Mq p_columns) fun c_2=>Mq (a_1,c_2)) fun c_3=>Mo.noex (zbk_ c_3.1 c_3.2)) fun a7=>Mb (Mb (Mb (Mq p_other) fun w4=>Mb (Mq p_columns) fun z5=>Mq (w4,z5)) fun y6=>Mo.noex (zbk_ y6.1 y6.2)) fun b8=>Mq (HT.lexLt a7 b8)) fun r9=>Mq (.rt r9))
def zV_ (p_card:(List Nat)) (p_other:(List Nat)) (p_columns:(List Int)):Mo Bool:=fnO (zba_ p_card p_other p_columns)
def zdz_ (p_deck:(List (List Nat))) (p_columns:(List Int)):Mo (Out (Option Int) Unit Unit) :=
 (thenO (S:=Unit) (Mb (Mb (Mb (Mq (1:Int)) fun v3=>Mb (Mb (Mq p_deck) fun c_2=>Mq (c_2.length:Int)) fun c_4=>Mq (v3,c_4)) fun z5=>Mo.grd (-(2 ^ 62)≤z5.1∧z5.1<2 ^ 62 ∧ -(2 ^ 62)≤z5.2∧z5.2<2 ^ 62) (Mq (rngI z5.1 (z5.2-z5.1).toNat))) fun x21=>forO (fun (_:Unit) z6=>(Mb (Mb (Mb (Mb (Mq p_deck) fun a7=>Mb (Mq z6) fun b8=>Mo.opt (atI a7 b8)) fun a15=>Mb (Mb (Mb (Mq p_deck) fun a11=>Mb (Mb (Mq z6) fun a9=>Mb (Mq (1:Int)) fun b10=>Mq (a9-b10)) fun b12=>Mo.opt (atI a11 b12)) fun a13=>Mb (Mq p_columns) fun c14=>Mq (a13,c14)) fun c16=>Mq (a15,c16)) fun c17=>Mo.noex (zV_ c17.1 c17.2.1 c17.2.2)) fun c18=>if c18 then (Mb (Mb (Mq z6) fun a19=>Mq (some a19)) fun r20=>Mq (.rt r20)) else (Mq (.nx ())))) x21 ()) fun _=>(Mb (Mq (none:(Option Int))) fun r22=>Mq (.rt r22)))
def zb4_ (p_deck:(List (List Nat))) (p_columns:(List Int)):Mo (Option Int):=fnO (zdz_ p_deck p_columns)
def zy_ (p_deck:Int) (p_place:Int):Mo (List Nat) :=
 (Mb (Mq ([100,101,99,107,32]:List Nat)) fun a9=>Mo.grd (a9.length≤1000) (Mb (Mb (Mb (Mq p_deck) fun v6=>Mo.grd (v6.natAbs.log2<1920) (Mq (strI v6))) fun a7=>Mo.grd (a7.length≤1000) (Mb (Mb (Mq ([32,105,115,32,111,117,116,32,111,102,32,111,114,100,101,114,32,97,116,32,112,108,97,99,101,32]:List Nat)) fun w4=>Mo.grd (w4.length≤1000) (Mb (Mb (Mb (Mq p_place) fun a_1=>Mo.grd (a_1.natAbs.log2<1920) (Mq (strI a_1))) fun a_2=>Mo.grd (a_2.length≤1000) (Mb (Mq ([]:List Nat)) fun l_3=>Mq (a_2++l_3))) fun l5=>Mq (w4++l5))) fun l8=>Mq (a7++l8))) fun l10=>Mq (a9++l10)))
def zbC_ (p_field:(Int×Int)):Mo (Out (List Int) Unit Unit) :=
 (Mb (Mb (Mb (Mb (Mb (Mq p_field) fun a_1=>Mq a_1.1) fun v5=>Mb (Mb (Mb (Mq p_field) fun a_2=>Mq a_2.2) fun v3=>Mb (Mq (1:Int)) fun y4=>Mq (v3+y4)) fun y6=>Mq (v5,y6)) fun c7=>Mq c7) fun c7=>Mo.grd (-50000≤c7.1∧c7.1≤50000 ∧ -50000≤c7.2∧c7.2≤50000) (Mq (rngI c7.1 (c7.2-c7.1).toNat))) fun v8=>Mq (.rt v8))
def zai_ (p_field:(Int×Int)):Mo (List Int):=fnO (zbC_ p_field)
def zau_ (p_deck:(List (List Nat))) (p_field:(Int×Int)) (p_number:Int):Mo (Out Unit Unit Unit) :=
 (Mb (Mb (Mb (Mq p_deck) fun w4=>Mb (Mb (Mq p_field) fun c_3=>Mo.noex (zai_ c_3)) fun z5=>Mq (w4,z5)) fun y6=>Mo.noex (zb4_ y6.1 y6.2)) fun w2'=>(Mb (Mb (Mq w2') fun a7=>Mb (Mq ()) fun b8=>Mq a7.isSome) fun c9=>if c9 then (Mb (Mb (Mq p_number) fun a11=>Mb (Mb (Mq w2') fun a10=>Mo.opt a10) fun c12=>Mq (a11,c12)) fun c13=>Mb (Mo.noex (zy_ c13.1 c13.2)) fun _=>Mo.ex (Xc.at "NoOrder" [("deck",Av.i c13.1),("place",Av.i c13.2)])) else (Mq (.nx ()))))
def zC_ (p_deck:(List (List Nat))) (p_field:(Int×Int)) (p_number:Int):Mo Unit:=fnU (zau_ p_deck p_field p_number)
def zdH_ (p_card:(List Nat)) (p_field:(Int×Int)):Mo (Out (List Nat) Unit Unit) :=
 (Mb (Mb (Mq p_card) fun a7=>Mb (Mb (Mb (Mb (Mq p_field) fun a_1=>Mq a_1.1) fun a_2=>Mb (Mq (1:Int)) fun b_3=>Mq (a_2-b_3)) fun i4=>Mq (some i4)) fun b8=>Mb (Mb (Mb (Mq p_field) fun v5=>Mq v5.2) fun i6=>Mq (some i6)) fun d9=>Mo.lim a7.length (Mq (cutG a7 b8 d9))) fun r10=>Mq (.rt r10))
def zae_ (p_card:(List Nat)) (p_field:(Int×Int)):Mo (List Nat):=fnO (zdH_ p_card p_field)
def zas_ (p_deck:(List (List Nat))) (p_field:(Int×Int)):Mo (Out ((List (List Nat))×(List (List Nat))) Unit Unit) :=
 (Mb (Mb (Mb (Mq p_deck) fun v3=>Mb (Mb (Mq p_field) fun a_1=>Mb (Mq (1:Int)) fun c_2=>Mq (a_1,c_2)) fun c_4=>Mq (v3,c_4)) fun z5=>zC_ z5.1 z5.2.1 z5.2.2) fun v6=>(Mb (Mq ([]:List (List Nat))) fun z7=>(Mb (Mq ([]:List (List Nat))) fun o8=>(Mb (Mq ([]:(List ((List Nat)×Bool)))) fun y9=>(thenO (S:=((List (List Nat))×((List (List Nat))×(List ((List Nat)×Bool))))) (Mb (Mq p_deck) fun x24=>forO (fun (s10:((List (List Nat))×((List (List Nat))×(List ((List Nat)×Bool))))) x11=>(Mb (Mb (Mb (Mq x11) fun a13=>Mb (Mq p_field) fun c14=>Mq (a13,c14)) fun c15=>Mo.noex (zae_ c15.1 c15.2)) fun p12=>(thenO (S:=((List (List Nat))×(List (List Nat)))) (Mb (Mb (Mq p12) fun a16=>Mb (Mq s10.2.2) fun b17=>Mq (if false then !(getA b17 a16).isSome else (getA b17 a16).isSome)) fun c18=>if c18 then (Mb (Mq x11) fun a20=>Mo.lim (s10.1.length+1) (Mq (.nx ((s10.1++[a20]),s10.2.1)))) else (Mb (Mq x11) fun a21=>Mo.lim (s10.2.1.length+1) (Mq (.nx (s10.1,(s10.2.1++[a21])))))) fun s19=>(Mb (Mq true) fun a22=>Mb (Mq p12) fun y23=>Mo.lim (s10.2.2.length+1) (Mq (.nx (s19.1,s19.2,(putA s10.2.2 y23 a22)))))))) x24 (o8,z7,y9)) fun s10=>(Mb (Mb (Mq s10.2.1) fun a25=>Mb (Mq s10.1) fun c26=>Mq (a25,c26)) fun r27=>Mq (.rt r27)))))))
def zU_ (p_deck:(List (List Nat))) (p_field:(Int×Int)):Mo ((List (List Nat))×(List (List Nat))):=fnO (zas_ p_deck p_field)
def zcB_ (p_field:(Int×Int)):Mo (Out Int Unit Unit) :=
 (Mb (Mb (Mb (Mb (Mq p_field) fun a_1=>Mq a_1.2) fun v3=>Mb (Mb (Mq p_field) fun a_2=>Mq a_2.1) fun y4=>Mq (v3-y4)) fun v5=>Mb (Mq (1:Int)) fun w6=>Mq (v5+w6)) fun t7=>Mq (.rt t7))
def zaH_ (p_field:(Int×Int)):Mo Int:=fnO (zcB_ p_field)
def zat_ (p_one:(List (List Nat))) (p_field:(Int×Int)) (p_other:(List (List Nat))) (p_other_field:(Int×Int)):Mo (Out Unit Unit Unit) :=
 (thenO (S:=Unit) (Mb (Mb (Mb (Mq p_field) fun c_1=>Mo.noex (zaH_ c_1)) fun v3=>Mb (Mb (Mq p_other_field) fun c_2=>Mo.noex (zaH_ c_2)) fun y4=>Mq (!decide (v3=y4))) fun z5=>if z5 then (Mb (Mq ([116,119,111,32,100,101,99,107,115,32,97,114,101,32,112,117,116,32,116,111,103,101,116,104,101,114,32,98,121,32,102,105,101,108,100,115,32,111,102,32,111,110,101,32,119,105,100,116,104]:List Nat)) fun _=>Mo.ex (Xc.pl "NoField")) else (Mq (.nx ()))) fun _=>(Mb (Mb (Mb (Mq p_other) fun a9=>Mb (Mb (Mq p_other_field) fun a7=>Mb (Mq (2:Int)) fun c8=>Mq (a7,c8)) fun c10=>Mq (a9,c10)) fun c11=>zC_ c11.1 c11.2.1 c11.2.2) fun a12=>(Mb (Mb (Mb (Mq p_one) fun a15=>Mb (Mb (Mq p_field) fun a13=>Mb (Mq (1:Int)) fun c14=>Mq (a13,c14)) fun c16=>Mq (a15,c16)) fun c17=>zC_ c17.1 c17.2.1 c17.2.2) fun a18=>(Mq (.nx ())))))
def zH_ (p_one:(List (List Nat))) (p_field:(Int×Int)) (p_other:(List (List Nat))) (p_other_field:(Int×Int)):Mo Unit:=fnU (zat_ p_one p_field p_other p_other_field)
def zc5_ (p_deck:(List (List Nat))) (p_field:(Int×Int)):Mo (Out (List ((List Nat)×Bool)) Unit Unit) :=
 (Mb (Mq ([]:(List ((List Nat)×Bool)))) fun y1'=>(thenO (S:=(List ((List Nat)×Bool))) (Mb (Mq p_deck) fun x9=>forO (fun (s_2:(List ((List Nat)×Bool))) x_3=>(Mb (Mq true) fun a7=>Mb (Mb (Mb (Mq x_3) fun w4=>Mb (Mq p_field) fun z5=>Mq (w4,z5)) fun y6=>Mo.noex (zae_ y6.1 y6.2)) fun y8=>Mo.lim (s_2.length+1) (Mq (.nx (putA s_2 y8 a7))))) x9 y1') fun s_2=>(Mb (Mq s_2) fun r10=>Mq (.rt r10))))
def zbg_ (p_deck:(List (List Nat))) (p_field:(Int×Int)):Mo (List ((List Nat)×Bool)):=fnO (zc5_ p_deck p_field)
def zbH_ (p_deck:(List (List Nat))) (p_field:(Int×Int)) (p_parts:(List ((List Nat)×Bool))):Mo (Out (List (List Nat)) Unit Unit) :=
 (Mb (Mb (Mq p_deck) fun u7'=>compM (fun x_1=>cond1 (Mb (Mb (Mb (Mq x_1) fun a_2=>Mb (Mq p_field) fun c_3=>Mq (a_2,c_3)) fun c_4=>Mo.noex (zae_ c_4.1 c_4.2)) fun v5=>Mb (Mq p_parts) fun w6=>Mq (if false then !(getA w6 v5).isSome else (getA w6 v5).isSome)) (Mq x_1)) u7' []) fun v8=>Mq (.rt v8))
def zaj_ (p_deck:(List (List Nat))) (p_field:(Int×Int)) (p_parts:(List ((List Nat)×Bool))):Mo (List (List Nat)):=fnO (zbH_ p_deck p_field p_parts)
def zaC_ (p_deck:(List (List Nat))) (p_field:(Int×Int)) (p_parts:(List ((List Nat)×Bool))):Mo (Out (List (List Nat)) Unit Unit) :=
 (Mb (Mb (Mq p_deck) fun u7'=>compM (fun x_1=>cond1 (Mb (Mb (Mb (Mq x_1) fun a_2=>Mb (Mq p_field) fun c_3=>Mq (a_2,c_3)) fun c_4=>Mo.noex (zae_ c_4.1 c_4.2)) fun v5=>Mb (Mq p_parts) fun w6=>Mq (if true then !(getA w6 v5).isSome else (getA w6 v5).isSome)) (Mq x_1)) u7' []) fun v8=>Mq (.rt v8))
def zP_ (p_deck:(List (List Nat))) (p_field:(Int×Int)) (p_parts:(List ((List Nat)×Bool))):Mo (List (List Nat)):=fnO (zaC_ p_deck p_field p_parts)
def zaP_ (p_one:(List (List Nat))) (p_field:(Int×Int)) (p_other:(List (List Nat))) (p_other_field:(Int×Int)):Mo (Out ((List (List Nat))×((List (List Nat))×((List (List Nat))×(List (List Nat))))) Unit Unit) :=
 (Mb (Mb (Mb (Mq p_one) fun v5=>Mb (Mb (Mq p_field) fun v3=>Mb (Mb (Mq p_other) fun a_1=>Mb (Mq p_other_field) fun c_2=>Mq (a_1,c_2)) fun c_4=>Mq (v3,c_4)) fun y6=>Mq (v5,y6)) fun c7=>zH_ c7.1 c7.2.1 c7.2.2.1 c7.2.2.2) fun a8=>(Mb (Mb (Mb (Mq p_one) fun a13=>Mb (Mq p_field) fun c14=>Mq (a13,c14)) fun c15=>Mo.noex (zbg_ c15.1 c15.2)) fun p9=>(Mb (Mb (Mb (Mq p_other) fun a20=>Mb (Mq p_other_field) fun c21=>Mq (a20,c21)) fun c22=>Mo.noex (zbg_ c22.1 c22.2)) fun o16=>(Mb (Mb (Mb (Mb (Mq p_one) fun a25=>Mb (Mb (Mq p_field) fun a23=>Mb (Mq o16) fun c24=>Mq (a23,c24)) fun c26=>Mq (a25,c26)) fun c27=>Mo.noex (zaj_ c27.1 c27.2.1 c27.2.2)) fun a47=>Mb (Mb (Mb (Mb (Mq p_one) fun a30=>Mb (Mb (Mq p_field) fun a28=>Mb (Mq o16) fun c29=>Mq (a28,c29)) fun c31=>Mq (a30,c31)) fun c32=>Mo.noex (zP_ c32.1 c32.2.1 c32.2.2)) fun a45=>Mb (Mb (Mb (Mb (Mq p_other) fun a35=>Mb (Mb (Mq p_other_field) fun a33=>Mb (Mq p9) fun c34=>Mq (a33,c34)) fun c36=>Mq (a35,c36)) fun c37=>Mo.noex (zaj_ c37.1 c37.2.1 c37.2.2)) fun a43=>Mb (Mb (Mb (Mq p_other) fun a40=>Mb (Mb (Mq p_other_field) fun a38=>Mb (Mq p9) fun c39=>Mq (a38,c39)) fun c41=>Mq (a40,c41)) fun c42=>Mo.noex (zP_ c42.1 c42.2.1 c42.2.2)) fun c44=>Mq (a43,c44)) fun c46=>Mq (a45,c46)) fun c48=>Mq (a47,c48)) fun r49=>Mq (.rt r49)))))
def z2_ (p_one:(List (List Nat))) (p_field:(Int×Int)) (p_other:(List (List Nat))) (p_other_field:(Int×Int)):Mo ((List (List Nat))×((List (List Nat))×((List (List Nat))×(List (List Nat))))):=fnO (zaP_ p_one p_field p_other p_other_field)
def zaS_ (p_one:(List (List Nat))) (p_field:(Int×Int)) (p_other:(List (List Nat))) (p_other_field:(Int×Int)):Mo (Out (List (List Nat)) Unit Unit) :=
 (Mb (Mb (Mb (Mq p_one) fun v5=>Mb (Mb (Mq p_field) fun v3=>Mb (Mb (Mq p_other) fun a_1=>Mb (Mq p_other_field) fun c_2=>Mq (a_1,c_2)) fun c_4=>Mq (v3,c_4)) fun y6=>Mq (v5,y6)) fun c7=>zH_ c7.1 c7.2.1 c7.2.2.1 c7.2.2.2) fun a8=>(Mb (Mb (Mb (Mq (1:Int)) fun a11=>Mb (Mb (Mq p_field) fun c10=>Mo.noex (zaH_ c10)) fun c12=>Mq (a11,c12)) fun c13=>Mo.noex (zai_ c13)) fun w9=>(Mb (Mq ([]:List (List Nat))) fun d14=>(Mb (Mq (0:Int)) fun t15=>(thenO (S:=(Int×(List (List Nat)))) (Mb (Mq p_one) fun x44=>forO (fun (s16:(Int×(List (List Nat)))) x17=>(Mb (Mb (Mb (Mq x17) fun a19=>Mb (Mq p_field) fun c20=>Mq (a19,c20)) fun c21=>Mo.noex (zae_ c21.1 c21.2)) fun p18=>(thenO (S:=((List (List Nat))×Int)) (whileO (fun (s22:((List (List Nat))×Int))=>(Mb (Mb (Mq s22.2) fun a24=>Mb (Mb (Mq p_other) fun c23=>Mq (c23.length:Int)) fun b25=>Mq (decide (a24<b25))) fun c36=>if c36 then (Mb (Mb (Mb (Mb (Mb (Mq p_other) fun a26=>Mb (Mq s22.2) fun b27=>Mo.opt (atI a26 b27)) fun a28=>Mb (Mq p_other_field) fun c29=>Mq (a28,c29)) fun c30=>Mo.noex (zae_ c30.1 c30.2)) fun a33=>Mb (Mb (Mq p18) fun a31=>Mb (Mq w9) fun c32=>Mq (a31,c32)) fun c34=>Mq (a33,c34)) fun c35=>Mo.noex (zV_ c35.1 c35.2.1 c35.2.2)) else Mq false)) (fun (s22:((List (List Nat))×Int))=>(Mb (Mb (Mq p_other) fun a37=>Mb (Mq s22.2) fun b38=>Mo.opt (atI a37 b38)) fun a39=>Mo.lim (s22.1.length+1) (Mb (Mb (Mq s22.2) fun a41=>Mb (Mq (1:Int)) fun b42=>Mq (a41+b42)) fun t40=>(Mq (.nx ((s22.1++[a39]),t40)))))) fuelW (s16.2,s16.1)) fun s22=>(Mb (Mq x17) fun a43=>Mo.lim (s22.1.length+1) (Mq (.nx (s22.2,(s22.1++[a43])))))))) x44 (t15,d14)) fun s16=>(Mb (Mb (Mq s16.2) fun a49=>Mb (Mb (Mq p_other) fun a46=>Mb (Mb (Mq s16.1) fun i45=>Mq (some i45)) fun b47=>Mb (Mq none) fun d48=>Mq (cutG a46 b47 d48)) fun b50=>Mo.lim (a49.length+b50.length) (Mq (a49++b50))) fun r51=>Mq (.rt r51)))))))
def z3_ (p_one:(List (List Nat))) (p_field:(Int×Int)) (p_other:(List (List Nat))) (p_other_field:(Int×Int)):Mo (List (List Nat)):=fnO (zaS_ p_one p_field p_other p_other_field)
def zaN_ (p_way:Int) (p_one:(List (List Nat))) (p_field:(Int×Int)) (p_other:(List (List Nat))) (p_other_field:(Int×Int)):Mo (Out Unit Unit Unit) :=
 (thenO (S:=Unit) (Mb (Mb (Mq p_way) fun a_1=>Mb (Mq (0:Int)) fun b_2=>Mq (decide (a_1=b_2))) fun c_3=>if c_3 then (Mb (Mb (Mb (Mb (Mq p_one) fun a9=>Mb (Mb (Mq p_field) fun a7=>Mb (Mb (Mq p_other) fun v5=>Mb (Mq p_other_field) fun y6=>Mq (v5,y6)) fun c8=>Mq (a7,c8)) fun c10=>Mq (a9,c10)) fun c11=>z2_ c11.1 c11.2.1 c11.2.2.1 c11.2.2.2) fun _=>Mq ()) fun r12=>Mq (.rt r12)) else (Mq (.nx ()))) fun _=>(thenO (S:=Unit) (Mb (Mb (Mq p_way) fun a13=>Mb (Mq (1:Int)) fun b14=>Mq (decide (a13=b14))) fun c15=>if c15 then (Mb (Mb (Mb (Mb (Mq p_one) fun a21=>Mb (Mb (Mq p_field) fun a19=>Mb (Mb (Mq p_other) fun a17=>Mb (Mq p_other_field) fun c18=>Mq (a17,c18)) fun c20=>Mq (a19,c20)) fun c22=>Mq (a21,c22)) fun c23=>z3_ c23.1 c23.2.1 c23.2.2.1 c23.2.2.2) fun _=>Mq ()) fun r24=>Mq (.rt r24)) else (Mq (.nx ()))) fun _=>(Mb (Mb (Mb (Mb (Mq p_one) fun a25=>Mb (Mq p_field) fun c26=>Mq (a25,c26)) fun c27=>zU_ c27.1 c27.2) fun _=>Mq ()) fun r28=>Mq (.rt r28))))
def zag_ (p_way:Int) (p_one:(List (List Nat))) (p_field:(Int×Int)) (p_other:(List (List Nat))) (p_other_field:(Int×Int)):Mo Unit:=fnO (zaN_ p_way p_one p_field p_other p_other_field)
def zbo_ (p_e:Xc):Mo (Out Bool Unit Unit) :=
 (Mb (Mb (Mb (Mb (Mq p_e) fun a_2=>Mo.opt (isaQ [("NoField",false),("NoOrder",false)] a_2.c)) fun a10=>Mb (Mb (Mb (Mq p_e) fun v3=>Mo.opt (isaQ [("NoField",false),("NoOrder",false)] v3.c)) fun a8=>Mb (Mb (Mb (Mq p_e) fun w4=>Mo.opt (isaQ [("NoField",false),("NoOrder",false)] w4.c)) fun v6=>Mb (Mb (Mq p_e) fun v5=>Mo.opt (isaQ [("NoField",false),("NoOrder",false)] v5.c)) fun c7=>Mq (v6,c7)) fun c9=>Mq (a8,c9)) fun c11=>Mq (a10,c11)) fun c12=>Mq [c12.1,c12.2.1,c12.2.2.1,c12.2.2.2]) fun r1'=>(Mb (Mb (Mq r1') fun a26=>Mb (Mb (Mb (Mb (Mq p_e) fun a14=>Mo.opt (isaQ [("NoField",false),("NoOrder",false)] a14.c)) fun a23=>Mb (Mb (Mb (Mq p_e) fun a15=>Mo.opt (isaQ [("NoField",false),("NoOrder",false)] a15.c)) fun a21=>Mb (Mb (Mb (Mq p_e) fun a16=>Mo.opt (isaQ [("NoField",false),("NoOrder",false)] a16.c)) fun a19=>Mb (Mb (Mb (Mq p_e) fun a17=>Mo.opt (isaQ [("NoField",true),("NoOrder",true)] a17.c)) fun a18=>Mq (!a18)) fun c20=>Mq (a19,c20)) fun c22=>Mq (a21,c22)) fun c24=>Mq (a23,c24)) fun c25=>Mq [c25.1,c25.2.1,c25.2.2.1,c25.2.2.2]) fun b27=>Mo.lim (a26.length+b27.length) (Mq (a26++b27))) fun v13=>(Mb (Mb (Mq true) fun a28=>Mb (Mq v13) fun b29=>Mq (!(b29.any fun y=>decide (y=a28)))) fun r30=>Mq (.rt r30))))
def z4_ (p_e:Xc):Mo Bool:=fnO (zbo_ p_e)
def zdk_ (p_found:Int):Mo (Out Bool Unit Unit) :=
 (Mb (Mb (Mb (Mq p_found) fun a_1=>Mq true) fun c_4=>if c_4 then (Mb (Mb (Mq p_found) fun a_2=>Mq false) fun v3=>Mq (!v3)) else Mq false) fun r_5=>Mq (.rt r_5))
def zbt_ (p_found:Int):Mo Bool:=fnO (zdk_ p_found)
def zc2_ (p_way:Int) (p_one:(List (List Nat))) (p_field:(Int×Int)) (p_other:(List (List Nat))) (p_other_field:(Int×Int)):Mo (Out (Option (List Int)) Unit Unit) :=
 (Mb (Mq ([]:List Int)) fun s1'=>(Mb (Mq true) fun u2'=>(thenO (S:=((List Int)×Bool)) (Mb (Mb (Mq p_way) fun a9=>Mb (Mb (Mq p_one) fun a7=>Mb (Mb (Mq p_field) fun v5=>Mb (Mb (Mq p_other) fun v3=>Mb (Mq p_other_field) fun c_4=>Mq (v3,c_4)) fun y6=>Mq (v5,y6)) fun c8=>Mq (a7,c8)) fun c10=>Mq (a9,c10)) fun c11=>Mo.tr (zag_ c11.1 c11.2.1 c11.2.2.1 c11.2.2.2.1 c11.2.2.2.2) (fun _=>(Mq (.nx (s1',u2')))) fun x12=>(Mo.cat [("NoField",false),("NoOrder",true)] x12.c (Mb (Mb (Mb (Mb (Mq x12) fun a23=>Mo.opt (attI "NoOrder" "deck" a23)) fun a25=>Mb (Mb (Mq x12) fun a24=>Mo.opt (attI "NoOrder" "place" a24)) fun c26=>Mq (a25,c26)) fun c27=>Mq [c27.1,c27.2]) fun t22=>(Mb (Mb (Mb (Mq x12) fun c29=>Mo.noex (z4_ c29)) fun c34=>if c34 then (Mb (Mb (Mb (Mq x12) fun a30=>Mo.opt (isaQ [("NoField",true),("NoOrder",false)] a30.c)) fun a31=>Mq (!a31)) fun c33=>if c33 then (Mb (Mq x12) fun a32=>Mo.opt (isaQ [("NoField",true),("NoOrder",true)] a32.c)) else Mq false) else Mq false) fun v28=>(Mq (.nx (t22,v28))))) (Mo.cat [("NoField",true),("NoOrder",false)] x12.c (Mb (Mb (Mb (Mq (0:Int)) fun a15=>Mb (Mq (0:Int)) fun c16=>Mq (a15,c16)) fun c17=>Mq [c17.1,c17.2]) fun t14=>(Mb (Mb (Mb (Mq x12) fun c19=>Mo.noex (z4_ c19)) fun c21=>if c21 then (Mb (Mq x12) fun a20=>Mo.opt (isaQ [("NoField",true),("NoOrder",true)] a20.c)) else Mq false) fun v18=>(Mq (.nx (t14,v18))))) Mo.no))) fun s13=>(thenO (S:=Unit) (Mb (Mb (Mb (Mq s13.2) fun a35=>Mq (!a35)) fun c47=>if c47 then Mq true else (Mb (Mb (Mq s13.1) fun a36=>Mb (Mq ([]:List Int)) fun b37=>Mq (!((eqL (fun a b=>decide (a=b))) a36 b37))) fun c46=>if c46 then (Mb (Mb (Mb (Mb (Mq s13.1) fun a38=>Mb (Mq (0:Int)) fun b39=>Mo.opt (atI a38 b39)) fun c40=>Mo.noex (zbt_ c40)) fun c44=>if c44 then (Mb (Mb (Mq s13.1) fun a41=>Mb (Mq (1:Int)) fun b42=>Mo.opt (atI a41 b42)) fun c43=>Mo.noex (zbt_ c43)) else Mq false) fun a45=>Mq (!a45)) else Mq false)) fun c48=>if c48 then (Mb (Mq (none:(Option (List Int)))) fun r50=>Mq (.rt r50)) else (Mq (.nx ()))) fun _=>(Mq (.rt (some s13.1)))))))
def za8_ (p_way:Int) (p_one:(List (List Nat))) (p_field:(Int×Int)) (p_other:(List (List Nat))) (p_other_field:(Int×Int)):Mo (Option (List Int)):=fnO (zc2_ p_way p_one p_field p_other p_other_field)
def zod_ (p_script:(List Int)):Mo (Out Bool Unit Unit) :=
 (Mb (Mb (Mq p_script) fun c_2=>Mo.noex (zaT_ c_2)) fun u1'=>(Mb (Mb (Mb (Mq p_script) fun w4=>Mb (Mq u1') fun z5=>Mq (w4,z5)) fun y6=>Mo.noex (zbn_ y6.1 y6.2)) fun u3'=>(Mb (Mb (Mb (Mq p_script) fun a8=>Mb (Mq (4:Int)) fun c9=>Mq (a8,c9)) fun c10=>Mo.noex (zA_ c10.1 c10.2)) fun y7=>(Mb (Mb (Mb (Mq (2:Int)) fun c12=>Mo.grd (-(2 ^ 62)≤c12∧c12<2 ^ 62) (Mq (rngI 0 c12.toNat))) fun x21=>compM (fun w13=>cond1 (Mq true) (Mb (Mb (Mb (Mq u3') fun a14=>Mb (Mq w13) fun b15=>Mo.opt (atI a14 b15)) fun a18=>Mb (Mb (Mq u1') fun a16=>Mb (Mq w13) fun b17=>Mo.opt (atI a16 b17)) fun c19=>Mq (a18,c19)) fun c20=>Mo.noex (zaO_ c20.1 c20.2))) x21 []) fun v11=>(Mb (Mb (Mb (Mb (Mq v11) fun a23=>Mb (Mq (0:Int)) fun b24=>Mo.opt (atI a23 b24)) fun a29=>Mb (Mb (Mb (Mq u3') fun a25=>Mb (Mq (0:Int)) fun b26=>Mo.opt (atI a25 b26)) fun a27=>Mb (Mq y7) fun c28=>Mq (a27,c28)) fun c30=>Mq (a29,c30)) fun c31=>Mo.noex (z8_ c31.1 c31.2.1 c31.2.2)) fun o22=>(Mb (Mb (Mb (Mb (Mq v11) fun a33=>Mb (Mq (1:Int)) fun b34=>Mo.opt (atI a33 b34)) fun a45=>Mb (Mb (Mb (Mq u3') fun a35=>Mb (Mq (1:Int)) fun b36=>Mo.opt (atI a35 b36)) fun a43=>Mb (Mb (Mb (Mb (Mq y7) fun a37=>Mb (Mq (2147483647:Int)) fun b38=>Mo.grd (0<b38) (Mq (a37 % b38))) fun a39=>Mb (Mq (48271:Int)) fun b40=>Mo.grd (IntMulOk a39 b40) (Mq (a39*b40))) fun a41=>Mb (Mq (2147483629:Int)) fun b42=>Mo.grd (0<b42) (Mq (a41 % b42))) fun c44=>Mq (a43,c44)) fun c46=>Mq (a45,c46)) fun c47=>Mo.noex (z8_ c47.1 c47.2.1 c47.2.2)) fun o32=>(Mb (Mb (Mb (Mb (Mq o22) fun c52=>Mq c52) fun a53=>Mb (Mb (Mb (Mq o32) fun c49=>Mq c49) fun a50=>Mb (Mq ([]:List (List (List Nat)))) fun l51=>Mq (a50::l51)) fun l54=>Mq (a53::l54)) fun l55=>Mo.lim l55.length (Mq l55)) fun h48=>(Mb (Mb (Mq u1') fun a57=>Mb (Mq (1:Int)) fun b58=>Mo.opt (atI a57 b58)) fun o56=>(thenO (S:=(Int×Int)) (Mb (Mb (Mb (Mb (Mb (Mb (Mq y7) fun a59=>Mb (Mq (2147483647:Int)) fun b60=>Mo.grd (0<b60) (Mq (a59 % b60))) fun a61=>Mb (Mq (69621:Int)) fun b62=>Mo.grd (IntMulOk a61 b62) (Mq (a61*b62))) fun a63=>Mb (Mq (2147483587:Int)) fun b64=>Mo.grd (0<b64) (Mq (a63 % b64))) fun a65=>Mb (Mq (6:Int)) fun b66=>Mo.grd (0<b66) (Mq (a65 % b66))) fun a67=>Mb (Mq (1:Int)) fun b68=>Mq (decide (a67=b68))) fun c69=>if c69 then (Mb (Mb (Mb (Mq u1') fun a72=>Mb (Mq (1:Int)) fun b73=>Mo.opt (atI a72 b73)) fun c74=>Mo.noex (zaJ_ c74)) fun o71=>(Mq (.nx o71))) else (Mq (.nx o56))) fun s70=>(thenO (S:=Unit) (Mb (Mb (Mq (3:Int)) fun c76=>Mo.grd (-(2 ^ 62)≤c76∧c76<2 ^ 62) (Mq (rngI 0 c76.toNat))) fun x118=>forO (fun (_:Unit) x77=>(Mb (Mb (Mb (Mq x77) fun a87=>Mb (Mb (Mq o22) fun a85=>Mb (Mb (Mb (Mq u1') fun a79=>Mb (Mq (0:Int)) fun b80=>Mo.opt (atI a79 b80)) fun a83=>Mb (Mb (Mq o32) fun a81=>Mb (Mq s70) fun c82=>Mq (a81,c82)) fun c84=>Mq (a83,c84)) fun c86=>Mq (a85,c86)) fun c88=>Mq (a87,c88)) fun c89=>Mo.noex (zcr_ c89.1 c89.2.1 c89.2.2.1 c89.2.2.2.1 c89.2.2.2.2)) fun d78=>(Mb (Mb (Mb (Mq x77) fun a104=>Mb (Mb (Mb (Mq h48) fun a92=>Mb (Mq (0:Int)) fun b93=>Mo.opt (atI a92 b93)) fun a102=>Mb (Mb (Mb (Mq u1') fun a94=>Mb (Mq (0:Int)) fun b95=>Mo.opt (atI a94 b95)) fun a100=>Mb (Mb (Mb (Mq h48) fun a96=>Mb (Mq (1:Int)) fun b97=>Mo.opt (atI a96 b97)) fun a98=>Mb (Mq s70) fun c99=>Mq (a98,c99)) fun c101=>Mq (a100,c101)) fun c103=>Mq (a102,c103)) fun c105=>Mq (a104,c105)) fun c106=>Mo.noex (za8_ c106.1 c106.2.1 c106.2.2.1 c106.2.2.2.1 c106.2.2.2.2)) fun t91=>(Mb (Mb (Mb (Mb (Mq t91) fun a107=>Mo.opt a107) fun a108=>Mb (Mq d78) fun b109=>Mq (!((eqL (fun a b=>decide (a=b))) a108 b109))) fun c115=>if c115 then Mq true else (Mb (Mq h48) fun a113=>Mb (Mb (Mb (Mq o22) fun a110=>Mb (Mq o32) fun c111=>Mq (a110,c111)) fun c112=>Mq [c112.1,c112.2]) fun b114=>Mq (!((eqL (eqL (fun a b=>decide (a=b)))) a113 b114)))) fun c116=>if c116 then (Mb (Mq false) fun r117=>Mq (.rt r117)) else (Mq (.nx ())))))) x118 ()) fun _=>(thenO (S:=(List (List (List Nat)))) (Mb (Mb (Mq (2:Int)) fun c120=>Mo.grd (-(2 ^ 62)≤c120∧c120<2 ^ 62) (Mq (rngI 0 c120.toNat))) fun x137=>forO (fun (s119:(List (List (List Nat)))) x121=>(Mb (Mb (Mq (s119,fun (z:(List (List (List Nat))))=>z)) fun y122=>Mb (Mq x121) fun j123=>Mb (Mo.opt (ixN y122.1.length j123)) fun n124=>Mb (Mo.opt (y122.1[n124]?)) fun z125=>Mq (z125,fun (z':(List (List Nat)))=>y122.2 (y122.1.set n124 z'))) fun y126=>Mb (Mq (y126.2 [])) fun x127=>(Mb (Mb (Mq (x127,fun (z:(List (List (List Nat))))=>z)) fun y128=>Mb (Mq x121) fun j129=>Mb (Mo.opt (ixN y128.1.length j129)) fun n130=>Mb (Mo.opt (y128.1[n130]?)) fun z131=>Mq (z131,fun (z':(List (List Nat)))=>y128.2 (y128.1.set n130 z'))) fun y134=>Mb (Mb (Mq v11) fun a132=>Mb (Mq x121) fun b133=>Mo.opt (atI a132 b133)) fun a135=>Mo.lim (y134.1.length+a135.length) (Mb (Mq (y134.2 (y134.1++a135))) fun x136=>(Mq (.nx x136)))))) x137 h48) fun s119=>(thenO (S:=Unit) (Mb (Mb (Mq (3:Int)) fun c139=>Mo.grd (-(2 ^ 62)≤c139∧c139<2 ^ 62) (Mq (rngI 0 c139.toNat))) fun x180=>forO (fun (_:Unit) x140=>(Mb (Mb (Mb (Mb (Mb (Mq x140) fun a172=>Mb (Mb (Mb (Mq s119) fun a158=>Mb (Mq (0:Int)) fun b159=>Mo.opt (atI a158 b159)) fun a170=>Mb (Mb (Mb (Mq u1') fun a160=>Mb (Mq (0:Int)) fun b161=>Mo.opt (atI a160 b161)) fun a168=>Mb (Mb (Mb (Mq s119) fun a162=>Mb (Mq (1:Int)) fun b163=>Mo.opt (atI a162 b163)) fun a166=>Mb (Mb (Mq u1') fun a164=>Mb (Mq (1:Int)) fun b165=>Mo.opt (atI a164 b165)) fun c167=>Mq (a166,c167)) fun c169=>Mq (a168,c169)) fun c171=>Mq (a170,c171)) fun c173=>Mq (a172,c173)) fun c174=>Mo.noex (za8_ c174.1 c174.2.1 c174.2.2.1 c174.2.2.2.1 c174.2.2.2.2)) fun a175=>Mo.opt a175) fun a176=>Mb (Mq ([]:List Int)) fun b177=>Mq (!((eqL (fun a b=>decide (a=b))) a176 b177))) fun c178=>if c178 then (Mb (Mq false) fun r179=>Mq (.rt r179)) else (Mq (.nx ())))) x180 ()) fun _=>(Mb (Mq true) fun r181=>Mq (.rt r181))))))))))))))
def f_law (p_script:(List Int)):Mo Bool:=fnO (zod_ p_script)
end K22
namespace K22
open PySem PySem.Spec PyProof.Rows L2
open Mo renaming bind→Mb,ok→Mq
open Sl renaming fz→Zf,dead→Zd,ow→Zo
def top (i:Nat):Stmt:=PySem.Challenge.pw_cardshop_k22_out_of_order.main.body.getD i (.Pass ⟨0,0,0,0⟩)
abbrev zed_:Stmt:=top 34
abbrev ze3_:Stmt:=top 38
abbrev zid_:Stmt:=top 36
abbrev zhT_:Stmt:=top 37
abbrev zgI_:Stmt:=top 40
abbrev zer_:Stmt:=top 42
abbrev ze6_:Stmt:=top 41
abbrev zgx_:Stmt:=top 39
abbrev ziN_:Stmt:=top 43
abbrev zjk_:Stmt:=top 44
abbrev ziw_:Stmt:=top 13
abbrev zi6_:Stmt:=top 14
abbrev ziz_:Stmt:=top 15
abbrev zgV_:Stmt:=top 21
abbrev zea_:Stmt:=top 22
abbrev zld_:Stmt:=top 23
abbrev zb5_:Stmt:=inClass (top 4) 0
abbrev zfo_:Stmt:=top 18
abbrev zen_:Stmt:=top 25
abbrev ziI_:Stmt:=top 19
abbrev zeq_:Stmt:=top 32
abbrev zho_:Stmt:=top 17
abbrev zeP_:Stmt:=top 26
abbrev zim_:Stmt:=top 27
abbrev zfj_:Stmt:=top 28
abbrev zc9_:Stmt:=top 29
abbrev zfv_:Stmt:=top 30
abbrev zfh_:Stmt:=top 31
abbrev zgm_:Stmt:=top 45
abbrev zgk_:Stmt:=top 46
abbrev zgA_:Stmt:=top 35
abbrev zht_:Stmt:=top 47
abbrev zoL_:Stmt:=top 48
structure Fx (K:Fgg):Prop where
 exc_NoField:excK K (gA K "NoField")=true
 cat_NoField_NoField:catK K (gA K "NoField") (gA K "NoField")=true
 cat_NoField_NoOrder:catN K (gA K "NoField") (gA K "NoOrder")=true
 isa_NoField_NoAsking:isaK K (gA K "NoField") (.ref (gA K "NoAsking"))=some false
 isa_NoField_Meet:isaK K (gA K "NoField") (.ref (gA K "Meet"))=some false
 isa_NoField_NoBoard:isaK K (gA K "NoField") (.ref (gA K "NoBoard"))=some false
 isa_NoField_NoCard:isaK K (gA K "NoField") (.ref (gA K "NoCard"))=some false
 isa_NoField_ValueError:isaK K (gA K "NoField") (.type "ValueError")=some true
 isa_NoField_NoRow:isaK K (gA K "NoField") (.ref (gA K "NoRow"))=some false
 isa_NoField_NoPlan:isaK K (gA K "NoField") (.ref (gA K "NoPlan"))=some false
 isa_NoField_NoTray:isaK K (gA K "NoField") (.ref (gA K "NoTray"))=some false
 isa_NoField_ShopError:isaK K (gA K "NoField") (.ref (gA K "ShopError"))=some true
 isa_NoField_NoField:isaK K (gA K "NoField") (.ref (gA K "NoField"))=some true
 exj_NoOrder:excJ K (gA K "NoOrder")=true
 exa_NoOrder_deck:exA K (gA K "NoOrder") "deck" = true
 exa_NoOrder_place:exA K (gA K "NoOrder") "place" = true
 cat_NoOrder_NoField:catN K (gA K "NoOrder") (gA K "NoField")=true
 cat_NoOrder_NoOrder:catK K (gA K "NoOrder") (gA K "NoOrder")=true
 isa_NoOrder_NoAsking:isaK K (gA K "NoOrder") (.ref (gA K "NoAsking"))=some false
 isa_NoOrder_Meet:isaK K (gA K "NoOrder") (.ref (gA K "Meet"))=some false
 isa_NoOrder_NoBoard:isaK K (gA K "NoOrder") (.ref (gA K "NoBoard"))=some false
 isa_NoOrder_NoCard:isaK K (gA K "NoOrder") (.ref (gA K "NoCard"))=some false
 isa_NoOrder_ValueError:isaK K (gA K "NoOrder") (.type "ValueError")=some true
 isa_NoOrder_NoRow:isaK K (gA K "NoOrder") (.ref (gA K "NoRow"))=some false
 isa_NoOrder_NoPlan:isaK K (gA K "NoOrder") (.ref (gA K "NoPlan"))=some false
 isa_NoOrder_NoTray:isaK K (gA K "NoOrder") (.ref (gA K "NoTray"))=some false
 isa_NoOrder_ShopError:isaK K (gA K "NoOrder") (.ref (gA K "ShopError"))=some true
 isa_NoOrder_NoField:isaK K (gA K "NoOrder") (.ref (gA K "NoField"))=some false
 bin_ShopError:binK K (gA K "ShopError")=true
def zX_ (K:Fgg):Sp:=Ct K (csCons (tySc K) (csLast tyInt)) (fun c=>zA_ c.1 c.2) (owF tyInt)
def zcf_ (K:Fgg):Sp:=Ct K (csLast (tySc K)) (fun c=>zaT_ c) (owL Qq0)
def zdo_ (K:Fgg):Sp:=Ct K (csLast tyInt) (fun c=>zbX_ c) (owF tyStr)
def zdb_ (K:Fgg):Sp:=Ct K (csCons tyInt (csCons tyInt (csLast tyInt))) (fun c=>zbO_ c.1 c.2.1 c.2.2) (owF tyStr)
def zcH_ (K:Fgg):Sp:=Ct K (csCons (tySc K) (csLast (tyL Qq0))) (fun c=>zbn_ c.1 c.2) (owLL tyStr)
def zaW_ (K:Fgg):Sp:=Ct K (csCons (tyL tyStr) (csCons (tyL tyStr) (csLast tyInt))) (fun c=>z8_ c.1 c.2.1 c.2.2) (owL tyStr)
def zcp_ (K:Fgg):Sp:=Ct K (csCons (tyL tyStr) (csLast Qq0)) (fun c=>zaO_ c.1 c.2) (owL tyStr)
def zcT_ (K:Fgg):Sp:=Ct K (csLast Qq0) (fun c=>zaJ_ c) (owF Qq0)
def za4_ (K:Fgg):Sp:=Ct K (csCons (tyL tyStr) (csLast Qq0)) (fun c=>zaV_ c.1 c.2) (owF (tyOpt tyInt))
def zec_ (K:Fgg):Sp:=Ct K (csCons tyInt Qq1) (fun c=>zcr_ c.1 c.2.1 c.2.2.1 c.2.2.2.1 c.2.2.2.2) (owL tyInt)
def zd2_ (K:Fgg):Sp:=Ct K (csLast tyStr) (fun c=>zcs_ c) (owF tyBl)
def zek_ (K:Fgg):Sp:=Ct K (csLast tyStr) (fun c=>zct_ c) (owF tyInt)
def zem_ (K:Fgg):Sp:=Ct K (csCons tyStr (csLast tyInt)) (fun c=>zcv_ c.1 c.2) (owF tyStr)
def zb9_ (K:Fgg):Sp:=Ct K (csCons tyStr (csLast (tyL tyInt))) (fun c=>zbk_ c.1 c.2) (owL tyInt)
def zaR_ (K:Fgg):Sp:=Ct K (csCons tyStr (csCons tyStr (csLast (tyL tyInt)))) (fun c=>zV_ c.1 c.2.1 c.2.2) (owF tyBl)
def zfJ_ (K:Fgg):Sp:=Ct K (csCons (tyL tyStr) (csLast (tyL tyInt))) (fun c=>zb4_ c.1 c.2) (owF (tyOpt tyInt))
def zay_ (K:Fgg):Sp:=CtI K (gA K "NoOrder") (csCons tyInt (csLast tyInt)) (fun c=>zy_ c.1 c.2) ["deck", "place"]
def zbb_ (K:Fgg):Sp:=Ct K (csLast Qq0) (fun c=>zai_ c) (owL tyInt)
def zaf_ (K:Fgg):Sp:=Ct K (csCons (tyL tyStr) (csCons Qq0 (csLast tyInt))) (fun c=>zC_ c.1 c.2.1 c.2.2) (owF tyNon)
def zap_ (K:Fgg):Sp:=Ct K (csCons tyStr (csLast Qq0)) (fun c=>zae_ c.1 c.2) (owF tyStr)
def zbW_ (K:Fgg):Sp:=Ct K (csCons (tyL tyStr) (csLast Qq0)) (fun c=>zU_ c.1 c.2) (owF (tyTup (csCons (tyL tyStr) (csLast (tyL tyStr)))))
def zbq_ (K:Fgg):Sp:=Ct K (csLast Qq0) (fun c=>zaH_ c) (owF tyInt)
def zaZ_ (K:Fgg):Sp:=Ct K Qq1 (fun c=>zH_ c.1 c.2.1 c.2.2.1 c.2.2.2) (owF tyNon)
def zcc_ (K:Fgg):Sp:=Ct K (csCons (tyL tyStr) (csLast Qq0)) (fun c=>zbg_ c.1 c.2) (owF (tyD kStr tyBl))
def zbj_ (K:Fgg):Sp:=Ct K (csCons (tyL tyStr) (csCons Qq0 (csLast (tyD kStr tyBl)))) (fun c=>zaj_ c.1 c.2.1 c.2.2) (owL tyStr)
def zal_ (K:Fgg):Sp:=Ct K (csCons (tyL tyStr) (csCons Qq0 (csLast (tyD kStr tyBl)))) (fun c=>zP_ c.1 c.2.1 c.2.2) (owL tyStr)
def zcm_ (K:Fgg):Sp:=Ct K Qq1 (fun c=>z2_ c.1 c.2.1 c.2.2.1 c.2.2.2) (owF (tyTup (csCons (tyL tyStr) (csCons (tyL tyStr) (csCons (tyL tyStr) (csLast (tyL tyStr)))))))
def zck_ (K:Fgg):Sp:=Ct K Qq1 (fun c=>z3_ c.1 c.2.1 c.2.2.1 c.2.2.2) (owL tyStr)
def zcO_ (K:Fgg):Sp:=Ct K (csCons tyInt Qq1) (fun c=>zag_ c.1 c.2.1 c.2.2.1 c.2.2.2.1 c.2.2.2.2) (owF tyTop)
def zbJ_ (K:Fgg):Sp:=Ct K (csLast (tyXc K)) (fun c=>z4_ c) (owF tyBl)
def zbI_ (K:Fgg):Sp:=Ct K (csLast tyInt) (fun c=>zbt_ c) (owF tyBl)
def zb3_ (K:Fgg):Sp:=Ct K (csCons tyInt Qq1) (fun c=>za8_ c.1 c.2.1 c.2.2.1 c.2.2.2.1 c.2.2.2.2) (owOpt (owL tyInt))
def zeM_ (K:Fgg):TS:=(tSeq (mIfS (mTest (tOp (mLtK K) (mVar 1) (tCB (mLen K) (tCons (mVar 0) tNil)))) (tRet (tOp (mIx K) (mVar 0) (mVar 1))) tNext) (tRet (tC (.int 0))))
def zfr_ (K:Fgg):TS:=(tSeq (tAsg (tCall (zX_ K) [] E0 (tCons (mVar 0) (tCons (tC (.int 0)) tNil))) (gName 1)) (tSeq (tAsg (tOp mAdd (tC (.int 1)) (tOp mMod (mVar 1) (tC (.int 4)))) (gName 2)) (tSeq (mIfS (mTest (tOp (mEqK K) (tOp mMod (tOp mDivG (mVar 1) (tC (.int 4))) (tC (.int 4))) (tC (.int 1)))) (tAsg (tOp mAdd (tC (.int 1)) (tOp mMod (tOp mDivG (mVar 1) (tC (.int 16))) (tC (.int 36)))) (gName 2)) tNext) (tSeq (tAsg (tLst tNil) (gName 3)) (tSeq (tFor (mRng2 (tCons (tC (.int 1)) (tCons (tC (.int 3)) tNil))) (gName 4) (tSeq (tAsg (tOp mAdd (tC (.int 1)) (tOp mMod (tCall (zX_ K) [] E0 (tCons (mVar 0) (tCons (mVar 4) tNil))) (tOp mSub (tC (.int 37)) (mVar 2)))) (gName 5)) (tDrop (tBM K "list" rAppend (mVar 3) (tCons (tTup (tCons (mVar 5) (tCons (tOp mSub (tOp mAdd (mVar 5) (mVar 2)) (tC (.int 1))) tNil))) tNil))))) (tRet (mVar 3)))))))
def zgZ_ (K:Fgg):TS:=(tSeq (tAsg (tC (tx SG)) (gName 1)) (tSeq (tAsg (tC (tx [])) (gName 2)) (tSeq (tFor (mRng1 (tCons (tC (.int 40)) tNil)) (gName 3) (tSeq (tAsg (tOp mAdd (mVar 2) (tOp (mIx K) (mVar 1) (tOp mMod (mVar 0) (tC (.int 37))))) (gName 2)) (tAsg (tOp mDivG (mVar 0) (tC (.int 37))) (gName 0)))) (tRet (mVar 2)))))
def zhR_ (K:Fgg):TS:=(tSeq (tAsg (tC (tx SG)) (gName 3)) (tSeq (tAsg (tBM K "str" (mJoin K) (tC (tx [])) (tCons (tComp ["_law_k"] [("_law_signs",3),("_law_cell",0)] (mRng1 (tCons (mVar 1) tNil)) (gName 0) tTrue (tOp (mIx K) (mVar 1) (tOp mMod (tOp mAdd (mVar 2) (tOp mMulX (tOp mMulX (mVar 0) (mVar 0)) (tOp mAdd (tC (.int 1)) (tOp mMod (mVar 2) (tC (.int 5)))))) (tC (.int 37))))) tNil)) (gName 4)) (tSeq (tAsg (tOp mMod (mVar 0) (mVar 1)) (gName 5)) (tRet (tOp mAdd (tOp mAdd (tSl (mSl K) (mVar 4) tNoPart (mPart (mVar 5))) (tOp (mIx K) (mVar 3) (tOp mMod (mVar 2) (tC (.int 37))))) (tSl (mSl K) (mVar 4) (mPart (tOp mAdd (mVar 5) (tC (.int 1)))) tNoPart))))))
def zgw_ (K:Fgg):TS:=(tSeq (tAsg (tCall (zX_ K) [] E0 (tCons (mVar 0) (tCons (tC (.int 3)) tNil))) (gName 2)) (tSeq (tAsg (tOp mAdd (tOp mSub (tOp (mIx K) (tOp (mIx K) (mVar 1) (tC (.int 0))) (tC (.int 1))) (tOp (mIx K) (tOp (mIx K) (mVar 1) (tC (.int 0))) (tC (.int 0)))) (tC (.int 1))) (gName 3)) (tSeq (tAsg (tLst (tCons (tLst tNil) (tCons (tLst tNil) tNil))) (gName 4)) (tSeq (tFor (iAny K (tSl (mSl K) (mVar 0) (mPart (tC (.int 5))) (mPart (tC (.int 67))))) (gName 5) (tSeq (tAsg (tOp mAdd (tOp mMulX (tOp mMod (tOp mDivG (mVar 5) (tC (.int 4))) (tOp mAdd (tC (.int 1)) (tOp mMod (mVar 2) (tC (.int 6))))) (tC (.int 7))) (tOp mDivG (mVar 2) (tC (.int 6)))) (gName 6)) (tSeq (tAsg (tCall (zdo_ K) [] E0 (tCons (tOp mMod (tOp mMulX (mVar 5) (tOp mAdd (tOp mAdd (tOp mAdd (tC (.int 1)) (tOp mMulX (tC (.int 5)) (tOp mPow (tC (.int 37)) (tC (.int 13))))) (tOp mMulX (tC (.int 11)) (tOp mPow (tC (.int 37)) (tC (.int 29))))) (tOp mMulX (tC (.int 3)) (tOp mPow (tC (.int 37)) (tC (.int 36)))))) (tOp mPow (tC (.int 37)) (tC (.int 40)))) tNil)) (gName 7)) (tSeq (tAsg (tOp (mIx K) (mVar 1) (tOp mMod (mVar 5) (tC (.int 2)))) (gName 8)) (tSeq (tAsg (tOp mAdd (tOp mAdd (tSl (mSl K) (mVar 7) tNoPart (mPart (tOp mSub (tOp (mIx K) (mVar 8) (tC (.int 0))) (tC (.int 1))))) (tCall (zdb_ K) [] E0 (tCons (tOp mDivG (mVar 2) (tC (.int 6))) (tCons (mVar 3) (tCons (mVar 6) tNil))))) (tSl (mSl K) (mVar 7) (mPart (tOp (mIx K) (mVar 8) (tC (.int 1)))) tNoPart)) (gName 9)) (tDrop (tBM K "list" rExtend (tOp (mIx K) (mVar 4) (tOp mMod (mVar 5) (tC (.int 2)))) (tCons (tOp mMulX (tLst (tCons (mVar 9) tNil)) (tOp mAdd (tC (.int 1)) (tOp mMod (tOp mDivG (mVar 5) (tC (.int 2))) (tC (.int 2))))) tNil)))))))) (tRet (mVar 4))))))
def zef_ (K:Fgg):TS:=(tSeq (tAsg (tCB (mList K) (tCons (mVar 0) tNil)) (gName 3)) (tSeq (mIfS (mTest (tOp (mEqK K) (tCB (mLen K) (tCons (mVar 3) tNil)) (tC (.int 0)))) (tRet (mVar 3)) tNext) (tSeq (mIfS (mTest (tOp (mEqK K) (tOp mMod (mVar 2) (tC (.int 4))) (tC (.int 1)))) (tSeq (tAsg (tOp mMod (tOp mDivG (mVar 2) (tC (.int 4))) (tCB (mLen K) (tCons (mVar 3) tNil))) (gName 4)) (tSeq (tAsg (tOp mMod (tOp mDivG (tOp mDivG (mVar 2) (tC (.int 4))) (tCB (mLen K) (tCons (mVar 3) tNil))) (tCB (mLen K) (tCons (mVar 3) tNil))) (gName 5)) (tAsg (tTup (tCons (tOp (mIx K) (mVar 3) (mVar 5)) (tCons (tOp (mIx K) (mVar 3) (mVar 4)) tNil))) (gTupM K 2 (gConsM (gSub (mVar 3) (mVar 4) mSet) (gConsM (gSub (mVar 3) (mVar 5) mSet) gNilM)))))) tNext) (tSeq (mIfS (mTest (tOp (mEqK K) (tOp mMod (mVar 2) (tC (.int 4))) (tC (.int 2)))) (tAsg (tOp mAdd (tSl (mSl K) (mVar 3) (mPart (mNeg (tC (.int 1)))) tNoPart) (tSl (mSl K) (mVar 3) tNoPart (mPart (mNeg (tC (.int 1)))))) (gName 3)) tNext) (tSeq (mIfS (mTest (tOp (mEqK K) (tOp mMod (mVar 2) (tC (.int 4))) (tC (.int 3)))) (tAsg (tCB (mList K) (tCons (mVar 1) tNil)) (gName 3)) tNext) (tRet (mVar 3)))))))
def zfG_ (K:Fgg):TS:=(tSeq (tAsg (tComp ["_law_k"] [("_law_deck",0),("_law_field",1)] (mRng1 (tCons (tCB (mLen K) (tCons (mVar 0) tNil)) tNil)) (gName 0) tTrue (tTup (tCons (tSl (mSl K) (tOp (mIx K) (mVar 1) (mVar 0)) (mPart (tOp mSub (tOp (mIx K) (mVar 2) (tC (.int 0))) (tC (.int 1)))) (mPart (tOp (mIx K) (mVar 2) (tC (.int 1))))) (tCons (mVar 0) tNil)))) (gName 2)) (tRet (tComp ["_law_part_here", "_law_k"] [("_law_deck",0)] (iAny K (tCB (mSorted 1000 K) (tCons (mVar 2) tNil))) (gTupM K 2 (gConsM (gName 0) (gConsM (gName 1) gNilM))) tTrue (tOp (mIx K) (mVar 2) (mVar 1)))))
def zgz_ (K:Fgg):TS:=(tSeq (mIfS (mTest (tOp (mLtK K) (tOp (mIx K) (mVar 0) (tC (.int 1))) (tC (.int 36)))) (tRet (tTup (tCons (tOp (mIx K) (mVar 0) (tC (.int 0))) (tCons (tOp mAdd (tOp (mIx K) (mVar 0) (tC (.int 1))) (tC (.int 1))) tNil)))) tNext) (tSeq (mIfS (mTest (tOp mGt (tOp (mIx K) (mVar 0) (tC (.int 0))) (tC (.int 1)))) (tRet (tTup (tCons (tOp mSub (tOp (mIx K) (mVar 0) (tC (.int 0))) (tC (.int 1))) (tCons (tOp (mIx K) (mVar 0) (tC (.int 1))) tNil)))) tNext) (tRet (tTup (tCons (tC (.int 1)) (tCons (tC (.int 35)) tNil))))))
def zje_ (K:Fgg):TS:=(tSeq (tFor (mRng2 (tCons (tC (.int 1)) (tCons (tCB (mLen K) (tCons (mVar 0) tNil)) tNil))) (gName 2) (mIfS (mTest (tOp (mLtK K) (tSl (mSl K) (tOp (mIx K) (mVar 0) (mVar 2)) (mPart (tOp mSub (tOp (mIx K) (mVar 1) (tC (.int 0))) (tC (.int 1)))) (mPart (tOp (mIx K) (mVar 1) (tC (.int 1))))) (tSl (mSl K) (tOp (mIx K) (mVar 0) (tOp mSub (mVar 2) (tC (.int 1)))) (mPart (tOp mSub (tOp (mIx K) (mVar 1) (tC (.int 0))) (tC (.int 1)))) (mPart (tOp (mIx K) (mVar 1) (tC (.int 1))))))) (tRet (mVar 2)) tNext)) (tRet (tC .non)))
def zi2_ (K:Fgg):TS:=(tSeq (mIfS (mAnd (mTest (tOp (mLtK K) (mVar 0) (tC (.int 2)))) (mTest (tOp (mNeK K) (tOp mSub (tOp (mIx K) (mVar 2) (tC (.int 1))) (tOp (mIx K) (mVar 2) (tC (.int 0)))) (tOp mSub (tOp (mIx K) (mVar 4) (tC (.int 1))) (tOp (mIx K) (mVar 4) (tC (.int 0))))))) (tRet (tLst (tCons (tC (.int 0)) (tCons (tC (.int 0)) tNil)))) tNext) (tSeq (mIfS (mAnd (mTest (tOp (mLtK K) (mVar 0) (tC (.int 2)))) (mTest (tOp mIsNot (tCall (za4_ K) [] E0 (tCons (mVar 3) (tCons (mVar 4) tNil))) (tC .non)))) (tRet (tLst (tCons (tC (.int 2)) (tCons (tCall (za4_ K) [] E0 (tCons (mVar 3) (tCons (mVar 4) tNil))) tNil)))) tNext) (tSeq (mIfS (mTest (tOp mIsNot (tCall (za4_ K) [] E0 (tCons (mVar 1) (tCons (mVar 2) tNil))) (tC .non))) (tRet (tLst (tCons (tC (.int 1)) (tCons (tCall (za4_ K) [] E0 (tCons (mVar 1) (tCons (mVar 2) tNil))) tNil)))) tNext) (tRet (tLst tNil)))))
def ziD_ (K:Fgg):TS:=(tRet (mAndV (tOp (mEqK K) (tCB (mLen K) (tCons (mVar 0) tNil)) (tC (.int 1))) (tOp (mIn K false) (mVar 0) (tC (tx SG)))))
def zji_ (K:Fgg):TS:=(tSeq (mIfS (tNot (mTest (tCall (zd2_ K) [] E0 (tCons (mVar 0) tNil)))) tNever tNext) (tRet (tBM K "str" mIndex (tC (tx SG)) (tCons (mVar 0) tNil))))
def zjw_ (K:Fgg):TS:=(tRet (tOp (mIx K) (mVar 0) (tOp mSub (mVar 1) (tC (.int 1)))))
def zih_ (K:Fgg):TS:=(tRet (tComp ["column"] [("card",0)] (iAny K (mVar 1)) (gName 0) tTrue (tCall (zek_ K) [] E0 (tCons (tCall (zem_ K) [] E0 (tCons (mVar 1) (tCons (mVar 0) tNil))) tNil))))
def zeF_ (K:Fgg):TS:=(tRet (tOp (mLtK K) (tCall (zb9_ K) [] E0 (tCons (mVar 0) (tCons (mVar 2) tNil))) (tCall (zb9_ K) [] E0 (tCons (mVar 1) (tCons (mVar 2) tNil)))))
def zlf_ (K:Fgg):TS:=(tSeq (tFor (mRng2 (tCons (tC (.int 1)) (tCons (tCB (mLen K) (tCons (mVar 0) tNil)) tNil))) (gName 2) (mIfS (mTest (tCall (zaR_ K) [] E0 (tCons (tOp (mIx K) (mVar 0) (mVar 2)) (tCons (tOp (mIx K) (mVar 0) (tOp mSub (mVar 2) (tC (.int 1)))) (tCons (mVar 1) tNil))))) (tRet (mVar 2)) tNext)) (tRet (tC .non)))
def zgD_ (K:Fgg):TS:=(tSeq (mBInit (gA K "NoOrder") (tCons (mVar 0) (tCons (tJoin (tJ1 (tC (tx [100,101,99,107,32])) (tJ1 (tUn mFmt (mVar 1)) (tJ1 (tC (tx [32,105,115,32,111,117,116,32,111,102,32,111,114,100,101,114,32,97,116,32,112,108,97,99,101,32])) (tJ1 (tUn mFmt (mVar 2)) tJ0))))) tNil))) (tSeq (mXSet (gA K "NoOrder") (mVar 0) (mVar 1) "deck") (mXSet (gA K "NoOrder") (mVar 0) (mVar 2) "place")))
def ze4_ (K:Fgg):TS:=(tRet (tCB (mList K) (tCons (tCB (mRange) (tCons (tOp (mIx K) (mVar 0) (tC (.int 0))) (tCons (tOp mAdd (tOp (mIx K) (mVar 0) (tC (.int 1))) (tC (.int 1))) tNil))) tNil)))
def zex_ (K:Fgg) (E:XK):TS:=(tSeq (tAsg (tCall (zfJ_ K) [] E0 (tCons (mVar 0) (tCons (tCall (zbb_ K) [] E0 (tCons (mVar 1) tNil)) tNil))) (gName 3)) (mIfS (mTest (tOp mIsNot (mVar 3) (tC .non))) (tRaiseI (gA K "NoOrder") (zay_ K) E (tCons (mVar 2) (tCons (mVar 3) tNil))) tNext))
def ziY_ (K:Fgg):TS:=(tRet (tSl (mSl K) (mVar 0) (mPart (tOp mSub (tOp (mIx K) (mVar 1) (tC (.int 0))) (tC (.int 1)))) (mPart (tOp (mIx K) (mVar 1) (tC (.int 1))))))
def zez_ (K:Fgg) (E:XK):TS:=(tSeq (tDrop (tCall (zaf_ K) [] E (tCons (mVar 0) (tCons (mVar 1) (tCons (tC (.int 1)) tNil))))) (tSeq (tAsg (tLst tNil) (gName 2)) (tSeq (tAsg (tLst tNil) (gName 3)) (tSeq (tAsg tDNewK (gName 4)) (tSeq (tFor (iAny K (mVar 0)) (gName 5) (tSeq (tAsg (tCall (zap_ K) [] E0 (tCons (mVar 5) (tCons (mVar 1) tNil))) (gName 6)) (tSeq (mIfS (mTest (mDIn false (mVar 6) (mVar 4))) (tDrop (tBM K "list" rAppend (mVar 3) (tCons (mVar 5) tNil))) (tDrop (tBM K "list" rAppend (mVar 2) (tCons (mVar 5) tNil)))) (mDPut (mVar 4) (mVar 6) (tC (.bl true)))))) (tRet (tTup (tCons (mVar 2) (tCons (mVar 3) tNil)))))))))
def zhv_ (K:Fgg):TS:=(tRet (tOp mAdd (tOp mSub (tOp (mIx K) (mVar 0) (tC (.int 1))) (tOp (mIx K) (mVar 0) (tC (.int 0)))) (tC (.int 1))))
def zd1_ (K:Fgg) (E:XK):TS:=(tSeq (mIfS (mTest (tOp (mNeK K) (tCall (zbq_ K) [] E0 (tCons (mVar 1) tNil)) (tCall (zbq_ K) [] E0 (tCons (mVar 3) tNil)))) (tRaise (gA K "NoField") E (tCons (tC (tx [116,119,111,32,100,101,99,107,115,32,97,114,101,32,112,117,116,32,116,111,103,101,116,104,101,114,32,98,121,32,102,105,101,108,100,115,32,111,102,32,111,110,101,32,119,105,100,116,104])) tNil)) tNext) (tSeq (tDrop (tCall (zaf_ K) [] E (tCons (mVar 2) (tCons (mVar 3) (tCons (tC (.int 2)) tNil))))) (tDrop (tCall (zaf_ K) [] E (tCons (mVar 0) (tCons (mVar 1) (tCons (tC (.int 1)) tNil)))))))
def zhn_ (K:Fgg):TS:=(tSeq (tAsg tDNewK (gName 2)) (tSeq (tFor (iAny K (mVar 0)) (gName 3) (mDPut (mVar 2) (tCall (zap_ K) [] E0 (tCons (mVar 3) (tCons (mVar 1) tNil))) (tC (.bl true)))) (tRet (mVar 2))))
def zft_ (K:Fgg):TS:=(tRet (tComp ["card"] [("parts",2),("field",1)] (iAny K (mVar 0)) (gName 0) (mTest (mDIn false (tCall (zap_ K) [] E0 (tCons (mVar 0) (tCons (mVar 2) tNil))) (mVar 1))) (mVar 0)))
def zda_ (K:Fgg):TS:=(tRet (tComp ["card"] [("parts",2),("field",1)] (iAny K (mVar 0)) (gName 0) (mTest (mDIn true (tCall (zap_ K) [] E0 (tCons (mVar 0) (tCons (mVar 2) tNil))) (mVar 1))) (mVar 0)))
def zfb_ (K:Fgg) (E:XK):TS:=(tSeq (tDrop (tCall (zaZ_ K) [] E (tCons (mVar 0) (tCons (mVar 1) (tCons (mVar 2) (tCons (mVar 3) tNil)))))) (tSeq (tAsg (tCall (zcc_ K) [] E0 (tCons (mVar 0) (tCons (mVar 1) tNil))) (gName 4)) (tSeq (tAsg (tCall (zcc_ K) [] E0 (tCons (mVar 2) (tCons (mVar 3) tNil))) (gName 5)) (tRet (tTup (tCons (tCall (zbj_ K) [] E0 (tCons (mVar 0) (tCons (mVar 1) (tCons (mVar 5) tNil)))) (tCons (tCall (zal_ K) [] E0 (tCons (mVar 0) (tCons (mVar 1) (tCons (mVar 5) tNil)))) (tCons (tCall (zbj_ K) [] E0 (tCons (mVar 2) (tCons (mVar 3) (tCons (mVar 4) tNil)))) (tCons (tCall (zal_ K) [] E0 (tCons (mVar 2) (tCons (mVar 3) (tCons (mVar 4) tNil)))) tNil)))))))))
def ze1_ (K:Fgg) (E:XK):TS:=(tSeq (tDrop (tCall (zaZ_ K) [] E (tCons (mVar 0) (tCons (mVar 1) (tCons (mVar 2) (tCons (mVar 3) tNil)))))) (tSeq (tAsg (tCall (zbb_ K) [] E0 (tCons (tTup (tCons (tC (.int 1)) (tCons (tCall (zbq_ K) [] E0 (tCons (mVar 1) tNil)) tNil))) tNil)) (gName 4)) (tSeq (tAsg (tLst tNil) (gName 5)) (tSeq (tAsg (tC (.int 0)) (gName 6)) (tSeq (tFor (iAny K (mVar 0)) (gName 7) (tSeq (tAsg (tCall (zap_ K) [] E0 (tCons (mVar 7) (tCons (mVar 1) tNil))) (gName 8)) (tSeq (tWhile (mAnd (mTest (tOp (mLtK K) (mVar 6) (tCB (mLen K) (tCons (mVar 2) tNil)))) (mTest (tCall (zaR_ K) [] E0 (tCons (tCall (zap_ K) [] E0 (tCons (tOp (mIx K) (mVar 2) (mVar 6)) (tCons (mVar 3) tNil))) (tCons (mVar 8) (tCons (mVar 4) tNil)))))) (tSeq (tDrop (tBM K "list" rAppend (mVar 5) (tCons (tOp (mIx K) (mVar 2) (mVar 6)) tNil))) (tAsg (tOp mAdd (mVar 6) (tC (.int 1))) (gName 6)))) (tDrop (tBM K "list" rAppend (mVar 5) (tCons (mVar 7) tNil)))))) (tRet (tOp mAdd (mVar 5) (tSl (mSl K) (mVar 2) (mPart (mVar 6)) tNoPart))))))))
def zgM_ (K:Fgg) (E:XK):TS:=(tSeq (mIfS (mTest (tOp (mEqK K) (mVar 0) (tC (.int 0)))) (tRet (tCall (zcm_ K) [] E (tCons (mVar 1) (tCons (mVar 2) (tCons (mVar 3) (tCons (mVar 4) tNil)))))) tNext) (tSeq (mIfS (mTest (tOp (mEqK K) (mVar 0) (tC (.int 1)))) (tRet (tCall (zck_ K) [] E (tCons (mVar 1) (tCons (mVar 2) (tCons (mVar 3) (tCons (mVar 4) tNil)))))) tNext) (tRet (tCall (zbW_ K) [] E (tCons (mVar 1) (tCons (mVar 2) tNil))))))
def zgN_ (K:Fgg):TS:=(tSeq (tAsg (tLst (tCons (tCB (mIsaX K) (tCons (mVar 0) (tCons (tC (.ref (gA K "NoCard"))) tNil))) (tCons (tCB (mIsaX K) (tCons (mVar 0) (tCons (tC (.ref (gA K "NoBoard"))) tNil))) (tCons (tCB (mIsaX K) (tCons (mVar 0) (tCons (tC (.ref (gA K "Meet"))) tNil))) (tCons (tCB (mIsaX K) (tCons (mVar 0) (tCons (tC (.ref (gA K "NoAsking"))) tNil))) tNil))))) (gName 1)) (tSeq (tAsg (tOp mAdd (mVar 1) (tLst (tCons (tCB (mIsaX K) (tCons (mVar 0) (tCons (tC (.ref (gA K "NoTray"))) tNil))) (tCons (tCB (mIsaX K) (tCons (mVar 0) (tCons (tC (.ref (gA K "NoPlan"))) tNil))) (tCons (tCB (mIsaX K) (tCons (mVar 0) (tCons (tC (.ref (gA K "NoRow"))) tNil))) (tCons (mNotV (tCB (mIsaX K) (tCons (mVar 0) (tCons (tC (.ty "ValueError")) tNil)))) tNil)))))) (gName 1)) (tRet (tOp (mIn K true) (tC (.bl true)) (mVar 1)))))
def zgp_ (K:Fgg):TS:=(tRet (mAndV (tCB (mIsa K) (tCons (mVar 0) (tCons (tC (.ty "int")) tNil))) (mNotV (tCB (mIsa K) (tCons (mVar 0) (tCons (tC (.ty "bool")) tNil))))))
def zhr_ (K:Fgg):TS:=(tSeq (tAsg (tLst tNil) (gName 5)) (tSeq (tAsg (tC (.bl true)) (gName 6)) (tSeq (tTryH (tDropX (zcO_ K) (tCons (mVar 0) (tCons (mVar 1) (tCons (mVar 2) (tCons (mVar 3) (tCons (mVar 4) tNil)))))) (tHAs K (gA K "NoOrder") 7 (tSeq (tAsg (tLst (tCons (mXFld K (mVar 7) "deck") (tCons (mXFld K (mVar 7) "place") tNil))) (gName 5)) (tAsg (mAndV (tCall (zbJ_ K) [] E0 (tCons (mVar 7) tNil)) (mAndV (mNotV (tCB (mIsaX K) (tCons (mVar 7) (tCons (tC (.ref (gA K "NoField"))) tNil)))) (tCB (mIsaX K) (tCons (mVar 7) (tCons (tC (.ref (gA K "ShopError"))) tNil))))) (gName 6))) (tHAs K (gA K "NoField") 7 (tSeq (tAsg (tLst (tCons (tC (.int 0)) (tCons (tC (.int 0)) tNil))) (gName 5)) (tAsg (mAndV (tCall (zbJ_ K) [] E0 (tCons (mVar 7) tNil)) (tCB (mIsaX K) (tCons (mVar 7) (tCons (tC (.ref (gA K "ShopError"))) tNil)))) (gName 6))) tH0))) (tSeq (mIfS (mOr (tNot (mTrL K (mVar 6))) (mAnd (mTest (tOp (mNeK K) (mVar 5) (tLst tNil))) (tNot (mAnd (mTest (tCall (zbI_ K) [] E0 (tCons (tOp (mIx K) (mVar 5) (tC (.int 0))) tNil))) (mTest (tCall (zbI_ K) [] E0 (tCons (tOp (mIx K) (mVar 5) (tC (.int 1))) tNil))))))) (tRet (tC .non)) tNext) (tRet (mVar 5))))))
def t_law (K:Fgg):TS:=(tSeq (tAsg (tCall (zcf_ K) [] E0 (tCons (mVar 0) tNil)) (gName 1)) (tSeq (tAsg (tCall (zcH_ K) [] E0 (tCons (mVar 0) (tCons (mVar 1) tNil))) (gName 2)) (tSeq (tAsg (tCall (zX_ K) [] E0 (tCons (mVar 0) (tCons (tC (.int 4)) tNil))) (gName 3)) (tSeq (tAsg (tComp ["_law_k"] [("_law_drawn_here",2),("_law_fields_here",1)] (mRng1 (tCons (tC (.int 2)) tNil)) (gName 0) tTrue (tCall (zcp_ K) [] E0 (tCons (tOp (mIx K) (mVar 1) (mVar 0)) (tCons (tOp (mIx K) (mVar 2) (mVar 0)) tNil)))) (gName 4)) (tSeq (tAsg (tCall (zaW_ K) [] E0 (tCons (tOp (mIx K) (mVar 4) (tC (.int 0))) (tCons (tOp (mIx K) (mVar 2) (tC (.int 0))) (tCons (mVar 3) tNil)))) (gName 5)) (tSeq (tAsg (tCall (zaW_ K) [] E0 (tCons (tOp (mIx K) (mVar 4) (tC (.int 1))) (tCons (tOp (mIx K) (mVar 2) (tC (.int 1))) (tCons (tOp mMod (tOp mMulX (tOp mMod (mVar 3) (tC (.int 2147483647))) (tC (.int 48271))) (tC (.int 2147483629))) tNil)))) (gName 6)) (tSeq (tAsg (tLst (tCons (tCB (mList K) (tCons (mVar 5) tNil)) (tCons (tCB (mList K) (tCons (mVar 6) tNil)) tNil))) (gName 7)) (tSeq (tAsg (tOp (mIx K) (mVar 1) (tC (.int 1))) (gName 8)) (tSeq (mIfS (mTest (tOp (mEqK K) (tOp mMod (tOp mMod (tOp mMulX (tOp mMod (mVar 3) (tC (.int 2147483647))) (tC (.int 69621))) (tC (.int 2147483587))) (tC (.int 6))) (tC (.int 1)))) (tAsg (tCall (zcT_ K) [] E0 (tCons (tOp (mIx K) (mVar 1) (tC (.int 1))) tNil)) (gName 8)) tNext) (tSeq (tFor (mRng1 (tCons (tC (.int 3)) tNil)) (gName 9) (tSeq (tAsg (tCall (zec_ K) [] E0 (tCons (mVar 9) (tCons (mVar 5) (tCons (tOp (mIx K) (mVar 1) (tC (.int 0))) (tCons (mVar 6) (tCons (mVar 8) tNil)))))) (gName 10)) (tSeq (tAsg (tCall (zb3_ K) [] E0 (tCons (mVar 9) (tCons (tOp (mIx K) (mVar 7) (tC (.int 0))) (tCons (tOp (mIx K) (mVar 1) (tC (.int 0))) (tCons (tOp (mIx K) (mVar 7) (tC (.int 1))) (tCons (mVar 8) tNil)))))) (gName 11)) (mIfS (mOr (mTest (tOp (mNeK K) (mVar 11) (mVar 10))) (mTest (tOp (mNeK K) (mVar 7) (tLst (tCons (mVar 5) (tCons (mVar 6) tNil)))))) (tRet (tC (.bl false))) tNext)))) (tSeq (tFor (mRng1 (tCons (tC (.int 2)) tNil)) (gName 12) (tSeq (tDrop (tBM0 K "list" rClear (tOp (mIx K) (mVar 7) (mVar 12)))) (tDrop (tBM K "list" rExtend (tOp (mIx K) (mVar 7) (mVar 12)) (tCons (tOp (mIx K) (mVar 4) (mVar 12)) tNil))))) (tSeq (tFor (mRng1 (tCons (tC (.int 3)) tNil)) (gName 9) (mIfS (mTest (tOp (mNeK K) (tCall (zb3_ K) [] E0 (tCons (mVar 9) (tCons (tOp (mIx K) (mVar 7) (tC (.int 0))) (tCons (tOp (mIx K) (mVar 1) (tC (.int 0))) (tCons (tOp (mIx K) (mVar 7) (tC (.int 1))) (tCons (tOp (mIx K) (mVar 1) (tC (.int 1))) tNil)))))) (tLst tNil))) (tRet (tC (.bl false))) tNext)) (tRet (tC (.bl true)))))))))))))))
abbrev zav_ (P:Program) (w:World) (K:Fgg) (mg:Str→Option Value) (base:Heap):Prop:=Gd P w K mg base CX0 1 "_law_cell_at" ["_law_script", "_law_k"] (zX_ K)
abbrev zc4_ (P:Program) (w:World) (K:Fgg) (mg:Str→Option Value) (base:Heap):Prop:=Gd P w K mg base CX0 2 "_law_fields" ["_law_script"] (zcf_ K)
abbrev zew_ (P:Program) (w:World) (K:Fgg) (mg:Str→Option Value) (base:Heap):Prop:=Gd P w K mg base CX0 1 "_law_text" ["_law_number"] (zdo_ K)
abbrev zeQ_ (P:Program) (w:World) (K:Fgg) (mg:Str→Option Value) (base:Heap):Prop:=Gd P w K mg base CX0 1 "_law_part" ["_law_cell", "_law_wide", "_law_number"] (zdb_ K)
abbrev zdn_ (P:Program) (w:World) (K:Fgg) (mg:Str→Option Value) (base:Heap):Prop:=Gd P w K mg base CX0 2 "_law_drawn" ["_law_script", "_law_fields_here"] (zcH_ K)
abbrev zco_ (P:Program) (w:World) (K:Fgg) (mg:Str→Option Value) (base:Heap):Prop:=Gd P w K mg base CX0 1 "_law_spoiled" ["_law_deck", "_law_drawn_here", "_law_cell"] (zaW_ K)
abbrev zcL_ (P:Program) (w:World) (K:Fgg) (mg:Str→Option Value) (base:Heap):Prop:=Gd P w K mg base CX0 1 "_law_sorted" ["_law_deck", "_law_field"] (zcp_ K)
abbrev zdd_ (P:Program) (w:World) (K:Fgg) (mg:Str→Option Value) (base:Heap):Prop:=Gd P w K mg base CX0 1 "_law_wider" ["_law_field"] (zcT_ K)
abbrev zfV_ (P:Program) (w:World) (K:Fgg) (mg:Str→Option Value) (base:Heap):Prop:=Gd P w K mg base CX0 1 "_law_out" ["_law_deck", "_law_field"] (za4_ K)
abbrev zfL_ (P:Program) (w:World) (K:Fgg) (mg:Str→Option Value) (base:Heap):Prop:=Gd P w K mg base CX0 2 "_law_due" Qn0 (zec_ K)
abbrev zgb_ (P:Program) (w:World) (K:Fgg) (mg:Str→Option Value) (base:Heap):Prop:=Gd P w K mg base CX0 1 "is_sign" ["text"] (zd2_ K)
abbrev zf9_ (P:Program) (w:World) (K:Fgg) (mg:Str→Option Value) (base:Heap):Prop:=Gd P w K mg base CX0 2 "rank_of" ["sign"] (zek_ K)
abbrev zfT_ (P:Program) (w:World) (K:Fgg) (mg:Str→Option Value) (base:Heap):Prop:=Gd P w K mg base CX0 1 "sign_at" ["card", "column"] (zem_ K)
abbrev zev_ (P:Program) (w:World) (K:Fgg) (mg:Str→Option Value) (base:Heap):Prop:=Gd P w K mg base CX0 3 "ranks_at" ["card", "columns"] (zb9_ K)
abbrev za7_ (P:Program) (w:World) (K:Fgg) (mg:Str→Option Value) (base:Heap):Prop:=Gd P w K mg base CX0 4 "comes_ahead" ["card", "other", "columns"] (zaR_ K)
abbrev zhX_ (P:Program) (w:World) (K:Fgg) (mg:Str→Option Value) (base:Heap):Prop:=Gd P w K mg base CX0 5 "out_at" ["deck", "columns"] (zfJ_ K)
abbrev zaE_ (P:Program) (w:World) (K:Fgg) (mg:Str→Option Value) (base:Heap):Prop:=GxI P w K mg base 1 "NoOrder" (gA K "NoOrder") ["self", "deck", "place"] (zay_ K)
abbrev zbF_ (P:Program) (w:World) (K:Fgg) (mg:Str→Option Value) (base:Heap):Prop:=Gd P w K mg base CX0 1 "columns_of" ["field"] (zbb_ K)
abbrev zbh_ (P:Program) (w:World) (K:Fgg) (mg:Str→Option Value) (base:Heap):Prop:=Gd P w K mg base (CXx P w) 6 "check_order" ["deck", "field", "number"] (zaf_ K)
abbrev zbs_ (P:Program) (w:World) (K:Fgg) (mg:Str→Option Value) (base:Heap):Prop:=Gd P w K mg base CX0 1 "part_of" ["card", "field"] (zap_ K)
abbrev zch_ (P:Program) (w:World) (K:Fgg) (mg:Str→Option Value) (base:Heap):Prop:=Gd P w K mg base (CXx P w) 7 "first_cards" ["deck", "field"] (zbW_ K)
abbrev zcN_ (P:Program) (w:World) (K:Fgg) (mg:Str→Option Value) (base:Heap):Prop:=Gd P w K mg base CX0 1 "width_of" ["field"] (zbq_ K)
abbrev zbd_ (P:Program) (w:World) (K:Fgg) (mg:Str→Option Value) (base:Heap):Prop:=Gd P w K mg base (CXx P w) 7 "check_decks" ["one", "field", "other", "other_field"] (zaZ_ K)
abbrev zey_ (P:Program) (w:World) (K:Fgg) (mg:Str→Option Value) (base:Heap):Prop:=Gd P w K mg base CX0 2 "parts_in" ["deck", "field"] (zcc_ K)
abbrev zcQ_ (P:Program) (w:World) (K:Fgg) (mg:Str→Option Value) (base:Heap):Prop:=Gd P w K mg base CX0 2 "with_parts" ["deck", "field", "parts"] (zbj_ K)
abbrev zbz_ (P:Program) (w:World) (K:Fgg) (mg:Str→Option Value) (base:Heap):Prop:=Gd P w K mg base CX0 2 "without_parts" ["deck", "field", "parts"] (zal_ K)
abbrev zc7_ (P:Program) (w:World) (K:Fgg) (mg:Str→Option Value) (base:Heap):Prop:=Gd P w K mg base (CXx P w) 8 "mate_decks" ["one", "field", "other", "other_field"] (zcm_ K)
abbrev zcP_ (P:Program) (w:World) (K:Fgg) (mg:Str→Option Value) (base:Heap):Prop:=Gd P w K mg base (CXx P w) 8 "pour_decks" ["one", "field", "other", "other_field"] (zck_ K)
abbrev zdf_ (P:Program) (w:World) (K:Fgg) (mg:Str→Option Value) (base:Heap):Prop:=Gd P w K mg base (CXx P w) 9 "_law_asked" Qn0 (zcO_ K)
abbrev zdq_ (P:Program) (w:World) (K:Fgg) (mg:Str→Option Value) (base:Heap):Prop:=GdN P w K mg base 1 "_law_kinds" ["_law_e"] (zbJ_ K)
abbrev zdr_ (P:Program) (w:World) (K:Fgg) (mg:Str→Option Value) (base:Heap):Prop:=Gd P w K mg base CX0 1 "_law_whole" ["_law_found"] (zbI_ K)
abbrev zeX_ (P:Program) (w:World) (K:Fgg) (mg:Str→Option Value) (base:Heap):Prop:=Gd P w K mg base CX0 10 "_law_told" Qn0 (zb3_ K)
end K22
namespace K22
open PySem PySem.Spec PyProof.Rows L2
open Mo renaming bind→Mb,ok→Mq
open Sl renaming fz→Zf,dead→Zd,ow→Zo
structure Ek (K:Fgg):Prop where
 f0:Fg K "_law_cell_at" zed_
 f1:Fg K "_law_fields" ze3_
 f2:Fg K "_law_text" zid_
 f3:Fg K "_law_part" zhT_
 f4:Fg K "_law_drawn" zgI_
 f5:Fg K "_law_spoiled" zer_
 f6:Fg K "_law_sorted" ze6_
 f7:Fg K "_law_wider" zgx_
 f8:Fg K "_law_out" ziN_
 f9:Fg K "_law_due" zjk_
 f10:Fg K "is_sign" ziw_
 f11:Fg K "rank_of" zi6_
 f12:Fg K "sign_at" ziz_
 f13:Fg K "ranks_at" zgV_
 f14:Fg K "comes_ahead" zea_
 f15:Fg K "out_at" zld_
 f16:Fm K "NoOrder" "__init__" "NoOrder.__init__" zb5_
 f17:Fg K "columns_of" zfo_
 f18:Fg K "check_order" zen_
 f19:Fg K "part_of" ziI_
 f20:Fg K "first_cards" zeq_
 f21:Fg K "width_of" zho_
 f22:Fg K "check_decks" zeP_
 f23:Fg K "parts_in" zim_
 f24:Fg K "with_parts" zfj_
 f25:Fg K "without_parts" zc9_
 f26:Fg K "mate_decks" zfv_
 f27:Fg K "pour_decks" zfh_
 f28:Fg K "_law_asked" zgm_
 f29:Fg K "_law_kinds" zgk_
 f30:Fg K "_law_whole" zgA_
 f31:Fg K "_law_told" zht_
 f32:Fg K "law" zoL_
 c0:Fv K "SIGNS" (tx SG)
 b0:Fb K "len"
 b1:Fb K "range"
 b2:Fb K "list"
 b3:Fb K "sorted"
 b4:Fb K "isinstance"
 b5:Fb K "ValueError"
 b6:Fb K "int"
 b7:Fb K "bool"
 k0:Fk K "ShopError"
 k1:Fk K "NoOrder"
 k2:Fk K "NoField"
 k3:Fk K "NoAsking"
 k4:Fk K "Meet"
 k5:Fk K "NoBoard"
 k6:Fk K "NoCard"
 k7:Fk K "NoRow"
 k8:Fk K "NoPlan"
 k9:Fk K "NoTray"
 u0:Fe1 K "NoField" fun v_NoField=>excK K v_NoField=true
 u1:Fe1 K "NoField" fun v_NoField=>catK K v_NoField v_NoField=true
 u2:Fe2 K "NoField" "NoOrder" fun v_NoField v_NoOrder=>catN K v_NoField v_NoOrder=true
 u3:Fe2 K "NoField" "NoAsking" fun v_NoField v_NoAsking=>isaK K v_NoField (.ref v_NoAsking)=some false
 u4:Fe2 K "NoField" "Meet" fun v_NoField v_Meet=>isaK K v_NoField (.ref v_Meet)=some false
 u5:Fe2 K "NoField" "NoBoard" fun v_NoField v_NoBoard=>isaK K v_NoField (.ref v_NoBoard)=some false
 u6:Fe2 K "NoField" "NoCard" fun v_NoField v_NoCard=>isaK K v_NoField (.ref v_NoCard)=some false
 u7:Fe1 K "NoField" fun v_NoField=>isaK K v_NoField (.type "ValueError")=some true
 u8:Fe2 K "NoField" "NoRow" fun v_NoField v_NoRow=>isaK K v_NoField (.ref v_NoRow)=some false
 u9:Fe2 K "NoField" "NoPlan" fun v_NoField v_NoPlan=>isaK K v_NoField (.ref v_NoPlan)=some false
 u10:Fe2 K "NoField" "NoTray" fun v_NoField v_NoTray=>isaK K v_NoField (.ref v_NoTray)=some false
 u11:Fe2 K "NoField" "ShopError" fun v_NoField v_ShopError=>isaK K v_NoField (.ref v_ShopError)=some true
 u12:Fe1 K "NoField" fun v_NoField=>isaK K v_NoField (.ref v_NoField)=some true
 u13:Fe1 K "NoOrder" fun v_NoOrder=>excJ K v_NoOrder=true
 u14:Fe1 K "NoOrder" fun v_NoOrder=>exA K v_NoOrder "deck" = true
 u15:Fe1 K "NoOrder" fun v_NoOrder=>exA K v_NoOrder "place" = true
 u16:Fe2 K "NoOrder" "NoField" fun v_NoOrder v_NoField=>catN K v_NoOrder v_NoField=true
 u17:Fe1 K "NoOrder" fun v_NoOrder=>catK K v_NoOrder v_NoOrder=true
 u18:Fe2 K "NoOrder" "NoAsking" fun v_NoOrder v_NoAsking=>isaK K v_NoOrder (.ref v_NoAsking)=some false
 u19:Fe2 K "NoOrder" "Meet" fun v_NoOrder v_Meet=>isaK K v_NoOrder (.ref v_Meet)=some false
 u20:Fe2 K "NoOrder" "NoBoard" fun v_NoOrder v_NoBoard=>isaK K v_NoOrder (.ref v_NoBoard)=some false
 u21:Fe2 K "NoOrder" "NoCard" fun v_NoOrder v_NoCard=>isaK K v_NoOrder (.ref v_NoCard)=some false
 u22:Fe1 K "NoOrder" fun v_NoOrder=>isaK K v_NoOrder (.type "ValueError")=some true
 u23:Fe2 K "NoOrder" "NoRow" fun v_NoOrder v_NoRow=>isaK K v_NoOrder (.ref v_NoRow)=some false
 u24:Fe2 K "NoOrder" "NoPlan" fun v_NoOrder v_NoPlan=>isaK K v_NoOrder (.ref v_NoPlan)=some false
 u25:Fe2 K "NoOrder" "NoTray" fun v_NoOrder v_NoTray=>isaK K v_NoOrder (.ref v_NoTray)=some false
 u26:Fe2 K "NoOrder" "ShopError" fun v_NoOrder v_ShopError=>isaK K v_NoOrder (.ref v_ShopError)=some true
 u27:Fe2 K "NoOrder" "NoField" fun v_NoOrder v_NoField=>isaK K v_NoOrder (.ref v_NoField)=some false
 u28:Fe1 K "ShopError" fun v_ShopError=>binK K v_ShopError=true
structure En (K:Fgg) (mg:Str→Option Value):Prop extends Ek K where
 m:Mgo K mg
section
variable {K:Fgg}{mg:Str→Option Value}
theorem En.fx (e:En K mg):Fx K:=⟨e.u0.g,e.u1.g,e.u2.g,e.u3.g,e.u4.g,e.u5.g,e.u6.g,e.u7.g,e.u8.g,e.u9.g,e.u10.g,e.u11.g,e.u12.g,e.u13.g,e.u14.g,e.u15.g,e.u16.g,e.u17.g,e.u18.g,e.u19.g,e.u20.g,e.u21.g,e.u22.g,e.u23.g,e.u24.g,e.u25.g,e.u26.g,e.u27.g,e.u28.g⟩
end
section
variable {P:Program}{w:World}{K:Fgg}{mg:Str→Option Value}{base:Heap}
theorem zdE_ (e:En K mg):zav_ P w K mg base :=
 zbL_ e.m e.f0 (okC (N:=["_law_script", "_law_k"]) (C:=(csCons (tySc K) (csLast tyInt))) (O:=(owF tyInt)) (t:=fun E=>zeM_ K) (g:=fun c=>za9_ c.1 c.2) 2 0 (zl_ zp_) (fun _ _ _ _ _ _ E nd hr=>(zd_ (zam_ (zG_ (zff_ hr.u60) (za_ 1) (zcx_ z7_ (e.m.gb e.b0) (zb_ (za_ 0) zh_))) (zj_ (zx_ (zO_ ix_M (za_ 0) (za_ 1) (fun _ _=>rfl)))) zN_) (zj_ (zx_ zg_)))) fun c E=>at_ [(Zf (tySc K) c.1),(Zf tyInt c.2)]
 (zbE_ (LS:=(fun _:Unit=>[(Zf (tySc K) c.1),(Zf tyInt c.2)])) (s_if (zR_ (zo_ zeA_ (zc_ 1 rfl) (zhN_ zlx_ (ze_ (zc_ 0 rfl))))) (za3_ (zac_ zm_) (EvF.ow (zo_ znE_ (zc_ 0 rfl) (zc_ 1 rfl)))) (zq_ (.same (.same .nil)))) fun _=>(at_ [(Zf (tySc K) c.1),(Zf tyInt c.2)] (za3_ (zac_ zm_) (EvF.ow (zi_ 0))))))
theorem zet_ (e:En K mg) (g0:zav_ P w K mg base):zc4_ P w K mg base :=
 zbL_ e.m e.f1 (okC (N:=["_law_script", "_law_first", "_law_wide", "_law_fields_here", "_law_k", "_law_begin"]) (C:=(csLast (tySc K))) (O:=(owL Qq0)) (t:=fun E=>zfr_ K) (g:=fun c=>zbG_ c) 1 5 zp_ (fun _ _ _ _ _ _ E nd hr=>(zd_ (pst 1 (zk_ g0 (hm hr) (zb_ (za_ 0) (zb_ zg_ zh_)))) (zd_ (pst 2 (zw_ zB_ zg_ (zw_ zE_ (za_ 1) zg_))) (zd_ (zam_ (zG_ (zdG_ hr.u60) (zw_ zE_ (zw_ zbx_ (za_ 1) zg_) zg_) zg_) (zj_ (pst 2 (zw_ zB_ zg_ (zw_ zE_ (zw_ zbx_ (za_ 1) zg_) zg_)))) zN_) (zd_ (pst 3 (zaD_ zh_)) (zd_ (zc3_ PassesOwn.never rfl (zfa_ (e.m.gb e.b1) (zb_ zg_ (zb_ zg_ zh_))) (pgn 4) (zd_ (pst 5 (zw_ zB_ zg_ (zw_ zE_ (zk_ g0 (hm hr) (zb_ (za_ 0) (zb_ (za_ 4) zh_))) (zw_ zao_ zg_ (za_ 2))))) (zj_ (zaI_ (zka_ zci_ zZ_ zW_ zbr_ (za_ 3) (zb_ (zdt_ (zb_ (za_ 5) (zb_ (zw_ zao_ (zw_ zB_ (za_ 5) (za_ 2)) zg_) zh_))) zh_)))))) (zj_ (zx_ (za_ 3))))))))) fun c E=>at_ [(Zf (tySc K) c),Zd,Zd,Zd,Zd,Zd]
 (zbM_ (i:=1) rfl zm_ (zn_ (zf_ (zc_ 0 rfl) (ze_ (zi_ 0)))) fun v1'=>(at_ [(Zf (tySc K) c),(Zf tyInt v1'),Zd,Zd,Zd,Zd] (zbM_ (i:=2) rfl zm_ (zo_ z1_ (zi_ 1) (zo_ zF_ (zc_ 1 rfl) (zi_ 4))) fun u5'=>(at_ [(Zf (tySc K) c),(Zf tyInt v1'),(Zf tyInt u5'),Zd,Zd,Zd] (zbE_ (LS:=(fun s17:Int=>[(Zf (tySc K) c),(Zf tyInt v1'),(Zf tyInt s17),Zd,Zd,Zd])) (s_if (zR_ (zo_ zdM_ (zo_ zF_ (zo_ zaA_ (zc_ 1 rfl) (zi_ 4)) (zi_ 4)) (zi_ 1))) (zdY_ (zbM_ (i:=2) rfl zm_ (zo_ z1_ (zi_ 1) (zo_ zF_ (zo_ zaA_ (zc_ 1 rfl) (zi_ 16)) (zi_ 36))) fun w18=>(at_ [(Zf (tySc K) c),(Zf tyInt v1'),(Zf tyInt w18),Zd,Zd,Zd] (zq_ (S4 (.same (.same .nil))))))) (zq_ (S4 (.same (.same .nil))))) fun s17=>(at_ [(Zf (tySc K) c),(Zf tyInt v1'),(Zf tyInt s17),Zd,Zd,Zd] (zad_ (i:=3) rfl (zS_ (zby_ (z5_ zm_ (z6_ zm_)))) (zbv_ Qq0) fun v25=>(at_ [(Zf (tySc K) c),(Zf tyInt v1'),(Zf tyInt s17),(Zo (owL Qq0) v25),Zd,Zd] (zbE_ (LS:=(fun s26:(List (Int×Int))=>[(Zf (tySc K) c),(Zf tyInt v1'),(Zf tyInt s17),(Zo (owL Qq0) s26),Zd,Zd])) (zcq_ (L':=[(Zf (tySc K) c),(Zf tyInt v1'),(Zf tyInt s17),(Zo (owL Qq0) v25),Zd,Zd]) (S4 (.same (.same .nil))) (zhg_ (LS:=(fun s26:(List (Int×Int))=>[(Zf (tySc K) c),(Zf tyInt v1'),(Zf tyInt s17),(Zo (owL Qq0) s26),Zd,Zd])) (s0:=v25) (zif_ (zf_ (zi_ 1) (ze_ (zi_ 3)))) (z0_ 4) fun s26 x30=>at_ [(Zf (tySc K) c),(Zf tyInt v1'),(Zf tyInt s17),(Zo (owL Qq0) s26),(Zf tyInt x30),Zd] (zbM_ (i:=5) rfl zm_ (zo_ z1_ (zi_ 1) (zo_ zF_ (zn_ (zf_ (zc_ 0 rfl) (ze_ (zc_ 4 rfl)))) (zo_ zaq_ (zi_ 37) (zc_ 2 rfl)))) fun b31=>(at_ [(Zf (tySc K) c),(Zf tyInt v1'),(Zf tyInt s17),(Zo (owL Qq0) s26),(Zf tyInt x30),(Zf tyInt b31)] (zdY_ (zcE_ (i:=3) rfl (zby_ (z5_ zm_ (z6_ zm_))) (zdy_ (zs_ zt_) (zf_ (zc_ 5 rfl) (ze_ (zo_ zaq_ (zo_ z1_ (zc_ 5 rfl) (zc_ 2 rfl)) (zi_ 1))))) fun a47=>(at_ [(Zf (tySc K) c),(Zf tyInt v1'),(Zf tyInt s17),(Zo (owL Qq0) (s26++[a47])),(Zf tyInt x30),(Zf tyInt b31)] (zq_ (S4 (.dead (.dead .nil))))))))))) fun s26=>(at_ [(Zf (tySc K) c),(Zf tyInt v1'),(Zf tyInt s17),(Zo (owL Qq0) s26),Zd,Zd] (ziS_ (i:=3) rfl))))))))))))
theorem zgy_ (e:En K mg):zew_ P w K mg base :=
 zbL_ e.m e.f2 (okC (N:=["_law_number", "_law_signs", "_law_text_here", "_law_k"]) (C:=(csLast tyInt)) (O:=(owF tyStr)) (t:=fun E=>zgZ_ K) (g:=fun c=>zcF_ c) 1 3 zp_ (fun _ _ _ _ _ _ E nd hr=>(zd_ (pst 1 (zfn_ (l:=SG))) (zd_ (pst 2 (zfn_ (l:=[]))) (zd_ (zc3_ PassesOwn.never rfl (zbK_ (e.m.gb e.b1) (zb_ zg_ zh_)) (pgn 3) (zd_ (pst 2 (zw_ zB_ (za_ 2) (zO_ ix_M (za_ 1) (zw_ zE_ (za_ 0) zg_) (fun _ _=>rfl)))) (zj_ (pst 0 (zw_ zbx_ (za_ 0) zg_))))) (zj_ (zx_ (za_ 2))))))) fun c E=>at_ [(Zf tyInt c),Zd,Zd,Zd]
 (zbM_ (i:=1) rfl zr_ (zc6_ SG) fun q1'=>(at_ [(Zf tyInt c),(Zf tyStr q1'),Zd,Zd] (zbM_ (i:=2) rfl zr_ (zc6_ []) fun y2'=>(at_ [(Zf tyInt c),(Zf tyStr q1'),(Zf tyStr y2'),Zd] (zbE_ (LS:=(fun s_3:((List Nat)×Int)=>[(Zf tyInt s_3.2),(Zf tyStr q1'),(Zf tyStr s_3.1),Zd])) (zcq_ (L':=[(Zf tyInt c),(Zf tyStr q1'),(Zf tyStr y2'),Zd]) (S4 .nil) (zhg_ (LS:=(fun s_3:((List Nat)×Int)=>[(Zf tyInt s_3.2),(Zf tyStr q1'),(Zf tyStr s_3.1),Zd])) (s0:=(y2',c)) (zcM_ (ze_ (zi_ 40))) (z0_ 3) fun s_3 x_5=>at_ [(Zf tyInt s_3.2),(Zf tyStr q1'),(Zf tyStr s_3.1),(Zf tyInt x_5)] (zbM_ (i:=2) rfl zr_ (zo_ zeg_ (zc_ 2 rfl) (zo_ ziZ_ (zc_ 1 rfl) (zo_ zF_ (zc_ 0 rfl) (zi_ 37)))) fun t6=>(at_ [(Zf tyInt s_3.2),(Zf tyStr q1'),(Zf tyStr t6),(Zf tyInt x_5)] (zdY_ (zbM_ (i:=0) rfl zm_ (zo_ zaA_ (zc_ 0 rfl) (zi_ 37)) fun n13=>(at_ [(Zf tyInt n13),(Zf tyStr q1'),(Zf tyStr t6),(Zf tyInt x_5)] (zq_ (.same (.same (.same (.dead .nil)))))))))))) fun s_3=>(at_ [(Zf tyInt s_3.2),(Zf tyStr q1'),(Zf tyStr s_3.1),Zd] (za3_ (zac_ zr_) (EvF.ow (zc_ 2 rfl))))))))))
theorem zgL_ (e:En K mg):zeQ_ P w K mg base :=
 zbL_ e.m e.f3 (okC (N:=["_law_cell", "_law_wide", "_law_number", "_law_signs", "_law_part_here", "_law_at"]) (C:=(csCons tyInt (csCons tyInt (csLast tyInt)))) (O:=(owF tyStr)) (t:=fun E=>zhR_ K) (g:=fun c=>zc1_ c.1 c.2.1 c.2.2) 3 3 (zl_ (zl_ zp_)) (fun _ _ _ _ _ _ E nd hr=>(zd_ (pst 3 (zfn_ (l:=SG))) (zd_ (pst 4 (pe_sm zgo_ zgn_ zmO_ (zfn_ (l:=[])) (zb_ (zdZ_ (cl:=_) (lv:=["_law_k"]) (fr:=[("_law_signs",3),("_law_cell",0)]) rfl (csm rfl (frc (frc fr0))) (zbK_ (e.m.gb e.b1) (zb_ (za_ 1) zh_)) (fun _ _ _ _=>(pgc 0)) (fun _ _ _ _=>zeR_) (fun _ _ _ _=>(zO_ ix_M (za_ 1) (zw_ zE_ (zw_ zB_ (za_ 2) (zw_ zbw_ (zw_ zbw_ (za_ 0) (za_ 0)) (zw_ zB_ zg_ (zw_ zE_ (za_ 2) zg_)))) zg_) (fun _ _=>rfl)))) zh_))) (zd_ (pst 5 (zw_ zE_ (za_ 0) (za_ 1))) (zj_ (zx_ (zw_ zB_ (zw_ zB_ (zaa_ sl_M (za_ 4) zcD_ (po_M (za_ 5))) (zO_ ix_M (za_ 3) (zw_ zE_ (za_ 2) zg_) (fun _ _=>rfl))) (zaa_ sl_M (za_ 4) (po_M (zw_ zB_ (za_ 5) zg_)) zcD_)))))))) fun c E=>at_ [(Zf tyInt c.1),(Zf tyInt c.2.1),(Zf tyInt c.2.2),Zd,Zd,Zd]
 (zbM_ (i:=3) rfl zr_ (zc6_ SG) fun q1'=>(at_ [(Zf tyInt c.1),(Zf tyInt c.2.1),(Zf tyInt c.2.2),(Zf tyStr q1'),Zd,Zd] (zbM_ (i:=4) rfl zr_ (ev_me znd_ (zc6_ []) (ze_ (EvO.fr (O:=(owL tyStr)) (zds_ (zcM_ (ze_ (zc_ 1 rfl))) (z0_ 0) (fun _=>dead1) (fun x_4=>zei_) (fun x_4=>(zo_ ziZ_ (zc_ 1 rfl) (zo_ zF_ (zo_ z1_ (zc_ 2 rfl) (zo_ za0_ (zo_ za0_ (zc_ 0 rfl) (zc_ 0 rfl)) (zo_ z1_ (zi_ 1) (zo_ zF_ (zc_ 2 rfl) (zi_ 5))))) (zi_ 37)))))))) fun v2'=>(at_ [(Zf tyInt c.1),(Zf tyInt c.2.1),(Zf tyInt c.2.2),(Zf tyStr q1'),(Zf tyStr v2'),Zd] (zbM_ (i:=5) rfl zm_ (zo_ zF_ (zc_ 0 rfl) (zc_ 1 rfl)) fun v22=>(at_ [(Zf tyInt c.1),(Zf tyInt c.2.1),(Zf tyInt c.2.2),(Zf tyStr q1'),(Zf tyStr v2'),(Zf tyInt v22)] (za3_ (zac_ zr_) (EvF.ow (zo_ zeg_ (zo_ zeg_ (zeH_ (zc_ 4 rfl) zkD_ (zd0_ (zc_ 5 rfl))) (zo_ ziZ_ (zc_ 3 rfl) (zo_ zF_ (zc_ 2 rfl) (zi_ 37)))) (zeH_ (zc_ 4 rfl) (zd0_ (zo_ z1_ (zc_ 5 rfl) (zi_ 1))) zkD_)))))))))))
theorem zfi_ (e:En K mg) (g0:zav_ P w K mg base) (g2:zew_ P w K mg base) (g3:zeQ_ P w K mg base):zdn_ P w K mg base :=
 zbL_ e.m e.f4 (okC (N:=["_law_script", "_law_fields_here", "_law_seed", "_law_wide", "_law_decks", "_law_cell", "_law_number", "_law_text_here", "_law_field", "_law_card"]) (C:=(csCons (tySc K) (csLast (tyL Qq0)))) (O:=(owLL tyStr)) (t:=fun E=>zgw_ K) (g:=fun c=>zb6_ c.1 c.2) 2 8 (zl_ zp_) (fun _ _ _ _ _ _ E nd hr=>(zd_ (pst 2 (zk_ g0 (hm hr) (zb_ (za_ 0) (zb_ zg_ zh_)))) (zd_ (pst 3 (zw_ zB_ (zw_ zao_ (zO_ ix_M (zO_ ix_M (za_ 1) zg_ (fun _ _=>rfl)) zg_ (fun _ _=>rfl)) (zO_ ix_M (zO_ ix_M (za_ 1) zg_ (fun _ _=>rfl)) zg_ (fun _ _=>rfl))) zg_)) (zd_ (pst 4 (zaD_ (zb_ (zaD_ zh_) (zb_ (zaD_ zh_) zh_)))) (zd_ (zc3_ PassesOwn.never rfl (zej_ (zaa_ sl_M (za_ 0) (po_M zg_) (po_M zg_))) (pgn 5) (zd_ (pst 6 (zw_ zB_ (zw_ zbw_ (zw_ zE_ (zw_ zbx_ (za_ 5) zg_) (zw_ zB_ zg_ (zw_ zE_ (za_ 2) zg_))) zg_) (zw_ zbx_ (za_ 2) zg_))) (zd_ (pst 7 (zk_ g2 (hm hr) (zb_ (zw_ zE_ (zw_ zbw_ (za_ 5) (zw_ zB_ (zw_ zB_ (zw_ zB_ zg_ (zw_ zbw_ zg_ (zw_ zge_ zg_ zg_))) (zw_ zbw_ zg_ (zw_ zge_ zg_ zg_))) (zw_ zbw_ zg_ (zw_ zge_ zg_ zg_)))) (zw_ zge_ zg_ zg_)) zh_))) (zd_ (pst 8 (zO_ ix_M (za_ 1) (zw_ zE_ (za_ 5) zg_) (fun _ _=>rfl))) (zd_ (pst 9 (zw_ zB_ (zw_ zB_ (zaa_ sl_M (za_ 7) zcD_ (po_M (zw_ zao_ (zO_ ix_M (za_ 8) zg_ (fun _ _=>rfl)) zg_))) (zk_ g3 (hm hr) (zb_ (zw_ zbx_ (za_ 2) zg_) (zb_ (za_ 3) (zb_ (za_ 6) zh_))))) (zaa_ sl_M (za_ 7) (po_M (zO_ ix_M (za_ 8) zg_ (fun _ _=>rfl))) zcD_))) (zj_ (zaI_ (zka_ zci_ zb2_ zb1_ zfU_ (zO_ ix_M (za_ 4) (zw_ zE_ (za_ 5) zg_) (fun _ _=>rfl)) (zb_ (zw_ zbw_ (zaD_ (zb_ (za_ 9) zh_)) (zw_ zB_ zg_ (zw_ zE_ (zw_ zbx_ (za_ 5) zg_) zg_))) zh_))))))))) (zj_ (zx_ (za_ 4)))))))) fun c E=>at_ [(Zf (tySc K) c.1),(Zf (tyL Qq0) c.2),Zd,Zd,Zd,Zd,Zd,Zd,Zd,Zd]
 (zbM_ (i:=2) rfl zm_ (zn_ (zf_ (zc_ 0 rfl) (ze_ (zi_ 3)))) fun x1'=>(at_ [(Zf (tySc K) c.1),(Zf (tyL Qq0) c.2),(Zf tyInt x1'),Zd,Zd,Zd,Zd,Zd,Zd,Zd] (zbM_ (i:=3) rfl zm_ (zo_ z1_ (zo_ zaq_ (z9_ (i:=1) (at_s zaK_) (zo_ zQ_ (zc_ 1 rfl) (zi_ 0))) (z9_ (i:=0) at_0 (zo_ zQ_ (zc_ 1 rfl) (zi_ 0)))) (zi_ 1)) fun u5'=>(at_ [(Zf (tySc K) c.1),(Zf (tyL Qq0) c.2),(Zf tyInt x1'),(Zf tyInt u5'),Zd,Zd,Zd,Zd,Zd,Zd] (zad_ (i:=4) rfl (zhw_ zr_) (zlG_ (zdT_ (zbv_ tyStr) (zdT_ (zbv_ tyStr) zkg_))) fun d16=>(at_ [(Zf (tySc K) c.1),(Zf (tyL Qq0) c.2),(Zf tyInt x1'),(Zf tyInt u5'),(Zo (owLL tyStr) d16),Zd,Zd,Zd,Zd,Zd] (zbE_ (LS:=(fun s25:(List (List (List Nat)))=>[(Zf (tySc K) c.1),(Zf (tyL Qq0) c.2),(Zf tyInt x1'),(Zf tyInt u5'),(Zo (owLL tyStr) s25),Zd,Zd,Zd,Zd,Zd])) (zcq_ (L':=[(Zf (tySc K) c.1),(Zf (tyL Qq0) c.2),(Zf tyInt x1'),(Zf tyInt u5'),(Zo (owLL tyStr) d16),Zd,Zd,Zd,Zd,Zd]) (S4 (S4 (.same (.same .nil)))) (zhg_ (LS:=(fun s25:(List (List (List Nat)))=>[(Zf (tySc K) c.1),(Zf (tyL Qq0) c.2),(Zf tyInt x1'),(Zf tyInt u5'),(Zo (owLL tyStr) s25),Zd,Zd,Zd,Zd,Zd])) (s0:=d16) (ei_l (EvO.fr (zm5_ (zc_ 0 rfl) (zd0_ (zi_ 5)) (zd0_ (zi_ 67))))) (z0_ 5) fun s25 x31=>at_ [(Zf (tySc K) c.1),(Zf (tyL Qq0) c.2),(Zf tyInt x1'),(Zf tyInt u5'),(Zo (owLL tyStr) s25),(Zf tyInt x31),Zd,Zd,Zd,Zd] (zbM_ (i:=6) rfl zm_ (zo_ z1_ (zo_ za0_ (zo_ zF_ (zo_ zaA_ (zc_ 5 rfl) (zi_ 4)) (zo_ z1_ (zi_ 1) (zo_ zF_ (zc_ 2 rfl) (zi_ 6)))) (zi_ 7)) (zo_ zaA_ (zc_ 2 rfl) (zi_ 6))) fun n32=>(at_ [(Zf (tySc K) c.1),(Zf (tyL Qq0) c.2),(Zf tyInt x1'),(Zf tyInt u5'),(Zo (owLL tyStr) s25),(Zf tyInt x31),(Zf tyInt n32),Zd,Zd,Zd] (zbM_ (i:=7) rfl zr_ (zn_ (ze_ (zo_ zF_ (zo_ za0_ (zc_ 5 rfl) (zo_ z1_ (zo_ z1_ (zo_ z1_ (zi_ 1) (zo_ za0_ (zi_ 5) (zo_ zgd_ (zi_ 37) (zi_ 13)))) (zo_ za0_ (zi_ 11) (zo_ zgd_ (zi_ 37) (zi_ 29)))) (zo_ za0_ (zi_ 3) (zo_ zgd_ (zi_ 37) (zi_ 36))))) (zo_ zgd_ (zi_ 37) (zi_ 40))))) fun t47=>(at_ [(Zf (tySc K) c.1),(Zf (tyL Qq0) c.2),(Zf tyInt x1'),(Zf tyInt u5'),(Zo (owLL tyStr) s25),(Zf tyInt x31),(Zf tyInt n32),(Zf tyStr t47),Zd,Zd] (zbM_ (i:=8) rfl (zby_ (z5_ zm_ (z6_ zm_))) (zo_ zQ_ (zc_ 1 rfl) (zo_ zF_ (zc_ 5 rfl) (zi_ 2))) fun f73=>(at_ [(Zf (tySc K) c.1),(Zf (tyL Qq0) c.2),(Zf tyInt x1'),(Zf tyInt u5'),(Zo (owLL tyStr) s25),(Zf tyInt x31),(Zf tyInt n32),(Zf tyStr t47),(Zf Qq0 f73),Zd] (zbM_ (i:=9) rfl zr_ (zo_ zeg_ (zo_ zeg_ (zeH_ (zc_ 7 rfl) zkD_ (zd0_ (zo_ zaq_ (z9_ (i:=0) at_0 (zc_ 8 rfl)) (zi_ 1)))) (zn_ (zf_ (zo_ zaA_ (zc_ 2 rfl) (zi_ 6)) (zf_ (zc_ 3 rfl) (ze_ (zc_ 6 rfl)))))) (zeH_ (zc_ 7 rfl) (zd0_ (z9_ (i:=1) (at_s zaK_) (zc_ 8 rfl))) zkD_)) fun c78=>(at_ [(Zf (tySc K) c.1),(Zf (tyL Qq0) c.2),(Zf tyInt x1'),(Zf tyInt u5'),(Zo (owLL tyStr) s25),(Zf tyInt x31),(Zf tyInt n32),(Zf tyStr t47),(Zf Qq0 f73),(Zf tyStr c78)] (zdY_ (ziC_ (i:=4) rfl zr_ (zo_ zF_ (zc_ 5 rfl) (zi_ 2)) (EvO.fr (ziJ_ zll_ (EvO.fr (zdK_ zt_ zaU_ (ze_ (zc_ 9 rfl)))) (zo_ z1_ (zi_ 1) (zo_ zF_ (zo_ zaA_ (zc_ 5 rfl) (zi_ 2)) (zi_ 2))))) fun n114 a115=>(at_ [(Zf (tySc K) c.1),(Zf (tyL Qq0) c.2),(Zf tyInt x1'),(Zf tyInt u5'),(Zo (owLL tyStr) (extN s25 n114 a115)),(Zf tyInt x31),(Zf tyInt n32),(Zf tyStr t47),(Zf Qq0 f73),(Zf tyStr c78)] (zq_ (S4 (.same (.dead (.dead (.dead (.dead (.dead .nil))))))))))))))))))))) fun s25=>(at_ [(Zf (tySc K) c.1),(Zf (tyL Qq0) c.2),(Zf tyInt x1'),(Zf tyInt u5'),(Zo (owLL tyStr) s25),Zd,Zd,Zd,Zd,Zd] (ziS_ (i:=4) rfl))))))))))
theorem zdD_ (e:En K mg):zco_ P w K mg base :=
 zbL_ e.m e.f5 (okC (N:=["_law_deck", "_law_drawn_here", "_law_cell", "_law_found", "_law_here", "_law_there"]) (C:=(csCons (tyL tyStr) (csCons (tyL tyStr) (csLast tyInt)))) (O:=(owL tyStr)) (t:=fun E=>zef_ K) (g:=fun c=>zbe_ c.1 c.2.1 c.2.2) 3 3 (zl_ (zl_ zp_)) (fun _ _ _ _ _ _ E nd hr=>(zd_ (pst 3 (zlT_ "list" (zbc_ rfl) (e.m.gb e.b2) (zb_ (za_ 0) zh_))) (zd_ (zam_ (zG_ (zdG_ hr.u60) (zcx_ z7_ (e.m.gb e.b0) (zb_ (za_ 3) zh_)) zg_) (zj_ (zx_ (za_ 3))) zN_) (zd_ (zam_ (zG_ (zdG_ hr.u60) (zw_ zE_ (za_ 2) zg_) zg_) (zd_ (pst 4 (zw_ zE_ (zw_ zbx_ (za_ 2) zg_) (zcx_ z7_ (e.m.gb e.b0) (zb_ (za_ 3) zh_)))) (zd_ (pst 5 (zw_ zE_ (zw_ zbx_ (zw_ zbx_ (za_ 2) zg_) (zcx_ z7_ (e.m.gb e.b0) (zb_ (za_ 3) zh_))) (zcx_ z7_ (e.m.gb e.b0) (zb_ (za_ 3) zh_)))) (zj_ (zn9_ (zdt_ (zb_ (zO_ ix_M (za_ 3) (za_ 5) (fun _ _=>rfl)) (zb_ (zO_ ix_M (za_ 3) (za_ 4) (fun _ _=>rfl)) zh_))) (zjF_ (n:=2) rfl (zcw_ (zlU_ (za_ 3) (za_ 4) set_M) (zcw_ (zlU_ (za_ 3) (za_ 5) set_M) zhH_))))))) zN_) (zd_ (zam_ (zG_ (zdG_ hr.u60) (zw_ zE_ (za_ 2) zg_) zg_) (zj_ (pst 3 (zw_ zB_ (zaa_ sl_M (za_ 3) (po_M (zmw_ zg_)) zcD_) (zaa_ sl_M (za_ 3) zcD_ (po_M (zmw_ zg_)))))) zN_) (zd_ (zam_ (zG_ (zdG_ hr.u60) (zw_ zE_ (za_ 2) zg_) zg_) (zj_ (pst 3 (zlT_ "list" (zbc_ rfl) (e.m.gb e.b2) (zb_ (za_ 1) zh_)))) zN_) (zj_ (zx_ (za_ 3))))))))) fun c E=>at_ [(Zf (tyL tyStr) c.1),(Zf (tyL tyStr) c.2.1),(Zf tyInt c.2.2),Zd,Zd,Zd]
 (zad_ (i:=3) rfl (zS_ zr_) (zgO_ zfO_ (ze_ (zc_ 0 rfl))) fun w1'=>(at_ [(Zf (tyL tyStr) c.1),(Zf (tyL tyStr) c.2.1),(Zf tyInt c.2.2),(Zo (owL tyStr) w1'),Zd,Zd] (zbE_ (LS:=(fun _:Unit=>[(Zf (tyL tyStr) c.1),(Zf (tyL tyStr) c.2.1),(Zf tyInt c.2.2),(Zo (owL tyStr) w1'),Zd,Zd])) (s_if (zR_ (zo_ zdM_ (zhN_ zcl_ (ze_ (za1_ 3 rfl))) (zi_ 0))) (ziS_ (i:=3) rfl) (zq_ (S4 (.same (.same .nil))))) fun _=>(at_ [(Zf (tyL tyStr) c.1),(Zf (tyL tyStr) c.2.1),(Zf tyInt c.2.2),(Zo (owL tyStr) w1'),Zd,Zd] (zbE_ (LS:=(fun s13:(List (List Nat))=>[(Zf (tyL tyStr) c.1),(Zf (tyL tyStr) c.2.1),(Zf tyInt c.2.2),(Zo (owL tyStr) s13),Zd,Zd])) (s_if (zR_ (zo_ zdM_ (zo_ zF_ (zc_ 2 rfl) (zi_ 4)) (zi_ 1))) (zbM_ (i:=4) rfl zm_ (zo_ zF_ (zo_ zaA_ (zc_ 2 rfl) (zi_ 4)) (zhN_ zcl_ (ze_ (za1_ 3 rfl)))) fun h14=>(at_ [(Zf (tyL tyStr) c.1),(Zf (tyL tyStr) c.2.1),(Zf tyInt c.2.2),(Zo (owL tyStr) w1'),(Zf tyInt h14),Zd] (zbM_ (i:=5) rfl zm_ (zo_ zF_ (zo_ zaA_ (zo_ zaA_ (zc_ 2 rfl) (zi_ 4)) (zhN_ zcl_ (ze_ (za1_ 3 rfl)))) (zhN_ zcl_ (ze_ (za1_ 3 rfl)))) fun t20=>(at_ [(Zf (tyL tyStr) c.1),(Zf (tyL tyStr) c.2.1),(Zf tyInt c.2.2),(Zo (owL tyStr) w1'),(Zf tyInt h14),(Zf tyInt t20)] (zdY_ (zmG_ (i:=3) rfl (zdy_ (zs_ zt_) (zf_ (zo_ zQ_ (za1_ 3 rfl) (zc_ 5 rfl)) (ze_ (zo_ zQ_ (za1_ 3 rfl) (zc_ 4 rfl))))) (zc_ 4 rfl) (fun y37=>(zc_ 5 rfl)) fun z39=>(at_ [(Zf (tyL tyStr) c.1),(Zf (tyL tyStr) c.2.1),(Zf tyInt c.2.2),(Zo (owL tyStr) z39),(Zf tyInt h14),(Zf tyInt t20)] (zq_ (S4 (.dead (.dead .nil))))))))))) (zq_ (S4 (.same (.same .nil))))) fun s13=>(at_ [(Zf (tyL tyStr) c.1),(Zf (tyL tyStr) c.2.1),(Zf tyInt c.2.2),(Zo (owL tyStr) s13),Zd,Zd] (zbE_ (LS:=(fun s45:(List (List Nat))=>[(Zf (tyL tyStr) c.1),(Zf (tyL tyStr) c.2.1),(Zf tyInt c.2.2),(Zo (owL tyStr) s45),Zd,Zd])) (s_if (zR_ (zo_ zdM_ (zo_ zF_ (zc_ 2 rfl) (zi_ 4)) (zi_ 2))) (zdY_ (zad_ (i:=3) rfl (zS_ zr_) (ziJ_ zhb_ (EvO.fr (zkt_ (za1_ 3 rfl) (zd0_ (zmL_ (zi_ 1))) zkD_)) (EvO.fr (zkt_ (za1_ 3 rfl) zkD_ (zd0_ (zmL_ (zi_ 1)))))) fun f46=>(at_ [(Zf (tyL tyStr) c.1),(Zf (tyL tyStr) c.2.1),(Zf tyInt c.2.2),(Zo (owL tyStr) f46),Zd,Zd] (zq_ (S4 (.same (.same .nil))))))) (zq_ (S4 (.same (.same .nil))))) fun s45=>(at_ [(Zf (tyL tyStr) c.1),(Zf (tyL tyStr) c.2.1),(Zf tyInt c.2.2),(Zo (owL tyStr) s45),Zd,Zd] (zbE_ (LS:=(fun s64:(List (List Nat))=>[(Zf (tyL tyStr) c.1),(Zf (tyL tyStr) c.2.1),(Zf tyInt c.2.2),(Zo (owL tyStr) s64),Zd,Zd])) (s_if (zR_ (zo_ zdM_ (zo_ zF_ (zc_ 2 rfl) (zi_ 4)) (zi_ 3))) (zdY_ (zad_ (i:=3) rfl (zS_ zr_) (zgO_ zfO_ (ze_ (zc_ 1 rfl))) fun f65=>(at_ [(Zf (tyL tyStr) c.1),(Zf (tyL tyStr) c.2.1),(Zf tyInt c.2.2),(Zo (owL tyStr) f65),Zd,Zd] (zq_ (S4 (.same (.same .nil))))))) (zq_ (S4 (.same (.same .nil))))) fun s64=>(at_ [(Zf (tyL tyStr) c.1),(Zf (tyL tyStr) c.2.1),(Zf tyInt c.2.2),(Zo (owL tyStr) s64),Zd,Zd] (ziS_ (i:=3) rfl))))))))))))
theorem zeL_ (e:En K mg):zcL_ P w K mg base :=
 zbL_ e.m e.f6 (okC (N:=["_law_deck", "_law_field", "_law_rows"]) (C:=(csCons (tyL tyStr) (csLast Qq0))) (O:=(owL tyStr)) (t:=fun E=>zfG_ K) (g:=fun c=>zbB_ c.1 c.2) 2 1 (zl_ zp_) (fun _ _ _ _ _ _ E nd hr=>(zd_ (zd4_ (cl:=_) (lv:=["_law_k"]) (fr:=[("_law_deck",0),("_law_field",1)]) rfl (csm rfl (frc (frc fr0))) (zbK_ (e.m.gb e.b1) (zb_ (zcx_ z7_ (e.m.gb e.b0) (zb_ (za_ 0) zh_)) zh_)) (fun _ _ _ _=>(pgc 0)) (fun _ _ _ _=>zeR_) (fun _ _ _ _=>(zdt_ (zb_ (zaa_ sl_M (zO_ ix_M (za_ 1) (za_ 0) (fun _ _=>rfl)) (po_M (zw_ zao_ (zO_ ix_M (za_ 2) zg_ (fun _ _=>rfl)) zg_)) (po_M (zO_ ix_M (za_ 2) zg_ (fun _ _=>rfl)))) (zb_ (za_ 0) zh_)))) (pgn 2)) (zj_ (zx_ (zdZ_ (cl:=_) (lv:=["_law_part_here", "_law_k"]) (fr:=[("_law_deck",0)]) rfl (csm rfl (frc fr0)) (zej_ (zcx_ (zfg_ runBig) (e.m.gb e.b3) (zb_ (za_ 2) zh_))) (fun _ _ _ _=>(zjF_ (n:=2) rfl (zcw_ (pgc 0) (zcw_ (pgc 1) zhH_)))) (fun _ _ _ _=>zeR_) (fun _ _ _ _=>(zO_ ix_M (za_ 2) (za_ 1) (fun _ _=>rfl)))))))) fun c E=>at_ [(Zf (tyL tyStr) c.1),(Zf Qq0 c.2),Zd]
 (zad_ (i:=2) rfl (zS_ (zby_ (z5_ zr_ (z6_ zm_)))) (zds_ (zcM_ (ze_ (zhN_ zcl_ (ze_ (zc_ 0 rfl))))) (z0_ 0) (fun _=>dead1) (fun x_4=>zei_) (fun x_4=>(zdy_ (zs_ zt_) (zf_ (zeH_ (zo_ zQ_ (zc_ 1 rfl) (zc_ 0 rfl)) (zd0_ (zo_ zaq_ (z9_ (i:=0) at_0 (zc_ 2 rfl)) (zi_ 1))) (zd0_ (z9_ (i:=1) (at_s zaK_) (zc_ 2 rfl)))) (ze_ (zc_ 0 rfl)))))) fun z1'=>zfK_ (i:=2) rfl (at_ [(Zf (tyL tyStr) c.1),(Zf Qq0 c.2),(Zf (tyL (tyTup (csCons tyStr (csLast tyInt)))) z1')] (za3_ (zS_ zr_) (zds_ (ei_l (EvO.fr (zgO_ (zg5_ (zmh_ zoJ_ (zns_ zor_ zlL_)) (zjC_ ziP_ zlL_)) (ze_ (zc_ 2 rfl))))) (zn2_ (zs_ zt_) (znt_ 0 (zmV_ (z0_ 1)))) (fun _=>dead2) (fun x20=>zei_) (fun x20=>(zo_ zQ_ (zc_ 2 rfl) (zc_ 1 rfl))))))))
theorem zfC_ (e:En K mg):zdd_ P w K mg base :=
 zbL_ e.m e.f7 (okC (N:=["_law_field"]) (C:=(csLast Qq0)) (O:=(owF Qq0)) (t:=fun E=>zgz_ K) (g:=fun c=>zb7_ c) 1 0 zp_ (fun _ _ _ _ _ _ E nd hr=>(zd_ (zam_ (zG_ (zff_ hr.u60) (zO_ ix_M (za_ 0) zg_ (fun _ _=>rfl)) zg_) (zj_ (zx_ (zdt_ (zb_ (zO_ ix_M (za_ 0) zg_ (fun _ _=>rfl)) (zb_ (zw_ zB_ (zO_ ix_M (za_ 0) zg_ (fun _ _=>rfl)) zg_) zh_))))) zN_) (zd_ (zam_ (zG_ zoN_ (zO_ ix_M (za_ 0) zg_ (fun _ _=>rfl)) zg_) (zj_ (zx_ (zdt_ (zb_ (zw_ zao_ (zO_ ix_M (za_ 0) zg_ (fun _ _=>rfl)) zg_) (zb_ (zO_ ix_M (za_ 0) zg_ (fun _ _=>rfl)) zh_))))) zN_) (zj_ (zx_ (zdt_ (zb_ zg_ (zb_ zg_ zh_)))))))) fun c E=>at_ [(Zf Qq0 c)]
 (zbE_ (LS:=(fun _:Unit=>[(Zf Qq0 c)])) (s_if (zR_ (zo_ zeA_ (z9_ (i:=1) (at_s zaK_) (zc_ 0 rfl)) (zi_ 36))) (za3_ (zac_ (zby_ (z5_ zm_ (z6_ zm_)))) (EvF.ow (zdy_ (zs_ zt_) (zf_ (z9_ (i:=0) at_0 (zc_ 0 rfl)) (ze_ (zo_ z1_ (z9_ (i:=1) (at_s zaK_) (zc_ 0 rfl)) (zi_ 1))))))) (zq_ (.same .nil))) fun _=>(at_ [(Zf Qq0 c)] (zbE_ (LS:=(fun _:Unit=>[(Zf Qq0 c)])) (s_if (zR_ (zo_ zoe_ (z9_ (i:=0) at_0 (zc_ 0 rfl)) (zi_ 1))) (za3_ (zac_ (zby_ (z5_ zm_ (z6_ zm_)))) (EvF.ow (zdy_ (zs_ zt_) (zf_ (zo_ zaq_ (z9_ (i:=0) at_0 (zc_ 0 rfl)) (zi_ 1)) (ze_ (z9_ (i:=1) (at_s zaK_) (zc_ 0 rfl))))))) (zq_ (.same .nil))) fun _=>(at_ [(Zf Qq0 c)] (za3_ (zac_ (zby_ (z5_ zm_ (z6_ zm_)))) (EvF.ow (zdy_ (zs_ zt_) (zf_ (zi_ 1) (ze_ (zi_ 35)))))))))))
theorem zhe_ (e:En K mg):zfV_ P w K mg base :=
 zbL_ e.m e.f8 (okC (N:=["_law_deck", "_law_field", "_law_k"]) (C:=(csCons (tyL tyStr) (csLast Qq0))) (O:=(owF (tyOpt tyInt))) (t:=fun E=>zje_ K) (g:=fun c=>zdv_ c.1 c.2) 2 1 (zl_ zp_) (fun _ _ _ _ _ _ E nd hr=>(zd_ (zc3_ PassesOwn.never rfl (zfa_ (e.m.gb e.b1) (zb_ zg_ (zb_ (zcx_ z7_ (e.m.gb e.b0) (zb_ (za_ 0) zh_)) zh_))) (pgn 2) (zj_ (zam_ (zG_ (zff_ hr.u60) (zaa_ sl_M (zO_ ix_M (za_ 0) (za_ 2) (fun _ _=>rfl)) (po_M (zw_ zao_ (zO_ ix_M (za_ 1) zg_ (fun _ _=>rfl)) zg_)) (po_M (zO_ ix_M (za_ 1) zg_ (fun _ _=>rfl)))) (zaa_ sl_M (zO_ ix_M (za_ 0) (zw_ zao_ (za_ 2) zg_) (fun _ _=>rfl)) (po_M (zw_ zao_ (zO_ ix_M (za_ 1) zg_ (fun _ _=>rfl)) zg_)) (po_M (zO_ ix_M (za_ 1) zg_ (fun _ _=>rfl))))) (zj_ (zx_ (za_ 2))) zN_))) (zj_ (zx_ zgr_)))) fun c E=>at_ [(Zf (tyL tyStr) c.1),(Zf Qq0 c.2),Zd]
 (zbE_ (LS:=(fun _:Unit=>[(Zf (tyL tyStr) c.1),(Zf Qq0 c.2),Zd])) (zcq_ (L':=[(Zf (tyL tyStr) c.1),(Zf Qq0 c.2),Zd]) (.same (.same (.same .nil))) (zhg_ (LS:=(fun _:Unit=>[(Zf (tyL tyStr) c.1),(Zf Qq0 c.2),Zd])) (s0:=()) (zif_ (zf_ (zi_ 1) (ze_ (zhN_ zcl_ (ze_ (zc_ 0 rfl)))))) (z0_ 2) fun _ z6=>at_ [(Zf (tyL tyStr) c.1),(Zf Qq0 c.2),(Zf tyInt z6)] (s_if (zR_ (zo_ znw_ (zeH_ (zo_ zQ_ (zc_ 0 rfl) (zc_ 2 rfl)) (zd0_ (zo_ zaq_ (z9_ (i:=0) at_0 (zc_ 1 rfl)) (zi_ 1))) (zd0_ (z9_ (i:=1) (at_s zaK_) (zc_ 1 rfl)))) (zeH_ (zo_ zQ_ (zc_ 0 rfl) (zo_ zaq_ (zc_ 2 rfl) (zi_ 1))) (zd0_ (zo_ zaq_ (z9_ (i:=0) at_0 (zc_ 1 rfl)) (zi_ 1))) (zd0_ (z9_ (i:=1) (at_s zaK_) (zc_ 1 rfl)))))) (za3_ (zac_ (zel_ zm_)) (EvF.ow (zjT_ (fun _ _ _=>zl2_) (zc_ 2 rfl)))) (zq_ (.same (.same (.dead .nil))))))) fun _=>(at_ [(Zf (tyL tyStr) c.1),(Zf Qq0 c.2),Zd] (za3_ (zac_ (zel_ zm_)) (EvF.ow zj3_)))))
theorem zhQ_ (e:En K mg) (g8:zfV_ P w K mg base):zfL_ P w K mg base :=
 zbL_ e.m e.f9 (okC (N:=Qn0) (C:=(csCons tyInt Qq1)) (O:=(owL tyInt)) (t:=fun E=>zi2_ K) (g:=fun c=>zdV_ c.1 c.2.1 c.2.2.1 c.2.2.2.1 c.2.2.2.2) 5 0 (zl_ (zl_ (zl_ (zl_ zp_)))) (fun _ _ _ _ _ _ E nd hr=>(zd_ (zam_ (PW.pt (zeN_ (zG_ (zff_ hr.u60) (za_ 0) zg_) (zeU_ (zG_ (zgl_ hr.u60) (zw_ zao_ (zO_ ix_M (za_ 2) zg_ (fun _ _=>rfl)) (zO_ ix_M (za_ 2) zg_ (fun _ _=>rfl))) (zw_ zao_ (zO_ ix_M (za_ 4) zg_ (fun _ _=>rfl)) (zO_ ix_M (za_ 4) zg_ (fun _ _=>rfl))))))) (zj_ (zx_ (zaD_ (zb_ zg_ (zb_ zg_ zh_))))) zN_) (zd_ (zam_ (PW.pt (zeN_ (zG_ (zff_ hr.u60) (za_ 0) zg_) (zeU_ (zG_ zdw_ (zk_ g8 (hm hr) (zb_ (za_ 3) (zb_ (za_ 4) zh_))) zgr_)))) (zj_ (zx_ (zaD_ (zb_ zg_ (zb_ (zk_ g8 (hm hr) (zb_ (za_ 3) (zb_ (za_ 4) zh_))) zh_))))) zN_) (zd_ (zam_ (zG_ zdw_ (zk_ g8 (hm hr) (zb_ (za_ 1) (zb_ (za_ 2) zh_))) zgr_) (zj_ (zx_ (zaD_ (zb_ zg_ (zb_ (zk_ g8 (hm hr) (zb_ (za_ 1) (zb_ (za_ 2) zh_))) zh_))))) zN_) (zj_ (zx_ (zaD_ zh_))))))) fun c E=>at_ [(Zf tyInt c.1),(Zf (tyL tyStr) c.2.1),(Zf Qq0 c.2.2.1),(Zf (tyL tyStr) c.2.2.2.1),(Zf Qq0 c.2.2.2.2)]
 (zbE_ (LS:=(fun _:Unit=>[(Zf tyInt c.1),(Zf (tyL tyStr) c.2.1),(Zf Qq0 c.2.2.1),(Zf (tyL tyStr) c.2.2.2.1),(Zf Qq0 c.2.2.2.2)])) (s_if (zgT_ (zR_ (zo_ zeA_ (zc_ 0 rfl) (zi_ 2))) (zR_ (zo_ zm6_ (zo_ zaq_ (z9_ (i:=1) (at_s zaK_) (zc_ 2 rfl)) (z9_ (i:=0) at_0 (zc_ 2 rfl))) (zo_ zaq_ (z9_ (i:=1) (at_s zaK_) (zc_ 4 rfl)) (z9_ (i:=0) at_0 (zc_ 4 rfl)))))) (za3_ (zS_ zm_) (zdK_ (zs_ zt_) (zab_ zaU_) (zf_ (zi_ 0) (ze_ (zi_ 0))))) (zq_ (S4 (.same .nil)))) fun _=>(at_ [(Zf tyInt c.1),(Zf (tyL tyStr) c.2.1),(Zf Qq0 c.2.2.1),(Zf (tyL tyStr) c.2.2.2.1),(Zf Qq0 c.2.2.2.2)] (zbE_ (LS:=(fun _:Unit=>[(Zf tyInt c.1),(Zf (tyL tyStr) c.2.1),(Zf Qq0 c.2.2.1),(Zf (tyL tyStr) c.2.2.2.1),(Zf Qq0 c.2.2.2.2)])) (s_if (zgT_ (zR_ (zo_ zeA_ (zc_ 0 rfl) (zi_ 2))) (zR_ (zo_ ze2_ (zn_ (zf_ (zc_ 3 rfl) (ze_ (zc_ 4 rfl)))) zkp_))) (za3_ (zS_ zm_) (zdK_ (zs_ zt_) (zab_ zaU_) (zf_ (zi_ 2) (ze_ (zcR_ (zn_ (zf_ (zc_ 3 rfl) (ze_ (zc_ 4 rfl))))))))) (zq_ (S4 (.same .nil)))) fun _=>(at_ [(Zf tyInt c.1),(Zf (tyL tyStr) c.2.1),(Zf Qq0 c.2.2.1),(Zf (tyL tyStr) c.2.2.2.1),(Zf Qq0 c.2.2.2.2)] (zbE_ (LS:=(fun _:Unit=>[(Zf tyInt c.1),(Zf (tyL tyStr) c.2.1),(Zf Qq0 c.2.2.1),(Zf (tyL tyStr) c.2.2.2.1),(Zf Qq0 c.2.2.2.2)])) (s_if (zR_ (zo_ ze2_ (zn_ (zf_ (zc_ 1 rfl) (ze_ (zc_ 2 rfl)))) zkp_)) (za3_ (zS_ zm_) (zdK_ (zs_ zt_) (zab_ zaU_) (zf_ (zi_ 1) (ze_ (zcR_ (zn_ (zf_ (zc_ 1 rfl) (ze_ (zc_ 2 rfl))))))))) (zq_ (S4 (.same .nil)))) fun _=>(at_ [(Zf tyInt c.1),(Zf (tyL tyStr) c.2.1),(Zf Qq0 c.2.2.1),(Zf (tyL tyStr) c.2.2.2.1),(Zf Qq0 c.2.2.2.2)] (za3_ (zS_ zm_) (zbv_ tyInt)))))))))
theorem zh3_ (e:En K mg):zgb_ P w K mg base :=
 zbL_ e.m e.f10 (okC (N:=["text"]) (C:=(csLast tyStr)) (O:=(owF tyBl)) (t:=fun E=>ziD_ K) (g:=fun c=>zdB_ c) 1 0 zp_ (fun _ _ _ _ _ _ E nd hr=>(zj_ (zx_ (zeS_ (zfS_ (zdG_ hr.u60) (zcx_ z7_ (e.m.gb e.b0) (zb_ (za_ 0) zh_)) zg_) (ziB_ (zfS_ zoo_ (za_ 0) (zgP_ (e.m.gv e.c0)))))))) fun c E=>at_ [(Zf tyStr c)]
 (za3_ (zac_ zbu_) (EvF.ow (zh6_ (zo_ zdM_ (zhN_ zmb_ (ze_ (zc_ 0 rfl))) (zi_ 1)) (zo_ zox_ (zc_ 0 rfl) (zc6_ SG))))))
theorem zg2_ (e:En K mg) (g10:zgb_ P w K mg base):zf9_ P w K mg base :=
 zbL_ e.m e.f11 (okC (N:=["sign"]) (C:=(csLast tyStr)) (O:=(owF tyInt)) (t:=fun E=>zji_ K) (g:=fun c=>zdU_ c) 1 0 zp_ (fun _ _ _ _ _ _ E nd hr=>(zd_ (zam_ (zko_ (zd5_ (zk_ g10 (hm hr) (zb_ (za_ 0) zh_)))) (zj_ zkQ_) zN_) (zj_ (zx_ (pe_sm zfp_ zfw_ zkr_ (zgP_ (e.m.gv e.c0)) (zb_ (za_ 0) zh_)))))) fun c E=>at_ [(Zf tyStr c)]
 (zbE_ (LS:=(fun _:Unit=>[(Zf tyStr c)])) (s_if (zku_ (zR_ (zn_ (ze_ (zc_ 0 rfl))))) zmJ_ (zq_ (.same .nil))) fun _=>(at_ [(Zf tyStr c)] (za3_ (zac_ zm_) (EvF.ow (ev_me zkW_ (zc6_ SG) (ze_ (zc_ 0 rfl))))))))
theorem zh0_ (e:En K mg):zfT_ P w K mg base :=
 zbL_ e.m e.f12 (okC (N:=["card", "column"]) (C:=(csCons tyStr (csLast tyInt))) (O:=(owF tyStr)) (t:=fun E=>zjw_ K) (g:=fun c=>zdu_ c.1 c.2) 2 0 (zl_ zp_) (fun _ _ _ _ _ _ E nd hr=>(zj_ (zx_ (zO_ ix_M (za_ 0) (zw_ zao_ (za_ 1) zg_) (fun _ _=>rfl))))) fun c E=>at_ [(Zf tyStr c.1),(Zf tyInt c.2)]
 (za3_ (zac_ zr_) (EvF.ow (zo_ ziZ_ (zc_ 0 rfl) (zo_ zaq_ (zc_ 1 rfl) (zi_ 1))))))
theorem zgs_ (e:En K mg) (g11:zf9_ P w K mg base) (g12:zfT_ P w K mg base):zev_ P w K mg base :=
 zbL_ e.m e.f13 (okC (N:=["card", "columns"]) (C:=(csCons tyStr (csLast (tyL tyInt)))) (O:=(owL tyInt)) (t:=fun E=>zih_ K) (g:=fun c=>zcZ_ c.1 c.2) 2 0 (zl_ zp_) (fun _ _ _ _ _ _ E nd hr=>(zj_ (zx_ (zdZ_ (cl:=_) (lv:=["column"]) (fr:=[("card",0)]) rfl (csm rfl (frc fr0)) (zej_ (za_ 1)) (fun _ _ _ _=>(pgc 0)) (fun _ _ _ _=>zeR_) (fun _ _ _ _=>(zk_ g11 (hm hr) (zb_ (zk_ g12 (hm hr) (zb_ (za_ 1) (zb_ (za_ 0) zh_))) zh_))))))) fun c E=>at_ [(Zf tyStr c.1),(Zf (tyL tyInt) c.2)]
 (za3_ (zS_ zm_) (zds_ (ei_l (zc_ 1 rfl)) (z0_ 0) (fun _=>dead1) (fun x_1=>zei_) (fun x_1=>(zn_ (ze_ (zn_ (zf_ (zc_ 1 rfl) (ze_ (zc_ 0 rfl))))))))))
theorem zdL_ (e:En K mg) (g13:zev_ P w K mg base):za7_ P w K mg base :=
 zbL_ e.m e.f14 (okC (N:=["card", "other", "columns"]) (C:=(csCons tyStr (csCons tyStr (csLast (tyL tyInt))))) (O:=(owF tyBl)) (t:=fun E=>zeF_ K) (g:=fun c=>zba_ c.1 c.2.1 c.2.2) 3 0 (zl_ (zl_ zp_)) (fun _ _ _ _ _ _ E nd hr=>(zj_ (zx_ (zfS_ (zff_ hr.u60) (zk_ g13 (hm hr) (zb_ (za_ 0) (zb_ (za_ 2) zh_))) (zk_ g13 (hm hr) (zb_ (za_ 1) (zb_ (za_ 2) zh_))))))) fun c E=>at_ [(Zf tyStr c.1),(Zf tyStr c.2.1),(Zf (tyL tyInt) c.2.2)]
 (za3_ (zac_ zbu_) (EvF.ow (zo_ znk_ (EvO.fr (O:=(owL tyInt)) (zJ_ (zf_ (zc_ 0 rfl) (ze_ (zc_ 2 rfl))))) (EvO.fr (O:=(owL tyInt)) (zJ_ (zf_ (zc_ 1 rfl) (ze_ (zc_ 2 rfl)))))))))
theorem ziK_ (e:En K mg) (g14:za7_ P w K mg base):zhX_ P w K mg base :=
 zbL_ e.m e.f15 (okC (N:=["deck", "columns", "place"]) (C:=(csCons (tyL tyStr) (csLast (tyL tyInt)))) (O:=(owF (tyOpt tyInt))) (t:=fun E=>zlf_ K) (g:=fun c=>zdz_ c.1 c.2) 2 1 (zl_ zp_) (fun _ _ _ _ _ _ E nd hr=>(zd_ (zc3_ PassesOwn.never rfl (zfa_ (e.m.gb e.b1) (zb_ zg_ (zb_ (zcx_ z7_ (e.m.gb e.b0) (zb_ (za_ 0) zh_)) zh_))) (pgn 2) (zj_ (zam_ (zd5_ (zk_ g14 (hm hr) (zb_ (zO_ ix_M (za_ 0) (za_ 2) (fun _ _=>rfl)) (zb_ (zO_ ix_M (za_ 0) (zw_ zao_ (za_ 2) zg_) (fun _ _=>rfl)) (zb_ (za_ 1) zh_))))) (zj_ (zx_ (za_ 2))) zN_))) (zj_ (zx_ zgr_)))) fun c E=>at_ [(Zf (tyL tyStr) c.1),(Zf (tyL tyInt) c.2),Zd]
 (zbE_ (LS:=(fun _:Unit=>[(Zf (tyL tyStr) c.1),(Zf (tyL tyInt) c.2),Zd])) (zcq_ (L':=[(Zf (tyL tyStr) c.1),(Zf (tyL tyInt) c.2),Zd]) (.same (.same (.same .nil))) (zhg_ (LS:=(fun _:Unit=>[(Zf (tyL tyStr) c.1),(Zf (tyL tyInt) c.2),Zd])) (s0:=()) (zif_ (zf_ (zi_ 1) (ze_ (zhN_ zcl_ (ze_ (zc_ 0 rfl)))))) (z0_ 2) fun _ z6=>at_ [(Zf (tyL tyStr) c.1),(Zf (tyL tyInt) c.2),(Zf tyInt z6)] (s_if (zR_ (zn_ (zf_ (zo_ zQ_ (zc_ 0 rfl) (zc_ 2 rfl)) (zf_ (zo_ zQ_ (zc_ 0 rfl) (zo_ zaq_ (zc_ 2 rfl) (zi_ 1))) (ze_ (zc_ 1 rfl)))))) (za3_ (zac_ (zel_ zm_)) (EvF.ow (zjT_ (fun _ _ _=>zl2_) (zc_ 2 rfl)))) (zq_ (.same (.same (.dead .nil))))))) fun _=>(at_ [(Zf (tyL tyStr) c.1),(Zf (tyL tyInt) c.2),Zd] (za3_ (zac_ (zel_ zm_)) (EvF.ow zj3_)))))
theorem zbP_ (e:En K mg):zaE_ P w K mg base :=
 gx_of e.m e.f16 e.fx.exj_NoOrder (okXI (N:=["self", "deck", "place"]) (fun _ _ _ _ _ _ E nd hr=>(zd_ (zkn_ e.fx.exj_NoOrder e.fx.bin_ShopError (e.m.gk e.k0) (zb_ (za_ 0) (zb_ (zju_ (zf6_ (zfn_ (l:=[100,101,99,107,32])) (zf6_ (znC_ (za_ 1)) (zf6_ (zfn_ (l:=[32,105,115,32,111,117,116,32,111,102,32,111,114,100,101,114,32,97,116,32,112,108,97,99,101,32])) (zf6_ (znC_ (za_ 2)) zop_))))) zh_))) (zd_ (zjN_ e.fx.exj_NoOrder e.fx.exa_NoOrder_deck (za_ 0) (za_ 1)) (zj_ (zjN_ e.fx.exj_NoOrder e.fx.exa_NoOrder_place (za_ 0) (za_ 2)))))) fun c E=>atF [Zd,(Zf tyInt c.1),(Zf tyInt c.2)]
 (ziF_ (zf3_ (zc6_ [100,101,99,107,32]) (zf3_ (zkd_ (zc_ 1 rfl)) (zf3_ (zc6_ [32,105,115,32,111,117,116,32,111,102,32,111,114,100,101,114,32,97,116,32,112,108,97,99,101,32]) (zf3_ (zkd_ (zc_ 2 rfl)) zov_))))))
theorem zd9_ (e:En K mg):zbF_ P w K mg base :=
 zbL_ e.m e.f17 (okC (N:=["field"]) (C:=(csLast Qq0)) (O:=(owL tyInt)) (t:=fun E=>ze4_ K) (g:=fun c=>zbC_ c) 1 0 zp_ (fun _ _ _ _ _ _ E nd hr=>(zj_ (zx_ (zlT_ "list" (zbc_ rfl) (e.m.gb e.b2) (zb_ (zlT_ "range" zgB_ (e.m.gb e.b1) (zb_ (zO_ ix_M (za_ 0) zg_ (fun _ _=>rfl)) (zb_ (zw_ zB_ (zO_ ix_M (za_ 0) zg_ (fun _ _=>rfl)) zg_) zh_))) zh_))))) fun c E=>at_ [(Zf Qq0 c)]
 (za3_ (zS_ zm_) (zgO_ zgR_ (ze_ (zhN_ zjf_ (zf_ (z9_ (i:=0) at_0 (zc_ 0 rfl)) (ze_ (zo_ z1_ (z9_ (i:=1) (at_s zaK_) (zc_ 0 rfl)) (zi_ 1)))))))))
theorem zdN_ (e:En K mg) (g15:zhX_ P w K mg base) (g17:zbF_ P w K mg base) (g16:zaE_ P w K mg base):zbh_ P w K mg base :=
 zbL_ e.m e.f18 (okXU (N:=["deck", "field", "number", "place"]) (C:=(csCons (tyL tyStr) (csCons Qq0 (csLast tyInt)))) (LS:=fun _:Unit=>[Zd,Zd,Zd,Zd]) (t:=fun E=>zex_ K E) (g:=fun c=>zau_ c.1 c.2.1 c.2.2) 3 1 (zl_ (zl_ zp_)) (fun _ _ _ _ _ _ E nd hr=>(zd_ (pst 3 (zk_ g15 (hm hr) (zb_ (za_ 0) (zb_ (zk_ g17 (hm hr) (zb_ (za_ 1) zh_)) zh_)))) (zj_ (zam_ (zG_ zdw_ (za_ 3) zgr_) (zj_ (zjo_ zhZ_ rfl g16 (hm hr) (zb_ (za_ 2) (zb_ (za_ 3) zh_)))) zN_)))) fun c E=>at_ [(Zf (tyL tyStr) c.1),(Zf Qq0 c.2.1),(Zf tyInt c.2.2),Zd]
 (zbM_ (i:=3) rfl (zel_ zm_) (zn_ (zf_ (zc_ 0 rfl) (ze_ (EvO.fr (zJ_ (ze_ (zc_ 1 rfl))))))) fun w2'=>(at_ [(Zf (tyL tyStr) c.1),(Zf Qq0 c.2.1),(Zf tyInt c.2.2),(Zf (tyOpt tyInt) w2')] (s_if (zR_ (zo_ ze2_ (zc_ 3 rfl) zkp_)) (zkq_ (as:=fun c=>[("deck",Av.i c.1),("place",Av.i c.2)]) (zs_ zt_) zn3_ (zf_ (zc_ 2 rfl) (ze_ (zcR_ (zc_ 3 rfl))))) (zq_ (.dead (.dead (.dead (.dead .nil)))))))))
theorem zgY_ (e:En K mg):zbs_ P w K mg base :=
 zbL_ e.m e.f19 (okC (N:=["card", "field"]) (C:=(csCons tyStr (csLast Qq0))) (O:=(owF tyStr)) (t:=fun E=>ziY_ K) (g:=fun c=>zdH_ c.1 c.2) 2 0 (zl_ zp_) (fun _ _ _ _ _ _ E nd hr=>(zj_ (zx_ (zaa_ sl_M (za_ 0) (po_M (zw_ zao_ (zO_ ix_M (za_ 1) zg_ (fun _ _=>rfl)) zg_)) (po_M (zO_ ix_M (za_ 1) zg_ (fun _ _=>rfl))))))) fun c E=>at_ [(Zf tyStr c.1),(Zf Qq0 c.2)]
 (za3_ (zac_ zr_) (EvF.ow (zeH_ (zc_ 0 rfl) (zd0_ (zo_ zaq_ (z9_ (i:=0) at_0 (zc_ 1 rfl)) (zi_ 1))) (zd0_ (z9_ (i:=1) (at_s zaK_) (zc_ 1 rfl)))))))
theorem zdI_ (e:En K mg) (g18:zbh_ P w K mg base) (g19:zbs_ P w K mg base):zch_ P w K mg base :=
 zbL_ e.m e.f20 (okX (N:=["deck", "field", "firsts", "others", "seen", "card", "part"]) (C:=(csCons (tyL tyStr) (csLast Qq0))) (O:=(owF (tyTup (csCons (tyL tyStr) (csLast (tyL tyStr)))))) (t:=fun E=>zez_ K E) (g:=fun c=>zas_ c.1 c.2) 2 5 (zl_ zp_) (fun _ _ _ _ _ _ E nd hr=>(zd_ (zaI_ (zbf_ g18 (hm hr) zaw_ (zb_ (za_ 0) (zb_ (za_ 1) (zb_ zg_ zh_))))) (zd_ (pst 2 (zaD_ zh_)) (zd_ (pst 3 (zaD_ zh_)) (zd_ (pst 4 zhj_) (zd_ (zc3_ PassesOwn.leaving rfl (zej_ (za_ 0)) (pgn 5) (zd_ (pst 6 (zk_ g19 (hm hr) (zb_ (za_ 5) (zb_ (za_ 1) zh_)))) (zd_ (zam_ (zjX_ hr.u60 (za_ 6) (za_ 4)) (zj_ (zaI_ (zka_ zci_ zZ_ zW_ zbr_ (za_ 3) (zb_ (za_ 5) zh_)))) (zj_ (zaI_ (zka_ zci_ zZ_ zW_ zbr_ (za_ 2) (zb_ (za_ 5) zh_))))) (zj_ (zhL_ hr.u60 (za_ 4) (za_ 6) zlC_))))) (zj_ (zx_ (zdt_ (zb_ (za_ 2) (zb_ (za_ 3) zh_))))))))))) fun c E=>at_ [(Zf (tyL tyStr) c.1),(Zf Qq0 c.2),Zd,Zd,Zd,Zd,Zd]
 (zhA_ (zbD_ (zf_ (zc_ 0 rfl) (zf_ (zc_ 1 rfl) (ze_ (zi_ 1))))) fun v6=>(at_ [(Zf (tyL tyStr) c.1),(Zf Qq0 c.2),Zd,Zd,Zd,Zd,Zd] (zad_ (i:=2) rfl (zS_ zr_) (zbv_ tyStr) fun z7=>(at_ [(Zf (tyL tyStr) c.1),(Zf Qq0 c.2),(Zo (owL tyStr) z7),Zd,Zd,Zd,Zd] (zad_ (i:=3) rfl (zS_ zr_) (zbv_ tyStr) fun o8=>(at_ [(Zf (tyL tyStr) c.1),(Zf Qq0 c.2),(Zo (owL tyStr) z7),(Zo (owL tyStr) o8),Zd,Zd,Zd] (zad_ (i:=4) rfl (zmX_ zbu_) (zj6_ kStr tyBl) fun y9=>(at_ [(Zf (tyL tyStr) c.1),(Zf Qq0 c.2),(Zo (owL tyStr) z7),(Zo (owL tyStr) o8),(Zo (owD kStr tyBl) y9),Zd,Zd] (zbE_ (LS:=(fun s10:((List (List Nat))×((List (List Nat))×(List ((List Nat)×Bool))))=>[(Zf (tyL tyStr) c.1),(Zf Qq0 c.2),(Zo (owL tyStr) s10.2.1),(Zo (owL tyStr) s10.1),(Zo (owD kStr tyBl) s10.2.2),Zd,Zd])) (zcq_ (L':=[(Zf (tyL tyStr) c.1),(Zf Qq0 c.2),(Zo (owL tyStr) z7),(Zo (owL tyStr) o8),(Zo (owD kStr tyBl) y9),Zd,Zd]) (S4 (.same (.same (.same .nil)))) (zhg_ (LS:=(fun s10:((List (List Nat))×((List (List Nat))×(List ((List Nat)×Bool))))=>[(Zf (tyL tyStr) c.1),(Zf Qq0 c.2),(Zo (owL tyStr) s10.2.1),(Zo (owL tyStr) s10.1),(Zo (owD kStr tyBl) s10.2.2),Zd,Zd])) (s0:=(o8,z7,y9)) (ei_l (zc_ 0 rfl)) (z0_ 5) fun s10 x11=>at_ [(Zf (tyL tyStr) c.1),(Zf Qq0 c.2),(Zo (owL tyStr) s10.2.1),(Zo (owL tyStr) s10.1),(Zo (owD kStr tyBl) s10.2.2),(Zf tyStr x11),Zd] (zbM_ (i:=6) rfl zr_ (zn_ (zf_ (zc_ 5 rfl) (ze_ (zc_ 1 rfl)))) fun p12=>(at_ [(Zf (tyL tyStr) c.1),(Zf Qq0 c.2),(Zo (owL tyStr) s10.2.1),(Zo (owL tyStr) s10.1),(Zo (owD kStr tyBl) s10.2.2),(Zf tyStr x11),(Zf tyStr p12)] (zbE_ (LS:=(fun s19:((List (List Nat))×(List (List Nat)))=>[(Zf (tyL tyStr) c.1),(Zf Qq0 c.2),(Zo (owL tyStr) s19.2),(Zo (owL tyStr) s19.1),(Zo (owD kStr tyBl) s10.2.2),(Zf tyStr x11),(Zf tyStr p12)])) (s_if (zR_ (zkV_ false (zc_ 6 rfl) (znp_ 4 rfl))) (zdY_ (zcE_ (i:=3) rfl zr_ (zc_ 5 rfl) fun a20=>(at_ [(Zf (tyL tyStr) c.1),(Zf Qq0 c.2),(Zo (owL tyStr) s10.2.1),(Zo (owL tyStr) (s10.1++[a20])),(Zo (owD kStr tyBl) s10.2.2),(Zf tyStr x11),(Zf tyStr p12)] (zq_ (S4 (.same (.same (.same .nil)))))))) (zdY_ (zcE_ (i:=2) rfl zr_ (zc_ 5 rfl) fun a21=>(at_ [(Zf (tyL tyStr) c.1),(Zf Qq0 c.2),(Zo (owL tyStr) (s10.2.1++[a21])),(Zo (owL tyStr) s10.1),(Zo (owD kStr tyBl) s10.2.2),(Zf tyStr x11),(Zf tyStr p12)] (zq_ (S4 (.same (.same (.same .nil))))))))) fun s19=>(at_ [(Zf (tyL tyStr) c.1),(Zf Qq0 c.2),(Zo (owL tyStr) s19.2),(Zo (owL tyStr) s19.1),(Zo (owD kStr tyBl) s10.2.2),(Zf tyStr x11),(Zf tyStr p12)] (zdY_ (zmE_ (i:=4) rfl zbu_ zr_ (zlA_ true) (zc_ 6 rfl) fun a22 y23=>(at_ [(Zf (tyL tyStr) c.1),(Zf Qq0 c.2),(Zo (owL tyStr) s19.2),(Zo (owL tyStr) s19.1),(Zo (owD kStr tyBl) (putA s10.2.2 y23 a22)),(Zf tyStr x11),(Zf tyStr p12)] (zq_ (S4 (.same (.dead (.dead .nil)))))))))))))) fun s10=>(at_ [(Zf (tyL tyStr) c.1),(Zf Qq0 c.2),(Zo (owL tyStr) s10.2.1),(Zo (owL tyStr) s10.1),(Zo (owD kStr tyBl) s10.2.2),Zd,Zd] (zfK_ (i:=2) rfl (at_ [(Zf (tyL tyStr) c.1),(Zf Qq0 c.2),(Zf (tyL tyStr) s10.2.1),(Zo (owL tyStr) s10.1),(Zo (owD kStr tyBl) s10.2.2),Zd,Zd] (zfK_ (i:=3) rfl (at_ [(Zf (tyL tyStr) c.1),(Zf Qq0 c.2),(Zf (tyL tyStr) s10.2.1),(Zf (tyL tyStr) s10.1),(Zo (owD kStr tyBl) s10.2.2),Zd,Zd] (zk0_ (EvF.ow (zdy_ (zs_ zt_) (zf_ (zc_ 2 rfl) (ze_ (zc_ 3 rfl)))))))))))))))))))))
theorem zgG_ (e:En K mg):zcN_ P w K mg base :=
 zbL_ e.m e.f21 (okC (N:=["field"]) (C:=(csLast Qq0)) (O:=(owF tyInt)) (t:=fun E=>zhv_ K) (g:=fun c=>zcB_ c) 1 0 zp_ (fun _ _ _ _ _ _ E nd hr=>(zj_ (zx_ (zw_ zB_ (zw_ zao_ (zO_ ix_M (za_ 0) zg_ (fun _ _=>rfl)) (zO_ ix_M (za_ 0) zg_ (fun _ _=>rfl))) zg_)))) fun c E=>at_ [(Zf Qq0 c)]
 (za3_ (zac_ zm_) (EvF.ow (zo_ z1_ (zo_ zaq_ (z9_ (i:=1) (at_s zaK_) (zc_ 0 rfl)) (z9_ (i:=0) at_0 (zc_ 0 rfl))) (zi_ 1)))))
theorem zdP_ (e:En K mg) (g21:zcN_ P w K mg base) (g18:zbh_ P w K mg base):zbd_ P w K mg base :=
 zbL_ e.m e.f22 (okXU (N:=["one", "field", "other", "other_field"]) (C:=Qq1) (LS:=fun _:Unit=>[Zd,Zd,Zd,Zd]) (t:=fun E=>zd1_ K E) (g:=fun c=>zat_ c.1 c.2.1 c.2.2.1 c.2.2.2) 4 0 (zl_ (zl_ (zl_ zp_))) (fun _ _ _ _ _ _ E nd hr=>(zd_ (zam_ (zG_ (zgl_ hr.u60) (zk_ g21 (hm hr) (zb_ (za_ 1) zh_)) (zk_ g21 (hm hr) (zb_ (za_ 3) zh_))) (zj_ (zk7_ zhZ_ rfl e.fx.exc_NoField (e.m.gk e.k2) (zb_ (zfn_ (l:=[116,119,111,32,100,101,99,107,115,32,97,114,101,32,112,117,116,32,116,111,103,101,116,104,101,114,32,98,121,32,102,105,101,108,100,115,32,111,102,32,111,110,101,32,119,105,100,116,104])) zh_))) zN_) (zd_ (zaI_ (zbf_ g18 (hm hr) zaw_ (zb_ (za_ 2) (zb_ (za_ 3) (zb_ zg_ zh_))))) (zj_ (zaI_ (zbf_ g18 (hm hr) zaw_ (zb_ (za_ 0) (zb_ (za_ 1) (zb_ zg_ zh_))))))))) fun c E=>at_ [(Zf (tyL tyStr) c.1),(Zf Qq0 c.2.1),(Zf (tyL tyStr) c.2.2.1),(Zf Qq0 c.2.2.2)]
 (zbE_ (LS:=(fun _:Unit=>[(Zf (tyL tyStr) c.1),(Zf Qq0 c.2.1),(Zf (tyL tyStr) c.2.2.1),(Zf Qq0 c.2.2.2)])) (s_if (zR_ (zo_ zm6_ (zn_ (ze_ (zc_ 1 rfl))) (zn_ (ze_ (zc_ 3 rfl))))) (zmB_ zt_ (ze_ (zc6_ [116,119,111,32,100,101,99,107,115,32,97,114,101,32,112,117,116,32,116,111,103,101,116,104,101,114,32,98,121,32,102,105,101,108,100,115,32,111,102,32,111,110,101,32,119,105,100,116,104]))) (zq_ (S4 .nil))) fun _=>(at_ [(Zf (tyL tyStr) c.1),(Zf Qq0 c.2.1),(Zf (tyL tyStr) c.2.2.1),(Zf Qq0 c.2.2.2)] (zhA_ (zbD_ (zf_ (zc_ 2 rfl) (zf_ (zc_ 3 rfl) (ze_ (zi_ 2))))) fun a12=>(at_ [(Zf (tyL tyStr) c.1),(Zf Qq0 c.2.1),(Zf (tyL tyStr) c.2.2.1),(Zf Qq0 c.2.2.2)] (zdY_ (zhA_ (zbD_ (zf_ (zc_ 0 rfl) (zf_ (zc_ 1 rfl) (ze_ (zi_ 1))))) fun a18=>(at_ [(Zf (tyL tyStr) c.1),(Zf Qq0 c.2.1),(Zf (tyL tyStr) c.2.2.1),(Zf Qq0 c.2.2.2)] (zq_ (.dead (.dead (.dead (.dead .nil)))))))))))))
theorem zgE_ (e:En K mg) (g19:zbs_ P w K mg base):zey_ P w K mg base :=
 zbL_ e.m e.f23 (okC (N:=["deck", "field", "parts", "card"]) (C:=(csCons (tyL tyStr) (csLast Qq0))) (O:=(owF (tyD kStr tyBl))) (t:=fun E=>zhn_ K) (g:=fun c=>zc5_ c.1 c.2) 2 2 (zl_ zp_) (fun _ _ _ _ _ _ E nd hr=>(zd_ (pst 2 zhj_) (zd_ (zc3_ PassesOwn.never rfl (zej_ (za_ 0)) (pgn 3) (zj_ (zhL_ hr.u60 (za_ 2) (zk_ g19 (hm hr) (zb_ (za_ 3) (zb_ (za_ 1) zh_))) zlC_))) (zj_ (zx_ (za_ 2)))))) fun c E=>at_ [(Zf (tyL tyStr) c.1),(Zf Qq0 c.2),Zd,Zd]
 (zad_ (i:=2) rfl (zmX_ zbu_) (zj6_ kStr tyBl) fun y1'=>(at_ [(Zf (tyL tyStr) c.1),(Zf Qq0 c.2),(Zo (owD kStr tyBl) y1'),Zd] (zbE_ (LS:=(fun s_2:(List ((List Nat)×Bool))=>[(Zf (tyL tyStr) c.1),(Zf Qq0 c.2),(Zo (owD kStr tyBl) s_2),Zd])) (zcq_ (L':=[(Zf (tyL tyStr) c.1),(Zf Qq0 c.2),(Zo (owD kStr tyBl) y1'),Zd]) (S4 .nil) (zhg_ (LS:=(fun s_2:(List ((List Nat)×Bool))=>[(Zf (tyL tyStr) c.1),(Zf Qq0 c.2),(Zo (owD kStr tyBl) s_2),Zd])) (s0:=y1') (ei_l (zc_ 0 rfl)) (z0_ 3) fun s_2 x_3=>at_ [(Zf (tyL tyStr) c.1),(Zf Qq0 c.2),(Zo (owD kStr tyBl) s_2),(Zf tyStr x_3)] (zdY_ (zmE_ (i:=2) rfl zbu_ zr_ (zlA_ true) (zn_ (zf_ (zc_ 3 rfl) (ze_ (zc_ 1 rfl)))) fun a7 y8=>(at_ [(Zf (tyL tyStr) c.1),(Zf Qq0 c.2),(Zo (owD kStr tyBl) (putA s_2 y8 a7)),(Zf tyStr x_3)] (zq_ (.same (.same (.same (.dead .nil)))))))))) fun s_2=>(at_ [(Zf (tyL tyStr) c.1),(Zf Qq0 c.2),(Zo (owD kStr tyBl) s_2),Zd] (zfK_ (i:=2) rfl (at_ [(Zf (tyL tyStr) c.1),(Zf Qq0 c.2),(Zf (tyD kStr tyBl) s_2),Zd] (zk0_ (EvF.ow (zc_ 2 rfl))))))))))
theorem zeE_ (e:En K mg) (g19:zbs_ P w K mg base):zcQ_ P w K mg base :=
 zbL_ e.m e.f24 (okC (N:=["deck", "field", "parts"]) (C:=(csCons (tyL tyStr) (csCons Qq0 (csLast (tyD kStr tyBl))))) (O:=(owL tyStr)) (t:=fun E=>zft_ K) (g:=fun c=>zbH_ c.1 c.2.1 c.2.2) 3 0 (zl_ (zl_ zp_)) (fun _ _ _ _ _ _ E nd hr=>(zj_ (zx_ (zdZ_ (cl:=_) (lv:=["card"]) (fr:=[("parts",2),("field",1)]) rfl (csm rfl (frc (frc fr0))) (zej_ (za_ 0)) (fun _ _ _ _=>(pgc 0)) (fun _ _ _ _=>(zjR_ (zjX_ hr.u60 (zk_ g19 (hm hr) (zb_ (za_ 0) (zb_ (za_ 2) zh_))) (za_ 1)))) (fun _ _ _ _=>(za_ 0)))))) fun c E=>at_ [(Zf (tyL tyStr) c.1),(Zf Qq0 c.2.1),(Zf (tyD kStr tyBl) c.2.2)]
 (za3_ (zS_ zr_) (zds_ (ei_l (zc_ 0 rfl)) (z0_ 0) (fun _=>dead1) (fun x_1=>(zR_ (zkV_ false (zn_ (zf_ (zc_ 0 rfl) (ze_ (zc_ 2 rfl)))) (zc_ 1 rfl)))) (fun x_1=>(zc_ 0 rfl)))))
theorem zcK_ (e:En K mg) (g19:zbs_ P w K mg base):zbz_ P w K mg base :=
 zbL_ e.m e.f25 (okC (N:=["deck", "field", "parts"]) (C:=(csCons (tyL tyStr) (csCons Qq0 (csLast (tyD kStr tyBl))))) (O:=(owL tyStr)) (t:=fun E=>zda_ K) (g:=fun c=>zaC_ c.1 c.2.1 c.2.2) 3 0 (zl_ (zl_ zp_)) (fun _ _ _ _ _ _ E nd hr=>(zj_ (zx_ (zdZ_ (cl:=_) (lv:=["card"]) (fr:=[("parts",2),("field",1)]) rfl (csm rfl (frc (frc fr0))) (zej_ (za_ 0)) (fun _ _ _ _=>(pgc 0)) (fun _ _ _ _=>(zjR_ (zg8_ hr.u60 (zk_ g19 (hm hr) (zb_ (za_ 0) (zb_ (za_ 2) zh_))) (za_ 1)))) (fun _ _ _ _=>(za_ 0)))))) fun c E=>at_ [(Zf (tyL tyStr) c.1),(Zf Qq0 c.2.1),(Zf (tyD kStr tyBl) c.2.2)]
 (za3_ (zS_ zr_) (zds_ (ei_l (zc_ 0 rfl)) (z0_ 0) (fun _=>dead1) (fun x_1=>(zR_ (zkV_ true (zn_ (zf_ (zc_ 0 rfl) (ze_ (zc_ 2 rfl)))) (zc_ 1 rfl)))) (fun x_1=>(zc_ 0 rfl)))))
theorem zes_ (e:En K mg) (g22:zbd_ P w K mg base) (g23:zey_ P w K mg base) (g25:zbz_ P w K mg base) (g24:zcQ_ P w K mg base):zc7_ P w K mg base :=
 zbL_ e.m e.f26 (okX (N:=["one", "field", "other", "other_field", "parts", "other_parts"]) (C:=Qq1) (O:=(owF (tyTup (csCons (tyL tyStr) (csCons (tyL tyStr) (csCons (tyL tyStr) (csLast (tyL tyStr)))))))) (t:=fun E=>zfb_ K E) (g:=fun c=>zaP_ c.1 c.2.1 c.2.2.1 c.2.2.2) 4 2 (zl_ (zl_ (zl_ zp_))) (fun _ _ _ _ _ _ E nd hr=>(zd_ (zaI_ (zbf_ g22 (hm hr) zaw_ (zb_ (za_ 0) (zb_ (za_ 1) (zb_ (za_ 2) (zb_ (za_ 3) zh_)))))) (zd_ (pst 4 (zk_ g23 (hm hr) (zb_ (za_ 0) (zb_ (za_ 1) zh_)))) (zd_ (pst 5 (zk_ g23 (hm hr) (zb_ (za_ 2) (zb_ (za_ 3) zh_)))) (zj_ (zx_ (zdt_ (zb_ (zk_ g24 (hm hr) (zb_ (za_ 0) (zb_ (za_ 1) (zb_ (za_ 5) zh_)))) (zb_ (zk_ g25 (hm hr) (zb_ (za_ 0) (zb_ (za_ 1) (zb_ (za_ 5) zh_)))) (zb_ (zk_ g24 (hm hr) (zb_ (za_ 2) (zb_ (za_ 3) (zb_ (za_ 4) zh_)))) (zb_ (zk_ g25 (hm hr) (zb_ (za_ 2) (zb_ (za_ 3) (zb_ (za_ 4) zh_)))) zh_))))))))))) fun c E=>at_ [(Zf (tyL tyStr) c.1),(Zf Qq0 c.2.1),(Zf (tyL tyStr) c.2.2.1),(Zf Qq0 c.2.2.2),Zd,Zd]
 (zhA_ (zbD_ (zf_ (zc_ 0 rfl) (zf_ (zc_ 1 rfl) (zf_ (zc_ 2 rfl) (ze_ (zc_ 3 rfl)))))) fun a8=>(at_ [(Zf (tyL tyStr) c.1),(Zf Qq0 c.2.1),(Zf (tyL tyStr) c.2.2.1),(Zf Qq0 c.2.2.2),Zd,Zd] (zmC_ (i:=4) rfl (zn_ (zf_ (zc_ 0 rfl) (ze_ (zc_ 1 rfl)))) fun p9=>(at_ [(Zf (tyL tyStr) c.1),(Zf Qq0 c.2.1),(Zf (tyL tyStr) c.2.2.1),(Zf Qq0 c.2.2.2),(Zf (tyD kStr tyBl) p9),Zd] (zmC_ (i:=5) rfl (zn_ (zf_ (zc_ 2 rfl) (ze_ (zc_ 3 rfl)))) fun o16=>(at_ [(Zf (tyL tyStr) c.1),(Zf Qq0 c.2.1),(Zf (tyL tyStr) c.2.2.1),(Zf Qq0 c.2.2.2),(Zf (tyD kStr tyBl) p9),(Zf (tyD kStr tyBl) o16)] (zk0_ (EvF.ow (zdy_ (zs_ (zs_ (zs_ zt_))) (zf_ (EvO.fr (zJ_ (zf_ (zc_ 0 rfl) (zf_ (zc_ 1 rfl) (ze_ (zc_ 5 rfl)))))) (zf_ (EvO.fr (zJ_ (zf_ (zc_ 0 rfl) (zf_ (zc_ 1 rfl) (ze_ (zc_ 5 rfl)))))) (zf_ (EvO.fr (zJ_ (zf_ (zc_ 2 rfl) (zf_ (zc_ 3 rfl) (ze_ (zc_ 4 rfl)))))) (ze_ (EvO.fr (zJ_ (zf_ (zc_ 2 rfl) (zf_ (zc_ 3 rfl) (ze_ (zc_ 4 rfl))))))))))))))))))))
theorem zeB_ (e:En K mg) (g22:zbd_ P w K mg base) (g17:zbF_ P w K mg base) (g21:zcN_ P w K mg base) (g19:zbs_ P w K mg base) (g14:za7_ P w K mg base):zcP_ P w K mg base :=
 zbL_ e.m e.f27 (okX (N:=["one", "field", "other", "other_field", "places", "deck", "taken", "card", "part"]) (C:=Qq1) (O:=(owL tyStr)) (t:=fun E=>ze1_ K E) (g:=fun c=>zaS_ c.1 c.2.1 c.2.2.1 c.2.2.2) 4 5 (zl_ (zl_ (zl_ zp_))) (fun _ _ _ _ _ _ E nd hr=>(zd_ (zaI_ (zbf_ g22 (hm hr) zaw_ (zb_ (za_ 0) (zb_ (za_ 1) (zb_ (za_ 2) (zb_ (za_ 3) zh_)))))) (zd_ (pst 4 (zk_ g17 (hm hr) (zb_ (zdt_ (zb_ zg_ (zb_ (zk_ g21 (hm hr) (zb_ (za_ 1) zh_)) zh_))) zh_))) (zd_ (pst 5 (zaD_ zh_)) (zd_ (pst 6 zg_) (zd_ (zc3_ PassesOwn.leaving rfl (zej_ (za_ 0)) (pgn 7) (zd_ (pst 8 (zk_ g19 (hm hr) (zb_ (za_ 7) (zb_ (za_ 1) zh_)))) (zd_ (zlg_ PassesOwn.leaving (PW.pt (zeN_ (zG_ (zff_ hr.u60) (za_ 6) (zcx_ z7_ (e.m.gb e.b0) (zb_ (za_ 2) zh_))) (zeU_ (zd5_ (zk_ g14 (hm hr) (zb_ (zk_ g19 (hm hr) (zb_ (zO_ ix_M (za_ 2) (za_ 6) (fun _ _=>rfl)) (zb_ (za_ 3) zh_))) (zb_ (za_ 8) (zb_ (za_ 4) zh_)))))))) (zd_ (zaI_ (zka_ zci_ zZ_ zW_ zbr_ (za_ 5) (zb_ (zO_ ix_M (za_ 2) (za_ 6) (fun _ _=>rfl)) zh_))) (zj_ (pst 6 (zw_ zB_ (za_ 6) zg_))))) (zj_ (zaI_ (zka_ zci_ zZ_ zW_ zbr_ (za_ 5) (zb_ (za_ 7) zh_))))))) (zj_ (zx_ (zw_ zB_ (za_ 5) (zaa_ sl_M (za_ 2) (po_M (za_ 6)) zcD_)))))))))) fun c E=>at_ [(Zf (tyL tyStr) c.1),(Zf Qq0 c.2.1),(Zf (tyL tyStr) c.2.2.1),(Zf Qq0 c.2.2.2),Zd,Zd,Zd,Zd,Zd]
 (zhA_ (zbD_ (zf_ (zc_ 0 rfl) (zf_ (zc_ 1 rfl) (zf_ (zc_ 2 rfl) (ze_ (zc_ 3 rfl)))))) fun a8=>(at_ [(Zf (tyL tyStr) c.1),(Zf Qq0 c.2.1),(Zf (tyL tyStr) c.2.2.1),(Zf Qq0 c.2.2.2),Zd,Zd,Zd,Zd,Zd] (zad_ (i:=4) rfl (zS_ zm_) (zJ_ (ze_ (zdy_ (zs_ zt_) (zf_ (zi_ 1) (ze_ (zn_ (ze_ (zc_ 1 rfl)))))))) fun w9=>zfK_ (i:=4) rfl (at_ [(Zf (tyL tyStr) c.1),(Zf Qq0 c.2.1),(Zf (tyL tyStr) c.2.2.1),(Zf Qq0 c.2.2.2),(Zf (tyL tyInt) w9),Zd,Zd,Zd,Zd] (zad_ (i:=5) rfl (zS_ zr_) (zbv_ tyStr) fun d14=>(at_ [(Zf (tyL tyStr) c.1),(Zf Qq0 c.2.1),(Zf (tyL tyStr) c.2.2.1),(Zf Qq0 c.2.2.2),(Zf (tyL tyInt) w9),(Zo (owL tyStr) d14),Zd,Zd,Zd] (zbM_ (i:=6) rfl zm_ (zi_ 0) fun t15=>(at_ [(Zf (tyL tyStr) c.1),(Zf Qq0 c.2.1),(Zf (tyL tyStr) c.2.2.1),(Zf Qq0 c.2.2.2),(Zf (tyL tyInt) w9),(Zo (owL tyStr) d14),(Zf tyInt t15),Zd,Zd] (zbE_ (LS:=(fun s16:(Int×(List (List Nat)))=>[(Zf (tyL tyStr) c.1),(Zf Qq0 c.2.1),(Zf (tyL tyStr) c.2.2.1),(Zf Qq0 c.2.2.2),(Zf (tyL tyInt) w9),(Zo (owL tyStr) s16.2),(Zf tyInt s16.1),Zd,Zd])) (zcq_ (L':=[(Zf (tyL tyStr) c.1),(Zf Qq0 c.2.1),(Zf (tyL tyStr) c.2.2.1),(Zf Qq0 c.2.2.2),(Zf (tyL tyInt) w9),(Zo (owL tyStr) d14),(Zf tyInt t15),Zd,Zd]) (S4 (S4 (.same .nil))) (zhg_ (LS:=(fun s16:(Int×(List (List Nat)))=>[(Zf (tyL tyStr) c.1),(Zf Qq0 c.2.1),(Zf (tyL tyStr) c.2.2.1),(Zf Qq0 c.2.2.2),(Zf (tyL tyInt) w9),(Zo (owL tyStr) s16.2),(Zf tyInt s16.1),Zd,Zd])) (s0:=(t15,d14)) (ei_l (zc_ 0 rfl)) (z0_ 7) fun s16 x17=>at_ [(Zf (tyL tyStr) c.1),(Zf Qq0 c.2.1),(Zf (tyL tyStr) c.2.2.1),(Zf Qq0 c.2.2.2),(Zf (tyL tyInt) w9),(Zo (owL tyStr) s16.2),(Zf tyInt s16.1),(Zf tyStr x17),Zd] (zbM_ (i:=8) rfl zr_ (zn_ (zf_ (zc_ 7 rfl) (ze_ (zc_ 1 rfl)))) fun p18=>(at_ [(Zf (tyL tyStr) c.1),(Zf Qq0 c.2.1),(Zf (tyL tyStr) c.2.2.1),(Zf Qq0 c.2.2.2),(Zf (tyL tyInt) w9),(Zo (owL tyStr) s16.2),(Zf tyInt s16.1),(Zf tyStr x17),(Zf tyStr p18)] (zbE_ (LS:=(fun s22:((List (List Nat))×Int)=>[(Zf (tyL tyStr) c.1),(Zf Qq0 c.2.1),(Zf (tyL tyStr) c.2.2.1),(Zf Qq0 c.2.2.2),(Zf (tyL tyInt) w9),(Zo (owL tyStr) s22.1),(Zf tyInt s22.2),(Zf tyStr x17),(Zf tyStr p18)])) (zcq_ (L':=[(Zf (tyL tyStr) c.1),(Zf Qq0 c.2.1),(Zf (tyL tyStr) c.2.2.1),(Zf Qq0 c.2.2.2),(Zf (tyL tyInt) w9),(Zo (owL tyStr) s16.2),(Zf tyInt s16.1),(Zf tyStr x17),(Zf tyStr p18)]) (S4 (S4 (.same .nil))) (zl5_ (LS:=(fun s22:((List (List Nat))×Int)=>[(Zf (tyL tyStr) c.1),(Zf Qq0 c.2.1),(Zf (tyL tyStr) c.2.2.1),(Zf Qq0 c.2.2.2),(Zf (tyL tyInt) w9),(Zo (owL tyStr) s22.1),(Zf tyInt s22.2),(Zf tyStr x17),(Zf tyStr p18)])) (s0:=(s16.2,s16.1)) fuelW (fun s22=>(zgT_ (zR_ (zo_ zeA_ (zc_ 6 rfl) (zhN_ zcl_ (ze_ (zc_ 2 rfl))))) (zR_ (zn_ (zf_ (zn_ (zf_ (zo_ zQ_ (zc_ 2 rfl) (zc_ 6 rfl)) (ze_ (zc_ 3 rfl)))) (zf_ (zc_ 8 rfl) (ze_ (zc_ 4 rfl)))))))) fun s22=>at_ [(Zf (tyL tyStr) c.1),(Zf Qq0 c.2.1),(Zf (tyL tyStr) c.2.2.1),(Zf Qq0 c.2.2.2),(Zf (tyL tyInt) w9),(Zo (owL tyStr) s22.1),(Zf tyInt s22.2),(Zf tyStr x17),(Zf tyStr p18)] (zcE_ (i:=5) rfl zr_ (zo_ zQ_ (zc_ 2 rfl) (zc_ 6 rfl)) fun a39=>(at_ [(Zf (tyL tyStr) c.1),(Zf Qq0 c.2.1),(Zf (tyL tyStr) c.2.2.1),(Zf Qq0 c.2.2.2),(Zf (tyL tyInt) w9),(Zo (owL tyStr) (s22.1++[a39])),(Zf tyInt s22.2),(Zf tyStr x17),(Zf tyStr p18)] (zdY_ (zbM_ (i:=6) rfl zm_ (zo_ z1_ (zc_ 6 rfl) (zi_ 1)) fun t40=>(at_ [(Zf (tyL tyStr) c.1),(Zf Qq0 c.2.1),(Zf (tyL tyStr) c.2.2.1),(Zf Qq0 c.2.2.2),(Zf (tyL tyInt) w9),(Zo (owL tyStr) (s22.1++[a39])),(Zf tyInt t40),(Zf tyStr x17),(Zf tyStr p18)] (zq_ (S4 (S4 (.same .nil))))))))))) fun s22=>(at_ [(Zf (tyL tyStr) c.1),(Zf Qq0 c.2.1),(Zf (tyL tyStr) c.2.2.1),(Zf Qq0 c.2.2.2),(Zf (tyL tyInt) w9),(Zo (owL tyStr) s22.1),(Zf tyInt s22.2),(Zf tyStr x17),(Zf tyStr p18)] (zdY_ (zcE_ (i:=5) rfl zr_ (zc_ 7 rfl) fun a43=>(at_ [(Zf (tyL tyStr) c.1),(Zf Qq0 c.2.1),(Zf (tyL tyStr) c.2.2.1),(Zf Qq0 c.2.2.2),(Zf (tyL tyInt) w9),(Zo (owL tyStr) (s22.1++[a43])),(Zf tyInt s22.2),(Zf tyStr x17),(Zf tyStr p18)] (zq_ (S4 (.same (.same (.same (.dead (.dead .nil)))))))))))))))) fun s16=>(at_ [(Zf (tyL tyStr) c.1),(Zf Qq0 c.2.1),(Zf (tyL tyStr) c.2.2.1),(Zf Qq0 c.2.2.2),(Zf (tyL tyInt) w9),(Zo (owL tyStr) s16.2),(Zf tyInt s16.1),Zd,Zd] (za3_ (zS_ zr_) (ziJ_ zhb_ (za1_ 5 rfl) (EvO.fr (zkt_ (zc_ 2 rfl) (zd0_ (zc_ 6 rfl)) zkD_)))))))))))))))
theorem zfA_ (e:En K mg) (g26:zc7_ P w K mg base) (g27:zcP_ P w K mg base) (g20:zch_ P w K mg base):zdf_ P w K mg base :=
 zbL_ e.m e.f28 (okX (N:=Qn0) (C:=(csCons tyInt Qq1)) (O:=(owF tyTop)) (t:=fun E=>zgM_ K E) (g:=fun c=>zaN_ c.1 c.2.1 c.2.2.1 c.2.2.2.1 c.2.2.2.2) 5 0 (zl_ (zl_ (zl_ (zl_ zp_)))) (fun _ _ _ _ _ _ E nd hr=>(zd_ (zam_ (zG_ (zdG_ hr.u60) (za_ 0) zg_) (zj_ (zx_ (zbf_ g26 (hm hr) zaw_ (zb_ (za_ 1) (zb_ (za_ 2) (zb_ (za_ 3) (zb_ (za_ 4) zh_))))))) zN_) (zd_ (zam_ (zG_ (zdG_ hr.u60) (za_ 0) zg_) (zj_ (zx_ (zbf_ g27 (hm hr) zaw_ (zb_ (za_ 1) (zb_ (za_ 2) (zb_ (za_ 3) (zb_ (za_ 4) zh_))))))) zN_) (zj_ (zx_ (zbf_ g20 (hm hr) zaw_ (zb_ (za_ 1) (zb_ (za_ 2) zh_)))))))) fun c E=>at_ [(Zf tyInt c.1),(Zf (tyL tyStr) c.2.1),(Zf Qq0 c.2.2.1),(Zf (tyL tyStr) c.2.2.2.1),(Zf Qq0 c.2.2.2.2)]
 (zbE_ (LS:=(fun _:Unit=>[(Zf tyInt c.1),(Zf (tyL tyStr) c.2.1),(Zf Qq0 c.2.2.1),(Zf (tyL tyStr) c.2.2.2.1),(Zf Qq0 c.2.2.2.2)])) (s_if (zR_ (zo_ zdM_ (zc_ 0 rfl) (zi_ 0))) (za3_ (zac_ ziq_) (EvF.ow (zkG_ (zbD_ (zf_ (zc_ 1 rfl) (zf_ (zc_ 2 rfl) (zf_ (zc_ 3 rfl) (ze_ (zc_ 4 rfl))))))))) (zq_ (S4 (.same .nil)))) fun _=>(at_ [(Zf tyInt c.1),(Zf (tyL tyStr) c.2.1),(Zf Qq0 c.2.2.1),(Zf (tyL tyStr) c.2.2.2.1),(Zf Qq0 c.2.2.2.2)] (zbE_ (LS:=(fun _:Unit=>[(Zf tyInt c.1),(Zf (tyL tyStr) c.2.1),(Zf Qq0 c.2.2.1),(Zf (tyL tyStr) c.2.2.2.1),(Zf Qq0 c.2.2.2.2)])) (s_if (zR_ (zo_ zdM_ (zc_ 0 rfl) (zi_ 1))) (za3_ (zac_ ziq_) (EvF.ow (zkG_ (EvO.fr (zj2_ (zf_ (zc_ 1 rfl) (zf_ (zc_ 2 rfl) (zf_ (zc_ 3 rfl) (ze_ (zc_ 4 rfl)))))))))) (zq_ (S4 (.same .nil)))) fun _=>(at_ [(Zf tyInt c.1),(Zf (tyL tyStr) c.2.1),(Zf Qq0 c.2.2.1),(Zf (tyL tyStr) c.2.2.2.1),(Zf Qq0 c.2.2.2.2)] (za3_ (zac_ ziq_) (EvF.ow (zkG_ (zbD_ (zf_ (zc_ 1 rfl) (ze_ (zc_ 2 rfl))))))))))))
theorem zfc_ (e:En K mg):zdq_ P w K mg base :=
 gn_of e.m e.f29 (okN (N:=["_law_e", "_law_some"]) (C:=(csLast (tyXc K))) (O:=(owF tyBl)) (t:=fun E=>zgN_ K) (g:=fun c=>zbo_ c) 1 1 zp_ (fun _ _ _ _ _ _ E nd hr=>(zd_ (pst 1 (zaD_ (zb_ (zcx_ zY_ (e.m.gb e.b4) (zb_ (za_ 0) (zb_ (zgP_ (e.m.gkc e.k6)) zh_))) (zb_ (zcx_ zY_ (e.m.gb e.b4) (zb_ (za_ 0) (zb_ (zgP_ (e.m.gkc e.k5)) zh_))) (zb_ (zcx_ zY_ (e.m.gb e.b4) (zb_ (za_ 0) (zb_ (zgP_ (e.m.gkc e.k4)) zh_))) (zb_ (zcx_ zY_ (e.m.gb e.b4) (zb_ (za_ 0) (zb_ (zgP_ (e.m.gkc e.k3)) zh_))) zh_)))))) (zd_ (pst 1 (zw_ zB_ (za_ 1) (zaD_ (zb_ (zcx_ zY_ (e.m.gb e.b4) (zb_ (za_ 0) (zb_ (zgP_ (e.m.gkc e.k9)) zh_))) (zb_ (zcx_ zY_ (e.m.gb e.b4) (zb_ (za_ 0) (zb_ (zgP_ (e.m.gkc e.k8)) zh_))) (zb_ (zcx_ zY_ (e.m.gb e.b4) (zb_ (za_ 0) (zb_ (zgP_ (e.m.gkc e.k7)) zh_))) (zb_ (zhK_ (zcx_ zY_ (e.m.gb e.b4) (zb_ (za_ 0) (zb_ (znT_ "ValueError" (e.m.gb e.b5)) zh_)))) zh_))))))) (zj_ (zx_ (zfS_ ziv_ zlC_ (za_ 1))))))) fun c E=>at_ [(Zf (tyXc K) c),Zd]
 (zad_ (i:=1) rfl (zS_ zbu_) (zdK_ (zs_ (zs_ (zs_ zt_))) (zab_ (zab_ (zab_ zaU_))) (zf_ (zbl_ (zar_ e.fx.isa_NoField_NoCard (zar_ e.fx.isa_NoOrder_NoCard zan_)) rfl (zc_ 0 rfl)) (zf_ (zbl_ (zar_ e.fx.isa_NoField_NoBoard (zar_ e.fx.isa_NoOrder_NoBoard zan_)) rfl (zc_ 0 rfl)) (zf_ (zbl_ (zar_ e.fx.isa_NoField_Meet (zar_ e.fx.isa_NoOrder_Meet zan_)) rfl (zc_ 0 rfl)) (ze_ (zbl_ (zar_ e.fx.isa_NoField_NoAsking (zar_ e.fx.isa_NoOrder_NoAsking zan_)) rfl (zc_ 0 rfl))))))) fun r1'=>zfK_ (i:=1) rfl (at_ [(Zf (tyXc K) c),(Zf (tyL tyBl) r1')] (zad_ (i:=1) rfl (zS_ zbu_) (ziJ_ zhb_ (zc_ 1 rfl) (EvO.fr (zdK_ (zs_ (zs_ (zs_ zt_))) (zab_ (zab_ (zab_ zaU_))) (zf_ (zbl_ (zar_ e.fx.isa_NoField_NoTray (zar_ e.fx.isa_NoOrder_NoTray zan_)) rfl (zc_ 0 rfl)) (zf_ (zbl_ (zar_ e.fx.isa_NoField_NoPlan (zar_ e.fx.isa_NoOrder_NoPlan zan_)) rfl (zc_ 0 rfl)) (zf_ (zbl_ (zar_ e.fx.isa_NoField_NoRow (zar_ e.fx.isa_NoOrder_NoRow zan_)) rfl (zc_ 0 rfl)) (ze_ (zkw_ (zbl_ (zar_ e.fx.isa_NoField_ValueError (zar_ e.fx.isa_NoOrder_ValueError zan_)) rfl (zc_ 0 rfl)))))))))) fun v13=>zfK_ (i:=1) rfl (at_ [(Zf (tyXc K) c),(Zf (tyL tyBl) v13)] (za3_ (zac_ zbu_) (EvF.ow (zo_ (zmZ_ zoK_) (zlA_ true) (zc_ 1 rfl)))))))))
theorem zfm_ (e:En K mg):zdr_ P w K mg base :=
 zbL_ e.m e.f30 (okC (N:=["_law_found"]) (C:=(csLast tyInt)) (O:=(owF tyBl)) (t:=fun E=>zgp_ K) (g:=fun c=>zdk_ c) 1 0 zp_ (fun _ _ _ _ _ _ E nd hr=>(zj_ (zx_ (zeS_ (zcx_ zhS_ (e.m.gb e.b4) (zb_ (za_ 0) (zb_ (znT_ "int" (e.m.gb e.b6)) zh_))) (ziB_ (zhK_ (zcx_ zhS_ (e.m.gb e.b4) (zb_ (za_ 0) (zb_ (znT_ "bool" (e.m.gb e.b7)) zh_))))))))) fun c E=>at_ [(Zf tyInt c)]
 (za3_ (zac_ zbu_) (EvF.ow (zh6_ (zma_ zmq_ (zc_ 0 rfl)) (zkw_ (zma_ zmq_ (zc_ 0 rfl)))))))
theorem zgC_ (e:En K mg) (g28:zdf_ P w K mg base) (g29:zdq_ P w K mg base) (g30:zdr_ P w K mg base):zeX_ P w K mg base :=
 zbL_ e.m e.f31 (okC (N:=["_law_way", "_law_one", "_law_field", "_law_other", "_law_other_field", "_law_told_here", "_law_alone", "_law_e"]) (C:=(csCons tyInt Qq1)) (O:=(owOpt (owL tyInt))) (t:=fun E=>zhr_ K) (g:=fun c=>zc2_ c.1 c.2.1 c.2.2.1 c.2.2.2.1 c.2.2.2.2) 5 3 (zl_ (zl_ (zl_ (zl_ zp_)))) (fun _ _ _ _ _ _ E nd hr=>(zd_ (pst 5 (zaD_ zh_)) (zd_ (pst 6 zlC_) (zd_ (zne_ rfl rfl (zkF_ (zlv_ g28 (hm hr) (zb_ (za_ 0) (zb_ (za_ 1) (zb_ (za_ 2) (zb_ (za_ 3) (zb_ (za_ 4) zh_))))))) (ph_as (i:=7) (e.m.gk e.k1) nd rfl rfl (fun xx=>(zd_ (pst 5 (zaD_ (zb_ (zjz_ (za_ 7)) (zb_ (zjz_ (za_ 7)) zh_)))) (zj_ (pst 6 (zeS_ (zh8_ g29 (hmN (hr.nX xx)) (zb_ (za_ 7) zh_)) (zeS_ (zhK_ (zcx_ zY_ (e.m.gb e.b4) (zb_ (za_ 7) (zb_ (zgP_ (e.m.gkc e.k2)) zh_)))) (ziB_ (zcx_ zY_ (e.m.gb e.b4) (zb_ (za_ 7) (zb_ (zgP_ (e.m.gkc e.k0)) zh_)))))))))) (ph_as (i:=7) (e.m.gk e.k2) nd rfl rfl (fun xx=>(zd_ (pst 5 (zaD_ (zb_ zg_ (zb_ zg_ zh_)))) (zj_ (pst 6 (zeS_ (zh8_ g29 (hmN (hr.nX xx)) (zb_ (za_ 7) zh_)) (ziB_ (zcx_ zY_ (e.m.gb e.b4) (zb_ (za_ 7) (zb_ (zgP_ (e.m.gkc e.k0)) zh_))))))))) zn4_))) (zd_ (zam_ (PW.pt (zlY_ (zko_ (zoE_ (za_ 6))) (zno_ (PW.pt (zeN_ (zG_ (zgl_ hr.u60) (za_ 5) (zaD_ zh_)) (zeU_ (zko_ (PW.pt (zeN_ (zd5_ (zk_ g30 (hm hr) (zb_ (zO_ ix_M (za_ 5) zg_ (fun _ _=>rfl)) zh_))) (zeU_ (zd5_ (zk_ g30 (hm hr) (zb_ (zO_ ix_M (za_ 5) zg_ (fun _ _=>rfl)) zh_))))))))))))) (zj_ (zx_ zgr_)) zN_) (zj_ (zx_ (za_ 5)))))))) fun c E=>at_ [(Zf tyInt c.1),(Zf (tyL tyStr) c.2.1),(Zf Qq0 c.2.2.1),(Zf (tyL tyStr) c.2.2.2.1),(Zf Qq0 c.2.2.2.2),Zd,Zd,Zd]
 (zad_ (i:=5) rfl (zS_ zm_) (zbv_ tyInt) fun s1'=>(at_ [(Zf tyInt c.1),(Zf (tyL tyStr) c.2.1),(Zf Qq0 c.2.2.1),(Zf (tyL tyStr) c.2.2.2.1),(Zf Qq0 c.2.2.2.2),(Zo (owL tyInt) s1'),Zd,Zd] (zbM_ (i:=6) rfl zbu_ (zlA_ true) fun u2'=>(at_ [(Zf tyInt c.1),(Zf (tyL tyStr) c.2.1),(Zf Qq0 c.2.2.1),(Zf (tyL tyStr) c.2.2.2.1),(Zf Qq0 c.2.2.2.2),(Zo (owL tyInt) s1'),(Zf tyBl u2'),Zd] (zbE_ (LS:=(fun s13:((List Int)×Bool)=>[(Zf tyInt c.1),(Zf (tyL tyStr) c.2.1),(Zf Qq0 c.2.2.1),(Zf (tyL tyStr) c.2.2.2.1),(Zf Qq0 c.2.2.2.2),(Zo (owL tyInt) s13.1),(Zf tyBl s13.2),Zd])) (zob_ (zf_ (zc_ 0 rfl) (zf_ (zc_ 1 rfl) (zf_ (zc_ 2 rfl) (zf_ (zc_ 3 rfl) (ze_ (zc_ 4 rfl)))))) (zq_ (S4 (S4 .nil))) fun x12=>(eh_as (i:=7) (zng_ e.fx.cat_NoField_NoOrder (zmK_ e.fx.cat_NoOrder_NoOrder zh9_)) rfl (fun _=>rfl) (at_ [(Zf tyInt c.1),(Zf (tyL tyStr) c.2.1),(Zf Qq0 c.2.2.1),(Zf (tyL tyStr) c.2.2.2.1),(Zf Qq0 c.2.2.2.2),(Zo (owL tyInt) s1'),(Zf tyBl u2'),(Zf (tyXc K) x12)] (zad_ (i:=5) rfl (zS_ zm_) (zdK_ (zs_ zt_) (zab_ zaU_) (zf_ (zhC_ e.fx.exj_NoOrder e.fx.exa_NoOrder_deck (zc_ 7 rfl)) (ze_ (zhC_ e.fx.exj_NoOrder e.fx.exa_NoOrder_place (zc_ 7 rfl))))) fun t22=>(at_ [(Zf tyInt c.1),(Zf (tyL tyStr) c.2.1),(Zf Qq0 c.2.2.1),(Zf (tyL tyStr) c.2.2.2.1),(Zf Qq0 c.2.2.2.2),(Zo (owL tyInt) t22),(Zf tyBl u2'),(Zf (tyXc K) x12)] (zdY_ (zbM_ (i:=6) rfl zbu_ (zh6_ (zn_ (ze_ (zc_ 7 rfl))) (zh6_ (zkw_ (zbl_ (zar_ e.fx.isa_NoField_NoField (zar_ e.fx.isa_NoOrder_NoField zan_)) rfl (zc_ 7 rfl))) (zbl_ (zar_ e.fx.isa_NoField_ShopError (zar_ e.fx.isa_NoOrder_ShopError zan_)) rfl (zc_ 7 rfl)))) fun v28=>(at_ [(Zf tyInt c.1),(Zf (tyL tyStr) c.2.1),(Zf Qq0 c.2.2.1),(Zf (tyL tyStr) c.2.2.2.1),(Zf Qq0 c.2.2.2.2),(Zo (owL tyInt) t22),(Zf tyBl v28),(Zf (tyXc K) x12)] (zq_ (S4 (.same (.same (.same (.dead .nil)))))))))))) (eh_as (i:=7) (zmK_ e.fx.cat_NoField_NoField (zng_ e.fx.cat_NoOrder_NoField zh9_)) rfl (fun _=>rfl) (at_ [(Zf tyInt c.1),(Zf (tyL tyStr) c.2.1),(Zf Qq0 c.2.2.1),(Zf (tyL tyStr) c.2.2.2.1),(Zf Qq0 c.2.2.2.2),(Zo (owL tyInt) s1'),(Zf tyBl u2'),(Zf (tyXc K) x12)] (zad_ (i:=5) rfl (zS_ zm_) (zdK_ (zs_ zt_) (zab_ zaU_) (zf_ (zi_ 0) (ze_ (zi_ 0)))) fun t14=>(at_ [(Zf tyInt c.1),(Zf (tyL tyStr) c.2.1),(Zf Qq0 c.2.2.1),(Zf (tyL tyStr) c.2.2.2.1),(Zf Qq0 c.2.2.2.2),(Zo (owL tyInt) t14),(Zf tyBl u2'),(Zf (tyXc K) x12)] (zdY_ (zbM_ (i:=6) rfl zbu_ (zh6_ (zn_ (ze_ (zc_ 7 rfl))) (zbl_ (zar_ e.fx.isa_NoField_ShopError (zar_ e.fx.isa_NoOrder_ShopError zan_)) rfl (zc_ 7 rfl))) fun v18=>(at_ [(Zf tyInt c.1),(Zf (tyL tyStr) c.2.1),(Zf Qq0 c.2.2.1),(Zf (tyL tyStr) c.2.2.2.1),(Zf Qq0 c.2.2.2.2),(Zo (owL tyInt) t14),(Zf tyBl v18),(Zf (tyXc K) x12)] (zq_ (S4 (.same (.same (.same (.dead .nil)))))))))))) eh_0))) fun s13=>(at_ [(Zf tyInt c.1),(Zf (tyL tyStr) c.2.1),(Zf Qq0 c.2.2.1),(Zf (tyL tyStr) c.2.2.2.1),(Zf Qq0 c.2.2.2.2),(Zo (owL tyInt) s13.1),(Zf tyBl s13.2),Zd] (zbE_ (LS:=(fun _:Unit=>[(Zf tyInt c.1),(Zf (tyL tyStr) c.2.1),(Zf Qq0 c.2.2.1),(Zf (tyL tyStr) c.2.2.2.1),(Zf Qq0 c.2.2.2.2),(Zo (owL tyInt) s13.1),(Zf tyBl s13.2),Zd])) (s_if (et_or (zku_ (zn1_ (zc_ 6 rfl))) (zgT_ (zR_ (zo_ (zjc_ (zm3_ zhD_)) (za1_ 5 rfl) (EvO.fr (zbv_ tyInt)))) (zku_ (zgT_ (zR_ (zn_ (ze_ (zo_ zQ_ (za1_ 5 rfl) (zi_ 0))))) (zR_ (zn_ (ze_ (zo_ zQ_ (za1_ 5 rfl) (zi_ 1))))))))) (za3_ (zh1_ (zS_ zm_)) (zk1_ (owL tyInt))) (zq_ (S4 (S4 .nil)))) fun _=>(at_ [(Zf tyInt c.1),(Zf (tyL tyStr) c.2.1),(Zf Qq0 c.2.2.1),(Zf (tyL tyStr) c.2.2.2.1),(Zf Qq0 c.2.2.2.2),(Zo (owL tyInt) s13.1),(Zf tyBl s13.2),Zd] (zni_ (i:=5) nno_l rfl))))))))))
end
end K22
namespace K22
open PySem PySem.Spec PyProof.Rows L2
open Mo renaming bind→Mb,ok→Mq
open Sl renaming fz→Zf,dead→Zd,ow→Zo
local macro_rules | `(tactic| walk_at "mo") => `(tactic| simp only [Mo.okB, Mo.exB, Mo.noB, Mo.noexO, Mo.optS, zkY_, zlK_, zla_, zkS_, znZ_, zk4_, zjV_, zeO_, zlt_, grd_T, Bool.not_true, Bool.not_false, if_true, if_false, Bool.false_eq_true, Option.map_some, Option.map_none, ite_true, ite_false, Int.reduceLT, Int.reduceLE, Int.reduceNeg, Int.reduceSub, Int.reduceAdd, Int.reduceMul, Nat.reduceAdd, Nat.reduceLT, decide_true, decide_false, Option.isSome_none, Option.isSome_some, Option.isNone_none, Option.isNone_some, Bool.and_true, Bool.and_false])
theorem zeV_ (ns:List Int) (k:Int) (h:0≤k):∃ c,zA_ ns k=.ok c:=by
 unfold zA_ za9_
 walk_at "mo"
 by_cases hk:k<(ns.length:Int)
 ·obtain ⟨x,e,_⟩:=zh2_ h hk
  rw [decide_eq_true hk,if_pos rfl,e]
  exact ⟨x,rfl⟩
 ·rw [decide_eq_false hk,if_neg (by decide)]
  exact ⟨0,rfl⟩
theorem zhs_ {x:Nat}(h:x∈SG):zcs_ [x]=.ok true:=by
 unfold zcs_ zdB_
 walk_at "mo"
 rw [Mo.lim_ok (by simp)]
 have:inS [x] SG=true:=decide_eq_true h
 simp [this]
theorem znf_ {x:Nat}(h:x∈SG):zct_ [x]=.ok (rk1 x:Int):=by
 unfold zct_ zdU_
 walk_at "mo"
 rw [zhs_ h]
 walk_at "mo"
 rw [zln_ h,Mo.grd_ok (by lia)]
 rfl
theorem zip_ (l:List Nat):joinS [] (strsL (l.map fun c=>[c]))=l:=by
 have:=L2.zja_ l
 unfold strsL
 rw [List.map_map]
 exact this
theorem zjn_ {ns:List Int}(hb:BitsOk ns) {x:Int}(h:x∈ns):Builtin.Int.intBits x≤1048576:=hb x h
theorem zlZ_ (n:Int):∃ c,zbX_ n=.ok c∧isC c:=by
 unfold zbX_ zcF_
 walk_at "mo"
 rw [Mo.grd_ok (by decide)]
 walk_at "mo"
 refine zbY_ (G:=fun m=>∃ c,fnO (thenO m fun s_3=>Mq (Out.rt s_3.fst))=.ok c∧isC c) (fun d (s:List Nat×Int)=>s.1.length=d.length∧∀ x∈s.1,x∈SG) ?h0 (fun d x s hx hs=>?_) (fun s hs=>?_)
 case h0=>exact ⟨rfl,fun x h=>by cases h⟩
 ·obtain ⟨r,hr⟩:=hx
  have hd:d.length<40:=by
   have:=congrArg List.length hr
   rw [zbi_,List.length_append,List.length_cons] at this
   have:Int.toNat 40=40:=rfl
   lia
  obtain ⟨y,e,hy⟩:∃ y,atI SG (s.2 % 37)=some y∧y∈SG:=zj0_ (xs:=SG) s.2 (by decide)
  have hl:=hs.1
  rw [Mo.lim_ok (by decide),e]
  walk_at "mo"
  rw [Mo.lim_ok (by simp; lia)]
  refine ⟨_,rfl,by simp [hs.1],fun z hz=>?_⟩
  rcases List.mem_append.mp hz with h | h
  ·exact hs.2 z h
  ·rw [List.mem_singleton.mp h]; exact hy
 ·refine ⟨_,rfl,?_,hs.2⟩
  rw [hs.1,zbi_]; rfl
theorem zm0_ (cell number:Int) {wide:Int}(h1:1≤wide) (h2:wide≤36):∃ c,zbO_ cell wide number=.ok c∧c.length=wide.toNat∧∀ x∈c,x∈SG:=by
 unfold zbO_ zc1_
 walk_at "mo"
 rw [Mo.grd_ok ⟨by lia,by lia⟩]
 walk_at "mo"
 have hm:∀ k:Int,∃ y,atI SG (k % 37)=some y∧y∈SG:=fun k=>zj0_ (xs:=SG) k (by decide)
 have hf:∀ x:Int,∃ y,atI SG ((cell+x*x*(1+cell % 5)) % 37)=some y∧y∈SG:=fun x=>hm _
 let g:Int→List Nat:=fun x=>[(atI SG ((cell+x*x*(1+cell % 5)) % 37)).getD 0]
 rw [zbp_ (g:=g) (fun x hx=>?_) (by simp [zbi_]; lia)]
 ·walk_at "mo"
  rw [List.nil_append]
  have hS:∀ z∈strsL ((rngI 0 wide.toNat).map g),z.length≤1:=fun z hz=>by
   unfold strsL at hz
   rw [List.map_map] at hz
   obtain ⟨b,_,rfl⟩:=List.mem_map.mp hz
   exact Nat.le_refl 1
  have e:(rngI 0 wide.toNat).map g=((rngI 0 wide.toNat).map fun x=>(atI SG ((cell+x*x*(1+cell % 5)) % 37)).getD 0).map fun x=>[x]:=by rw [List.map_map]; rfl
  rw [Mo.grd_ok (zfl_ (by unfold strsL; simp [Str.length,zbi_]; lia) hS),e,zip_]
  walk_at "mo"
  have hP:∀ x∈((rngI 0 wide.toNat).map fun x=>(atI SG ((cell+x*x*(1+cell % 5)) % 37)).getD 0),x∈SG:=fun x hx=>by
   obtain ⟨k,_,rfl⟩:=List.mem_map.mp hx
   obtain ⟨y,e,hy⟩:=hf k
   rw [e]; exact hy
  have hPl:((rngI 0 wide.toNat).map fun x=>(atI SG ((cell+x*x*(1+cell % 5)) % 37)).getD 0).length=wide.toNat:=by rw [List.length_map,zbi_]
  generalize ((rngI 0 wide.toNat).map fun x=>(atI SG ((cell+x*x*(1+cell % 5)) % 37)).getD 0)=P at hP hPl
  rw [zeO_ (by lia)]
  walk_at "mo"
  have ha:0≤cell % wide∧cell % wide<wide:=⟨Int.emod_nonneg _ (by lia),Int.emod_lt_of_pos _ (by lia)⟩
  obtain ⟨y,ey,hy⟩:=hm number
  rw [Mo.lim_ok (by lia),zhG_ ha.1,Mo.okB,Mo.lim_ok (by decide),ey]
  walk_at "mo"
  rw [Mo.lim_ok (by rw [List.length_take]; simp; lia),Mo.okB,Mo.lim_ok (by lia),zcy_ (by lia),Mo.okB,Mo.lim_ok (by rw [List.length_append,List.length_take,List.length_drop]; simp; lia)]
  refine ⟨_,rfl,?_,fun z hz=>?_⟩
  ·rw [List.length_append,List.length_append,List.length_take,List.length_drop,List.length_singleton]; lia
  ·rcases List.mem_append.mp hz with h | h
   ·rcases List.mem_append.mp h with h | h
    ·exact hP z (List.mem_of_mem_take h)
    ·rw [List.mem_singleton.mp h]; exact hy
   ·exact hP z (List.mem_of_mem_drop h)
 ·have hk:=zah_.mp hx
  obtain ⟨y,ey,hy⟩:=hf x
  unfold cond1
  have h5:0≤cell % 5∧cell % 5<5:=⟨Int.emod_nonneg _ (by decide),Int.emod_lt_of_pos _ (by decide)⟩
  walk_at "mo"
  rw [Mo.grd_ok (zaM_ (.inl ⟨by lia,by lia⟩)),Mo.okB,Mo.grd_ok (zaM_ (.inr ⟨by lia,by lia⟩)),Mo.okB,Mo.okB,Mo.okB,Mo.lim_ok (by decide),ey]
  show _=Mq (some [(atI SG _).getD 0])
  rw [ey]; rfl
structure okF (f:Int×Int) (wide:Int):Prop where
 lo:1≤f.1
 w1:1≤wide
 w2:wide≤36
 e:f.2=f.1+wide-1
 hi:f.2≤36
theorem zjv_ (ns:List Int):∃ f0 f1 wide,zaT_ ns=.ok [f0,f1]∧okF f0 wide∧okF f1 wide:=by
 obtain ⟨c0,e0⟩:=zeV_ ns 0 (by decide)
 obtain ⟨c1,e1⟩:=zeV_ ns 1 (by decide)
 obtain ⟨c2,e2⟩:=zeV_ ns 2 (by decide)
 unfold zaT_ zbG_
 walk_at "mo"
 rw [e0]
 walk_at "mo"
 have fin:∀ w:Int,1≤w→w≤36→∃ f0 f1 wide,fnO (thenO (S:=List (Int×Int)) ((Mo.grd (-2 ^ 62≤(1:Int)∧(1:Int)<2 ^ 62 ∧ -2 ^ 62≤(3:Int)∧(3:Int)<2 ^ 62) (Mq (rngI 1 (Int.toNat 2)))).bind fun x48=>forO (fun (s26:List (Int×Int)) x30=>(((zA_ ns x30).noex.bind fun a37=>Mo.grd (0<37-w) (Mq (a37 % (37-w)))).bind fun b40=>Mq (1+b40)).bind fun b31=>Mo.lim (s26.length+1) (Mq (Out.nx (s26++[(b31,b31+w-1)])))) x48 []) fun s26=>(Mq (Out.rt s26):Mo (Out (List (Int×Int)) Unit Unit)))=Mq [f0,f1]∧okF f0 wide∧okF f1 wide:=fun w h1 h2=>by
  have hm:∀ c:Int,0≤c % (37-w)∧c % (37-w)<37-w:=fun c=>⟨Int.emod_nonneg _ (by lia),Int.emod_lt_of_pos _ (by lia)⟩
  rw [Mo.grd_ok (by decide),Mo.okB,show rngI 1 (Int.toNat 2)=[1,2] from rfl]
  unfold forO
  rw [e1]
  walk_at "mo"
  rw [Mo.grd_ok (by lia)]
  walk_at "mo"
  unfold forO
  rw [e2]
  walk_at "mo"
  rw [Mo.grd_ok (by lia)]
  walk_at "mo"
  have a1:=hm c1
  have a2:=hm c2
  refine ⟨_,_,w,rfl,⟨?_,h1,h2,rfl,?_⟩,⟨?_,h1,h2,rfl,?_⟩⟩<;>dsimp only<;>lia
 by_cases q:c0 / 4 % 4=1
 ·rw [decide_eq_true q,if_pos rfl]
  walk_at "mo"
  exact fin (1+c0 / 16 % 36) (by lia) (by lia)
 ·rw [decide_eq_false q,if_neg (by decide)]
  walk_at "mo"
  exact fin (1+c0 % 4) (by lia) (by lia)
theorem zoh_ {a b c:List Nat}(h:a.length+b.length+c.length=40) (ha:∀ x∈a,x∈SG) (hb:∀ x∈b,x∈SG) (hc:∀ x∈c,x∈SG):isC (a++b++c):=by
 refine ⟨by rw [List.length_append,List.length_append]; exact h,fun x hx=>?_⟩
 rcases List.mem_append.mp hx with hx | hx
 ·rcases List.mem_append.mp hx with hx | hx
  ·exact ha x hx
  ·exact hb x hx
 ·exact hc x hx
theorem mod2 (x:Int):x % 2=0∨x % 2=1:=by lia
theorem zky_ {ns:List Int}(hb:BitsOk ns) (hl:ns.length≤63) {f0 f1:Int×Int}{wide:Int}(h0:okF f0 wide) (h1:okF f1 wide):∃ d0 d1,zbn_ ns [f0,f1]=.ok [d0,d1]∧(∀ c∈d0,isC c)∧(∀ c∈d1,isC c)∧d0.length+d1.length≤126:=by
 obtain ⟨sd,e3⟩:=zeV_ ns 3 (by decide)
 unfold zbn_ zb6_
 walk_at "mo"
 rw [e3]
 walk_at "mo"
 rw [show atI [f0,f1] 0=some f0 from rfl]
 walk_at "mo"
 rw [Mo.lim_ok (by simp)]
 walk_at "mo"
 have hw:f0.2-f0.1+1=wide:=by have:=h0.e; lia
 rw [hw]
 have hw1:=h0.w1
 have hw2:=h0.w2
 have hcl:=ze8_ ns (some 5) (some 67)
 refine zbY_ (G:=fun m=>∃ d0 d1:List (List Nat),fnO (thenO m _)=.ok [d0,d1]∧(∀ c∈d0,isC c)∧(∀ c∈d1,isC c)∧d0.length+d1.length≤126) (fun d (s:List (List (List Nat)))=>∃ d0 d1,s=[d0,d1]∧(∀ c∈d0,isC c)∧(∀ c∈d1,isC c)∧d0.length+d1.length≤2*d.length) ⟨[],[],rfl,by simp,by simp,by simp⟩ ?_ ?_
 ·rintro d x s ⟨r,hr⟩ ⟨d0,d1,rfl,q0,q1,q2⟩
  have hd:d.length<63:=by
   have:=congrArg List.length hr
   rw [List.length_append,List.length_cons] at this
   lia
  have hx:x∈ns:=zg7_ (by rw [hr]; simp)
  have hbx:=zjn_ hb hx
  have hs6:0≤sd % 6∧sd % 6<6:=⟨Int.emod_nonneg _ (by decide),Int.emod_lt_of_pos _ (by decide)⟩
  rw [zeO_ (by lia)]
  walk_at "mo"
  have h4:0≤x / 4 % (1+sd % 6)∧x / 4 % (1+sd % 6)<1+sd % 6:=⟨Int.emod_nonneg _ (by lia),Int.emod_lt_of_pos _ (by lia)⟩
  have hm:∀ b:Int,b.natAbs<2 ^ 1000→IntMulOk x b:=fun b h=>zkK_ hbx (zmY_ h)
  rw [Mo.grd_ok (zaM_ (.inl ⟨by lia,by lia⟩))]
  walk_at "mo"
  rw [Mo.grd_ok (by decide),Mo.grd_ok (by decide),Mo.grd_ok (by decide),Mo.grd_ok (by decide)]
  walk_at "mo"
  rw [Mo.grd_ok (hm _ (by decide))]
  walk_at "mo"
  rw [Mo.grd_ok (by decide)]
  walk_at "mo"
  obtain ⟨tx,et,ht⟩:=zlZ_ (x*(1+5*37 ^ Int.toNat 13+11*37 ^ Int.toNat 29+3*37 ^ Int.toNat 36) % 37 ^ Int.toNat 40)
  rw [et]
  walk_at "mo"
  obtain ⟨pt,ep,hpl,hp⟩:=zm0_ (sd / 6) (x / 4 % (1+sd % 6)*7+sd / 6) hw1 hw2
  rw [ep]
  have hr2:0≤x / 2 % 2∧x / 2 % 2<2:=⟨Int.emod_nonneg _ (by decide),Int.emod_lt_of_pos _ (by decide)⟩
  have key:∀ f:Int×Int,okF f wide→isC (tx.take (f.1-1).toNat++pt++tx.drop f.2.toNat):=fun f h=>by
   have a1:=h.lo
   have a2:=h.e
   have a3:=h.hi
   have hl:=ht.1
   refine zoh_ ?_ (fun z hz=>ht.2 z (List.mem_of_mem_take hz)) hp fun z hz=>ht.2 z (List.mem_of_mem_drop hz)
   rw [List.length_take,List.length_drop,hpl]; lia
  have hlt:=ht.1
  have lens:∀ f:Int×Int,okF f wide→(tx.take (f.1-1).toNat).length+pt.length≤200∧(tx.take (f.1-1).toNat++pt).length+(tx.drop f.2.toNat).length≤200:=fun f h=>by
   rw [List.length_append,List.length_take,List.length_drop,hpl]; lia
  have rl:∀ c:List Nat,(repL [c] (1+x / 2 % 2)).length≤2∧∀ z∈repL [c] (1+x / 2 % 2),z=c:=fun c=>by
   rcases mod2 (x / 2) with e | e<;>rw [e]<;>simp [repL]
  rcases mod2 x with e | e
  ·rw [e,show atI [f0,f1] 0=some f0 from rfl,show ixN [d0,d1].length 0=some 0 from rfl]
   walk_at "mo"
   have b1:=h0.lo
   have b2:=h0.e
   rw [Mo.lim_ok (by lia),zhG_ (by lia),Mo.okB,Mo.lim_ok (by have:=(lens f0 h0).1; lia),Mo.okB,Mo.lim_ok (by lia),zcy_ (by lia),Mo.okB,Mo.lim_ok (by have:=(lens f0 h0).2; lia),Mo.okB,Mo.grd_ok ⟨by lia,by lia,by simp,by simp; lia⟩,Mo.okB]
   obtain ⟨r1,r2⟩:=rl (tx.take (f0.1-1).toNat++pt++tx.drop f0.2.toNat)
   rw [Mo.lim_ok (by show d0.length+_≤_; lia)]
   refine ⟨_,rfl,d0++repL [tx.take (f0.1-1).toNat++pt++tx.drop f0.2.toNat] (1+x / 2 % 2),d1,rfl,fun c hc=>?_,q1,by rw [List.length_append,List.length_append,List.length_singleton]; lia⟩
   rcases List.mem_append.mp hc with hc | hc
   ·exact q0 c hc
   ·rw [r2 c hc]; exact key f0 h0
  ·rw [e,show atI [f0,f1] 1=some f1 from rfl,show ixN [d0,d1].length 1=some 1 from rfl]
   walk_at "mo"
   have b1:=h1.lo
   have b2:=h1.e
   rw [Mo.lim_ok (by lia),zhG_ (by lia),Mo.okB,Mo.lim_ok (by have:=(lens f1 h1).1; lia),Mo.okB,Mo.lim_ok (by lia),zcy_ (by lia),Mo.okB,Mo.lim_ok (by have:=(lens f1 h1).2; lia),Mo.okB,Mo.grd_ok ⟨by lia,by lia,by simp,by simp; lia⟩,Mo.okB]
   obtain ⟨r1,r2⟩:=rl (tx.take (f1.1-1).toNat++pt++tx.drop f1.2.toNat)
   rw [Mo.lim_ok (by show d1.length+_≤_; lia)]
   refine ⟨_,rfl,d0,d1++repL [tx.take (f1.1-1).toNat++pt++tx.drop f1.2.toNat] (1+x / 2 % 2),rfl,q0,fun c hc=>?_,by rw [List.length_append,List.length_append,List.length_singleton]; lia⟩
   rcases List.mem_append.mp hc with hc | hc
   ·exact q1 c hc
   ·rw [r2 c hc]; exact key f1 h1
 ·rintro s ⟨d0,d1,rfl,q0,q1,q2⟩
  exact ⟨d0,d1,rfl,q0,q1,by lia⟩
abbrev Fld:=Int×Int
theorem zk3_ {α:Type}{xs:List α}{i j:Int}(h:0≤i) (h2:0≤j) (hl:j.toNat≤xs.length) (hij:i≤j):cutG xs (some i) (some j)=(xs.drop i.toNat).take (j.toNat-i.toNat):=by
 unfold cutG
 rw [zix_ h,zix_ h2,Nat.min_eq_left hl,Nat.min_eq_left (by lia)]
def prt (c:Crd) (f:Fld):List Nat:=cutG c (some (f.1-1)) (some f.2)
theorem ziL_ {c:Crd}{f:Fld}{wide:Int}(hc:isC c) (h:okF f wide):prt c f=(c.drop (f.1-1).toNat).take wide.toNat∧(prt c f).length=wide.toNat∧∀ x∈prt c f,x∈SG:=by
 have a1:=h.lo; have a2:=h.e; have a3:=h.hi; have a4:=hc.1; have a5:=h.w1
 have e:prt c f=(c.drop (f.1-1).toNat).take wide.toNat:=by
  unfold prt
  rw [zk3_ (by lia) (by lia) (by lia) (by lia)]
  congr 1; lia
 refine ⟨e,?_,fun x hx=>?_⟩
 ·rw [e,List.length_take,List.length_drop]; lia
 ·rw [e] at hx; exact hc.2 x (List.mem_of_mem_drop (List.mem_of_mem_take hx))
theorem zaL_ {c:Crd}(f:Fld) (hc:isC c):zae_ c f=.ok (prt c f):=by
 unfold zae_ zdH_
 walk_at "mo"
 rw [Mo.lim_ok (by have:=hc.1; lia)]
 rfl
theorem znj_:∀ x∈SG,∀ y∈SG,(rk1 x<rk1 y↔x<y)∧(rk1 x=rk1 y↔x=y):=by decide +kernel
theorem zkI_ (x y:Nat) (u v:List Nat):ltS (x::u) (y::v)=if x=y then ltS u v else decide (x<y):=by
 unfold ltS
 by_cases e:x=y
 ·subst e; rw [if_pos rfl,decide_eq_decide]; simp
 ·rw [if_neg e,decide_eq_decide,List.cons_lt_cons_iff]; simp [e]
theorem zkf_:∀ {u v:List Nat},(∀ x∈u,x∈SG)→(∀ x∈v,x∈SG)→HT.lexLt (u.map fun x=>(rk1 x:Int)) (v.map fun x=>(rk1 x:Int))=ltS u v
 | [],[],_,_=>by decide
 | [],y::v,_,_=>by unfold ltS; simp [HT.lexLt]
 | x::u,[],_,_=>by unfold ltS; simp [HT.lexLt]
 | x::u,y::v,hu,hv=>by
  rw [List.map_cons,List.map_cons,HT.lexLt_cons,zkf_ (fun z hz=>hu z (List.mem_cons_of_mem _ hz)) (fun z hz=>hv z (List.mem_cons_of_mem _ hz)),zkI_]
  obtain ⟨m1,m2⟩:=znj_ x (hu x List.mem_cons_self) y (hv y List.mem_cons_self)
  by_cases e:x=y
  ·rw [if_pos e,if_pos (by rw [e])]
  ·have:rk1 x≠rk1 y:=fun z=>e (m2.mp z)
   rw [if_neg e,if_neg (by lia),decide_eq_decide]; lia
theorem zg4_ {a:List Nat}{lo n:Nat}(ha:∀ x∈a,x∈SG) (hl:lo+n≤a.length) (hb:a.length≤1000):zbk_ a (rngI (lo+1) n)=.ok (((a.drop lo).take n).map fun x=>(rk1 x:Int)):=by
 unfold zbk_ zcZ_
 walk_at "mo"
 rw [zbp_ (g:=fun c=>(rk1 (a.getD (c-1).toNat 0):Int)) (fun c hc=>?_) (by simp [zbi_]; lia)]
 ·walk_at "mo"
  rw [List.nil_append]
  congr 1
  apply List.ext_getElem?
  intro i
  rw [List.getElem?_map,List.getElem?_map,List.getElem?_take,List.getElem?_drop]
  unfold rngI
  rw [List.getElem?_map]
  by_cases hi:i<n
  ·rw [List.getElem?_range hi,if_pos hi,List.getElem?_eq_getElem (by lia)]
   simp only [Option.map_some]
   rw [show ((lo:Int)+1+(i:Int)-1).toNat=lo+i by lia,List.getD_eq_getElem?_getD,List.getElem?_eq_getElem (by lia)]
   rfl
  ·rw [List.getElem?_eq_none (by simp; lia),if_neg hi]; rfl
 ·have hk:=zah_.mp hc
  have hlt:(c-1).toNat<a.length:=by lia
  have e:atI a (c-1)=some (a.getD (c-1).toNat 0):=by rw [zfz_ (by lia),List.getD_eq_getElem?_getD,List.getElem?_eq_getElem hlt]; rfl
  have hm:a.getD (c-1).toNat 0∈SG:=by
   rw [List.getD_eq_getElem?_getD,List.getElem?_eq_getElem hlt]; exact ha _ (List.getElem_mem hlt)
  have es:zcv_ a c=.ok [a.getD (c-1).toNat 0]:=by
   unfold zcv_ zdu_
   walk_at "mo"
   rw [Mo.lim_ok (by lia),e]
   rfl
  unfold cond1
  rw [es]
  walk_at "mo"
  rw [znf_ hm]
  rfl
theorem zin_ {a b:List Nat}{lo n:Nat}(ha:∀ x∈a,x∈SG) (hb:∀ x∈b,x∈SG) (la:lo+n≤a.length) (lb:lo+n≤b.length) (ba:a.length≤1000) (bb:b.length≤1000):zV_ a b (rngI (lo+1) n)=.ok (ltS ((a.drop lo).take n) ((b.drop lo).take n)):=by
 unfold zV_ zba_
 walk_at "mo"
 rw [zg4_ ha la ba,zg4_ hb lb bb]
 walk_at "mo"
 rw [zkf_ (fun x hx=>ha x (List.mem_of_mem_drop (List.mem_of_mem_take hx))) (fun x hx=>hb x (List.mem_of_mem_drop (List.mem_of_mem_take hx)))]
theorem za5_ {f:Fld}{wide:Int}(h:okF f wide):zai_ f=.ok (rngI (((f.1-1).toNat:Int)+1) wide.toNat):=by
 have a1:=h.lo; have a2:=h.e; have a3:=h.hi; have a5:=h.w1
 unfold zai_ zbC_
 walk_at "mo"
 rw [Mo.grd_ok ⟨by lia,by lia,by lia,by lia⟩]
 show Mq (rngI _ _)=_
 rw [show ((f.1-1).toNat:Int)+1=f.1 by lia,show (f.2+1-f.1).toNat=wide.toNat by lia]
theorem zd7_ {a b:Crd}{f:Fld}{wide:Int}(ha:isC a) (hb:isC b) (h:okF f wide):zV_ a b (rngI (((f.1-1).toNat:Int)+1) wide.toNat)=.ok (ltS (prt a f) (prt b f)):=by
 have a1:=h.lo; have a2:=h.e; have a3:=h.hi; have a5:=h.w1; have l1:=ha.1; have l2:=hb.1
 rw [zin_ ha.2 hb.2 (by lia) (by lia) (by lia) (by lia),(ziL_ ha h).1,(ziL_ hb h).1]
abbrev Srd (f:Fld) (X:List Crd):Prop:=X.Pairwise fun a b=>ltS (prt b f) (prt a f)=false
theorem zls_ {X:List Crd}{f:Fld}{wide:Int}(hX:∀ c∈X,isC c) (h:okF f wide) (hs:Srd f X) (hl:X.length≤1000):zb4_ X (rngI (((f.1-1).toNat:Int)+1) wide.toNat)=.ok none:=by
 unfold zb4_ zdz_
 walk_at "mo"
 rw [Mo.grd_ok ⟨by lia,by lia,by lia,by lia⟩]
 walk_at "mo"
 rw [zcu_ (p:=fun _=>false) (a:=fun k=>some k) (fun k hk=>?_)]
 ·rw [show List.find? (fun _:Int=>false) (rngI 1 ((X.length:Int)-1).toNat)=none from List.find?_eq_none.mpr (by simp)]
  rfl
 ·have hk:=zah_.mp hk
  have k1:k.toNat<X.length:=by lia
  have k2:(k-1).toNat<X.length:=by lia
  rw [zfz_ (by lia),zfz_ (by lia),List.getElem?_eq_getElem k1,List.getElem?_eq_getElem k2]
  walk_at "mo"
  rw [zd7_ (hX _ (List.getElem_mem k1)) (hX _ (List.getElem_mem k2)) h,List.pairwise_iff_getElem.mp hs _ _ k2 k1 (by lia)]
  rfl
theorem zfF_ {X:List Crd}{f:Fld}{wide:Int}(n:Int) (hX:∀ c∈X,isC c) (h:okF f wide) (hs:Srd f X) (hl:X.length≤1000):zC_ X f n=.ok ():=by
 unfold zC_ zau_
 walk_at "mo"
 rw [za5_ h]
 walk_at "mo"
 rw [zls_ hX h hs hl]
 rfl
theorem zcU_ {f:Fld}{wide:Int}(h:okF f wide):zaH_ f=.ok wide:=by
 have:=h.e
 unfold zaH_ zcB_
 walk_at "mo"
 show Mq _=_
 congr 1; lia
theorem zhM_ {X Y:List Crd}{f g:Fld}{wide:Int}(hX:∀ c∈X,isC c) (hY:∀ c∈Y,isC c) (h:okF f wide) (h':okF g wide) (hs:Srd f X) (hs':Srd g Y) (hl:X.length≤1000) (hl':Y.length≤1000):zH_ X f Y g=.ok ():=by
 unfold zH_ zat_
 walk_at "mo"
 rw [zcU_ h,zcU_ h']
 walk_at "mo"
 rw [zfF_ _ hY h' hs' hl',zfF_ _ hX h hs hl]
 simp [Mo.okB]
 rfl
def pr {α:Type}(ah:α→α→Bool):List α→List α→List α
 | [],Y=>Y
 | x::X,Y=>Y.takeWhile (fun y=>ah y x)++x::pr ah X (Y.dropWhile fun y=>ah y x)
theorem zfW_ {α ρ B:Type}{c:List α×Int→Mo Bool}{step:List α×Int→Mo (Out ρ (List α×Int) (List α×Int))}{p:α→Bool}{Y:List α}{M:Nat}
  (hc:∀ dk (t:Nat),t≤Y.length→c (dk,(t:Int))=.ok (match Y[t]? with | some y=>p y | none=>false)) (hs:∀ dk (t:Nat) y,Y[t]?=some y→dk.length≤M→step (dk,(t:Int))=.ok (.nx (dk++[y],(t:Int)+1))) :
  ∀ (m:Nat) (dk:List α) (t:Nat),t≤Y.length→Y.length-t<m→dk.length+(Y.length-t)≤M→whileO (B:=B) c step m (dk,(t:Int))=.ok (.nx (dk++(Y.drop t).takeWhile p,(t:Int)+((Y.drop t).takeWhile p).length))
 | 0,_,_,_,h,_=>absurd h (Nat.not_lt_zero _)
 | m+1,dk,t,ht,hm,hM=>by
  unfold whileO
  rw [hc dk t ht,Mo.okB]
  by_cases hl:t<Y.length
  ·rw [List.getElem?_eq_getElem hl,List.drop_eq_getElem_cons hl,List.takeWhile_cons]
   dsimp only
   by_cases e:p Y[t]=true
   ·rw [if_pos e,if_pos e,hs dk t _ (List.getElem?_eq_getElem hl) (by lia),Mo.okB]
    have:=zfW_ hc hs (ρ:=ρ) (B:=B) m (dk++[Y[t]]) (t+1) hl (by lia) (by rw [List.length_append,List.length_singleton]; lia)
    rw [Int.natCast_add,Int.natCast_one] at this
    show whileO c step m (dk++[Y[t]],(t:Int)+1)=_
    rw [this,List.append_assoc,List.singleton_append,List.length_cons]
    congr 3
    lia
   ·rw [if_neg e,if_neg e,List.append_nil]; simp
  ·rw [List.getElem?_eq_none (by lia),List.drop_eq_nil_of_le (by lia)]
   simp
theorem zjW_ {α:Type}(p:α→Bool):∀ l:List α,l.drop (l.takeWhile p).length=l.dropWhile p
 | []=>rfl
 | x::l=>by
  rw [List.takeWhile_cons,List.dropWhile_cons]
  by_cases e:p x=true
  ·rw [if_pos e,if_pos e,List.length_cons,List.drop_succ_cons,zjW_ p l]
  ·rw [if_neg e,if_neg e]; rfl
theorem zny_ {X Y:List Crd}{f g:Fld}{wide:Int}(hX:∀ c∈X,isC c) (hY:∀ c∈Y,isC c) (h:okF f wide) (h':okF g wide) (hs:Srd f X) (hs':Srd g Y) (hl:X.length+Y.length≤900):z3_ X f Y g=.ok (pr (fun y x=>ltS (prt y g) (prt x f)) X Y):=by
 unfold z3_ zaS_
 walk_at "mo"
 rw [zhM_ hX hY h h' hs hs' (by lia) (by lia),zcU_ h]
 walk_at "mo"
 have o1:okF (1,wide) wide:=⟨Int.le_refl 1,h.w1,h.w2,by dsimp only; lia,h.w2⟩
 rw [za5_ o1]
 walk_at "mo"
 refine zbY_ (G:=fun m=>fnO (thenO m _)=_) (fun d (s:Int×List Crd)=>∃ t:Nat,s.1=t∧t≤Y.length∧s.2.length=d.length+t∧∀ r,X=d++r→s.2++pr (fun y x=>ltS (prt y g) (prt x f)) r (Y.drop t)=pr (fun y x=>ltS (prt y g) (prt x f)) X Y) ⟨0,rfl,Nat.zero_le _,rfl,fun r hr=>by rw [hr]; rfl⟩ ?_ ?_
 ·rintro d x ⟨s1,dk⟩ ⟨r,hr⟩ ⟨t,rfl,ht,hdl,hinv⟩
  have hx:isC x:=hX x (by rw [hr]; simp)
  have hXl:=congrArg List.length hr
  rw [List.length_append,List.length_cons] at hXl
  dsimp only at hdl hinv
  rw [zaL_ f hx]
  walk_at "mo"
  have pxl:=ziL_ hx h
  rw [zfW_ (p:=fun y=>ltS (prt y g) (prt x f)) (Y:=Y) (M:=2000) (fun dk t ht=>?_) (fun dk t y hy hd=>?_) fuelW dk t ht (Nat.lt_of_le_of_lt (Nat.sub_le _ _) (Nat.lt_of_le_of_lt (by lia:Y.length≤900) (by unfold fuelW; decide))) (by lia)]
  ·walk_at "mo"
   have tl:=(List.takeWhile_sublist (fun y=>ltS (prt y g) (prt x f)) (l:=Y.drop t)).length_le
   rw [List.length_drop] at tl
   rw [Mo.lim_ok (by rw [List.length_append]; lia)]
   refine ⟨_,rfl,t+((Y.drop t).takeWhile fun y=>ltS (prt y g) (prt x f)).length,by simp,by lia,by simp; lia,fun r' hr'=>?_⟩
   have e:=hinv (x::r') (by rw [hr',List.append_assoc]; rfl)
   rw [← e]
   show (dk++_)++[x]++pr _ r' _=dk++(_++x::pr _ r' _)
   rw [← List.drop_drop,zjW_]
   simp
  ·by_cases hl2:t<Y.length
   ·rw [List.getElem?_eq_getElem hl2,decide_eq_true (by lia),if_pos rfl,zfz_ (by lia),show ((t:Int)).toNat=t from rfl,List.getElem?_eq_getElem hl2]
    have hy:isC Y[t]:=hY _ (List.getElem_mem hl2)
    walk_at "mo"
    rw [zaL_ g hy]
    walk_at "mo"
    have pyl:=ziL_ hy h'
    have:=zin_ (lo:=0) (n:=wide.toNat) pyl.2.2 pxl.2.2 (by lia) (by lia) (by have:=h.w2; lia) (by have:=h.w2; lia)
    rw [List.drop_zero,List.drop_zero,List.take_of_length_le (by lia),List.take_of_length_le (by lia)] at this
    first | exact this | exact congrArg Mo.noex this
   ·rw [List.getElem?_eq_none (by lia),decide_eq_false (by lia)]
    rfl
  ·have hl2:=(List.getElem?_eq_some_iff.mp hy).1
   rw [zfz_ (by lia),show ((t:Int)).toNat=t from rfl,hy]
   walk_at "mo"
   rw [Mo.lim_ok (by lia)]
 ·rintro ⟨s1,dk⟩ ⟨t,rfl,ht,hdl,hinv⟩
  have e:=hinv [] (by simp)
  dsimp only at hdl hinv e
  walk_at "mo"
  rw [zcy_ (by lia),show ((t:Int)).toNat=t from rfl,Mo.lim_ok (by rw [List.length_drop]; lia)]
  show Mq _=_
  rw [← e]; rfl
theorem znS_ {α:Type}(X:List α) (d:α):(rngI 0 X.length).map (fun k=>X.getD k.toNat d)=X:=by
 unfold rngI
 rw [List.map_map]
 apply List.ext_getElem?
 intro i
 rw [List.getElem?_map]
 by_cases hi:i<X.length
 ·rw [List.getElem?_range hi,List.getElem?_eq_getElem hi]
  simp only [Option.map_some,Function.comp]
  rw [show ((0:Int)+(i:Int)).toNat=i by lia,List.getD_eq_getElem?_getD,List.getElem?_eq_getElem hi]; rfl
 ·rw [List.getElem?_eq_none (by simp; lia),List.getElem?_eq_none (by lia)]; rfl
theorem zaX_ {α:Type}{X:List α}{k:Int}(d:α) (h0:0≤k) (h1:k<X.length):atI X k=some (X.getD k.toNat d)∧X.getD k.toNat d∈X:=by
 have hk:k.toNat<X.length:=by lia
 rw [zfz_ h0,List.getD_eq_getElem?_getD,List.getElem?_eq_getElem hk]
 exact ⟨rfl,List.getElem_mem hk⟩
theorem zf8_ {D:List Crd}{f:Fld}{wide:Int}(hD:∀ c∈D,isC c) (h:okF f wide) (hl:D.length≤500):∃ X,zaO_ D f=.ok X∧(∀ c∈X,isC c)∧X.length=D.length∧Srd f X:=by
 unfold zaO_ zbB_
 walk_at "mo"
 rw [Mo.grd_ok ⟨by lia,by lia⟩]
 walk_at "mo"
 rw [show ((D.length:Int)).toNat=D.length from rfl]
 rw [zbp_ (g:=fun k=>(prt (D.getD k.toNat []) f,k)) (fun k hk=>?_) (by simp [zbi_]; lia)]
 ·walk_at "mo"
  rw [List.nil_append]
  have hR:∀ q∈(rngI 0 D.length).map (fun k=>(prt (D.getD k.toNat []) f,k)),q.1=prt (D.getD q.2.toNat []) f∧0≤q.2∧q.2<D.length:=fun q hq=>by
   obtain ⟨k,hk,rfl⟩:=List.mem_map.mp hq
   have hk:=zah_.mp hk
   exact ⟨rfl,hk.1,by dsimp only; lia⟩
  have hRl:((rngI 0 D.length).map (fun k=>(prt (D.getD k.toNat []) f,k))).length=D.length:=by rw [List.length_map,zbi_]
  generalize (rngI 0 D.length).map (fun k=>(prt (D.getD k.toNat []) f,k))=R at hR hRl
  rw [Mo.grd_ok (by lia)]
  walk_at "mo"
  have hp:=zf4_ (lxP ltS ltI) R
  have hs:=zdi_ (zjC_ ziP_ zlL_) R
  generalize srtL (lxP ltS ltI) R=S at hp hs
  have hS:∀ q∈S,q.1=prt (D.getD q.2.toNat []) f∧0≤q.2∧q.2<D.length:=fun q hq=>hR q (hp.mem_iff.mp hq)
  have hSl:S.length=D.length:=by rw [hp.length_eq,hRl]
  rw [zbp_ (g:=fun q=>D.getD q.2.toNat []) (fun q hq=>?_) (by simp; lia)]
  ·walk_at "mo"
   rw [List.nil_append]
   refine ⟨_,rfl,fun c hc=>?_,by rw [List.length_map,hSl],?_⟩
   ·obtain ⟨q,hq,rfl⟩:=List.mem_map.mp hc
    exact hD _ (zaX_ [] (hS q hq).2.1 (hS q hq).2.2).2
   ·refine List.pairwise_map.mpr (hs.imp_of_mem fun {a b} ha hb hab=>?_)
    rw [← (hS a ha).1,← (hS b hb).1]
    cases e:ltS b.1 a.1 with
    | false=>rfl
    | true =>
     unfold lxP at hab
     rw [if_neg (fun z=>by rw [z] at e; rw [ziP_.irr] at e; cases e),e] at hab
     cases hab
  ·unfold cond1
   rw [(zaX_ [] (hS q hq).2.1 (hS q hq).2.2).1]
   rfl
 ·have hk:=zah_.mp hk
  obtain ⟨e1,e2⟩:=zaX_ (X:=D) ([]:Crd) (k:=k) hk.1 (by lia)
  have:=(hD _ e2).1
  unfold cond1
  rw [e1]
  walk_at "mo"
  rw [Mo.lim_ok (by lia)]
  rfl
def hasP (D:List Crd) (f:Fld) (t:List Nat):Bool:=decide (t∈D.map fun c=>prt c f)
theorem zhF_ {D:List Crd}(f:Fld) (hD:∀ c∈D,isC c) (hl:D.length≤1000):∃ P,zbg_ D f=.ok P∧∀ t,(getA P t).isSome=hasP D f t:=by
 unfold zbg_ zc5_
 walk_at "mo"
 refine zbY_ (G:=fun m=>∃ P,fnO (thenO m _)=.ok P∧∀ t,(getA P t).isSome=hasP D f t) (fun d (s:List (List Nat×Bool))=>s.length≤d.length∧∀ t,(getA s t).isSome=hasP d f t) ⟨Nat.zero_le _,fun t=>rfl⟩ ?_ ?_
 ·rintro d x s ⟨r,hr⟩ ⟨h1,h2⟩
  have hx:isC x:=hD x (by rw [hr]; simp)
  have hd:=congrArg List.length hr
  rw [List.length_append,List.length_cons] at hd
  rw [zaL_ f hx]
  walk_at "mo"
  rw [Mo.lim_ok (by lia)]
  refine ⟨_,rfl,Nat.le_trans (zfe_ _ _ _) (by simp; lia),fun t=>?_⟩
  rw [zhy_]
  by_cases e:prt x f=t
  ·rw [if_pos e]; unfold hasP; simp [e]
  ·rw [if_neg e,h2 t]; unfold hasP; simp [Ne.symm e]
 ·rintro s ⟨_,h⟩
  exact ⟨s,rfl,h⟩
theorem zjA_ {D:List Crd}(f:Fld) {P:List (List Nat×Bool)}{p:List Nat→Bool}(hD:∀ c∈D,isC c) (hl:D.length≤1000) (hP:∀ t,(getA P t).isSome=p t):zaj_ D f P=.ok (D.filter fun c=>p (prt c f)):=by
 unfold zaj_ zbH_
 walk_at "mo"
 rw [zcV_ (g:=fun c=>p (prt c f)) (fun x hx=>?_) (by simp; lia)]
 ·rfl
 ·unfold cond1
  rw [zaL_ f (hD x hx)]
  walk_at "mo"
  rw [hP]
  cases p (prt x f)<;>rfl
theorem zeo_ {D:List Crd}(f:Fld) {P:List (List Nat×Bool)}{p:List Nat→Bool}(hD:∀ c∈D,isC c) (hl:D.length≤1000) (hP:∀ t,(getA P t).isSome=p t):zP_ D f P=.ok (D.filter fun c=>!p (prt c f)):=by
 unfold zP_ zaC_
 walk_at "mo"
 rw [zcV_ (g:=fun c=>!p (prt c f)) (fun x hx=>?_) (by simp; lia)]
 ·rfl
 ·unfold cond1
  rw [zaL_ f (hD x hx)]
  walk_at "mo"
  rw [hP]
  cases p (prt x f)<;>rfl
def fsts (f:Fld):List (List Nat)→List Crd→List Crd×List Crd
 | _,[]=>([],[])
 | seen,x::X=>if prt x f∈seen then ((fsts f seen X).1,x::(fsts f seen X).2) else (x::(fsts f (prt x f::seen) X).1,(fsts f (prt x f::seen) X).2)
theorem zb8_ {f:Fld}:∀ {seen:List (List Nat)}{X:List Crd},(fsts f seen X).1.Sublist X∧(fsts f seen X).2.Sublist X
 | seen,[]=>⟨.slnil,.slnil⟩
 | seen,x::X=>by
  unfold fsts
  split
  ·exact ⟨zb8_.1.cons _,zb8_.2.cons₂ _⟩
  ·exact ⟨zb8_.1.cons₂ _,zb8_.2.cons _⟩
theorem zbR_ {f:Fld}:∀ {X:List Crd}{s s':List (List Nat)},(∀ t,t∈s↔t∈s')→fsts f s X=fsts f s' X
 | [],_,_,_=>rfl
 | x::X,s,s',h=>by
  unfold fsts
  rw [zbR_ h,zbR_ (s:=prt x f::s) (s':=prt x f::s') fun t=>by rw [List.mem_cons,List.mem_cons,h]]
  by_cases e:prt x f∈s
  ·rw [if_pos e,if_pos ((h _).mp e)]
  ·rw [if_neg e,if_neg fun z=>e ((h _).mpr z)]
theorem zhJ_ {f:Fld}{s:List (List Nat)}{x:Crd}(X:List Crd) (e:prt x f∈s):fsts f s (x::X)=((fsts f s X).1,x::(fsts f s X).2):=if_pos e
theorem zie_ {f:Fld}{s:List (List Nat)}{x:Crd}(X:List Crd) (e:¬prt x f∈s):fsts f s (x::X)=(x::(fsts f (prt x f::s) X).1,(fsts f (prt x f::s) X).2):=if_neg e
theorem zfE_ {f:Fld}:∀ {d r:List Crd}{s:List (List Nat)},fsts f s (d++r)=((fsts f s d).1++(fsts f ((d.map fun c=>prt c f)++s) r).1,(fsts f s d).2++(fsts f ((d.map fun c=>prt c f)++s) r).2)
 | [],r,s=>rfl
 | x::d,r,s=>by
  rw [List.cons_append]
  by_cases e:prt x f∈s
  ·have cg:fsts f (d.map (fun c=>prt c f)++s) r=fsts f ((x::d).map (fun c=>prt c f)++s) r:=zbR_ fun t=>by
    rw [List.map_cons,List.cons_append,List.mem_cons]
    exact ⟨fun h=>.inr h,fun h=>h.elim (fun h=>by rw [h]; exact List.mem_append_right _ e) id⟩
   rw [zhJ_ _ e,zhJ_ _ e,zfE_,cg]
   rfl
  ·have cg:fsts f (d.map (fun c=>prt c f)++prt x f::s) r=fsts f ((x::d).map (fun c=>prt c f)++s) r:=zbR_ fun t=>by
    rw [List.map_cons,List.cons_append,List.mem_cons,List.mem_append,List.mem_append,List.mem_cons]
    constructor
    ·rintro (h | h | h)
     ·exact .inr (.inl h)
     ·exact .inl h
     ·exact .inr (.inr h)
    ·rintro (h | h | h)
     ·exact .inr (.inl h)
     ·exact .inl h
     ·exact .inr (.inr h)
   rw [zie_ _ e,zie_ _ e,zfE_,cg]
   rfl
theorem zlm_ {X:List Crd}{f:Fld}{wide:Int}(hX:∀ c∈X,isC c) (h:okF f wide) (hs:Srd f X) (hl:X.length≤900):zU_ X f=.ok (fsts f [] X):=by
 unfold zU_ zas_
 walk_at "mo"
 rw [zfF_ 1 hX h hs (by lia)]
 walk_at "mo"
 refine zbY_ (G:=fun m=>fnO (thenO m _)=_) (fun d (s:List Crd×(List Crd×List (List Nat×Bool)))=>s.1=(fsts f [] d).2∧s.2.1=(fsts f [] d).1∧s.2.2.length≤d.length∧∀ t,(getA s.2.2 t).isSome=hasP d f t) ⟨rfl,rfl,Nat.zero_le _,fun t=>rfl⟩ ?_ ?_
 ·rintro d x ⟨s1,s2,s3⟩ ⟨r,hr⟩ ⟨h1,h2,h3,h4⟩
  have hx:isC x:=hX x (by rw [hr]; simp)
  have hd:=congrArg List.length hr
  rw [List.length_append,List.length_cons] at hd
  dsimp only at h1 h2 h3 h4
  have l1:=(zb8_ (f:=f) (seen:=[]) (X:=d)).1.length_le
  have l2:=(zb8_ (f:=f) (seen:=[]) (X:=d)).2.length_le
  rw [zaL_ f hx]
  walk_at "mo"
  rw [h4]
  have app:=zfE_ (f:=f) (d:=d) (r:=[x]) (s:=[])
  rw [List.append_nil] at app
  have sn:∀ t,(getA (putA s3 (prt x f) true) t).isSome=hasP (d++[x]) f t:=fun t=>by
   rw [zhy_]
   by_cases e:prt x f=t
   ·rw [if_pos e]; unfold hasP; simp [e]
   ·rw [if_neg e,h4 t]; unfold hasP; simp [Ne.symm e]
  by_cases e:prt x f∈d.map fun c=>prt c f
  ·rw [show hasP d f (prt x f)=true from decide_eq_true e]
   have f1:fsts f (d.map fun c=>prt c f) [x]=([],[x]):=by unfold fsts; rw [if_pos e]; rfl
   rw [f1] at app
   walk_at "mo"
   rw [Mo.lim_ok (by rw [h1]; lia)]
   walk_at "mo"
   rw [Mo.lim_ok (by lia)]
   exact ⟨_,rfl,by rw [app,h1],by rw [app,h2,List.append_nil],Nat.le_trans (zfe_ _ _ _) (by simp; lia),sn⟩
  ·rw [show hasP d f (prt x f)=false from decide_eq_false e]
   have f1:fsts f (d.map fun c=>prt c f) [x]=([x],[]):=by unfold fsts; rw [if_neg e]; rfl
   rw [f1] at app
   walk_at "mo"
   rw [Mo.lim_ok (by rw [h2]; lia)]
   walk_at "mo"
   rw [Mo.lim_ok (by lia)]
   exact ⟨_,rfl,by rw [app,h1,List.append_nil],by rw [app,h2],Nat.le_trans (zfe_ _ _ _) (by simp; lia),sn⟩
 ·rintro ⟨s1,s2,s3⟩ ⟨h1,h2,_,_⟩
  dsimp only at h1 h2
  walk_at "mo"
  show Mq (s2,s1)=_
  rw [h1,h2]
theorem zmD_ {X Y:List Crd}{f g:Fld}{wide:Int}(hX:∀ c∈X,isC c) (hY:∀ c∈Y,isC c) (h:okF f wide) (h':okF g wide) (hs:Srd f X) (hs':Srd g Y) (hl:X.length+Y.length≤900) :
  z2_ X f Y g=.ok (X.filter (fun c=>hasP Y g (prt c f)),X.filter (fun c=>!hasP Y g (prt c f)),Y.filter (fun c=>hasP X f (prt c g)),Y.filter (fun c=>!hasP X f (prt c g))):=by
 obtain ⟨P,e1,p1⟩:=zhF_ f hX (by lia)
 obtain ⟨Q,e2,p2⟩:=zhF_ g hY (by lia)
 unfold z2_ zaP_
 walk_at "mo"
 rw [zhM_ hX hY h h' hs hs' (by lia) (by lia),e1,e2]
 walk_at "mo"
 rw [zjA_ f hX (by lia) p2,zeo_ f hX (by lia) p2,zjA_ g hY (by lia) p1,zeo_ g hY (by lia) p1]
 rfl
def oA (X:List Crd) (f:Fld):Option Int:=(rngI 1 ((X.length:Int)-1).toNat).find? fun k=>ltS (prt (X.getD k.toNat []) f) (prt (X.getD (k-1).toNat []) f)
theorem zi3_ {X:List Crd}{f:Fld}{wide:Int}(hX:∀ c∈X,isC c) (h:okF f wide) (hl:X.length≤1000):zb4_ X (rngI (((f.1-1).toNat:Int)+1) wide.toNat)=.ok (oA X f):=by
 unfold zb4_ zdz_
 walk_at "mo"
 rw [Mo.grd_ok ⟨by lia,by lia,by lia,by lia⟩]
 walk_at "mo"
 rw [zcu_ (p:=fun k=>ltS (prt (X.getD k.toNat []) f) (prt (X.getD (k-1).toNat []) f)) (a:=fun k=>some k) (fun k hk=>?_)]
 ·unfold oA
  cases e:List.find? (fun k=>ltS (prt (X.getD k.toNat []) f) (prt (X.getD (k-1).toNat []) f)) (rngI 1 ((X.length:Int)-1).toNat) with
  | none=>rfl
  | some k=>rfl
 ·have hk:=zah_.mp hk
  obtain ⟨e1,m1⟩:=zaX_ (X:=X) ([]:Crd) (k:=k) (by lia) (by lia)
  obtain ⟨e2,m2⟩:=zaX_ (X:=X) ([]:Crd) (k:=k-1) (by lia) (by lia)
  rw [e1,e2]
  walk_at "mo"
  rw [zd7_ (hX _ m1) (hX _ m2) h]
  rfl
theorem zeW_ {X:List Crd}{f:Fld}{wide:Int}(hX:∀ c∈X,isC c) (h:okF f wide) (hl:X.length≤1000):zaV_ X f=.ok (oA X f):=by
 unfold zaV_ zdv_
 walk_at "mo"
 rw [Mo.grd_ok ⟨by lia,by lia,by lia,by lia⟩]
 walk_at "mo"
 rw [zcu_ (p:=fun k=>ltS (prt (X.getD k.toNat []) f) (prt (X.getD (k-1).toNat []) f)) (a:=fun k=>some k) (fun k hk=>?_)]
 ·unfold oA
  cases e:List.find? (fun k=>ltS (prt (X.getD k.toNat []) f) (prt (X.getD (k-1).toNat []) f)) (rngI 1 ((X.length:Int)-1).toNat) with
  | none=>rfl
  | some k=>rfl
 ·have hk:=zah_.mp hk
  obtain ⟨e1,m1⟩:=zaX_ (X:=X) ([]:Crd) (k:=k) (by lia) (by lia)
  obtain ⟨e2,m2⟩:=zaX_ (X:=X) ([]:Crd) (k:=k-1) (by lia) (by lia)
  have l1:=(hX _ m1).1
  have l2:=(hX _ m2).1
  rw [e1,e2]
  walk_at "mo"
  rw [Mo.lim_ok (by lia),Mo.lim_ok (by lia)]
  walk_at "mo"
  show (if ltS (prt (X.getD k.toNat []) f) (prt (X.getD (k-1).toNat []) f)=true then _ else _)=_
  cases ltS (prt (X.getD k.toNat []) f) (prt (X.getD (k-1).toNat []) f)<;>rfl
theorem zhU_ {X:List Crd}{f:Fld}:oA X f=none→(∀ a b c:List Nat,ltS b a=false→ltS c b=false→ltS c a=false)→Srd f X:=fun h tr=>by
 have adj:∀ i:Nat,(h1:i+1<X.length)→ltS (prt X[i+1] f) (prt (X[i]'(by lia)) f)=false:=fun i h1=>by
  have:=List.find?_eq_none.mp h ((i:Int)+1) (zah_.mpr ⟨by lia,by lia⟩)
  rw [show ((i:Int)+1).toNat=i+1 by lia,show ((i:Int)+1-1).toNat=i by lia,List.getD_eq_getElem?_getD,List.getD_eq_getElem?_getD,List.getElem?_eq_getElem h1,List.getElem?_eq_getElem (show i<X.length by lia)] at this
  simpa using this
 refine List.pairwise_iff_getElem.mpr fun i j hi hj hij=>?_
 obtain ⟨d,rfl⟩:∃ d,j=i+1+d:=⟨j-(i+1),by lia⟩
 induction d with
 | zero=>exact adj i hj
 | succ d ih=>exact tr _ _ _ (ih (by lia) (by lia)) (adj (i+1+d) (by lia))
theorem zlQ_:∀ a b c:List Nat,ltS b a=false→ltS c b=false→ltS c a=false:=fun a b c h1 h2=>ziP_.tr h1 h2
def noOrd (n k:Int):Xc:=.at "NoOrder" [("deck",.i n),("place",.i k)]
theorem dgl:∀ m:Fin 1001,(dg m.1).length≤1000∧((m.1:Nat):Int).natAbs.log2<1920:=by decide +kernel
theorem znv_ (n k:Int) (hn:n=1∨n=2) (hk:0≤k∧k≤1000):∃ t,zy_ n k=.ok t:=by
 have hs:∀ v:Int,0≤v→v≤1000→(strI v).length≤1000∧v.natAbs.log2<1920:=fun v h0 h1=>by
  obtain ⟨m,rfl⟩:=Int.eq_ofNat_of_zero_le h0
  have hm:m<1001:=by lia
  rw [zlo_]
  exact dgl ⟨m,hm⟩
 have h1:=hs n (by lia) (by lia)
 have h2:=hs k hk.1 hk.2
 unfold zy_
 walk_at "mo"
 rw [Mo.grd_ok (by decide),Mo.grd_ok h1.2,Mo.okB,Mo.grd_ok h1.1,Mo.grd_ok (by decide),Mo.grd_ok h2.2,Mo.okB,Mo.grd_ok h2.1]
 exact ⟨_,rfl⟩
theorem zaY_ {X:List Crd}{f:Fld}{wide:Int}{n:Int}(hn:n=1∨n=2) (hX:∀ c∈X,isC c) (h:okF f wide) (hl:X.length≤1000):zC_ X f n=match oA X f with | none=>.ok () | some k=>.ex (noOrd n k):=by
 unfold zC_ zau_
 walk_at "mo"
 rw [za5_ h]
 walk_at "mo"
 rw [zi3_ hX h hl]
 walk_at "mo"
 cases e:oA X f with
 | none=>rfl
 | some k =>
  have hk:=zah_.mp (List.mem_of_find?_eq_some e)
  obtain ⟨t,et⟩:=znv_ n k hn ⟨by lia,by lia⟩
  rw [if_pos (show (some k).isSome=true from rfl)]
  show fnU ((zy_ n k).noex.bind fun _=>_)=_
  rw [et]
  rfl
def cD (X:List Crd) (f:Fld) (Y:List Crd) (g:Fld):Option Xc:=if f.2-f.1=g.2-g.1 then (match oA Y g with | some k=>some (noOrd 2 k) | none=>match oA X f with | some k=>some (noOrd 1 k) | none=>none) else some (.pl "NoField")
theorem zbU_ {X Y:List Crd}{f g:Fld}{w w':Int}(hX:∀ c∈X,isC c) (hY:∀ c∈Y,isC c) (h:okF f w) (h':okF g w') (hl:X.length≤1000) (hl':Y.length≤1000):zH_ X f Y g=match cD X f Y g with | none=>.ok () | some x=>.ex x:=by
 have a1:=h.e
 have a2:=h'.e
 unfold zH_ zat_
 walk_at "mo"
 rw [zcU_ h,zcU_ h']
 walk_at "mo"
 unfold cD
 by_cases q:w=w'
 ·rw [if_pos (show f.2-f.1=g.2-g.1 by lia),decide_eq_true q]
  walk_at "mo"
  rw [zaY_ (.inr rfl) hY h' hl',zaY_ (.inl rfl) hX h hl]
  cases oA Y g with
  | some k=>rfl
  | none =>
   cases oA X f with
   | some k=>rfl
   | none=>rfl
 ·rw [if_neg (show ¬ f.2-f.1=g.2-g.1 by lia),decide_eq_false q]
  rfl
theorem zjU_ {X Y:List Crd}{f g:Fld}{w w':Int}(h:okF f w) (h':okF g w') (e:cD X f Y g=none):w=w'∧Srd f X∧Srd g Y:=by
 have a1:=h.e
 have a2:=h'.e
 unfold cD at e
 split at e
 case isFalse=>cases e
 case isTrue q =>
  cases e1:oA Y g with
  | some k=>rw [e1] at e; cases e
  | none =>
   rw [e1] at e
   cases e2:oA X f with
   | some k=>rw [e2] at e; cases e
   | none=>exact ⟨by lia,zhU_ e2 zlQ_,zhU_ e1 zlQ_⟩
def wT (way:Int) (X:List Crd) (f:Fld) (Y:List Crd) (g:Fld):Option Xc:=if way<2 then cD X f Y g else match oA X f with | some k=>some (noOrd 1 k) | none=>none
theorem zlH_ {X Y:List Crd}{f g:Fld}{w w' way:Int}(hw:way=0∨way=1∨way=2) (hX:∀ c∈X,isC c) (hY:∀ c∈Y,isC c) (h:okF f w) (h':okF g w') (hl:X.length+Y.length≤900) :
  zag_ way X f Y g=match wT way X f Y g with | none=>.ok () | some x=>.ex x:=by
 rcases hw with rfl | rfl | rfl
 ·unfold zag_ zaN_
  walk_at "mo"
  rw [show wT 0 X f Y g=cD X f Y g from rfl]
  cases e:cD X f Y g with
  | none =>
   obtain ⟨rfl,s1,s2⟩:=zjU_ h h' e
   rw [zmD_ hX hY h h' s1 s2 hl]
   rfl
  | some x =>
   rw [show z2_ X f Y g=.ex x by unfold z2_ zaP_; walk_at "mo"; rw [zbU_ hX hY h h' (by lia) (by lia),e]; rfl]
   rfl
 ·unfold zag_ zaN_
  walk_at "mo"
  rw [show wT 1 X f Y g=cD X f Y g from rfl]
  cases e:cD X f Y g with
  | none =>
   obtain ⟨rfl,s1,s2⟩:=zjU_ h h' e
   rw [zny_ hX hY h h' s1 s2 hl]
   rfl
  | some x =>
   rw [show z3_ X f Y g=.ex x by unfold z3_ zaS_; walk_at "mo"; rw [zbU_ hX hY h h' (by lia) (by lia),e]; rfl]
   rfl
 ·unfold zag_ zaN_
  walk_at "mo"
  rw [show wT 2 X f Y g=match oA X f with | some k=>some (noOrd 1 k) | none=>none from rfl]
  cases e:oA X f with
  | none =>
   rw [zlm_ hX h (zhU_ e zlQ_) (by lia)]
   rfl
  | some x =>
   rw [show zU_ X f=.ex (noOrd 1 x) by unfold zU_ zas_; walk_at "mo"; rw [zaY_ (.inl rfl) hX h (by lia),e]; rfl]
   rfl
def toL:Option Xc→List Int
 | none=>[]
 | some (.pl _)=>[0,0]
 | some (.at _ as)=>match as with | [(_,.i n),(_,.i k)]=>[n,k] | _=>[]
theorem cD_is (X:List Crd) (f:Fld) (Y:List Crd) (g:Fld):cD X f Y g=none∨(∃ n k,cD X f Y g=some (noOrd n k))∨cD X f Y g=some (.pl "NoField"):=by
 unfold cD
 split
 ·cases oA Y g with
  | some k=>exact .inr (.inl ⟨2,k,rfl⟩)
  | none =>
   cases oA X f with
   | some k=>exact .inr (.inl ⟨1,k,rfl⟩)
   | none=>exact .inl rfl
 ·exact .inr (.inr rfl)
theorem wT_is (way:Int) (X:List Crd) (f:Fld) (Y:List Crd) (g:Fld):wT way X f Y g=none∨(∃ n k,wT way X f Y g=some (noOrd n k))∨wT way X f Y g=some (.pl "NoField"):=by
 unfold wT
 split
 ·exact cD_is X f Y g
 ·cases oA X f with
  | some k=>exact .inr (.inl ⟨1,k,rfl⟩)
  | none=>exact .inl rfl
theorem kinds_o (n k:Int):z4_ (noOrd n k)=.ok true:=by
 unfold z4_ zbo_
 rfl
theorem kinds_f:z4_ (.pl "NoField")=.ok true:=by
 unfold z4_ zbo_
 rfl
theorem zoi_ (n:Int):zbt_ n=.ok true:=rfl
theorem zj1_ {X Y:List Crd}{f g:Fld}{w w' way:Int}(hw:way=0∨way=1∨way=2) (hX:∀ c∈X,isC c) (hY:∀ c∈Y,isC c) (h:okF f w) (h':okF g w') (hl:X.length+Y.length≤900) :
  za8_ way X f Y g=.ok (some (toL (wT way X f Y g))):=by
 unfold za8_ zc2_
 walk_at "mo"
 rw [zlH_ hw hX hY h h' hl]
 rcases wT_is way X f Y g with e | ⟨n,k,e⟩ | e
 ·rw [e]
  rfl
 ·rw [e]
  rfl
 ·rw [e]
  rfl
theorem znO_ {X Y:List Crd}{f g:Fld}{w w' way:Int}(hw:way=0∨way=1∨way=2) (hX:∀ c∈X,isC c) (hY:∀ c∈Y,isC c) (h:okF f w) (h':okF g w') (hl:X.length+Y.length≤900) :
  zcr_ way X f Y g=.ok (toL (wT way X f Y g)):=by
 have one:∀ m:Option Int,oA X f=m→toL (match m with | some k=>some (noOrd 1 k) | none=>none)=(match m with | some k=>[1,k] | none=>[]):=fun m _=>by cases m<;>rfl
 unfold zcr_ zdV_
 walk_at "mo"
 rw [zeW_ hX h (by lia),zeW_ hY h' (by lia)]
 walk_at "mo"
 unfold wT cD
 rcases hw with rfl | rfl | rfl
 ·rw [if_pos (show (0:Int)<2 by decide),decide_eq_true (show (0:Int)<2 by decide)]
  by_cases q:f.2-f.1=g.2-g.1
  ·rw [if_pos q,decide_eq_true q]
   cases oA Y g<;>cases oA X f<;>rfl
  ·rw [if_neg q,decide_eq_false q]
   rfl
 ·rw [if_pos (show (1:Int)<2 by decide),decide_eq_true (show (1:Int)<2 by decide)]
  by_cases q:f.2-f.1=g.2-g.1
  ·rw [if_pos q,decide_eq_true q]
   cases oA Y g<;>cases oA X f<;>rfl
  ·rw [if_neg q,decide_eq_false q]
   rfl
 ·rw [if_neg (show ¬ (2:Int)<2 by decide),decide_eq_false (show ¬ (2:Int)<2 by decide)]
  cases oA X f<;>rfl
theorem zkH_ {f:Fld}{w:Int}(h:okF f w):∃ g w',zaJ_ f=.ok g∧okF g w':=by
 have a1:=h.lo; have a2:=h.e; have a3:=h.hi; have a4:=h.w1; have a5:=h.w2
 unfold zaJ_ zb7_
 walk_at "mo"
 by_cases q:f.2<36
 ·rw [decide_eq_true q]
  exact ⟨_,w+1,rfl,by dsimp only; lia,by lia,by lia,by dsimp only; lia,by dsimp only; lia⟩
 ·rw [decide_eq_false q]
  by_cases q2:1<f.1
  ·rw [decide_eq_true q2]
   exact ⟨_,w+1,rfl,by dsimp only; lia,by lia,by lia,by dsimp only; lia,by dsimp only; lia⟩
  ·rw [decide_eq_false q2]
   exact ⟨(1,35),35,rfl,by decide,by decide,by decide,by decide,by decide⟩
theorem zd6_ {D E:List Crd}(cell:Int) (hD:∀ c∈D,isC c) (hE:∀ c∈E,isC c) (hm:D.length≤200):∃ Z,z8_ D E cell=.ok Z∧(∀ c∈Z,isC c)∧Z.length≤2*D.length+E.length:=by
 unfold z8_ zbe_
 walk_at "mo"
 by_cases h0:((D.length:Int)=0)
 ·rw [decide_eq_true h0]
  exact ⟨D,rfl,hD,by lia⟩
 ·rw [decide_eq_false h0]
  have hp:(0:Int)<D.length:=by lia
  rcases (show cell % 4=0∨cell % 4=1∨cell % 4=2∨cell % 4=3 by lia) with e | e | e | e
  ·rw [e]
   exact ⟨D,rfl,hD,by lia⟩
  ·rw [e,zeO_ hp,zjV_ hp (by lia)]
   walk_at "mo"
   rw [zeO_ hp]
   walk_at "mo"
   have r1:0≤cell / 4 % D.length∧cell / 4 % D.length<D.length:=⟨Int.emod_nonneg _ (by lia),Int.emod_lt_of_pos _ hp⟩
   have r2:0≤cell / 4 / D.length % D.length∧cell / 4 / D.length % D.length<D.length:=⟨Int.emod_nonneg _ (by lia),Int.emod_lt_of_pos _ hp⟩
   generalize cell / 4 % D.length=i at r1
   generalize cell / 4 / D.length % D.length=j at r2
   obtain ⟨e1,m1⟩:=zaX_ (X:=D) ([]:Crd) r2.1 r2.2
   obtain ⟨e2,m2⟩:=zaX_ (X:=D) ([]:Crd) r1.1 r1.2
   rw [e1,e2,zlj_ r1.1 r1.2]
   refine ⟨(D.set i.toNat (D.getD j.toNat [])).set j.toNat (D.getD i.toNat []),?_,fun c hc=>?_,by simp; lia⟩
   ·walk_at "mo"
    rw [show ixN (D.set i.toNat (D.getD j.toNat [])).length j=some j.toNat by rw [List.length_set]; exact zlj_ r2.1 r2.2]
    rfl
   ·rcases List.mem_or_eq_of_mem_set hc with hc | hc
    ·rcases List.mem_or_eq_of_mem_set hc with hc | hc
     ·exact hD c hc
     ·rw [hc]; exact hD _ m1
    ·rw [hc]; exact hD _ m2
  ·rw [e]
   have l1:=ze8_ D (some (-1)) none
   have l2:=ze8_ D none (some (-1))
   refine ⟨cutG D (some (-1)) none++cutG D none (some (-1)),?_,fun c hc=>?_,by rw [List.length_append]; lia⟩
   ·rw [show decide ((2:Int)=1)=false from rfl,show decide ((2:Int)=2)=true from rfl,show decide ((2:Int)=3)=false from rfl]
    walk_at "mo"
    rw [Mo.lim_ok (by lia)]
    rfl
   ·rcases List.mem_append.mp hc with hc | hc<;>exact hD c (zg7_ hc)
  ·rw [e]
   exact ⟨E,rfl,hE,by lia⟩
theorem zlV_ {X:List Crd}{f:Fld}(h:Srd f X):oA X f=none:=by
 refine List.find?_eq_none.mpr fun k hk=>?_
 have hk:=zah_.mp hk
 have k1:k.toNat<X.length:=by lia
 have k2:(k-1).toNat<X.length:=by lia
 rw [List.getD_eq_getElem?_getD,List.getD_eq_getElem?_getD,List.getElem?_eq_getElem k1,List.getElem?_eq_getElem k2]
 have:=List.pairwise_iff_getElem.mp h _ _ k2 k1 (by lia)
 simp only [Option.getD_some]
 rw [this]; decide
theorem zk5_ (ns:List Int) (hl:ns.length≤63) (hb:BitsOk ns):f_law ns=.ok true:=by
 obtain ⟨f0,f1,wide,ef,o0,o1⟩:=zjv_ ns
 obtain ⟨d0,d1,ed,q0,q1,ql⟩:=zky_ hb hl o0 o1
 obtain ⟨c4,e4⟩:=zeV_ ns 4 (by decide)
 obtain ⟨X,eX,cX,lX,sX⟩:=zf8_ q0 o0 (by lia)
 obtain ⟨Y,eY,cY,lY,sY⟩:=zf8_ q1 o1 (by lia)
 unfold f_law zod_
 walk_at "mo"
 rw [ef]
 walk_at "mo"
 rw [ed]
 walk_at "mo"
 rw [e4]
 walk_at "mo"
 rw [Mo.grd_ok (by decide),Mo.okB,show rngI 0 (Int.toNat 2)=[0,1] from rfl,zbp_ (g:=fun k:Int=>if k=0 then X else Y) (fun k hk=>?_) (by decide)]
 ·rw [show ([]++List.map (fun k:Int=>if k=0 then X else Y) [0,1])=[X,Y] from rfl,Mo.okB]
  rw [show atI [X,Y] 0=some X from rfl,show atI [X,Y] 1=some Y from rfl,show atI [d0,d1] 0=some d0 from rfl,show atI [d0,d1] 1=some d1 from rfl,show atI [f0,f1] 0=some f0 from rfl,show atI [f0,f1] 1=some f1 from rfl]
  have r4:0≤c4 % 2147483647∧c4 % 2147483647<2147483647:=⟨Int.emod_nonneg _ (by decide),Int.emod_lt_of_pos _ (by decide)⟩
  rw [Mo.grd_ok (zaM_ (.inl ⟨by lia,by lia⟩)),Mo.grd_ok (zaM_ (.inl ⟨by lia,by lia⟩))]
  walk_at "mo"
  obtain ⟨P,eP,cP,lP⟩:=zd6_ (D:=X) (E:=d0) c4 cX q0 (by lia)
  obtain ⟨Q,eQ,cQ,lQ⟩:=zd6_ (D:=Y) (E:=d1) (c4 % 2147483647*48271 % 2147483629) cY q1 (by lia)
  rw [eP,eQ]
  walk_at "mo"
  rw [Mo.lim_ok (by simp),Mo.okB]
  obtain ⟨g,w',eg,og⟩:∃ g w',(if decide (c4 % 2147483647*69621 % 2147483587 % 6=1)=true then (zaJ_ f1).noex.bind fun o71=>(Mq (Out.nx o71):Mo (Out Bool Unit (Int×Int))) else Mq (Out.nx f1))=Mq (Out.nx g)∧okF g w':=by
   obtain ⟨g,w',e,o⟩:=zkH_ o1
   split
   ·rw [e]; exact ⟨g,w',rfl,o⟩
   ·exact ⟨f1,wide,rfl,o1⟩
  rw [eg]
  have h3:∀ x∈rngI 0 (Int.toNat 3),x=0∨x=1∨x=2:=fun x hx=>by
   have:=zah_.mp hx
   have e3:Int.toNat 3=3:=rfl
   lia
  have rf:∀ xs:List Int,eqL (fun a b=>decide (a=b)) xs xs=true:=zdW_ fun a=>decide_eq_true rfl
  have rf2:∀ xs:List (List (List Nat)),eqL (eqL fun a b=>decide (a=b)) xs xs=true:=zdW_ (zdW_ fun a=>decide_eq_true rfl)
  rw [show ∀ (k:Int×Int→Mo (Out Bool Unit Unit)),thenO (Mq (Out.nx g)) k=k g from fun _=>rfl]
  rw [Mo.grd_ok (by decide),Mo.okB,ze5_ (fun x hx=>?_)]
  ·rw [show ∀ (k:Unit→Mo (Out Bool Unit Unit)),thenO (Mq (Out.nx ())) k=k () from fun _=>rfl]
   rw [show forO (B:=Unit) (ρ:=Bool) (fun (s119:List (List (List Nat))) (x121:Int)=>((Mo.opt (ixN s119.length x121)).bind fun n124=>(Mo.opt s119[n124]?).bind fun z125=>Mq (z125,fun z'=>s119.set n124 z')).bind fun y126=>((Mo.opt (ixN (y126.snd []).length x121)).bind fun n124=>(Mo.opt (y126.snd [])[n124]?).bind fun z125=>Mq (z125,fun z'=>(y126.snd []).set n124 z')).bind fun y134=>(Mo.opt (atI [X,Y] x121)).bind fun a135=>Mo.lim (y134.fst.length+a135.length) (Mq (Out.nx (y134.snd (y134.fst++a135))))) [0,1] [P,Q]=Mq (Out.nx [X,Y]) by
    have l1:(([]:List (List Nat)).length+X.length)≤100000:=by simp; lia
    have l2:(([]:List (List Nat)).length+Y.length)≤100000:=by simp; lia
    show ((Mo.lim (([]:List (List Nat)).length+X.length) (Mq (Out.nx [[]++X,Q]))).bind _)=_
    rw [Mo.lim_ok l1]
    show ((Mo.lim (([]:List (List Nat)).length+Y.length) (Mq (Out.nx [[]++X,[]++Y]))).bind _)=_
    rw [Mo.lim_ok l2]
    rfl]
   rw [show ∀ (k:List (List (List Nat))→Mo (Out Bool Unit Unit)),thenO (Mq (Out.nx [X,Y])) k=k [X,Y] from fun _=>rfl]
   rw [Mo.okB,ze5_ (fun x hx=>?_)]
   ·rfl
   ·have hx:=h3 x hx
    rw [show atI [X,Y] 0=some X from rfl,show atI [X,Y] 1=some Y from rfl]
    walk_at "mo"
    have z:wT x X f0 Y f1=none:=by
     unfold wT cD
     have a1:=o0.e
     have a2:=o1.e
     rw [zlV_ sX,zlV_ sY,if_pos (show f0.2-f0.1=f1.2-f1.1 by lia)]
     split<;>rfl
    rw [zj1_ hx cX cY o0 o1 (by lia),z]
    rfl
  ·have hx:=h3 x hx
   rw [znO_ hx cP cQ o0 og (by lia)]
   rw [show atI [P,Q] 0=some P from rfl,show atI [P,Q] 1=some Q from rfl]
   walk_at "mo"
   rw [zj1_ hx cP cQ o0 og (by lia)]
   walk_at "mo"
   rw [rf,rf2]
   rfl
 ·rcases List.mem_cons.mp hk with rfl | hk
  ·unfold cond1
   rw [show atI [d0,d1] 0=some d0 from rfl,show atI [f0,f1] 0=some f0 from rfl]
   walk_at "mo"
   rw [eX]; rfl
  ·cases List.mem_singleton.mp hk
   unfold cond1
   rw [show atI [d0,d1] 1=some d1 from rfl,show atI [f0,f1] 1=some f1 from rfl]
   walk_at "mo"
   rw [eY]; rfl
end K22
namespace K22
open PySem PySem.Spec PyProof.Rows L2
open Mo renaming bind→Mb,ok→Mq
open Sl renaming fz→Zf,dead→Zd,ow→Zo
theorem zoC_ {l:PySem.W.OpenLaw}{w:World}{K:Fgg}{mg:Str→Option Value}{base:Heap}{f:Addr}{fd:FuncData}(e:En K mg) (g1:zc4_ l.prog w K mg base) (g4:zdn_ l.prog w K mg base) (g0:zav_ l.prog w K mg base) (g6:zcL_ l.prog w K mg base) (g5:zco_ l.prog w K mg base) (g7:zdd_ l.prog w K mg base) (g9:zfL_ l.prog w K mg base) (g31:zeX_ l.prog w K mg base) (F:Fun K "law" "law" zoL_ f fd):FnOk l.prog w K mg base CX0 11 f fd ["_law_script"] (spL K) :=
 okL (l:=l) (w:=w) (K:=K) (mg:=mg) (base:=base) (k:=10) (st:=zoL_) (x := "_law_script") (N:=["_law_script", "_law_fields_here", "_law_drawn_here", "_law_cell", "_law_good", "_law_one", "_law_other", "_law_handed", "_law_other_field", "_law_way", "_law_due_here", "_law_told_here", "_law_k"]) (t:=fun E=>t_law K) (g:=zod_) 12 (fun _ _ _ _ _ _ E nd hr=>(zd_ (pst 1 (zk_ g1 (hm hr) (zb_ (za_ 0) zh_))) (zd_ (pst 2 (zk_ g4 (hm hr) (zb_ (za_ 0) (zb_ (za_ 1) zh_)))) (zd_ (pst 3 (zk_ g0 (hm hr) (zb_ (za_ 0) (zb_ zg_ zh_)))) (zd_ (zd4_ (cl:=_) (lv:=["_law_k"]) (fr:=[("_law_drawn_here",2),("_law_fields_here",1)]) rfl (csm rfl (frc (frc fr0))) (zbK_ (e.m.gb e.b1) (zb_ zg_ zh_)) (fun _ _ _ _=>(pgc 0)) (fun _ _ _ _=>zeR_) (fun _ _ _ _=>(zk_ g6 (hm hr) (zb_ (zO_ ix_M (za_ 1) (za_ 0) (fun _ _=>rfl)) (zb_ (zO_ ix_M (za_ 2) (za_ 0) (fun _ _=>rfl)) zh_)))) (pgn 4)) (zd_ (pst 5 (zk_ g5 (hm hr) (zb_ (zO_ ix_M (za_ 4) zg_ (fun _ _=>rfl)) (zb_ (zO_ ix_M (za_ 2) zg_ (fun _ _=>rfl)) (zb_ (za_ 3) zh_))))) (zd_ (pst 6 (zk_ g5 (hm hr) (zb_ (zO_ ix_M (za_ 4) zg_ (fun _ _=>rfl)) (zb_ (zO_ ix_M (za_ 2) zg_ (fun _ _=>rfl)) (zb_ (zw_ zE_ (zw_ zbw_ (zw_ zE_ (za_ 3) zg_) zg_) zg_) zh_))))) (zd_ (pst 7 (zaD_ (zb_ (zlT_ "list" (zbc_ rfl) (e.m.gb e.b2) (zb_ (za_ 5) zh_)) (zb_ (zlT_ "list" (zbc_ rfl) (e.m.gb e.b2) (zb_ (za_ 6) zh_)) zh_)))) (zd_ (pst 8 (zO_ ix_M (za_ 1) zg_ (fun _ _=>rfl))) (zd_ (zam_ (zG_ (zdG_ hr.u60) (zw_ zE_ (zw_ zE_ (zw_ zbw_ (zw_ zE_ (za_ 3) zg_) zg_) zg_) zg_) zg_) (zj_ (pst 8 (zk_ g7 (hm hr) (zb_ (zO_ ix_M (za_ 1) zg_ (fun _ _=>rfl)) zh_)))) zN_) (zd_ (zc3_ PassesOwn.never rfl (zbK_ (e.m.gb e.b1) (zb_ zg_ zh_)) (pgn 9) (zd_ (pst 10 (zk_ g9 (hm hr) (zb_ (za_ 9) (zb_ (za_ 5) (zb_ (zO_ ix_M (za_ 1) zg_ (fun _ _=>rfl)) (zb_ (za_ 6) (zb_ (za_ 8) zh_))))))) (zd_ (pst 11 (zk_ g31 (hm hr) (zb_ (za_ 9) (zb_ (zO_ ix_M (za_ 7) zg_ (fun _ _=>rfl)) (zb_ (zO_ ix_M (za_ 1) zg_ (fun _ _=>rfl)) (zb_ (zO_ ix_M (za_ 7) zg_ (fun _ _=>rfl)) (zb_ (za_ 8) zh_))))))) (zj_ (zam_ (PW.pt (zlY_ (zG_ (zgl_ hr.u60) (za_ 11) (za_ 10)) (zno_ (zG_ (zgl_ hr.u60) (za_ 7) (zaD_ (zb_ (za_ 5) (zb_ (za_ 6) zh_))))))) (zj_ (zx_ zlC_)) zN_))))) (zd_ (zc3_ PassesOwn.never rfl (zbK_ (e.m.gb e.b1) (zb_ zg_ zh_)) (pgn 12) (zd_ (zaI_ (znM_ zci_ zeC_ zd3_ zkU_ (zO_ ix_M (za_ 7) (za_ 12) (fun _ _=>rfl)))) (zj_ (zaI_ (zka_ zci_ zb2_ zb1_ zfU_ (zO_ ix_M (za_ 7) (za_ 12) (fun _ _=>rfl)) (zb_ (zO_ ix_M (za_ 4) (za_ 12) (fun _ _=>rfl)) zh_)))))) (zd_ (zc3_ PassesOwn.never rfl (zbK_ (e.m.gb e.b1) (zb_ zg_ zh_)) (pgn 9) (zj_ (zam_ (zG_ (zgl_ hr.u60) (zk_ g31 (hm hr) (zb_ (za_ 9) (zb_ (zO_ ix_M (za_ 7) zg_ (fun _ _=>rfl)) (zb_ (zO_ ix_M (za_ 1) zg_ (fun _ _=>rfl)) (zb_ (zO_ ix_M (za_ 7) zg_ (fun _ _=>rfl)) (zb_ (zO_ ix_M (za_ 1) zg_ (fun _ _=>rfl)) zh_)))))) (zaD_ zh_)) (zj_ (zx_ zlC_)) zN_))) (zj_ (zx_ zlC_))))))))))))))) (fun ns hl hb=>zk5_ ns hl hb) (fun c E=>at_ [(Zf (tySc K) c),Zd,Zd,Zd,Zd,Zd,Zd,Zd,Zd,Zd,Zd,Zd,Zd]
 (zad_ (i:=1) rfl (zS_ (zby_ (z5_ zm_ (z6_ zm_)))) (zJ_ (ze_ (zc_ 0 rfl))) fun u1'=>zfK_ (i:=1) rfl (at_ [(Zf (tySc K) c),(Zf (tyL Qq0) u1'),Zd,Zd,Zd,Zd,Zd,Zd,Zd,Zd,Zd,Zd,Zd] (zad_ (i:=2) rfl (zhw_ zr_) (zJ_ (zf_ (zc_ 0 rfl) (ze_ (zc_ 1 rfl)))) fun u3'=>zfK_ (i:=2) rfl (at_ [(Zf (tySc K) c),(Zf (tyL Qq0) u1'),(Zf (tyL (tyL tyStr)) u3'),Zd,Zd,Zd,Zd,Zd,Zd,Zd,Zd,Zd,Zd] (zbM_ (i:=3) rfl zm_ (zn_ (zf_ (zc_ 0 rfl) (ze_ (zi_ 4)))) fun y7=>(at_ [(Zf (tySc K) c),(Zf (tyL Qq0) u1'),(Zf (tyL (tyL tyStr)) u3'),(Zf tyInt y7),Zd,Zd,Zd,Zd,Zd,Zd,Zd,Zd,Zd] (zad_ (i:=4) rfl (zhw_ zr_) (zkz_ (zcM_ (ze_ (zi_ 2))) (z0_ 0) (fun _=>dead1) (fun w13=>zei_) (fun w13=>(zJ_ (zf_ (zo_ zQ_ (zc_ 1 rfl) (zc_ 0 rfl)) (ze_ (zo_ zQ_ (zc_ 2 rfl) (zc_ 0 rfl))))))) fun v11=>zfK_ (i:=4) rfl (at_ [(Zf (tySc K) c),(Zf (tyL Qq0) u1'),(Zf (tyL (tyL tyStr)) u3'),(Zf tyInt y7),(Zf (tyL (tyL tyStr)) v11),Zd,Zd,Zd,Zd,Zd,Zd,Zd,Zd] (zad_ (i:=5) rfl (zS_ zr_) (zJ_ (zf_ (zo_ zQ_ (zc_ 4 rfl) (zi_ 0)) (zf_ (zo_ zQ_ (zc_ 2 rfl) (zi_ 0)) (ze_ (zc_ 3 rfl))))) fun o22=>zfK_ (i:=5) rfl (at_ [(Zf (tySc K) c),(Zf (tyL Qq0) u1'),(Zf (tyL (tyL tyStr)) u3'),(Zf tyInt y7),(Zf (tyL (tyL tyStr)) v11),(Zf (tyL tyStr) o22),Zd,Zd,Zd,Zd,Zd,Zd,Zd] (zad_ (i:=6) rfl (zS_ zr_) (zJ_ (zf_ (zo_ zQ_ (zc_ 4 rfl) (zi_ 1)) (zf_ (zo_ zQ_ (zc_ 2 rfl) (zi_ 1)) (ze_ (zo_ zF_ (zo_ za0_ (zo_ zF_ (zc_ 3 rfl) (zi_ 2147483647)) (zi_ 48271)) (zi_ 2147483629)))))) fun o32=>zfK_ (i:=6) rfl (at_ [(Zf (tySc K) c),(Zf (tyL Qq0) u1'),(Zf (tyL (tyL tyStr)) u3'),(Zf tyInt y7),(Zf (tyL (tyL tyStr)) v11),(Zf (tyL tyStr) o22),(Zf (tyL tyStr) o32),Zd,Zd,Zd,Zd,Zd,Zd] (zad_ (i:=7) rfl (zmA_ (zS_ zr_)) (zjJ_ (zdT_ (zgO_ zfO_ (ze_ (zc_ 5 rfl))) (zdT_ (zgO_ zfO_ (ze_ (zc_ 6 rfl))) zkg_))) fun h48=>(at_ [(Zf (tySc K) c),(Zf (tyL Qq0) u1'),(Zf (tyL (tyL tyStr)) u3'),(Zf tyInt y7),(Zf (tyL (tyL tyStr)) v11),(Zf (tyL tyStr) o22),(Zf (tyL tyStr) o32),(Zo (owLO (owL tyStr)) h48),Zd,Zd,Zd,Zd,Zd] (zbM_ (i:=8) rfl (zby_ (z5_ zm_ (z6_ zm_))) (zo_ zQ_ (zc_ 1 rfl) (zi_ 1)) fun o56=>(at_ [(Zf (tySc K) c),(Zf (tyL Qq0) u1'),(Zf (tyL (tyL tyStr)) u3'),(Zf tyInt y7),(Zf (tyL (tyL tyStr)) v11),(Zf (tyL tyStr) o22),(Zf (tyL tyStr) o32),(Zo (owLO (owL tyStr)) h48),(Zf Qq0 o56),Zd,Zd,Zd,Zd] (zbE_ (LS:=(fun s70:(Int×Int)=>[(Zf (tySc K) c),(Zf (tyL Qq0) u1'),(Zf (tyL (tyL tyStr)) u3'),(Zf tyInt y7),(Zf (tyL (tyL tyStr)) v11),(Zf (tyL tyStr) o22),(Zf (tyL tyStr) o32),(Zo (owLO (owL tyStr)) h48),(Zf Qq0 s70),Zd,Zd,Zd,Zd])) (s_if (zR_ (zo_ zdM_ (zo_ zF_ (zo_ zF_ (zo_ za0_ (zo_ zF_ (zc_ 3 rfl) (zi_ 2147483647)) (zi_ 69621)) (zi_ 2147483587)) (zi_ 6)) (zi_ 1))) (zdY_ (zbM_ (i:=8) rfl (zby_ (z5_ zm_ (z6_ zm_))) (zn_ (ze_ (zo_ zQ_ (zc_ 1 rfl) (zi_ 1)))) fun o71=>(at_ [(Zf (tySc K) c),(Zf (tyL Qq0) u1'),(Zf (tyL (tyL tyStr)) u3'),(Zf tyInt y7),(Zf (tyL (tyL tyStr)) v11),(Zf (tyL tyStr) o22),(Zf (tyL tyStr) o32),(Zo (owLO (owL tyStr)) h48),(Zf Qq0 o71),Zd,Zd,Zd,Zd] (zq_ (S4 (S4 (S4 (.same .nil)))))))) (zq_ (S4 (S4 (S4 (.same .nil)))))) fun s70=>(at_ [(Zf (tySc K) c),(Zf (tyL Qq0) u1'),(Zf (tyL (tyL tyStr)) u3'),(Zf tyInt y7),(Zf (tyL (tyL tyStr)) v11),(Zf (tyL tyStr) o22),(Zf (tyL tyStr) o32),(Zo (owLO (owL tyStr)) h48),(Zf Qq0 s70),Zd,Zd,Zd,Zd] (zbE_ (LS:=(fun _:Unit=>[(Zf (tySc K) c),(Zf (tyL Qq0) u1'),(Zf (tyL (tyL tyStr)) u3'),(Zf tyInt y7),(Zf (tyL (tyL tyStr)) v11),(Zf (tyL tyStr) o22),(Zf (tyL tyStr) o32),(Zo (owLO (owL tyStr)) h48),(Zf Qq0 s70),Zd,Zd,Zd,Zd])) (zcq_ (L':=[(Zf (tySc K) c),(Zf (tyL Qq0) u1'),(Zf (tyL (tyL tyStr)) u3'),(Zf tyInt y7),(Zf (tyL (tyL tyStr)) v11),(Zf (tyL tyStr) o22),(Zf (tyL tyStr) o32),(Zo (owLO (owL tyStr)) h48),(Zf Qq0 s70),Zd,Zd,Zd,Zd]) (S4 (S4 (S4 (.same .nil)))) (zhg_ (LS:=(fun _:Unit=>[(Zf (tySc K) c),(Zf (tyL Qq0) u1'),(Zf (tyL (tyL tyStr)) u3'),(Zf tyInt y7),(Zf (tyL (tyL tyStr)) v11),(Zf (tyL tyStr) o22),(Zf (tyL tyStr) o32),(Zo (owLO (owL tyStr)) h48),(Zf Qq0 s70),Zd,Zd,Zd,Zd])) (s0:=()) (zcM_ (ze_ (zi_ 3))) (z0_ 9) fun _ x77=>at_ [(Zf (tySc K) c),(Zf (tyL Qq0) u1'),(Zf (tyL (tyL tyStr)) u3'),(Zf tyInt y7),(Zf (tyL (tyL tyStr)) v11),(Zf (tyL tyStr) o22),(Zf (tyL tyStr) o32),(Zo (owLO (owL tyStr)) h48),(Zf Qq0 s70),(Zf tyInt x77),Zd,Zd,Zd] (zad_ (i:=10) rfl (zS_ zm_) (zJ_ (zf_ (zc_ 9 rfl) (zf_ (zc_ 5 rfl) (zf_ (zo_ zQ_ (zc_ 1 rfl) (zi_ 0)) (zf_ (zc_ 6 rfl) (ze_ (zc_ 8 rfl))))))) fun d78=>zfK_ (i:=10) rfl (at_ [(Zf (tySc K) c),(Zf (tyL Qq0) u1'),(Zf (tyL (tyL tyStr)) u3'),(Zf tyInt y7),(Zf (tyL (tyL tyStr)) v11),(Zf (tyL tyStr) o22),(Zf (tyL tyStr) o32),(Zo (owLO (owL tyStr)) h48),(Zf Qq0 s70),(Zf tyInt x77),(Zf (tyL tyInt) d78),Zd,Zd] (zad_ (i:=11) rfl (zh1_ (zS_ zm_)) (zJ_ (zf_ (zc_ 9 rfl) (zf_ (zo_ zQ_ (zcY_ (O:=(owLO (owL tyStr))) 7 rfl) (zi_ 0)) (zf_ (zo_ zQ_ (zc_ 1 rfl) (zi_ 0)) (zf_ (zo_ zQ_ (zcY_ (O:=(owLO (owL tyStr))) 7 rfl) (zi_ 1)) (ze_ (zc_ 8 rfl))))))) fun t91=>zfK_ (O1:=(owOpt (owL tyInt))) (i:=11) rfl (at_ [(Zf (tySc K) c),(Zf (tyL Qq0) u1'),(Zf (tyL (tyL tyStr)) u3'),(Zf tyInt y7),(Zf (tyL (tyL tyStr)) v11),(Zf (tyL tyStr) o22),(Zf (tyL tyStr) o32),(Zo (owLO (owL tyStr)) h48),(Zf Qq0 s70),(Zf tyInt x77),(Zf (tyL tyInt) d78),(Zf (tyOpt (tyL tyInt)) t91),Zd] (s_if (et_or (zR_ (zo_ (zjc_ (zm3_ zhD_)) (zcR_ (zc_ 11 rfl)) (zc_ 10 rfl))) (zR_ (zo_ (zjc_ (zm3_ (zm3_ zmc_))) (zcY_ (O:=(owLO (owL tyStr))) 7 rfl) (EvO.fr (zdK_ (zs_ zt_) (zab_ zaU_) (zf_ (zc_ 5 rfl) (ze_ (zc_ 6 rfl)))))))) (za3_ (zac_ zbu_) (EvF.ow (zlA_ false))) (zq_ (S4 (S4 (.same (.dead (.dead (.dead (.same .nil))))))))))))))) fun _=>(at_ [(Zf (tySc K) c),(Zf (tyL Qq0) u1'),(Zf (tyL (tyL tyStr)) u3'),(Zf tyInt y7),(Zf (tyL (tyL tyStr)) v11),(Zf (tyL tyStr) o22),(Zf (tyL tyStr) o32),(Zo (owLO (owL tyStr)) h48),(Zf Qq0 s70),Zd,Zd,Zd,Zd] (zbE_ (LS:=(fun s119:(List (List (List Nat)))=>[(Zf (tySc K) c),(Zf (tyL Qq0) u1'),(Zf (tyL (tyL tyStr)) u3'),(Zf tyInt y7),(Zf (tyL (tyL tyStr)) v11),(Zf (tyL tyStr) o22),(Zf (tyL tyStr) o32),(Zo (owLO (owL tyStr)) s119),(Zf Qq0 s70),Zd,Zd,Zd,Zd])) (zcq_ (L':=[(Zf (tySc K) c),(Zf (tyL Qq0) u1'),(Zf (tyL (tyL tyStr)) u3'),(Zf tyInt y7),(Zf (tyL (tyL tyStr)) v11),(Zf (tyL tyStr) o22),(Zf (tyL tyStr) o32),(Zo (owLO (owL tyStr)) h48),(Zf Qq0 s70),Zd,Zd,Zd,Zd]) (S4 (S4 (S4 (.same .nil)))) (zhg_ (LS:=(fun s119:(List (List (List Nat)))=>[(Zf (tySc K) c),(Zf (tyL Qq0) u1'),(Zf (tyL (tyL tyStr)) u3'),(Zf tyInt y7),(Zf (tyL (tyL tyStr)) v11),(Zf (tyL tyStr) o22),(Zf (tyL tyStr) o32),(Zo (owLO (owL tyStr)) s119),(Zf Qq0 s70),Zd,Zd,Zd,Zd])) (s0:=h48) (zcM_ (ze_ (zi_ 2))) (z0_ 12) fun s119 x121=>at_ [(Zf (tySc K) c),(Zf (tyL Qq0) u1'),(Zf (tyL (tyL tyStr)) u3'),(Zf tyInt y7),(Zf (tyL (tyL tyStr)) v11),(Zf (tyL tyStr) o22),(Zf (tyL tyStr) o32),(Zo (owLO (owL tyStr)) s119),(Zf Qq0 s70),Zd,Zd,Zd,(Zf tyInt x121)] (zk6_ (i:=7) (zmf_ (zjY_ rfl) (zc_ 12 rfl)) fun x127=>(at_ [(Zf (tySc K) c),(Zf (tyL Qq0) u1'),(Zf (tyL (tyL tyStr)) u3'),(Zf tyInt y7),(Zf (tyL (tyL tyStr)) v11),(Zf (tyL tyStr) o22),(Zf (tyL tyStr) o32),(Zo (owLO (owL tyStr)) x127),(Zf Qq0 s70),Zd,Zd,Zd,(Zf tyInt x121)] (zdY_ (ziE_ (i:=7) (zmf_ (zjY_ rfl) (zc_ 12 rfl)) zr_ (zo_ zQ_ (zc_ 4 rfl) (zc_ 12 rfl)) fun x136=>(at_ [(Zf (tySc K) c),(Zf (tyL Qq0) u1'),(Zf (tyL (tyL tyStr)) u3'),(Zf tyInt y7),(Zf (tyL (tyL tyStr)) v11),(Zf (tyL tyStr) o22),(Zf (tyL tyStr) o32),(Zo (owLO (owL tyStr)) x136),(Zf Qq0 s70),Zd,Zd,Zd,(Zf tyInt x121)] (zq_ (S4 (S4 (S4 (.dead .nil)))))))))))) fun s119=>(at_ [(Zf (tySc K) c),(Zf (tyL Qq0) u1'),(Zf (tyL (tyL tyStr)) u3'),(Zf tyInt y7),(Zf (tyL (tyL tyStr)) v11),(Zf (tyL tyStr) o22),(Zf (tyL tyStr) o32),(Zo (owLO (owL tyStr)) s119),(Zf Qq0 s70),Zd,Zd,Zd,Zd] (zbE_ (LS:=(fun _:Unit=>[(Zf (tySc K) c),(Zf (tyL Qq0) u1'),(Zf (tyL (tyL tyStr)) u3'),(Zf tyInt y7),(Zf (tyL (tyL tyStr)) v11),(Zf (tyL tyStr) o22),(Zf (tyL tyStr) o32),(Zo (owLO (owL tyStr)) s119),(Zf Qq0 s70),Zd,Zd,Zd,Zd])) (zcq_ (L':=[(Zf (tySc K) c),(Zf (tyL Qq0) u1'),(Zf (tyL (tyL tyStr)) u3'),(Zf tyInt y7),(Zf (tyL (tyL tyStr)) v11),(Zf (tyL tyStr) o22),(Zf (tyL tyStr) o32),(Zo (owLO (owL tyStr)) s119),(Zf Qq0 s70),Zd,Zd,Zd,Zd]) (S4 (S4 (S4 (.same .nil)))) (zhg_ (LS:=(fun _:Unit=>[(Zf (tySc K) c),(Zf (tyL Qq0) u1'),(Zf (tyL (tyL tyStr)) u3'),(Zf tyInt y7),(Zf (tyL (tyL tyStr)) v11),(Zf (tyL tyStr) o22),(Zf (tyL tyStr) o32),(Zo (owLO (owL tyStr)) s119),(Zf Qq0 s70),Zd,Zd,Zd,Zd])) (s0:=()) (zcM_ (ze_ (zi_ 3))) (z0_ 9) fun _ x140=>at_ [(Zf (tySc K) c),(Zf (tyL Qq0) u1'),(Zf (tyL (tyL tyStr)) u3'),(Zf tyInt y7),(Zf (tyL (tyL tyStr)) v11),(Zf (tyL tyStr) o22),(Zf (tyL tyStr) o32),(Zo (owLO (owL tyStr)) s119),(Zf Qq0 s70),(Zf tyInt x140),Zd,Zd,Zd] (s_if (zR_ (zo_ (zjc_ (zm3_ zhD_)) (zcR_ (EvO.fr (O:=(owOpt (owL tyInt))) (zJ_ (zf_ (zc_ 9 rfl) (zf_ (zo_ zQ_ (zcY_ (O:=(owLO (owL tyStr))) 7 rfl) (zi_ 0)) (zf_ (zo_ zQ_ (zc_ 1 rfl) (zi_ 0)) (zf_ (zo_ zQ_ (zcY_ (O:=(owLO (owL tyStr))) 7 rfl) (zi_ 1)) (ze_ (zo_ zQ_ (zc_ 1 rfl) (zi_ 1)))))))))) (EvO.fr (zbv_ tyInt)))) (za3_ (zac_ zbu_) (EvF.ow (zlA_ false))) (zq_ (S4 (S4 (.same (.dead (.same (.same (.same .nil))))))))))) fun _=>(at_ [(Zf (tySc K) c),(Zf (tyL Qq0) u1'),(Zf (tyL (tyL tyStr)) u3'),(Zf tyInt y7),(Zf (tyL (tyL tyStr)) v11),(Zf (tyL tyStr) o22),(Zf (tyL tyStr) o32),(Zo (owLO (owL tyStr)) s119),(Zf Qq0 s70),Zd,Zd,Zd,Zd] (za3_ (zac_ zbu_) (EvF.ow (zlA_ true)))))))))))))))))))))))))))) f fd F
theorem all_mk {l:PySem.W.OpenLaw}{w:World}{K:Fgg}{h:Heap}{mg:Str→Option Value}{fa:Addr}(X:K.In h) (G:h.Ns mainGlobals mg) (hfa:mg "law" = some (.ref fa)) (k:Ek K) :
  ∃ fd:FuncData,(∀ (s:Shared) (v:Value),BindsTo s fd ⟨[v],[]⟩ [("_law_script",v)])∧∀ base:Heap,K.In base→base.Ns mainGlobals mg→FnOk l.prog w K mg base CX0 11 fa fd ["_law_script"] (spL K):=by
 have e:En K mg:=⟨k,_,X,G⟩
 refine okLaw e.m e.f32 hfa (fun _ _ _ _ _ _ _ _=>rfl) fun base f fd F=>?_
 have g0:=zdE_ (P:=l.prog) (w:=w) (base:=base) e
 have g1:=zet_ (P:=l.prog) (w:=w) (base:=base) e g0
 have g2:=zgy_ (P:=l.prog) (w:=w) (base:=base) e
 have g3:=zgL_ (P:=l.prog) (w:=w) (base:=base) e
 have g4:=zfi_ (P:=l.prog) (w:=w) (base:=base) e g0 g2 g3
 have g5:=zdD_ (P:=l.prog) (w:=w) (base:=base) e
 have g6:=zeL_ (P:=l.prog) (w:=w) (base:=base) e
 have g7:=zfC_ (P:=l.prog) (w:=w) (base:=base) e
 have g8:=zhe_ (P:=l.prog) (w:=w) (base:=base) e
 have g9:=zhQ_ (P:=l.prog) (w:=w) (base:=base) e g8
 have g10:=zh3_ (P:=l.prog) (w:=w) (base:=base) e
 have g11:=zg2_ (P:=l.prog) (w:=w) (base:=base) e g10
 have g12:=zh0_ (P:=l.prog) (w:=w) (base:=base) e
 have g13:=zgs_ (P:=l.prog) (w:=w) (base:=base) e g11 g12
 have g14:=zdL_ (P:=l.prog) (w:=w) (base:=base) e g13
 have g15:=ziK_ (P:=l.prog) (w:=w) (base:=base) e g14
 have g16:=zbP_ (P:=l.prog) (w:=w) (base:=base) e
 have g17:=zd9_ (P:=l.prog) (w:=w) (base:=base) e
 have g18:=zdN_ (P:=l.prog) (w:=w) (base:=base) e g15 g17 g16
 have g19:=zgY_ (P:=l.prog) (w:=w) (base:=base) e
 have g20:=zdI_ (P:=l.prog) (w:=w) (base:=base) e g18 g19
 have g21:=zgG_ (P:=l.prog) (w:=w) (base:=base) e
 have g22:=zdP_ (P:=l.prog) (w:=w) (base:=base) e g21 g18
 have g23:=zgE_ (P:=l.prog) (w:=w) (base:=base) e g19
 have g24:=zeE_ (P:=l.prog) (w:=w) (base:=base) e g19
 have g25:=zcK_ (P:=l.prog) (w:=w) (base:=base) e g19
 have g26:=zes_ (P:=l.prog) (w:=w) (base:=base) e g22 g23 g25 g24
 have g27:=zeB_ (P:=l.prog) (w:=w) (base:=base) e g22 g17 g21 g19 g14
 have g28:=zfA_ (P:=l.prog) (w:=w) (base:=base) e g26 g27 g20
 have g29:=zfc_ (P:=l.prog) (w:=w) (base:=base) e
 have g30:=zfm_ (P:=l.prog) (w:=w) (base:=base) e
 have g31:=zgC_ (P:=l.prog) (w:=w) (base:=base) e g28 g29 g30
 exact zoC_ (l:=l) (w:=w) (base:=base) e g1 g4 g0 g6 g5 g7 g9 g31 F
theorem walk {l:PySem.W.OpenLaw}{q:Program}{loose:List Str}{XP:(Str→Option Value)→Heap→Prop}{YP:World→Heap→Prop}{d:DefRec}{K:Params→Fgg}(hn:l.most=some 63) (hdf:d.params.defaults=[])
  (hY:∀ (w:World) (h:Heap),YP w h→(K w.params).In h)
  (F:∀ (w:World) (mg:Str→Option Value) (fa:Addr) (h:Heap),(K w.params).In h→h.Ns mainGlobals mg→mg d.name=some (.ref fa) →
   ∃ fd:FuncData,(∀ (s:Shared) (u:Value),BindsTo s fd ⟨[u],[]⟩ [("_law_script",u)])∧∀ base:Heap,(K w.params).In base→base.Ns mainGlobals mg→FnOk l.prog w (K w.params) mg base CX0 11 fa fd ["_law_script"] (spL (K w.params))) :
  PySem.W.WalkO q loose XP YP l.row.toRowW d [] (fun f vs=>PySem.call f vs) :=
 L2.zlh_ (n:=63) (k:=11) (x := "_law_script") (CX:=fun _=>CX0) (sp:=fun w=>spL (K w.params)) hn (by decide) hdf ⟨rfl,by decide,by decide⟩ hY F (fun _ _ a ns hl hb _ hS=>⟨a,ns,rfl,hS,hl,hb,fun _=>rfl⟩) fun _ _ _ _ _ z=>z
end K22
open PySem PySem.W PyProof.Rows
set_option maxRecDepth 100000 in
set_option maxHeartbeats 0 in
theorem PySem.Challenge.cw_cardshop_k22_out_of_order_holds : PySem.Challenge.rw_cardshop_k22_out_of_order.Holds := by
 w_on; o_law; k_head; (case hw=>w_witness2)
 k_fill
 refine K22.walk (l:=PySem.Challenge.rw_cardshop_k22_out_of_order) rfl rfl (fun w h Y=>PySem.W.kIn_of Y) ?F
 case F =>
  intro w mg fa h KX G hmg
  refine K22.all_mk KX G hmg ?_
  constructor
  all_goals first | (refine' L2.Fg.mk_ ?x0 ?x1 ?x2 ?x3; (case x0=>k_is); (case x1=>k_is); (case x2=>k_is); (case x3=>k_is)) | (refine' L2.Fm.mk_ ?x0 ?x1 ?x2 ?x3 ?x4 ?x5; (case x0=>k_is); (case x1=>k_is); (case x2=>k_is); (case x3=>k_is); (case x4=>k_is); (case x5=>k_is)) | (refine' L2.Fs.mk_ ?x0 ?x1 ?x2 ?x3 ?x4 ?x5 ?x6; (case x0=>k_is); (case x1=>k_is); (case x2=>k_is); (case x3=>k_is); (case x4=>k_is); (case x5=>k_is); (case x6=>k_is)) | (refine' L2.Fc.mk_ ?x0 ?x1 ?x2 ?x3 ?x4 ?x5 ?x6; (case x0=>k_is); (case x1=>k_is); (case x2=>k_is); (case x3=>k_is); (case x4=>k_is); (case x5=>k_is); (case x6=>k_is)) | (refine' L2.Fa.mk_ ?x0 ?x1; (case x0=>k_is); (case x1=>k_is)) | (delta L2.Fb; k_is) | (refine' L2.Fv.mk_ ?x0 ?x1; (case x0=>k_is); (case x1=>exact ⟨_,rfl⟩)) | (refine' L2.Fk.mk_ ?x0; (case x0=>k_is)) | (refine' L2.Fe1.mk_ ?x0 ?x1; (case x0=>k_is); (case x1=>(show _=_; kernel_rfl!))) | (refine' L2.Fe2.mk_ ?x0 ?x1 ?x2; (case x0=>k_is); (case x1=>k_is); (case x2=>(show _=_; kernel_rfl!)))
#print axioms PySem.Challenge.cw_cardshop_k22_out_of_order_holds
