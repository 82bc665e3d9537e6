import PyProof.Rows.All
import Wide.All
import OpenK.AllK
import Wide.FinOn
import Lean
import PyProof.EqAt
import PyProof.EqKinds
import PyProof.TupleCall
import PyProof.StrLawsRepr
import PyProof.NeKinds
import PyProof.Rows.TupIter
import PyProof.InstStoreFacts
import PyProof.ExcInit
import KE.KEqDict
import KE.KDictOf
import KE.KPairComp
import PySem.Challenge.RW_cardshop_k30_board_texts
set_option Elab.async false
set_option compiler.extract_closed false
set_option linter.all false
set_option maxRecDepth 100000
set_option maxHeartbeats 4000000
def PySem.W.Fast.tw11081831516807623622:Unit:=()
def PySem.W.Fast.tw12583626798023065639:Unit:=()
def PySem.W.Fast.tw3249283590892452089:Unit:=()
def PySem.W.Fast.tw1583554565394501848:Unit:=()
def PySem.W.Fast.tw4268447929311795074:Unit:=()
def PySem.W.Fast.tw13297870269488094832:Unit:=()
def PySem.W.Fast.tw15742579743975046728:Unit:=()
def PySem.W.Fast.tw12854293717553529213:Unit:=()
def PySem.W.Fast.tw17413236961423774715:Unit:=()
def PySem.W.Fast.tw4305722544322079890:Unit:=()
def PySem.W.Fast.tw9452880110756531189:Unit:=()
def PySem.W.Fast.tw7105853982608562698:Unit:=()
def PySem.W.Fast.tw12859103715024248823:Unit:=()
def PySem.W.Fast.tw11775443159455470903:Unit:=()
def PySem.W.Fast.tw1773915107054668331:Unit:=()
def PySem.W.Fast.tw5116979218204655566:Unit:=()
def PySem.W.Fast.tw2531792810008132410:Unit:=()
def PySem.W.Fast.tw1073536396259034779:Unit:=()
def PySem.W.Fast.tw18139896224040148300:Unit:=()
noncomputable section
namespace L2
open PySem PySem.Spec PyProof.Rows
abbrev Fgg:=PySem.W.Frag
abbrev Pnn:=List (Addr×Obj)
abbrev Key:=Sum Int Str
def keyIs:Key→Value→Bool
 | .inl k,v=>Value.isInt k v
 | .inr x,v=>Value.isStrOf x v
def keyH (w:World):Key→Int
 | .inl k=>hashInt k
 | .inr x=>hashStr w x
theorem zH_:∀ {k:Key}{v:Value},keyIs k v=true→(∃ i t,k=Sum.inl i∧v=Value.int i t)∨(∃ x t,k=Sum.inr x∧v=Value.str x t)
 | .inl i,v,h=>by
  obtain ⟨t,e⟩:=Value.isInt_shape (k:=i) (v:=v) h
  exact .inl ⟨i,t,rfl,e⟩
 | .inr x,v,h=>by
  obtain ⟨t,e⟩:=Value.isStrOf_shape (x:=x) (v:=v) h
  exact .inr ⟨x,t,rfl,e⟩
theorem zhJ_ (i:Int) (t:Tok):keyIs (.inl i) (.int i t)=true:=by simp [keyIs,Value.isInt]
theorem zik_ (x:Str) (t:Tok):keyIs (.inr x) (.str x t)=true:=by simp [keyIs,Value.isStrOf]
theorem znj_ (a b:Int):decide ((Sum.inl a:Key)=Sum.inl b)=(a == b):=by
 by_cases e:a=b
 ·subst e; simp
 ·have h:¬ (Sum.inl a:Key)=Sum.inl b:=fun q=>e (Sum.inl.inj q)
  rw [decide_eq_false h]
  exact (beq_eq_false_iff_ne.mpr e).symm
theorem zms_ (a b:Str):decide ((Sum.inr a:Key)=Sum.inr b)=decide (a=b):=by
 by_cases e:a=b
 ·subst e; simp
 ·have h:¬ (Sum.inr a:Key)=Sum.inr b:=fun q=>e (Sum.inr.inj q)
  rw [decide_eq_false h,decide_eq_false e]
theorem zmB_ (a:Int) (b:Str):decide ((Sum.inl a:Key)=Sum.inr b)=false:=decide_eq_false (fun q=>nomatch q)
theorem zmx_ (a:Str) (b:Int):decide ((Sum.inr a:Key)=Sum.inl b)=false:=decide_eq_false (fun q=>nomatch q)
def mixKind (prog:Program) (w:World):PySem.KeyKind prog w Key where
 is:=keyIs
 hash:=keyH w
 inj:=fun v a b ha hb=>by
  rcases zH_ ha with ⟨i,t,rfl,rfl⟩ | ⟨x,t,rfl,rfl⟩
  ·rcases zH_ hb with ⟨j,u,rfl,e⟩ | ⟨y,u,rfl,e⟩
   ·injection e with e1 _; rw [e1]
   ·exact nomatch e
  ·rcases zH_ hb with ⟨j,u,rfl,e⟩ | ⟨y,u,rfl,e⟩
   ·exact nomatch e
   ·injection e with e1 _; rw [e1]
 byValue:=fun k v h=>by
  rcases zH_ h with ⟨i,t,rfl,rfl⟩ | ⟨x,t,rfl,rfl⟩<;>rfl
 pyHash:=fun hv h=>by
  rcases zH_ hv with ⟨i,t,rfl,rfl⟩ | ⟨x,t,rfl,rfl⟩
  ·exact wpAny_pyHash_int h
  ·exact wpAny_pyHash_str h
 eqBool:=fun hu hv h=>by
  rcases zH_ hu with ⟨i,t,rfl,rfl⟩ | ⟨x,t,rfl,rfl⟩
  ·rcases zH_ hv with ⟨j,u,rfl,rfl⟩ | ⟨y,u,rfl,rfl⟩
   ·rw [znj_] at h; exact wpAny_eqBool_int h
   ·rw [zmB_] at h; exact SeqAt.EqAt.int_str i t y u _ _ _ _ h
  ·rcases zH_ hv with ⟨j,u,rfl,rfl⟩ | ⟨y,u,rfl,rfl⟩
   ·rw [zmx_] at h; exact SeqAt.EqAt.str_int x t j u _ _ _ _ h
   ·rw [zms_] at h; exact wpAny_eqBool_str h
 «strs»:=fun k x t v h=>by
  rcases zH_ h with ⟨i,u,rfl,e⟩ | ⟨y,u,rfl,e⟩
  ·exact nomatch e
  ·injection e with e1 _
   subst e1
   cases v<;>rfl
theorem zgn_ (prog:Program) (w:World) (k:Key) (v:Value):(mixKind prog w).is k v=keyIs k v:=rfl
theorem zfo_ (prog:Program) (w:World) (i:Int) (t:Tok):(mixKind prog w).is (.inl i) (.int i t)=true:=zhJ_ i t
theorem zfQ_ (prog:Program) (w:World) (x:Str) (t:Tok):(mixKind prog w).is (.inr x) (.str x t)=true:=zik_ x t
end L2
namespace L2
open PySem PySem.Spec PyProof.Rows
inductive V where
 | non | bl (b:Bool) | int (i:Int) | str (x:Str) | byt (b:Array UInt8) | flt (b:UInt64) | ref (a:Addr) | ty (n:String)
 deriving DecidableEq
def RelV:V→Value→Prop
 | .non,u=>u=Value.none
 | .bl b,u=>u=Value.bool b
 | .int i,u=>∃ t,u=Value.int i t
 | .str x,u=>∃ t,u=Value.str x t
 | .byt b,u=>∃ t,u=Value.bytes b t
 | .flt b,u=>∃ t,u=Value.float b t
 | .ref a,u=>u=Value.ref a
 | .ty n,u=>u=Value.type n
abbrev Vals:List V→List Value→Prop:=Paired RelV
theorem Vals.length {xs:List V}{us:List Value}(r:Vals xs us):xs.length=us.length:=Paired.length r
theorem Vals.get:∀ {xs:List V}{us:List Value}{i:Nat}{x:V},Vals xs us→xs[i]?=some x→∃ u,us[i]?=some u∧RelV x u
 | _,_,_,_,.nil,e=>by simp at e
 | _,_,0,_,.cons r _,e=>by simp at e; subst e; exact ⟨_,rfl,r⟩
 | _,_,i+1,x,.cons _ t,e=>by
  obtain ⟨u,h1,h2⟩:=Vals.get (i:=i) (x:=x) t (by simpa using e)
  exact ⟨u,by simpa using h1,h2⟩
theorem Vals.set {x:V}{u:Value}(r:RelV x u):∀ {xs:List V}{us:List Value}(i:Nat),Vals xs us→Vals (xs.set i x) (us.set i u)
 | _,_,_,.nil=>.nil
 | _,_,0,.cons _ t=>.cons r t
 | _,_,i+1,.cons q t=>.cons q (Vals.set r i t)
theorem Vals.append:∀ {xs ys:List V}{us ws:List Value},Vals xs us→Vals ys ws→Vals (xs++ys) (us++ws)
 | _,_,_,_,.nil,s=>s
 | _,_,_,_,.cons r t,s=>.cons r (Vals.append t s)
theorem Vals.take:∀ {xs:List V}{us:List Value}(n:Nat),Vals xs us→Vals (xs.take n) (us.take n)
 | _,_,0,_=>.nil
 | _,_,_+1,.nil=>.nil
 | _,_,n+1,.cons r t=>.cons r (Vals.take n t)
theorem Vals.drop:∀ {xs:List V}{us:List Value}(n:Nat),Vals xs us→Vals (xs.drop n) (us.drop n)
 | _,_,0,r=>r
 | _,_,_+1,.nil=>.nil
 | _,_,n+1,.cons _ t=>Vals.drop n t
def RelO:Option V→Option Value→Prop
 | some v,some u=>RelV v u
 | none,none=>True
 | _,_=>False
def KV {κ:Type}:List (κ×V)→List (κ×Value)→Prop:=Paired fun (p:κ×V) (q:κ×Value)=>p.1=q.1∧RelV p.2 q.2
def kV:Key→V
 | .inl i=>.int i
 | .inr x=>.str x
inductive HO where
 | lst (xs:List V)
 | tup (xs:List V)
 | dK (kvs:List (Key×V)) | dT (kvs:List (List Key×V))
 | set (S:Int→Bool) (n:Nat)
 | ins (C dx:Addr) (fs:List (Str×V))
 | own (x:Addr)
 | xd (fs:List (Str×V))
 | met (f x:Addr)
 | rng (lo hi:Int)
 | frz (o:Obj) (u:HO)
 | tbl (ps:Array Value)
 | ext (φ:Heap→Prop)
abbrev Hp:=Addr→Option HO
def upd (H:Hp) (a:Addr) (o:HO):Hp:=fun b=>if b=a then some o else H b
theorem zC_ {H:Hp}{a:Addr}{o:HO}:upd H a o a=some o:=by unfold upd; rw [if_pos rfl]
theorem zO_ {H:Hp}{a b:Addr}{o:HO}(h:b≠a):upd H a o b=H b:=by unfold upd; rw [if_neg h]
theorem ne_of {H:Hp}{a b:Addr}{o u:HO}(h:H a=some o) (h':H b=some u) (d:o≠u):a≠b:=by
 intro e; subst e; rw [h] at h'; exact d (Option.some.inj h')
theorem zao_ {H:Hp}{a b:Addr}{o:HO}(h:H a=some o) (h':H b=none):a≠b:=by
 intro e; subst e; rw [h] at h'; cases h'
section
variable (P:Program) (w:World)
def ObjOk (H:Hp) (h:Heap) (a:Addr):HO→Prop
 | .lst xs=>xs.length≤sizeLine∧∃ (its:List Value) (n:Nat),Vals xs its∧h.get? a=some { cls:=.type "list",data:=.seq its.toArray n }
 | .tup xs=>xs.length≤sizeLine∧∃ its:List Value,Vals xs its∧IsTup h a its.toArray
 | .dK kvs=>kvs.length≤sizeLine∧(a == sysModules)=false∧∃ vs,KV kvs vs∧h.DictOf (mixKind P w) a vs
 | .dT kvs=>kvs.length≤sizeLine∧(a == sysModules)=false∧∃ xs:List (List Key×Addr×Value),
   Paired (fun (p:List Key×V) (q:List Key×Addr×Value)=>p.1=q.1∧H q.2.1=some (.tup (p.1.map kV))∧RelV p.2 q.2.2) kvs xs ∧
   ∃ o es ep,h.get? a=some o∧o.ExactDict∧o.data=.dict es ep∧es.toList=xs.map (entryOfKey (tupleKind (mixKind P w)))∧(xs.map (·.1)).Nodup
 | .set S n=>h.SetOf (intKind P w) a S n
 | .ins C dx fs=>H dx=some (.own a)∧fs.length≤1000∧dx≠a∧h.get? a=some (PySem.W.instObj C dx) ∧
   ∃ mA,h.Ns1 dx mA∧(∀ f,RelO (fs.lookup f) (mA f))∧PySem.Within mA (fs.map (·.1))
 | .own _=>∃ o,h.get? a=some o
 | .xd fs=>∃ mA,h.Ns1 a mA∧∀ f,RelO (fs.lookup f) (mA f)
 | .rng lo hi=>∃ t u v,h.get? a=some { cls:=.type "range",data:=.fields #[.int lo t,.int hi u,.int 1 v] }
 | .frz o u=>h.get? a=some o∧ObjOk H h a u
 | .tbl ps=>h.get? a=some { cls:=.none,data:=.fields ps }
 | .met f x=>h.get? a=some (PySem.W.methodObj (.ref f) (.ref x))
 | .ext φ=>φ h∧(∃ o,h.get? a=some o)∧∀ h1 h2:Heap,φ h1→(∀ o,h1.get? a=some o→h2.get? a=some o)→φ h2
def HOk (H:Hp) (h:Heap):Prop:=∀ a o,H a=some o→ObjOk P w H h a o
end
section
variable {P:Program}{w:World}{H H':Hp}{h h':Heap}{a:Addr}{o:HO}
theorem ObjOk.lt (x:ObjOk P w H h a o):a<h.objs.size:=by
 cases o with
 | lst xs=>obtain ⟨_,_,_,_,e⟩:=x; exact Heap.lt_size e
 | tup xs=>obtain ⟨_,_,_,p⟩:=x; exact p.lt
 | dK kvs=>obtain ⟨_,_,_,_,o,_,_,e,_⟩:=x; exact Heap.lt_size e
 | dT kvs=>obtain ⟨_,_,_,_,o,_,_,e,_⟩:=x; exact Heap.lt_size e
 | set S n=>obtain ⟨o,_,_,_,e,_⟩:=x; exact Heap.lt_size e
 | ins C dx fs=>obtain ⟨_,_,_,e,_⟩:=x; exact Heap.lt_size e
 | own y=>obtain ⟨_,e⟩:=x; exact Heap.lt_size e
 | xd fs=>obtain ⟨_,⟨_,_,_,e,_⟩,_⟩:=x; exact Heap.lt_size e
 | rng lo hi=>obtain ⟨_,_,_,e⟩:=x; exact Heap.lt_size e
 | frz ob u=>obtain ⟨e,_⟩:=x; exact Heap.lt_size e
 | tbl ps=>exact Heap.lt_size (show h.get? a=some _ from x)
 | met f y=>exact Heap.lt_size (show h.get? a=some _ from x)
 | ext φ=>obtain ⟨_,⟨_,e⟩,_⟩:=x; exact Heap.lt_size e
theorem Paired.mapP {α β:Type}{F G:α→β→Prop}:∀ {l₁:List α}{l₂:List β},Paired F l₁ l₂→(∀ a b,F a b→G a b)→Paired G l₁ l₂
 | _,_,.nil,_=>.nil
 | _,_,.cons r t,f=>.cons (f _ _ r) (Paired.mapP t f)
theorem ObjOk.stay (x:ObjOk P w H h a o) (k:∀ b u,(b=a∨H b=some (.own a))→h.get? b=some u→h'.get? b=some u)
  (ho:∀ b,H b=some (.own a)→H' b=some (.own a)) (ht:∀ b xs,H b=some (.tup xs)→H' b=some (.tup xs)):ObjOk P w H' h' a o:=by
 induction o with
 | lst xs=>obtain ⟨z,its,n,r,e⟩:=x; exact ⟨z,its,n,r,k _ _ (.inl rfl) e⟩
 | tup xs=>obtain ⟨z,its,r,ob,e,c⟩:=x; exact ⟨z,its,r,ob,k _ _ (.inl rfl) e,c⟩
 | dK kvs=>obtain ⟨z,y,vs,r,ob,es,ep,e,c⟩:=x; exact ⟨z,y,vs,r,ob,es,ep,k _ _ (.inl rfl) e,c⟩
 | dT kvs =>
  obtain ⟨z,y,xs,r,ob,es,ep,e,c⟩:=x
  exact ⟨z,y,xs,Paired.mapP r fun p q z=>⟨z.1,ht _ _ z.2.1,z.2.2⟩,ob,es,ep,k _ _ (.inl rfl) e,c⟩
 | set S n=>obtain ⟨ob,es,ep,t,e,c⟩:=x; exact ⟨ob,es,ep,t,k _ _ (.inl rfl) e,c⟩
 | ins C dx fs =>
  obtain ⟨d,z,ne,e,mA,⟨od,es,ep,e2,c⟩,r⟩:=x
  exact ⟨ho _ d,z,ne,k _ _ (.inl rfl) e,mA,⟨od,es,ep,k _ _ (.inr d) e2,c⟩,r⟩
 | own y=>obtain ⟨ob,e⟩:=x; exact ⟨ob,k _ _ (.inl rfl) e⟩
 | xd fs=>obtain ⟨mA,⟨od,es,ep,e,c⟩,r⟩:=x; exact ⟨mA,⟨od,es,ep,k _ _ (.inl rfl) e,c⟩,r⟩
 | rng lo hi=>obtain ⟨t,u,v,e⟩:=x; exact ⟨t,u,v,k _ _ (.inl rfl) e⟩
 | frz ob u ih=>obtain ⟨e,q⟩:=x; exact ⟨k _ _ (.inl rfl) e,ih q⟩
 | tbl ps =>
  have e:h.get? a=some { cls:=.none,data:=.fields ps }:=x
  show h'.get? a=some { cls:=.none,data:=.fields ps }
  exact k a _ (.inl rfl) e
 | met f y =>
  have e:h.get? a=some (PySem.W.methodObj (.ref f) (.ref y)):=x
  show h'.get? a=some (PySem.W.methodObj (.ref f) (.ref y))
  exact k a _ (.inl rfl) e
 | ext φ=>obtain ⟨p,⟨o,e⟩,st⟩:=x; exact ⟨st _ _ p fun o q=>k _ _ (.inl rfl) q,⟨o,k _ _ (.inl rfl) e⟩,st⟩
theorem HOk.lt (x:HOk P w H h) (e:H a=some o):a<h.objs.size:=(x a o e).lt
theorem HOk.fresh (x:HOk P w H h) (e:h.objs.size≤a):H a=none:=by
 cases q:H a with
 | none=>rfl
 | some u=>exact absurd (Nat.lt_of_lt_of_le (x.lt q) e) (Nat.lt_irrefl _)
theorem HOk.kept (x:HOk P w H h) (k:∀ b u,h.get? b=some u→h'.get? b=some u):HOk P w H h':=fun a o e =>
 (x a o e).stay (fun b u _ q=>k b u q) (fun _ q=>q) fun _ _ q=>q
theorem HOk.laid (x:HOk P w H h) (k:∀ b u,h.get? b=some u→h'.get? b=some u) (hp:h.objs.size≤a) (new:ObjOk P w (upd H a o) h' a o):HOk P w (upd H a o) h':=fun b u e=>by
 have hn:=x.fresh hp
 by_cases hb:b=a
 ·subst hb; rw [zC_] at e; cases e; exact new
 ·rw [zO_ hb] at e
  exact (x b u e).stay (fun c v _ q=>k c v q) (fun c q=>by rw [zO_ (zao_ q hn)]; exact q) fun c xs q=>by rw [zO_ (zao_ q hn)]; exact q
end
def Rd (H:Hp) (a:Addr) (u:HO):Prop:=H a=some u∨∃ o,H a=some (.frz o u)
theorem Rd.ok {P:Program}{w:World}{H:Hp}{h:Heap}{a:Addr}{u:HO}(r:Rd H a u) (x:HOk P w H h):ObjOk P w H h a u:=by
 rcases r with r | ⟨o,r⟩
 ·exact x a u r
 ·obtain ⟨_,q⟩:=x a _ r
  exact q
def Mut:Option HO→Prop
 | some (.lst _)=>True
 | some (.dK _)=>True
 | some (.dT _)=>True
 | some (.set _ _)=>True
 | some (.ins _ _ _)=>True
 | some (.ext _)=>True
 | _=>False
section
variable {P:Program}{w:World}{H:Hp}{h h':Heap}{x e:Addr}{o':HO}
theorem HOk.write (ok:HOk P w H h) (mu:Mut (H x)) (he:e=x∨H e=some (.own x)) (k:∀ b u,b≠e→h.get? b=some u→h'.get? b=some u) (heo:∃ u,h'.get? e=some u)
  (new:ObjOk P w (upd H x o') h' x o'):HOk P w (upd H x o') h':=fun b u q=>by
 have nown:∀ c y,H c=some (.own y)→c≠x:=fun c y r z=>by subst z; rw [r] at mu; exact mu
 have ntup:∀ c xs,H c=some (.tup xs)→c≠x:=fun c xs r z=>by subst z; rw [r] at mu; exact mu
 by_cases hb:b=x
 ·subst hb; rw [zC_] at q; cases q; exact new
 ·rw [zO_ hb] at q
  by_cases hbe:b=e
  ·have q':H b=some (.own x):=by
    rcases he with z | z
    ·exact absurd (hbe.trans z) hb
    ·rw [hbe]; exact z
   rw [q] at q'; cases q'
   obtain ⟨v,hv⟩:=heo
   exact ⟨v,by rw [hbe]; exact hv⟩
  ·refine (ok b u q).stay (fun c v hc r=>k c v ?_ r) (fun c r=>by rw [zO_ (nown c b r)]; exact r) fun c xs r=>by rw [zO_ (ntup c xs r)]; exact r
   rcases hc with rfl | hc
   ·exact hbe
   ·rintro rfl
    rcases he with z | z
    ·exact nown c b hc z
    ·rw [hc] at z; cases z; exact hb rfl
end
structure Un (fs ex:List Addr) (H H':Hp) (h h':Heap):Prop where
 keep:∀ b o,h.get? b=some o→H b=none→b∉fs→b∉ex→h'.get? b=some o
 slot:∀ b o,h.get? b=some o→H b=none→b∈fs→b∉ex→∃ sl,h'.get? b=some { o with slots:=sl }
 free:∀ b o,h.get? b=some o→H b=none→b∉ex→H' b=none
 there:∀ b o,h.get? b=some o→b∉ex→∃ o',h'.get? b=some o'
 tups:∀ b xs,H b=some (.tup xs)→H' b=some (.tup xs)
 frzs:∀ b o u,H b=some (.frz o u)→H' b=some (.frz o u)
 tbls:∀ b ps,H b=some (.tbl ps)→∃ more,H' b=some (.tbl (ps++more))
section
variable {fs fs' ex ex':List Addr}{H H1 H2:Hp}{h h1 h2 h':Heap}{a x e:Addr}{o:HO}
theorem Un.any (u:Un fs ex H H1 h h1) {b:Addr}{ob:Obj}(q:h.get? b=some ob) (n:H b=none) (hx:b∉ex):∃ sl,h1.get? b=some { ob with slots:=sl }:=by
 by_cases hb:b∈fs
 ·exact u.slot b ob q n hb hx
 ·exact ⟨ob.slots,u.keep b ob q n hb hx⟩
theorem Un.kept (k:∀ b u,h.get? b=some u→h'.get? b=some u):Un fs ex H H h h' :=
 ⟨fun b ob q _ _ _=>k b ob q,fun b ob q _ _ _=>⟨ob.slots,k b ob q⟩,fun _ _ _ n _=>n,fun b ob q _=>⟨ob,k b ob q⟩,fun _ _ q=>q,fun _ _ _ q=>q,fun _ ps q=>⟨#[],by rw [q]; simp⟩⟩
theorem Un.refl:Un fs ex H H h h:=Un.kept fun _ _ q=>q
theorem Un.laid (k:∀ b u,h.get? b=some u→h'.get? b=some u) (hp:h.objs.size≤a) (hn:H a=none):Un fs ex H (upd H a o) h h' where
 keep:=fun b u q _ _ _=>k b u q
 slot:=fun b u q _ _ _=>⟨u.slots,k b u q⟩
 free:=fun b u q n _=>by rw [zO_ (Nat.ne_of_lt (Nat.lt_of_lt_of_le (Heap.lt_size q) hp))]; exact n
 there:=fun b u q _=>⟨u,k b u q⟩
 tups:=fun b xs q=>by rw [zO_ (zao_ q hn)]; exact q
 frzs:=fun b u xs q=>by rw [zO_ (zao_ q hn)]; exact q
 tbls:=fun b ps q=>⟨#[],by rw [zO_ (zao_ q hn),q]; simp⟩
theorem Un.write (mu:Mut (H x)) (he:e=x∨H e=some (.own x)) (k:∀ b u,b≠e→h.get? b=some u→h'.get? b=some u) (heo:∃ u,h'.get? e=some u):Un fs ex H (upd H x o) h h':=by
 have hx:∀ b,H b=none→b≠x:=fun b n z=>by subst z; rw [n] at mu; exact mu
 have hb:∀ b,H b=none→b≠e:=fun b n z=>by
  subst z
  rcases he with r | r
  ·exact hx b n r
  ·rw [n] at r; cases r
 have hm:∀ b u,H b=some u→¬ Mut (some u)→b≠x:=fun b u q nm z=>by subst z; rw [q] at mu; exact nm mu
 refine ⟨fun b u q n _ _=>k b u (hb b n) q,fun b u q n _ _=>⟨u.slots,k b u (hb b n) q⟩,fun b u q n _=>by rw [zO_ (hx b n)]; exact n,fun b u q _=>?_,
  fun b xs q=>by rw [zO_ (hm b _ q fun z=>z)]; exact q,fun b u xs q=>by rw [zO_ (hm b _ q fun z=>z)]; exact q,fun b ps q=>⟨#[],by rw [zO_ (hm b _ q fun z=>z),q]; simp⟩⟩
 by_cases hbe:b=e
 ·subst hbe; exact heo
 ·exact ⟨u,k b u hbe q⟩
end
def trk (h:Heap) (H:Hp):List Addr:=(List.range h.objs.size).filter fun a=>(H a).isSome
def hidT (h:Heap) (H:Hp):Heap:=PySem.W.hideAll h (trk h H)
theorem zhK_ (h:Heap) (H:Hp):(hidT h H).objs.size=h.objs.size:=PySem.W.hideAll_size _ _
theorem zj1_ {h:Heap}{H:Hp}{b:Addr}{o:Obj}(e:h.get? b=some o) (n:H b=none):(hidT h H).get? b=some o :=
 PySem.W.hideAll_get _ e fun hm=>by
  have q:(H b).isSome=true:=(List.mem_filter.mp hm).2
  rw [n] at q; simp at q
theorem zlg_ {h:Heap}{H:Hp}{b:Addr}{o:Obj}(e:(hidT h H).get? b=some o):h.get? b=some o∧H b=none:=by
 have e':h.get? b=some o:=PySem.W.of_hideAll (trk h H) e
 refine ⟨e',?_⟩
 cases q:H b with
 | none=>rfl
 | some x =>
  have hm:b∈trk h H:=List.mem_filter.mpr ⟨List.mem_range.mpr (Heap.lt_size e'),by simp [q]⟩
  have z:(hidT h H).get? b=none:=PySem.W.hideAll_none (trk h H) hm
  rw [z] at e; cases e
def allNews (g h:Heap) (L:Addr):Pnn:=(List.range h.objs.size).filterMap fun a=>if a=L∨(g.get? a).isSome=true then none else (h.get? a).map fun o=>(a,o)
def rest (g h:Heap) (L d:Addr):Pnn:=(allNews g h L).filter fun p=>decide (p.1≠d)
end L2
namespace L2
open PySem PySem.Spec PyProof.Rows
structure Mod (K:Fgg) (mg:Str→Option Value) (base:Heap):Prop where
 kin:K.In base
 glob:base.Ns mainGlobals mg
 blt:∃ mb,base.Ns builtinsNs mb∧∀ x:Str,x ≠ "__name__" → mb x=bootBuiltins x
 nolimit:base.NoLimit
structure Cx where
 prog:Program
 w:World
 K:Fgg
 mg:Str→Option Value
 base:Heap
 A:Around
 N:List Str
 s₀:Shared
 H₀:Hp
 env:Env
 outer:List Env
 stack:List Env
 ex:List Addr
 fn:Str→Bool
 calm:Bool
 pn:Pnn
 xe:Value→Shared→Prop
def frs (l:List Env):List Addr:=l.filterMap (·.frame)
abbrev Cx.fs (X:Cx):List Addr:=frs X.outer
def Vis (sc:Scope) (x:Str):Prop:=sc.names.lookup x=some .local∨sc.names.lookup x=some .cell∨sc.names.lookup x=some .free
def Loc (sc:Scope) (x:Str):Prop:=sc.names.lookup x=some .local∨sc.names.lookup x=some .cell
def Look (env:Env) (h:Heap) (m:Str→Option Value) (x:Str) (u:Value):Prop :=
 (env.kindOf x=some .local∧m x=some u)∨((env.kindOf x=some .cell∨env.kindOf x=some .free)∧∃ c,env.cells.lookup x=some c∧h.IsCell c (some u))
structure Cx.Ok (X:Cx):Prop where
 mod:Mod X.K X.mg X.base
 kind:X.env.scope.kind=.function
 glob:X.env.globals=mainGlobals
 blt:X.env.builtins=builtinsNs
 above:X.s₀.heap.objs.size≤X.env.locals
 inj:∀ x y c,X.env.cells.lookup x=some c→X.env.cells.lookup y=some c→x=y
 has:∀ x,(X.env.kindOf x=some .cell∨X.env.kindOf x=some .free)→∃ c,X.env.cells.lookup x=some c
 cab:∀ x c,X.fn x=true→X.env.cells.lookup x=some c→X.s₀.heap.objs.size≤c
 hd:X.calm=true→X.A.handled=none
 frames:X.A.frames=some X.stack
 stk:X.stack=X.outer∨(X.stack=X.env::X.outer∧X.env.frame=some X.env.locals)
 exf:∀ b∈X.ex,b≠X.env.locals∧∀ x c,X.env.cells.lookup x=some c→c≠b
 bs:∀ b o,X.base.get? b=some o→X.s₀.heap.get? b=some o∧X.H₀ b=none
 bsz:X.base.objs.size≤X.s₀.heap.objs.size
 noex:∀ b o,X.base.get? b=some o→b∉X.ex
 exfs:∀ b∈X.ex,b∉X.fs
 funs:X.s₀.heap.FunFrames X.base X.outer
 frf:∀ b∈X.fs,X.H₀ b=none
structure Inv (X:Cx) (pins:Pnn) (σ:List (Option V)) (H:Hp) (s:Shared):Prop where
 ok:X.Ok
 os:s.os=X.s₀.os
 bare:AllBare s.gens
 base:Un X.fs X.ex X.H₀ H X.s₀.heap s.heap
 loc:∃ m,s.heap.Ns X.env.locals m∧∀ (i:Nat) (x:Str) (v:V),X.N[i]?=some x→σ[i]?=some (some v)→Vis X.env.scope x→∃ u,RelV v u∧Look X.env s.heap m x u
 cell:∀ x c,X.env.cells.lookup x=some c→∃ v,s.heap.IsCell c v
 free:H X.env.locals=none
 freeC:∀ x c,X.env.cells.lookup x=some c→H c=none
 pin:∀ p∈X.pn++pins,s.heap.get? p.1=some p.2∧H p.1=none∧p.1≠X.env.locals∧p.1∉X.fs∧∀ v,p.2.data≠.cell v
 hok:HOk X.prog X.w H s.heap
 len:σ.length=X.N.length
section
variable {X:Cx}{pins:Pnn}{σ:List (Option V)}{H H':Hp}{s:Shared}{h':Heap}
theorem Cx.Ok.nofr (ok:X.Ok) {b:Addr}{o:Obj}(e:X.base.get? b=some o):b∉X.fs:=fun hb=>by
 have:=(ok.funs.mem hb).1
 rw [e] at this; cases this
theorem Inv.bs (I:Inv X pins σ H s):∀ b o,X.base.get? b=some o→s.heap.get? b=some o∧H b=none:=fun b o e =>
 ⟨I.base.keep b o (I.ok.bs b o e).1 (I.ok.bs b o e).2 (I.ok.nofr e) (I.ok.noex b o e),I.base.free b o (I.ok.bs b o e).1 (I.ok.bs b o e).2 (I.ok.noex b o e)⟩
theorem Inv.bk (I:Inv X pins σ H s):∀ b o,X.base.get? b=some o→s.heap.get? b=some o:=fun b o e=>(I.bs b o e).1
theorem Inv.mod (I:Inv X pins σ H s):Mod X.K X.mg X.base:=I.ok.mod
theorem Inv.kIn (I:Inv X pins σ H s):X.K.In s.heap:=I.ok.mod.kin.keeps I.bk
theorem Inv.lt (I:Inv X pins σ H s):X.env.locals<s.heap.objs.size:=let ⟨_,hn,_⟩:=I.loc; hn.lt
theorem Inv.sz (I:Inv X pins σ H s):X.s₀.heap.objs.size≤s.heap.objs.size:=Nat.le_trans I.ok.above (Nat.le_of_lt I.lt)
theorem Inv.nofs (I:Inv X pins σ H s) {a:Addr}(h:s.heap.objs.size≤a):a∉X.fs:=fun hb=>by
 obtain ⟨_,o,ho,_⟩:=I.ok.funs.mem hb
 exact absurd (Nat.lt_of_lt_of_le (Heap.lt_size ho) (Nat.le_trans I.sz h)) (Nat.lt_irrefl _)
theorem Inv.cne (I:Inv X pins σ H s):∀ x c,X.env.cells.lookup x=some c→c≠X.env.locals:=fun x c e z=>by
 obtain ⟨v,o,ho,hd⟩:=I.cell x c e
 obtain ⟨m,⟨o',es,ep,ho',hd',_⟩,_⟩:=I.loc
 rw [z,ho'] at ho; cases ho; rw [hd'] at hd; cases hd
theorem Inv.funs (I:Inv X pins σ H s):s.heap.FunFrames X.base X.outer:=by
 have all:∀ (l:List Env),(∀ b∈frs l,b∈X.fs)→X.s₀.heap.FunFrames X.base l→s.heap.FunFrames X.base l:=by
  intro l
  induction l with
  | nil=>intro _ _; trivial
  | cons env r ih =>
   intro hs hl
   obtain ⟨hk,⟨L,o,hf,hn,ho,hd⟩,hr⟩:=hl
   have hL:L∈X.fs:=hs L (by unfold frs; rw [List.filterMap_cons,hf]; exact List.mem_cons_self)
   obtain ⟨sl,e⟩:=I.base.slot L o ho (I.ok.frf L hL) hL fun z=>I.ok.exfs L z hL
   exact ⟨hk,⟨L,_,hf,hn,e,hd⟩,ih (fun b hb=>hs b (by unfold frs; rw [List.filterMap_cons,hf]; exact List.mem_cons_of_mem _ hb)) hr⟩
 exact all X.outer (fun _ hb=>hb) I.ok.funs
theorem Inv.stack (I:Inv X pins σ H s):s.heap.FunFrames X.base X.stack:=by
 rcases I.ok.stk with e | ⟨e,hf⟩
 ·rw [e]; exact I.funs
 ·rw [e]
  obtain ⟨m,hn,_⟩:=I.loc
  refine .cons (by rw [I.ok.kind]; decide) hf hn ?_ I.funs
  exact Heap.get?_none_of_le (Nat.le_trans I.ok.bsz I.ok.above)
theorem Inv.stkSub (I:Inv X pins σ H s):∀ b∈frs X.stack,b∈X.env.locals::X.fs:=fun b hb=>by
 rcases I.ok.stk with e | ⟨e,hf⟩
 ·rw [e] at hb; exact List.mem_cons_of_mem _ hb
 ·rw [e] at hb
  unfold frs at hb
  rw [List.filterMap_cons,hf] at hb
  exact hb
theorem Inv.stkFree (I:Inv X pins σ H s):∀ b∈frs X.stack,H b=none:=fun b hb=>by
 rcases List.mem_cons.mp (I.stkSub b hb) with e | hb
 ·rw [e]; exact I.free
 ·obtain ⟨_,o,ho,_⟩:=I.ok.funs.mem hb
  exact I.base.free b o ho (I.ok.frf b hb) fun z=>I.ok.exfs b z hb
theorem Inv.step {g':Array GenState}{t':Nat}{d':Drawn}{ch:List Addr}(I:Inv X pins σ H s)
  (hch:∀ b∈ch,(b∈X.ex∨X.s₀.heap.objs.size≤b)∧b≠X.env.locals∧(∀ x c,X.env.cells.lookup x=some c→c≠b)∧∀ p∈X.pn++pins,p.1≠b)
  (keep:∀ b o,b≠X.env.locals→b∉X.fs→b∉ch→s.heap.get? b=some o→H b=none→h'.get? b=some o)
  (slot:∀ b o,b≠X.env.locals→b∈X.fs→b∉ch→s.heap.get? b=some o→H b=none→∃ sl,h'.get? b=some { o with slots:=sl }) (free:∀ b o,b∉ch→s.heap.get? b=some o→H b=none→H' b=none)
  (there:∀ b o,b∉ch→s.heap.get? b=some o→∃ o',h'.get? b=some o')
  (tups:∀ b xs,H b=some (.tup xs)→H' b=some (.tup xs)) (frzs:∀ b o u,H b=some (.frz o u)→H' b=some (.frz o u)) (tbls:∀ b ps,H b=some (.tbl ps)→∃ more,H' b=some (.tbl (ps++more)))
  (ns:∀ m,s.heap.Ns X.env.locals m→h'.Ns X.env.locals m) (hok:HOk X.prog X.w H' h') (hg:AllBare g') :
  Inv X pins σ H' { s with heap:=h',gens:=g',drawn:=d',toks:=t' }:=by
 have neL:∀ b o,X.s₀.heap.get? b=some o→b≠X.env.locals:=fun b o e=>Nat.ne_of_lt (Nat.lt_of_lt_of_le (Heap.lt_size e) I.ok.above)
 have neC:∀ b o,X.s₀.heap.get? b=some o→b∉X.ex→b∉ch:=fun b o e hx hb=>by
  rcases (hch b hb).1 with z | z
  ·exact hx z
  ·exact absurd (Nat.lt_of_lt_of_le (Heap.lt_size e) z) (Nat.lt_irrefl _)
 have cellK:∀ x c,X.env.cells.lookup x=some c→∀ v,s.heap.IsCell c v→h'.IsCell c v:=fun x c e v ⟨o,ho,hd⟩=>by
  have nch:c∉ch:=fun z=>(hch c z).2.2.1 x c e rfl
  by_cases hc:c∈X.fs
  ·obtain ⟨sl,q⟩:=slot c o (I.cne x c e) hc nch ho (I.freeC x c e)
   exact ⟨_,q,hd⟩
  ·exact ⟨o,keep c o (I.cne x c e) hc nch ho (I.freeC x c e),hd⟩
 refine ⟨I.ok,I.os,hg,⟨fun b o e n hb hx=>?_,fun b o e n hb hx=>?_,fun b o e n hx=>?_,fun b o e hx=>?_,fun b xs e=>tups b xs (I.base.tups b xs e),fun b o xs e=>frzs b o xs (I.base.frzs b o xs e),fun b ps e=>?_⟩,?_,fun x c e=>?_,?_,fun x c e=>?_,fun p hp=>?_,hok,I.len⟩
 ·exact keep b o (neL b o e) hb (neC b o e hx) (I.base.keep b o e n hb hx) (I.base.free b o e n hx)
 ·obtain ⟨sl,e1⟩:=I.base.slot b o e n hb hx
  obtain ⟨sl',e2⟩:=slot b _ (neL b o e) hb (neC b o e hx) e1 (I.base.free b o e n hx)
  exact ⟨sl',e2⟩
 ·obtain ⟨o',e1⟩:=I.base.there b o e hx
  exact free b o' (neC b o e hx) e1 (I.base.free b o e n hx)
 ·obtain ⟨o',e1⟩:=I.base.there b o e hx
  exact there b o' (neC b o e hx) e1
 ·obtain ⟨m1,e1⟩:=I.base.tbls b ps e
  obtain ⟨m2,e2⟩:=tbls b _ e1
  exact ⟨m1++m2,by rw [e2,Array.append_assoc]⟩
 ·obtain ⟨m,hn,hl⟩:=I.loc
  refine ⟨m,ns m hn,fun i x v e1 e2 e3=>?_⟩
  obtain ⟨u,r,l⟩:=hl i x v e1 e2 e3
  refine ⟨u,r,?_⟩
  rcases l with l | ⟨k,c,e,z⟩
  ·exact .inl l
  ·exact .inr ⟨k,c,e,cellK x c e _ z⟩
 ·obtain ⟨v,z⟩:=I.cell x c e
  exact ⟨v,cellK x c e v z⟩
 ·obtain ⟨m,⟨o,_,_,ho,_⟩,_⟩:=I.loc
  exact free _ o (fun z=>(hch _ z).2.1 rfl) ho I.free
 ·obtain ⟨v,o,ho,hd⟩:=I.cell x c e
  exact free c o (fun z=>(hch c z).2.2.1 x c e rfl) ho (I.freeC x c e)
 ·obtain ⟨e,n,ne,nf,d⟩:=I.pin p hp
  have nch:p.1∉ch:=fun z=>(hch p.1 z).2.2.2 p hp rfl
  exact ⟨keep p.1 p.2 ne nf nch e n,free p.1 p.2 nch e n,ne,nf,d⟩
theorem Inv.un {t':Nat}(I:Inv X pins σ H s) (u:Un X.fs [] H H' s.heap h') (hok:HOk X.prog X.w H' h'):Inv X pins σ H' { s with heap:=h',toks:=t' }:=by
 obtain ⟨m,⟨o,es,ep,ho,r⟩,_⟩:=id I.loc
 obtain ⟨sl,hL⟩:=u.any ho I.free (by simp)
 exact I.step (g':=s.gens) (d':=s.drawn) (ch:=[]) (fun _ z=>nomatch z) (fun b o _ hb _ e n=>u.keep b o e n hb (by simp)) (fun b o _ hb _ e n=>u.slot b o e n hb (by simp)) (fun b o _ e n=>u.free b o e n (by simp)) (fun b o _ e=>u.there b o e (by simp)) u.tups u.frzs u.tbls (fun m' hm=>by
  obtain ⟨o',es',ep',ho',r'⟩:=hm
  rw [ho] at ho'; cases ho'
  exact ⟨_,es',ep',hL,r'⟩) hok I.bare
theorem Inv.call {g':Array GenState}{t':Nat}{d':Drawn}{ch:List Addr}(I:Inv X pins σ H s) (u:Un (frs X.stack) ch H H' s.heap h') (hok:HOk X.prog X.w H' h') (hg:AllBare g')
  (hch:∀ b∈ch,(b∈X.ex∨X.s₀.heap.objs.size≤b)∧b≠X.env.locals∧(∀ x c,X.env.cells.lookup x=some c→c≠b)∧∀ p∈X.pn++pins,p.1≠b) :
  Inv X pins σ H' { s with heap:=h',gens:=g',drawn:=d',toks:=t' }:=by
 obtain ⟨m,⟨o,es,ep,ho,r⟩,_⟩:=id I.loc
 obtain ⟨sl,hL⟩:=u.any ho I.free fun z=>(hch _ z).2.1 rfl
 exact I.step (ch:=ch) hch (fun b o hL hb hc e n=>u.keep b o e n (fun z=>(List.mem_cons.mp (I.stkSub b z)).elim hL hb) hc) (fun b o _ _ hc e n=>u.any e n hc) (fun b o hc e n=>u.free b o e n hc) (fun b o hc e=>u.there b o e hc) u.tups u.frzs u.tbls (fun m' hm=>by
  obtain ⟨o',es',ep',ho',r'⟩:=hm
  rw [ho] at ho'; cases ho'
  exact ⟨_,es',ep',hL,r'⟩) hok hg
theorem Inv.turned {t':Nat}{it:Addr}(I:Inv X pins σ H s) (k:∀ b o,b≠it→s.heap.get? b=some o→h'.get? b=some o) (hn:H it=none) (hL:it≠X.env.locals)
  (h1:it∈X.ex∨X.s₀.heap.objs.size≤it) (h2:∀ x c,X.env.cells.lookup x=some c→c≠it) (h3:∀ p∈X.pn++pins,p.1≠it):Inv X pins σ H { s with heap:=h',toks:=t' }:=by
 have nit:∀ b u,H b=some u→b≠it:=fun b u e z=>by rw [z,hn] at e; cases e
 refine I.step (g':=s.gens) (d':=s.drawn) (ch:=[it]) (fun b hb=>?_) (fun b o _ _ hc e _=>k b o (fun z=>hc (by simp [z])) e) (fun b o _ _ hc e _=>⟨o.slots,k b o (fun z=>hc (by simp [z])) e⟩) (fun _ _ _ _ n=>n)
  (fun b o hc e=>⟨o,k b o (fun z=>hc (by simp [z])) e⟩) (fun _ _ e=>e) (fun _ _ _ e=>e) (fun b ps e=>⟨#[],by rw [e]; simp⟩) (fun m hm=>?_) (fun b u e=>?_) I.bare
 ·have e:b=it:=by simpa using hb
  subst e
  exact ⟨h1,hL,h2,h3⟩
 ·obtain ⟨o,es,ep,ho,r⟩:=hm
  exact ⟨o,es,ep,k _ o (Ne.symm hL) ho,r⟩
 ·refine (I.hok b u e).stay (fun c v hc q=>k c v ?_ q) (fun _ q=>q) fun _ _ q=>q
  rcases hc with z | z
  ·rw [z]; exact nit b u e
  ·exact nit c _ z
theorem Inv.tok (I:Inv X pins σ H s) (t:Nat):Inv X pins σ H { s with toks:=t }:=I.un (h':=s.heap) (t':=t) Un.refl I.hok
theorem Inv.kept {t':Nat}(I:Inv X pins σ H s) (k:∀ b u,s.heap.get? b=some u→h'.get? b=some u):Inv X pins σ H { s with heap:=h',toks:=t' }:=I.un (Un.kept k) (I.hok.kept k)
theorem Inv.laid {a:Addr}{o:HO}{t':Nat}(I:Inv X pins σ H s) (k:∀ b u,s.heap.get? b=some u→h'.get? b=some u) (hp:s.heap.objs.size≤a) (new:ObjOk X.prog X.w (upd H a o) h' a o) :
  Inv X pins σ (upd H a o) { s with heap:=h',toks:=t' }:=I.un (Un.laid k hp (I.hok.fresh hp)) (I.hok.laid k hp new)
theorem Inv.write {x e:Addr}{o:HO}{t':Nat}(I:Inv X pins σ H s) (mu:Mut (H x)) (he:e=x∨H e=some (.own x)) (k:∀ b u,b≠e→s.heap.get? b=some u→h'.get? b=some u) (heo:∃ u,h'.get? e=some u)
  (new:ObjOk X.prog X.w (upd H x o) h' x o):Inv X pins σ (upd H x o) { s with heap:=h',toks:=t' }:=I.un (Un.write mu he k heo) (I.hok.write mu he k heo new)
theorem Inv.pins_of {pins':Pnn}(I:Inv X pins σ H s) (h:∀ p∈pins',s.heap.get? p.1=some p.2∧H p.1=none∧p.1≠X.env.locals∧p.1∉X.fs∧∀ v,p.2.data≠.cell v):Inv X pins' σ H s :=
 ⟨I.ok,I.os,I.bare,I.base,I.loc,I.cell,I.free,I.freeC,fun p hp=>(List.mem_append.mp hp).elim (fun z=>I.pin p (List.mem_append_left _ z)) (h p),I.hok,I.len⟩
theorem zet_ {N:List Str}(hN:N.Nodup) {i j:Nat}{x:Str}(a:N[i]?=some x) (b:N[j]?=some x):i=j:=by
 obtain ⟨h1,e1⟩:=List.getElem?_eq_some_iff.mp a
 obtain ⟨h2,e2⟩:=List.getElem?_eq_some_iff.mp b
 exact (List.getElem_inj hN).mp (e1.trans e2.symm)
theorem zil_ {M:Model}{A:Around}{E:Value→Shared→Prop}{i:Nat}{x:Str}{v:V}{u:Value}{Q:Unit→Shared→Prop}(I:Inv X pins σ H s) (hN:X.N.Nodup) (hi:X.N[i]?=some x) (hx:Loc X.env.scope x) (r:RelV v u)
  (h:∀ s',Inv X pins (σ.set i (some v)) H s'→(∃ a,Heap.SameBut a s.heap s'.heap∧(a=X.env.locals∨X.env.cells.lookup x=some a))→Q () s') (hf:X.fn x=true∨X.env.scope.names.lookup x=some .local:=by first | exact .inl rfl | exact .inr rfl | assumption):wpAny M A (storeName X.env x u) Q E s:=by
 obtain ⟨m,hn,hl⟩:=id I.loc
 have hcls:(X.env.scope.kind == .class || (X.env.scope.kind == .module && X.env.locals != X.env.globals))=false:=by rw [I.ok.kind]; rfl
 have hiσ:i<σ.length:=by rw [I.len]; exact (List.getElem?_eq_some_iff.mp hi).1
 have cne:=I.cne
 have tracked:∀ {a:Addr}{h':Heap},(∃ o,s.heap.get? a=some o∧H a=none)→Heap.SameBut a s.heap h'→HOk X.prog X.w H h':=fun {a h'} ha hs b ob e=>by
  obtain ⟨_,_,hfree⟩:=ha
  refine (I.hok b ob e).stay (fun c w' hc q=>(hs.2 c ?_).trans q) (fun _ q=>q) fun _ _ q=>q
  rintro rfl
  rcases hc with rfl | hc
  ·rw [hfree] at e; cases e
  ·rw [hfree] at hc; cases hc
 rcases hx with hk | hk
 ·refine wpAny_storeName_local hk hn (fun h' hn' hs=>?_) hcls
  obtain ⟨oL,_,_,hoL,_⟩:=id hn
  refine h _ ⟨I.ok,I.os,I.bare,⟨fun b o e n hb hx=>?_,fun b o e n hb hx=>?_,I.base.free,fun b o e hx=>?_,I.base.tups,I.base.frzs,I.base.tbls⟩,⟨_,hn',fun j y v' e1 e2 e3=>?_⟩,fun y c e=>?_,I.free,I.freeC,fun p hp=>?_,tracked ⟨oL,hoL,I.free⟩ hs,by simpa using I.len⟩ ⟨_,hs,.inl rfl⟩
  ·exact (hs.2 b (Nat.ne_of_lt (Nat.lt_of_lt_of_le (Heap.lt_size e) I.ok.above))).trans (I.base.keep b o e n hb hx)
  ·obtain ⟨sl,e1⟩:=I.base.slot b o e n hb hx
   exact ⟨sl,(hs.2 b (Nat.ne_of_lt (Nat.lt_of_lt_of_le (Heap.lt_size e) I.ok.above))).trans e1⟩
  ·obtain ⟨o',e1⟩:=I.base.there b o e hx
   exact ⟨o',(hs.2 b (Nat.ne_of_lt (Nat.lt_of_lt_of_le (Heap.lt_size e) I.ok.above))).trans e1⟩
  ·by_cases hj:j=i
   ·subst hj
    rw [hi] at e1; cases e1
    rw [List.getElem?_set_self hiσ] at e2
    cases e2
    exact ⟨u,r,.inl ⟨hk,by simp⟩⟩
   ·rw [List.getElem?_set_ne (Ne.symm hj)] at e2
    obtain ⟨u',r',q⟩:=hl j y v' e1 e2 e3
    refine ⟨u',r',?_⟩
    rcases q with ⟨k,e⟩ | ⟨k,c,e,z⟩
    ·refine .inl ⟨k,?_⟩
     have:y≠x:=fun e=>hj (zet_ hN e1 (e ▸ hi))
     simp [this,e]
    ·exact .inr ⟨k,c,e,z.sameBut hs (cne y c e)⟩
  ·obtain ⟨w',z⟩:=I.cell y c e
   exact ⟨w',z.sameBut hs (cne y c e)⟩
  ·obtain ⟨e,n,ne,nf,d⟩:=I.pin p hp
   exact ⟨(hs.2 p.1 ne).trans e,n,ne,nf,d⟩
 ·have hfn:X.fn x=true:=by
   rcases hf with z | z
   ·exact z
   ·rw [z] at hk; cases hk
  obtain ⟨c,hc⟩:=I.ok.has x (.inl hk)
  obtain ⟨w',z⟩:=I.cell x c hc
  refine wpAny_storeName_cell I.ok.kind hk hc z (fun h' hc' hs=>?_)
  obtain ⟨oc,hoc,hocd⟩:=id z
  refine h { s with heap:=h' } ⟨I.ok,I.os,I.bare,⟨fun b o e n hb hx=>?_,fun b o e n hb hx=>?_,I.base.free,fun b o e hx=>?_,I.base.tups,I.base.frzs,I.base.tbls⟩,⟨m,hn.sameBut hs (Ne.symm (cne x c hc)),fun j y v' e1 e2 e3=>?_⟩,fun y c' e=>?_,I.free,I.freeC,fun p hp=>?_,tracked ⟨oc,hoc,I.freeC x c hc⟩ hs,by simpa using I.len⟩ ⟨c,hs,.inr hc⟩
  ·exact (hs.2 b (Nat.ne_of_lt (Nat.lt_of_lt_of_le (Heap.lt_size e) (I.ok.cab x c hfn hc)))).trans (I.base.keep b o e n hb hx)
  ·obtain ⟨sl,e1⟩:=I.base.slot b o e n hb hx
   exact ⟨sl,(hs.2 b (Nat.ne_of_lt (Nat.lt_of_lt_of_le (Heap.lt_size e) (I.ok.cab x c hfn hc)))).trans e1⟩
  ·obtain ⟨o',e1⟩:=I.base.there b o e hx
   exact ⟨o',(hs.2 b (Nat.ne_of_lt (Nat.lt_of_lt_of_le (Heap.lt_size e) (I.ok.cab x c hfn hc)))).trans e1⟩
  ·by_cases hj:j=i
   ·subst hj
    rw [hi] at e1; cases e1
    rw [List.getElem?_set_self hiσ] at e2
    cases e2
    exact ⟨u,r,.inr ⟨.inl hk,c,hc,hc'⟩⟩
   ·rw [List.getElem?_set_ne (Ne.symm hj)] at e2
    obtain ⟨u',r',q⟩:=hl j y v' e1 e2 e3
    refine ⟨u',r',?_⟩
    rcases q with q | ⟨k,c',e,z'⟩
    ·exact .inl q
    ·refine .inr ⟨k,c',e,z'.sameBut hs ?_⟩
     rintro rfl
     exact hj (zet_ hN e1 (I.ok.inj _ _ _ e hc ▸ hi))
  ·by_cases hcc:c'=c
   ·subst hcc; exact ⟨_,hc'⟩
   ·obtain ⟨w2,z2⟩:=I.cell y c' e
    exact ⟨w2,z2.sameBut hs hcc⟩
  ·obtain ⟨e,n,ne,nf,d⟩:=I.pin p hp
   refine ⟨(hs.2 p.1 ?_).trans e,n,ne,nf,d⟩
   intro q
   rw [q,hoc] at e
   have q':oc=p.2:=Option.some.inj e
   exact d w' (by rw [← q']; exact hocd)
theorem zb4_ {M:Model}{A:Around}{E:Value→Shared→Prop}{i:Nat}{x:Str}{v:V}{u:Value}{Q:Unit→Shared→Prop}(I:Inv X pins σ H s) (hN:X.N.Nodup) (hi:X.N[i]?=some x) (hx:Loc X.env.scope x) (r:RelV v u)
  (h:∀ s',Inv X pins (σ.set i (some v)) H s'→Q () s') (hf:X.fn x=true∨X.env.scope.names.lookup x=some .local:=by first | exact .inl rfl | exact .inr rfl | assumption):wpAny M A (storeName X.env x u) Q E s :=
 zil_ I hN hi hx r (fun s' I' _=>h s' I') hf
theorem Inv.call' {s':Shared}{ch:List Addr}(I:Inv X pins σ H s) (ho:s'.os=s.os) (u:Un (frs X.stack) ch H H' s.heap s'.heap) (hok:HOk X.prog X.w H' s'.heap) (hg:AllBare s'.gens)
  (hch:∀ b∈ch,(b∈X.ex∨X.s₀.heap.objs.size≤b)∧b≠X.env.locals∧(∀ x c,X.env.cells.lookup x=some c→c≠b)∧∀ p∈X.pn++pins,p.1≠b):Inv X pins σ H' s':=by
 obtain ⟨h',g',d',t',o'⟩:=s'
 have e:o'=s.os:=ho
 subst e
 exact I.call (g':=g') (t':=t') (d':=d') u hok hg hch
end
abbrev XK:=Value→Option Addr→Hp→Prop
abbrev St:=List (Option V)
abbrev VK:=V→Hp→Prop
abbrev TE:=St→Hp→VK→Prop
abbrev TT:=St→Hp→(Bool→Hp→Prop)→Prop
abbrev TA:=St→Hp→(List V→Hp→Prop)→Prop
structure Ends where
 nx:St→Hp→Prop
 rt:VK
 bk:St→Hp→Prop:=fun _ _=>False
 ct:St→Hp→Prop:=fun _ _=>False
abbrev TS:=Ends→St→Hp→Prop
def EP (X:Cx) (pins:Pnn) (σ:St) (Q:VK) (u:Value) (s':Shared):Prop:=∃ v H',Inv X pins σ H' s'∧RelV v u∧Q v H'
def TP (X:Cx) (pins:Pnn) (σ:St) (Q:Bool→Hp→Prop) (b:Bool) (s':Shared):Prop:=∃ H',Inv X pins σ H' s'∧Q b H'
def AP (X:Cx) (pins:Pnn) (σ:St) (Q:List V→Hp→Prop) (us:List Value) (s':Shared):Prop:=∃ vs H',Inv X pins σ H' s'∧Vals vs us∧Q vs H'
def SP (X:Cx) (pins:Pnn) (D:Ends) (f:Flow) (s':Shared):Prop :=
 match f with
 | .next=>∃ σ' H',Inv X pins σ' H' s'∧D.nx σ' H'
 | .brk=>∃ σ' H',Inv X pins σ' H' s'∧D.bk σ' H'
 | .cont=>∃ σ' H',Inv X pins σ' H' s'∧D.ct σ' H'
 | .ret u=>∃ v σ' H',Inv X pins σ' H' s'∧RelV v u∧D.rt v H'
def PE (X:Cx) (e:Expr) (t:TE):Prop :=
 ∀ (pins:Pnn) (s:Shared) (σ:St) (H:Hp) (Q:VK),Inv X pins σ H s→t σ H Q→wpAny (model X.prog X.w) X.A (eval e X.env) (EP X pins σ Q) X.xe s
def PT (X:Cx) (e:Expr) (t:TT):Prop :=
 ∀ (pins:Pnn) (s:Shared) (σ:St) (H:Hp) (Q:Bool→Hp→Prop),Inv X pins σ H s→t σ H Q→wpAny (model X.prog X.w) X.A (isTrue e X.env (eval e X.env)) (TP X pins σ Q) X.xe s
def PW (X:Cx) (e:Expr) (t:TT):Prop :=
 ∀ (whole:Sem Value) (pins:Pnn) (s:Shared) (σ:St) (H:Hp) (Q:Bool→Hp→Prop),Inv X pins σ H s→t σ H Q→wpAny (model X.prog X.w) X.A (isTrue e X.env whole) (TP X pins σ Q) X.xe s
theorem PW.pt {X:Cx}{e:Expr}{t:TT}(h:PW X e t):PT X e t:=h _
def PA (X:Cx) (es:List Expr) (t:TA):Prop :=
 ∀ (pos:Pos) (pins:Pnn) (s:Shared) (σ:St) (H:Hp) (Q:List V→Hp→Prop),Inv X pins σ H s→t σ H Q→wpAny (model X.prog X.w) X.A (spliced (backTo pos (starEach es X.env))) (AP X pins σ Q) X.xe s
def PS (X:Cx) (st:Stmt) (t:TS):Prop :=
 ∀ (pins:Pnn) (s:Shared) (σ:St) (H:Hp) (D:Ends),Inv X pins σ H s→t D σ H→wpAny (model X.prog X.w) X.A (exec st X.env) (SP X pins D) X.xe s
def PSs (X:Cx) (st:List Stmt) (t:TS):Prop :=
 ∀ (pins:Pnn) (s:Shared) (σ:St) (H:Hp) (D:Ends),Inv X pins σ H s→t D σ H→wpAny (model X.prog X.w) X.A (execs st X.env) (SP X pins D) X.xe s
theorem thn {α:Type}{t:Sem α}{Q Q':α→Shared→Prop}{M:Model}{A:Around}{E:Value→Shared→Prop}{s:Shared}(h:wpAny M A t Q E s) (hQ:∀ a s,Q a s→Q' a s):wpAny M A t Q' E s:=wpAny_mono h hQ fun _ _ x=>x
end L2
namespace L2
open PySem PySem.Spec PyProof.Rows
section
variable {X:Cx}
theorem bin {a b:Expr}{ta tb:TE}(ha:PE X a ta) (hb:PE X b tb) {pins:Pnn}{s:Shared}{σ:St}{H:Hp}{R:V→V→Hp→Prop}(I:Inv X pins σ H s) (h:ta σ H fun x H1=>tb σ H1 fun y H2=>R x y H2)
  {α:Type}{Q:α→Shared→Prop}{f:Value→Value→Sem α}
  (hf:∀ v u s2 x y H2,Inv X pins σ H2 s2→RelV x v→RelV y u→R x y H2→wpAny (model X.prog X.w) X.A (f v u) Q X.xe s2) :
  wpAny (model X.prog X.w) X.A (eval a X.env) (fun v s₁=>wpAny (model X.prog X.w) X.A (eval b X.env) (fun u s₂=>wpAny (model X.prog X.w) X.A (f v u) Q X.xe s₂) X.xe s₁) X.xe s:=by
 refine thn (ha pins s σ H _ I h) fun v s1 hq_=>?_
 obtain ⟨x,H1,I1,r1,q1⟩:=hq_
 refine thn (hb pins s1 σ H1 _ I1 q1) fun u s2 hq_=>?_
 obtain ⟨y,H2,I2,r2,q2⟩:=hq_
 exact hf v u s2 x y H2 I2 r1 r2 q2
def tVar (i:Nat):TE:=fun σ H Q=>∃ v,σ[i]?=some (some v)∧Q v H
def tC (v:V):TE:=fun _ H Q=>Q v H
theorem zmI_ {i:Nat}{x:Str}{pos:Pos}(hN:X.N[i]?=some x) (hv:Vis X.env.scope x) (hd:(x == ("__debug__" : Str))=false:=by decide) (hcd:(x == ("__classdict__" : Str))=false:=by decide):PE X (.Name x pos) (tVar i):=by
 intro pins s σ H Q I h
 obtain ⟨v,e,h⟩:=h
 obtain ⟨m,hn,hl⟩:=I.loc
 obtain ⟨u,r,l⟩:=hl i x v hN e hv
 have fin:EP X pins σ Q u s:=⟨v,H,I,r,h⟩
 rcases l with ⟨hk,hm⟩ | ⟨hk,c,hc,hcell⟩
 ·exact wpAny_Name (wpAny_loadName_local I.ok.kind hk hn hm fin) hd
 ·rcases hk with hk | hk
  ·exact wpAny_Name (wpAny_loadName_cell I.ok.kind hk hc hcell fin) hd
  ·exact wpAny_Name (wpAny_loadName_free I.ok.kind hk hc hcell fin hcd) hd
theorem zg_ {i j pos}:PE X (.Constant (.int i) j pos) (tC (.int i)):=fun _ _ _ H _ I h=>wpAny_Constant_int ⟨.int i,H,I.tok _,⟨_,rfl⟩,h⟩
theorem zm5_ {b j pos}:PE X (.Constant (.bool b) j pos) (tC (.bl b)):=fun _ _ _ H _ I h=>Constant_bool ⟨.bl b,H,I,rfl,h⟩
theorem zec_ {j pos}:PE X (.Constant .none j pos) (tC .non):=fun _ _ _ H _ I h=>Constant_none ⟨.non,H,I,rfl,h⟩
theorem zl5_ {x j pos}:PE X (.Constant (.str x) j pos) (tC (.str x)):=fun _ _ _ H _ I h=>Calls.Constant_str ⟨.str x,H,I.tok _,⟨_,rfl⟩,h⟩
def Gl (X:Cx) (x:Str):Prop:=X.env.kindOf x=some .globalImplicit
theorem zcf_ {E:Value→Shared→Prop}{pins:Pnn}{s:Shared}{σ:St}{H:Hp}{x:Str}{u:Value}{pos:Pos}{Q:Value→Shared→Prop}(I:Inv X pins σ H s) (hg:Gl X x) (hm:X.mg x=some u) (h:Q u s)
  (hd:(x == ("__debug__" : Str))=false:=by decide):wpAny (model X.prog X.w) X.A (eval (.Name x pos) X.env) Q E s :=
 Calls.Name_function_global I.ok.kind hg (Calls.loadGlobal_global (by rw [I.ok.glob]; exact I.mod.glob.keeps I.bk) hm h) hd
theorem zib_ {E:Value→Shared→Prop}{pins:Pnn}{s:Shared}{σ:St}{H:Hp}{x:Str}{u:Value}{pos:Pos}{Q:Value→Shared→Prop}(I:Inv X pins σ H s) (hg:Gl X x) (hm:X.mg x=none) (hv:bootBuiltins x=some u) (h:Q u s)
  (hn:x ≠ "__name__" := by decide) (hd:(x == ("__debug__" : Str))=false:=by decide):wpAny (model X.prog X.w) X.A (eval (.Name x pos) X.env) Q E s:=by
 obtain ⟨mb,h1,h2⟩:=I.mod.blt
 exact Calls.Name_function_global I.ok.kind hg (Calls.loadGlobal_builtin (by rw [I.ok.glob]; exact I.mod.glob.keeps I.bk) hm (by rw [I.ok.blt]; exact h1.keeps I.bk) ((h2 x hn).trans hv) h) hd
theorem ziX_ {x:Str}{v:V}{u:Value}{pos:Pos}(hg:Gl X x) (hm:X.mg x=some u) (r:RelV v u) (hd:(x == ("__debug__" : Str))=false:=by decide):PE X (.Name x pos) (tC v) :=
 fun _ _ _ H _ I h=>zcf_ I hg hm ⟨v,H,I,r,h⟩ hd
theorem zlQ_ {x:Str}{v:V}{u:Value}{pos:Pos}(hg:Gl X x) (hm:X.mg x=none) (hv:bootBuiltins x=some u) (r:RelV v u) (hn:x ≠ "__name__" := by decide) (hd:(x == ("__debug__" : Str))=false:=by decide):PE X (.Name x pos) (tC v) :=
 fun _ _ _ H _ I h=>zib_ I hg hm hv ⟨v,H,I,r,h⟩ hn hd
variable {a b:Expr}{ta tb:TE}{pos:Pos}
def PC (X:Cx) (op:CmpOp) (a b:Expr) (t:TE):Prop :=
 ∀ (pins:Pnn) (s:Shared) (σ:St) (H:Hp) (Q:VK),Inv X pins σ H s→t σ H Q →
  wpAny (model X.prog X.w) X.A (eval a X.env) (fun v s₁=>wpAny (model X.prog X.w) X.A (eval b X.env) (fun u s₂=>wpAny (model X.prog X.w) X.A (compareOp op v u) (EP X pins σ Q) X.xe s₂) X.xe s₁) X.xe s
theorem nobehind (b:Expr) {op:CmpOp}(h:op≠.In) (h2:op≠.NotIn):behindInMarks op b=false:=by
 have e1:(op == CmpOp.In)=false:=by cases op<;>first | rfl | exact absurd rfl h
 have e2:(op == CmpOp.NotIn)=false:=by cases op<;>first | rfl | exact absurd rfl h2
 cases b<;>simp [behindInMarks,e1,e2]
variable {tA tB':TT}{rest:List Expr}
def tNot (t:TT):TT:=fun σ H Q=>t σ H fun c H1=>Q (!c) H1
theorem ze5_ (ha:PT X a tA):PW X (.BoolOp .And [a] pos) tA:=by
 intro wh pins s σ H Q I h
 refine isTrue_and (thn (ha pins s σ H Q I h) fun c s1 e=>?_)
 cases c with
 | true=>exact isTrue_and_nil e
 | false=>exact e
theorem zdH_ (ha:PT X a tA):PW X (.BoolOp .Or [a] pos) tA:=by
 intro wh pins s σ H Q I h
 refine isTrue_or (thn (ha pins s σ H Q I h) fun c s1 e=>?_)
 cases c with
 | false=>exact isTrue_or_nil e
 | true=>exact e
theorem zd3_ (ha:PT X a tA):PT X (.UnaryOp .Not a pos) (tNot tA):=by
 intro pins s σ H Q I h
 exact isTrue_not (ha pins s σ H (fun c H1=>Q (!c) H1) I h)
theorem zhs_ {op} {t:TE}(h:PE X a t):PE X (.BoolOp op [a] pos) t:=fun pins s σ H Q I hw=>BoolOp_one (h pins s σ H Q I hw)
end
end L2
namespace L2
open PySem PySem.Spec PyProof.Rows
def SqL (K:Fgg) (H:Hp) (a:Addr) (xs:List V):Prop :=
 Rd H a (.lst xs) ∨
  ∃ (o:Obj) (its:Array Value) (n:Nat),K.lookup a=some o∧o.cls=.type "list" ∧ o.dict=none∧o.data=.seq its n∧its.size≤sizeLine∧Vals xs its.toList
def SqT (K:Fgg) (H:Hp) (a:Addr) (xs:List V):Prop :=
 Rd H a (.tup xs) ∨
  ∃ (o:Obj) (its:Array Value) (n:Nat),K.lookup a=some o∧o.cls=.type "tuple" ∧ o.data=.seq its n∧its.size≤sizeLine∧Vals xs its.toList
def absV:Value→Option V
 | .none=>some .non
 | .bool b=>some (.bl b)
 | .int i _=>some (.int i)
 | .str x _=>some (.str x)
 | .bytes b _=>some (.byt b)
 | .float b _=>some (.flt b)
 | .ref a=>some (.ref a)
 | .type n=>some (.ty n)
 | _=>none
theorem RelV.abs {x:V}{u:Value}(r:RelV x u):absV u=some x:=by
 cases x with
 | non=>cases r; rfl
 | bl _=>cases r; rfl
 | int _=>obtain ⟨t,rfl⟩:=r; rfl
 | str _=>obtain ⟨t,rfl⟩:=r; rfl
 | byt _=>obtain ⟨t,rfl⟩:=r; rfl
 | flt _=>obtain ⟨t,rfl⟩:=r; rfl
 | ref _=>cases r; rfl
 | ty _=>cases r; rfl
theorem RelV.inj {x y:V}{u:Value}(r:RelV x u) (q:RelV y u):x=y:=Option.some.inj (r.abs.symm.trans q.abs)
theorem Vals.inj:∀ {xs ys:List V}{us:List Value},Vals xs us→Vals ys us→xs=ys
 | _,_,_,.nil,.nil=>rfl
 | _,_,_,.cons r t,.cons r' t'=>by rw [r.inj r',Vals.inj t t']
section
variable {X:Cx}{pins:Pnn}{σ:St}{H:Hp}{s:Shared}{a:Addr}{xs ys:List V}
theorem SqL.of {K:Fgg}(h:H a=some (.lst xs)):SqL K H a xs:=.inl (.inl h)
theorem SqT.of {K:Fgg}(h:H a=some (.tup xs)):SqT K H a xs:=.inl (.inl h)
theorem Inv.list (I:Inv X pins σ H s) (h:SqL X.K H a xs):∃ its:List Value,Vals xs its∧PlainL s.heap a its.toArray∧xs.length≤sizeLine:=by
 rcases h with h | ⟨o,its,n,hk,hc,hd,hs,hz,r⟩
 ·obtain ⟨z,its,n,r,e⟩:=h.ok I.hok
  exact ⟨its,r,⟨_,n,e,rfl,rfl,rfl⟩,z⟩
 ·refine ⟨its.toList,r,⟨o,n,I.kIn a o hk,hc,hd,by simpa using hs⟩,?_⟩
  have e:=r.length
  simp only [Array.length_toList] at e
  lia
theorem Inv.tuple (I:Inv X pins σ H s) (h:SqT X.K H a xs):∃ its:List Value,Vals xs its∧IsTup s.heap a its.toArray∧xs.length≤sizeLine:=by
 rcases h with h | ⟨o,its,n,hk,hc,hs,hz,r⟩
 ·obtain ⟨z,its,r,p⟩:=h.ok I.hok
  exact ⟨its,r,p,z⟩
 ·refine ⟨its.toList,r,⟨o,I.kIn a o hk,hc,n,by simpa using hs⟩,?_⟩
  have e:=r.length
  simp only [Array.length_toList] at e
  lia
theorem Inv.list_inj (I:Inv X pins σ H s) (h:SqL X.K H a xs) (h':SqL X.K H a ys):xs=ys:=by
 obtain ⟨its,r,⟨o,n,e,_,_,d⟩,_⟩:=I.list h
 obtain ⟨its',r',⟨o',n',e',_,_,d'⟩,_⟩:=I.list h'
 rw [e] at e'; cases e'
 rw [d] at d'
 injection d' with d1 _
 have:its=its':=by simpa using congrArg Array.toList d1
 subst this
 exact r.inj r'
theorem Inv.tuple_inj (I:Inv X pins σ H s) (h:SqT X.K H a xs) (h':SqT X.K H a ys):xs=ys:=by
 obtain ⟨its,r,⟨o,e,_,n,d⟩,_⟩:=I.tuple h
 obtain ⟨its',r',⟨o',e',_,n',d'⟩,_⟩:=I.tuple h'
 rw [e] at e'; cases e'
 rw [d] at d'
 injection d' with d1 _
 have:its=its':=by simpa using congrArg Array.toList d1
 subst this
 exact r.inj r'
end
abbrev Cx.wish (X:Cx) (E:Value→Shared→Prop):Cx:={ X with xe:=E }
abbrev Cx.nox (X:Cx):Cx:=X.wish fun _ _=>False
theorem Cx.Ok.wish {X:Cx}(ok:X.Ok) (E:Value→Shared→Prop):(X.wish E).Ok :=
 ⟨ok.mod,ok.kind,ok.glob,ok.blt,ok.above,ok.inj,ok.has,ok.cab,ok.hd,ok.frames,ok.stk,ok.exf,ok.bs,ok.bsz,ok.noex,ok.exfs,ok.funs,ok.frf⟩
theorem Cx.Ok.unwish {X:Cx}{E:Value→Shared→Prop}(ok:(X.wish E).Ok):X.Ok :=
 ⟨ok.mod,ok.kind,ok.glob,ok.blt,ok.above,ok.inj,ok.has,ok.cab,ok.hd,ok.frames,ok.stk,ok.exf,ok.bs,ok.bsz,ok.noex,ok.exfs,ok.funs,ok.frf⟩
section
variable {X:Cx}{pins:Pnn}{σ:St}{H:Hp}{s:Shared}{E:Value→Shared→Prop}
theorem Inv.wish (I:Inv X pins σ H s) (E:Value→Shared→Prop):Inv (X.wish E) pins σ H s:=⟨I.ok.wish E,I.os,I.bare,I.base,I.loc,I.cell,I.free,I.freeC,I.pin,I.hok,I.len⟩
theorem Inv.unwish (I:Inv (X.wish E) pins σ H s):Inv X pins σ H s:=⟨I.ok.unwish,I.os,I.bare,I.base,I.loc,I.cell,I.free,I.freeC,I.pin,I.hok,I.len⟩
theorem SP.unwish {D:Ends}{f:Flow}{s':Shared}(h:SP (X.wish E) pins D f s'):SP X pins D f s':=by
 cases f with
 | next=>obtain ⟨σ',H',I,q⟩:=h; exact ⟨σ',H',I.unwish,q⟩
 | brk=>obtain ⟨σ',H',I,q⟩:=h; exact ⟨σ',H',I.unwish,q⟩
 | cont=>obtain ⟨σ',H',I,q⟩:=h; exact ⟨σ',H',I.unwish,q⟩
 | ret u=>obtain ⟨v,σ',H',I,r,q⟩:=h; exact ⟨v,σ',H',I.unwish,r,q⟩
theorem PSs.nox {st:List Stmt}{t:TS}(h:PSs X.nox st t):PSs X st t:=fun pins s σ H D I hw =>
 wpAny_mono (h pins s σ H D (I.wish _) hw) (fun _ _ q=>q.unwish) fun _ _ z=>False.elim z
end
section
variable {X:Cx}{st:Stmt}{rest:List Stmt}{t u:TS}{e:Expr}{te:TE}{pos:Pos}
def tNext:TS:=fun D σ H=>D.nx σ H
def tSeq (t u:TS):TS:=fun D σ H=>t { D with nx:=u D } σ H
theorem zw_:PSs X [] tNext:=fun _ _ σ H _ I h=>wpAny_execs_nil ⟨σ,H,I,h⟩
theorem zd_ (h1:PS X st t) (h2:PSs X rest u):PSs X (st::rest) (tSeq t u):=by
 intro pins s σ H D I h
 refine wpAny_execs_cons (thn (h1 pins s σ H { D with nx:=u D } I h) fun f s1 q=>?_)
 cases f with
 | next =>
  obtain ⟨σ',H',I',q⟩:=q
  exact h2 pins s1 σ' H' D I' q
 | ret v=>exact q
 | brk=>exact q
 | cont=>exact q
theorem zi_ (h1:PS X st t):PSs X [st] t:=by
 intro pins s σ H D I h
 refine wpAny_execs_cons (thn (h1 pins s σ H D I h) fun f s1 q=>?_)
 cases f with
 | next=>exact wpAny_execs_nil q
 | ret v=>exact q
 | brk=>exact q
 | cont=>exact q
theorem Inv.quiet {pins:Pnn}{σ:St}{H:Hp}{s:Shared}(I:Inv X pins σ H s):interactive X.env=false:=by simp [interactive,I.ok.kind]
def tDrop (te:TE):TS:=fun D σ H=>te σ H fun _ H1=>D.nx σ H1
theorem zfc_ (he:PE X e te) (hs:swapsWith e none pos.line X.env=pure false:=by rfl):PS X (.Expr e pos) (tDrop te):=by
 intro pins s σ H D I h
 exact wpAny_Expr_any (thn (he pins s σ H _ I h) fun v s1 ⟨x,H1,I1,r1,q1⟩=>⟨σ,H1,I1,q1⟩) I.quiet hs
def tRet (te:TE):TS:=fun D σ H=>te σ H D.rt
theorem zE_ (he:PE X e te):PS X (.Return (some e) pos) (tRet te):=by
 intro pins s σ H D I h
 exact wpAny_Return_some (thn (he pins s σ H _ I h) fun v s1 ⟨x,H1,I1,r1,q1⟩=>⟨x,σ,H1,I1,r1,q1⟩)
def tNever:TS:=fun _ _ _=>False
theorem zeE_:PS X st tNever:=fun _ _ _ _ _ _ h=>h.elim
end
abbrev TG:=V→St→Hp→(St→Hp→Prop)→Prop
abbrev TGs:=List V→St→Hp→(St→Hp→Prop)→Prop
def PG (X:Cx) (target:Expr) (t:TG):Prop :=
 ∀ (pins:Pnn) (s:Shared) (σ:St) (H:Hp) (v:V) (u:Value) (Q:St→Hp→Prop),Inv X pins σ H s→RelV v u→t v σ H Q →
  wpAny (model X.prog X.w) X.A (assign target X.env u) (fun _ s'=>∃ σ' H',Inv X pins σ' H' s'∧Q σ' H') X.xe s
def PGs (X:Cx) (ts:List Expr) (t:TGs):Prop :=
 ∀ (pins:Pnn) (s:Shared) (σ:St) (H:Hp) (vs:List V) (us:List Value) (Q:St→Hp→Prop),Inv X pins σ H s→Vals vs us→t vs σ H Q →
  wpAny (model X.prog X.w) X.A (assignInOrder ((assignEach ts X.env).map (·.2)) us) (fun _ s'=>∃ σ' H',Inv X pins σ' H' s'∧Q σ' H') X.xe s
abbrev TSet:=V→V→V→Hp→(Hp→Prop)→Prop
def PSet (X:Cx) (t:TSet):Prop :=
 ∀ (pins:Pnn) (s:Shared) (σ:St) (H:Hp) (o i v:V) (ov iv u:Value) (Q:Hp→Prop),Inv X pins σ H s→RelV o ov→RelV i iv→RelV v u→t o i v H Q →
  wpAny (model X.prog X.w) X.A (setItem ov iv u) (fun _ s'=>∃ H',Inv X pins σ H' s'∧Q H') X.xe s
section
variable {X:Cx}{pos:Pos}
def gName (i:Nat):TG:=fun v σ H Q=>Q (σ.set i (some v)) H
theorem ziT_ {i:Nat}{x:Str}(hN:X.N.Nodup) (hi:X.N[i]?=some x) (hx:Loc X.env.scope x) (hf:X.fn x=true∨X.env.scope.names.lookup x=some .local:=by first | exact .inl rfl | exact .inr rfl | assumption):PG X (.Name x pos) (gName i):=by
 intro pins s σ H v u Q I r h
 exact wpAny_assign_Name (zb4_ I hN hi hx r (fun s' I'=>⟨_,H,I',h⟩) hf)
def gNil:TGs:=fun vs σ H Q=>vs=[]∧Q σ H
def gCons (t:TG) (u:TGs):TGs:=fun vs σ H Q=>∃ v r,vs=v::r∧t v σ H fun σ' H'=>u r σ' H' Q
theorem zlZ_:PGs X [] gNil:=by
 intro pins s σ H vs us Q I r h
 obtain ⟨e,h⟩:=h
 subst e
 cases r
 exact assignInOrder_nil ⟨σ,H,I,h⟩
theorem zka_ {e:Expr}{es:List Expr}{t:TG}{u:TGs}(h1:PG X e t) (h2:PGs X es u)
  (hs:(assignEach (e::es) X.env).map (·.2)=assign e X.env::(assignEach es X.env).map (·.2):=by rfl):PGs X (e::es) (gCons t u):=by
 intro pins s σ H vs us Q I r h
 obtain ⟨v,vr,e1,h⟩:=h
 subst e1
 cases r with
 | cons r rr =>
  rw [hs]
  refine assignInOrder_cons (thn (h1 pins s σ H _ _ _ I r h) fun _ s1 hq_=>?_)
  obtain ⟨σ1,H1,I1,q1⟩:=hq_
  exact h2 pins s1 σ1 H1 _ _ Q I1 rr q1
def gTup (K:Fgg) (n:Nat) (t:TGs):TG:=fun v σ H Q=>∃ a xs,v=.ref a∧SqT K H a xs∧xs.length=n∧t xs σ H Q
theorem zml_ {es:List Expr}{k:Nat}{t:TGs}{n:Nat}(hc:X.calm=true) (h:PGs X es t)
  (hn:(assignEach es X.env).length=n:=by rfl) (hst:(assignEach es X.env).findIdx? (·.1)=none:=by rfl):PG X (.Tuple es k pos) (gTup X.K n t):=by
 intro pins s σ H v u Q I r hw
 obtain ⟨a,xs,e1,hq,hl,hw⟩:=hw
 subst e1
 cases r
 obtain ⟨its,rv,ht,hz⟩:=I.tuple hq
 refine assign_Tuple_tuple (I.ok.hd hc) ht (by simp [hn,← hl,rv.length]) hst fun h' hx=>?_
 have I1:Inv X pins σ H { s with heap:=h' }:=I.kept (t':=s.toks) fun b o e=>hx b o (Nat.ne_of_lt (Heap.lt_size e)) e
 exact h pins _ σ H xs _ Q I1 (by simpa using rv) hw
def gSub (to ti:TE) (t:TSet):TG:=fun v σ H Q=>to σ H fun o H1=>ti σ H1 fun i H2=>t o i v H2 fun H3=>Q σ H3
theorem zlc_ {o i:Expr}{to ti:TE}{t:TSet}(ho:PE X o to) (hi:PE X i ti) (hs:PSet X t)
  (ha:∀ v,assign (.Subscript o i pos) X.env v=(do
   let ov ← holding [v] (eval o X.env)
   let iv ← holding [v,ov] (eval i X.env)
   standAt pos
   holding [v,ov,iv] (setItem ov iv v)
   release [v,ov,iv] []):=by intro _; rfl):PG X (.Subscript o i pos) (gSub to ti t):=by
 intro pins s σ H v u Q I r h
 rw [ha]
 refine wpAny_bind (wpAny_holding (thn (ho pins s σ H _ I h) fun ov s1 hq_=>?_))
 obtain ⟨x,H1,I1,r1,q1⟩:=hq_
 refine wpAny_bind (wpAny_holding (thn (hi pins s1 σ H1 _ I1 q1) fun iv s2 hq_=>?_))
 obtain ⟨y,H2,I2,r2,q2⟩:=hq_
 refine wpAny_bind (wpAny_standAt (wpAny_bind (wpAny_holding (thn (hs pins s2 σ H2 x y v ov iv u _ I2 r1 r2 r q2) fun _ s3 hq_=>?_))))
 obtain ⟨H3,I3,q3⟩:=hq_
 exact wpAny_release ⟨σ,H3,I3,q3⟩
def tAsg (te:TE) (g:TG):TS:=fun D σ H=>te σ H fun x H1=>g x σ H1 D.nx
theorem zl3_ {tg e:Expr}{te:TE}{g:TG}(he:PE X e te) (hg:PG X tg g) (hs:swapsWithSole [tg] e pos.line X.env=pure false:=by rfl) (hw:swappedStores [tg] e X.env=pure none:=by rfl)
  (h1:(assignEach [tg] X.env).map (·.2)=[assign tg X.env]:=by rfl):PS X (.Assign [tg] e pos) (tAsg te g):=by
 intro pins s σ H D I h
 refine wpAny_Assign_stores (thn (he pins s σ H _ I h) fun v s1 hq_=>?_) hs hw
 obtain ⟨x,H1,I1,r1,q1⟩:=hq_
 rw [h1]
 exact thn (hg pins s1 σ H1 x v _ I1 r1 q1) fun _ s2 q=>q
theorem zmK_ {i:Nat}{x:Str}{e:Expr}{te:TE}{pos':Pos}(hN:X.N.Nodup) (hi:X.N[i]?=some x) (hx:Loc X.env.scope x) (he:PE X e te) (hs:swapsWith e (some (.Name x pos')) pos.line X.env=pure false:=by rfl) (hf:X.fn x=true∨X.env.scope.names.lookup x=some .local:=by first | exact .inl rfl | exact .inr rfl | assumption) :
  PS X (.Assign [.Name x pos'] e pos) (tAsg te (gName i)):=by
 intro pins s σ H D I h
 refine wpAny_Assign_Name (thn (he pins s σ H _ I h) fun v s1 hq_=>?_) hs
 obtain ⟨y,H1,I1,r1,q1⟩:=hq_
 exact zb4_ I1 hN hi hx r1 (fun s2 I2=>⟨_,H1,I2,q1⟩) hf
end
section
variable {X:Cx}{pos:Pos}
end
structure It where
 go:Nat→Hp→Prop
 yld:Nat→Hp→V→Hp→Prop
 stop:Nat→Hp→Prop
def FpOk (X:Cx) (pins:Pnn) (H:Hp) (b:Addr):Prop :=
 H b=none∧b≠X.env.locals∧b∉X.fs∧(b∈X.ex∨X.s₀.heap.objs.size≤b)∧(∀ x c,X.env.cells.lookup x=some c→c≠b)∧∀ p∈X.pn++pins,p.1≠b
theorem Inv.fpOk {X:Cx}{pins:Pnn}{σ:St}{H H':Hp}{s:Shared}{b:Addr}(I:Inv X pins σ H s) (hb:s.heap.objs.size≤b) (hn:H' b=none):FpOk X pins H' b:=by
 refine ⟨hn,Nat.ne_of_gt (Nat.lt_of_lt_of_le I.lt hb),I.nofs hb,.inr (Nat.le_trans I.sz hb),fun x c e z=>?_,fun p hp z=>?_⟩
 ·obtain ⟨v,q⟩:=I.cell x c e
  exact absurd (Nat.lt_of_lt_of_le q.lt (by rw [z]; exact hb)) (Nat.lt_irrefl _)
 ·exact absurd (Nat.lt_of_lt_of_le (Heap.lt_size (I.pin p hp).1) (by rw [z]; exact hb)) (Nat.lt_irrefl _)
structure Turn (P:Program) (w:World) (K:Fgg) (tg:Expr) (J:It) (fp:List Addr) (it:Addr) (tn:Nat→Heap→Prop):Prop where
 mem:it∈fp
 obj:∀ i h,tn i h→∀ b∈fp,∃ o,h.get? b=some o∧∀ v,o.data≠.cell v
 keep:∀ i h h',tn i h→(∀ b∈fp,∀ o,h.get? b=some o→h'.get? b=some o)→tn i h'
 item:∀ (X:Cx),X.prog=P→X.w=w→X.K=K→X.calm=true→∀ (i:Nat) (pins:Pnn) (s:Shared) (σ:St) (H:Hp) (E:Value→Shared→Prop),Inv X pins σ H s→(∀ b∈fp,FpOk X pins H b)→tn i s.heap→J.go i H →
  wpAny (model P w) X.A (pyNext (.ref it)) (fun r s1=>∃ u,r=some u ∧
   wpAny (model P w) X.A (letOwnedTupleGo tg (.ref it) u) (fun _ s2=>∃ x H',Inv X pins σ H' s2∧RelV x u∧J.yld i H x H'∧tn (i+1) s2.heap∧∀ b∈fp,H' b=none) E s1) E s
 done:∀ (X:Cx),X.prog=P→X.w=w→X.K=K→X.calm=true→∀ (i:Nat) (pins:Pnn) (s:Shared) (σ:St) (H:Hp) (E:Value→Shared→Prop),Inv X pins σ H s→(∀ b∈fp,FpOk X pins H b)→tn i s.heap→J.stop i H →
  wpAny (model P w) X.A (pyNext (.ref it)) (fun r s1=>r=none∧Inv X pins σ H s1) E s
 self:∀ (A:Around) (i:Nat) (s:Shared) (Q:Value→Shared→Prop) (E:Value→Shared→Prop),tn i s.heap→Q (.ref it) s→wpAny (model P w) A (pyIter (.ref it)) Q E s
abbrev TI:=St→Hp→(It→Hp→Prop)→Prop
def PIE (X:Cx) (pins:Pnn) (σ:St) (tg:Expr) (R:It→Hp→Prop) (itv:Value) (s2:Shared):Prop :=
 ∃ (it:Addr) (fp:List Addr) (tn:Nat→Heap→Prop) (J:It) (H':Hp),itv=.ref it∧Inv X pins σ H' s2∧Turn X.prog X.w X.K tg J fp it tn∧tn 0 s2.heap∧(∀ b∈fp,FpOk X pins H' b)∧R J H'
def PI (X:Cx) (tg iter:Expr) (wi:TI):Prop :=
 ∀ (pins:Pnn) (s:Shared) (σ:St) (H:Hp) (R:It→Hp→Prop),Inv X pins σ H s→wi σ H R →
  wpAny (model X.prog X.w) X.A (eval iter X.env) (fun v s1=>wpAny (model X.prog X.w) X.A (pyIter v) (PIE X pins σ tg R) X.xe s1) X.xe s
theorem zmd_ {M:Model}{A:Around}{E:Value→Shared→Prop}{s:Shared}{tg:Expr}{it:Addr}{u:Value}{o:Obj}{n:String}{vs:Array Value}{Q:Unit→Shared→Prop}(ho:s.heap.get? it=some o) (hc:o.cls=.type n) (hd:o.data=.fields vs)
  (hn:["enumerate", "zip", "dict_itemiterator", "dict_reverseitemiterator", "odict_iterator", "itertools.zip_longest", "itertools.pairwise"].contains n=false) (hQ:Q () s):wpAny M A (letOwnedTupleGo tg (.ref it) u) Q E s:=by
 unfold letOwnedTupleGo
 cases tg<;>first
  | exact wpAny_pure hQ
  | (cases u<;>first
    | exact wpAny_pure hQ
    | (refine wpAny_bind (wpAny_load ho ?_)
       rw [hc,hd]
       show wpAny M A (if (["enumerate", "zip", "dict_itemiterator", "dict_reverseitemiterator", "odict_iterator", "itertools.zip_longest", "itertools.pairwise"].contains n && vs[0]? == some (rawInt _))=true then _ else _) Q E s
       rw [if_neg (by intro h; rw [hn,Bool.false_and] at h; cases h)]
       exact wpAny_pure hQ))
def Itl (K:Fgg) (a:Addr):It :=
 ⟨fun i H=>∃ xs x,SqL K H a xs∧xs[i]?=some x,fun i H x H'=>H'=H∧∀ xs,SqL K H a xs→xs[i]?=some x,fun i H=>∃ xs,SqL K H a xs∧xs.length≤i⟩
def Itt (K:Fgg) (a:Addr):It :=
 ⟨fun i H=>∃ xs x,SqT K H a xs∧xs[i]?=some x,fun i H x H'=>H'=H∧∀ xs,SqT K H a xs→xs[i]?=some x,fun i H=>∃ xs,SqT K H a xs∧xs.length≤i⟩
def Itr (lo:Int) (n:Nat):It:=⟨fun i _=>i<n,fun i H x H'=>H'=H∧x=.int (lo+i),fun i _=>n≤i⟩
theorem zhI_ {P:Program}{w:World}{K:Fgg}{tg:Expr}(a it:Addr):Turn P w K tg (Itl K a) [it] it (fun i h=>h.IsListIter it a i) where
 mem:=by simp
 obj:=fun i h st b hb=>by
  have e:b=it:=by simpa using hb
  subst e
  obtain ⟨o,e,c,d⟩:=st
  exact ⟨o,e,fun v z=>by rw [d] at z; cases z⟩
 keep:=fun i h h' st k=>st.at fun o e=>k it (by simp) o e
 item:=by
  intro X hP hw hK hc i pins s σ H E I hf st hg
  subst hP hw hK
  obtain ⟨xs,x,hq,hx⟩:=hg
  obtain ⟨its,rv,p,hz⟩:=I.list hq
  obtain ⟨u,hu,ru⟩:=rv.get hx
  obtain ⟨f0,f1,f2,f3,f4,f5⟩:=hf it (by simp)
  refine wpAny_pyNext_list_item st p.isList (x:=u) (by simpa using hu) fun h' st' sb=>?_
  have I1:Inv X pins σ H { s with heap:=h' }:=I.turned (t':=s.toks) (fun b o hb e=>(sb.2 b hb).trans e) f0 f1 f3 f4 f5
  obtain ⟨o,e,c,d⟩:=id st'
  exact ⟨u,rfl,zmd_ (s:={ s with heap:=h' }) e c d (by decide) ⟨x,H,I1,ru,⟨rfl,fun ys hy=>by rw [I.list_inj hy hq]; exact hx⟩,st',fun b hb=>(hf b hb).1⟩⟩
 done:=by
  intro X hP hw hK hc i pins s σ H E I hf st hg
  subst hP hw hK
  obtain ⟨xs,hq,hx⟩:=hg
  obtain ⟨its,rv,p,hz⟩:=I.list hq
  obtain ⟨f0,f1,f2,f3,f4,f5⟩:=hf it (by simp)
  have hl:=rv.length
  exact wpAny_pyNext_list_end (I.ok.hd hc) st p.isList (by simp; lia) fun h' eb=>⟨rfl,I.turned (t':=s.toks) (fun b o hb e=>eb b o hb e) f0 f1 f3 f4 f5⟩
 self:=fun _ _ _ _ _ st h=>wpAny_pyIter_listiter st h
theorem zf4_ {P:Program}{w:World}{K:Fgg}{tg:Expr}(a it:Addr):Turn P w K tg (Itt K a) [it] it (fun i h=>h.IsTupleIter it a i) where
 mem:=by simp
 obj:=fun i h st b hb=>by
  have e:b=it:=by simpa using hb
  subst e
  obtain ⟨o,e,c,d⟩:=st
  exact ⟨o,e,fun v z=>by rw [d] at z; cases z⟩
 keep:=fun i h h' st k=>st.at fun o e=>k it (by simp) o e
 item:=by
  intro X hP hw hK hc i pins s σ H E I hf st hg
  subst hP hw hK
  obtain ⟨xs,x,hq,hx⟩:=hg
  obtain ⟨its,rv,p,hz⟩:=I.tuple hq
  obtain ⟨u,hu,ru⟩:=rv.get hx
  obtain ⟨f0,f1,f2,f3,f4,f5⟩:=hf it (by simp)
  refine wpAny_pyNext_tuple_item st (show s.heap.IsTuple a its.toArray from p) (x:=u) (by simpa using hu) fun h' st' sb=>?_
  have I1:Inv X pins σ H { s with heap:=h' }:=I.turned (t':=s.toks) (fun b o hb e=>(sb.2 b hb).trans e) f0 f1 f3 f4 f5
  obtain ⟨o,e,c,d⟩:=id st'
  exact ⟨u,rfl,zmd_ (s:={ s with heap:=h' }) e c d (by decide) ⟨x,H,I1,ru,⟨rfl,fun ys hy=>by rw [I.tuple_inj hy hq]; exact hx⟩,st',fun b hb=>(hf b hb).1⟩⟩
 done:=by
  intro X hP hw hK hc i pins s σ H E I hf st hg
  subst hP hw hK
  obtain ⟨xs,hq,hx⟩:=hg
  obtain ⟨its,rv,p,hz⟩:=I.tuple hq
  obtain ⟨f0,f1,f2,f3,f4,f5⟩:=hf it (by simp)
  have hl:=rv.length
  exact wpAny_pyNext_tuple_end (I.ok.hd hc) st (show s.heap.IsTuple a its.toArray from p) (by simp; lia) fun h' eb=>⟨rfl,I.turned (t':=s.toks) (fun b o hb e=>eb b o hb e) f0 f1 f3 f4 f5⟩
 self:=fun _ _ _ _ _ st h=>wpAny_pyIter_tupleiter st h
theorem zhi_ {P:Program}{w:World}{K:Fgg}{tg:Expr}(it:Addr) (lo:Int) (n:Nat):Turn P w K tg (Itr lo n) [it] it (fun i h=>IsRangeIter h it (lo+(i:Nat)*1) ((n:Int)-(i:Nat)) 1) where
 mem:=by simp
 obj:=fun i h st b hb=>by
  have e:b=it:=by simpa using hb
  subst e
  exact ⟨_,st,fun v z=>by
   have z':Data.fields _=Data.cell v:=z
   cases z'⟩
 keep:=fun i h h' st k=>k it (by simp) _ st
 item:=by
  intro X hP hw hK hc i pins s σ H E I hf st hg
  subst hP hw hK
  obtain ⟨f0,f1,f2,f3,f4,f5⟩:=hf it (by simp)
  have W:=Walks.range (prog:=X.prog) (w:=X.w) (I.ok.hd hc) it lo 1 n
  refine W.item i s _ _ hg st fun v h' tk hv st' kk=>?_
  obtain ⟨t,rfl⟩:=hv
  have I1:Inv X pins σ H { s with heap:=h',toks:=tk }:=I.turned (fun b o hb e=>kk b o (by simpa using hb) e) f0 f1 f3 f4 f5
  refine ⟨_,rfl,zmd_ (s:={ s with heap:=h',toks:=tk }) (n := "range_iterator") st' rfl rfl (by decide) ⟨.int (lo+i),H,I1,⟨t,?_⟩,⟨rfl,rfl⟩,st',fun b hb=>(hf b hb).1⟩⟩
  rw [Int.mul_one]
 done:=by
  intro X hP hw hK hc i pins s σ H E I hf st hg
  subst hP hw hK
  obtain ⟨f0,f1,f2,f3,f4,f5⟩:=hf it (by simp)
  exact wpAny_pyNext_range_end (I.ok.hd hc) st (by have:n≤i:=hg; lia) fun h' eb=>⟨rfl,I.turned (t':=s.toks) (fun b o hb e=>eb b o hb e) f0 f1 f3 f4 f5⟩
 self:=fun _ _ _ _ _ st h=>wpAny_pyIter_rangeiter st h
end L2
namespace L2
open PySem PySem.Spec PyProof.Rows
section
variable {X:Cx}{tg:Expr}
theorem zjv_ {pins:Pnn}{σ:St}{H:Hp}{s:Shared}{R:It→Hp→Prop}{E:Value→Shared→Prop}{lo hi:Int}{t u v:Tok}{tk:Nat}(I:Inv X pins σ H s) (h1 : -(2 ^ 62)≤lo) (h2:lo<2 ^ 62) (h3 : -(2 ^ 62)≤hi) (h4:hi<2 ^ 62)
  (q:R (Itr lo (hi-lo).toNat) H):wpAny (model X.prog X.w) X.A (pyIter (.ref s.heap.objs.size)) (PIE X pins σ tg R) E { s with heap:=s.heap.push { cls:=.type "range",data:=.fields #[.int lo t,.int hi u,.int 1 v] },toks:=tk }:=by
 refine wpAny_pyIter_range (IsRange.new ..) (small_one h1 h2 h3 h4) ?_
 have I1:Inv X pins σ H { s with heap:=s.heap.push { cls:=.type "range",data:=.fields #[.int lo t,.int hi u,.int 1 v] },toks:=tk }:=I.kept fun b o e=>Heap.get?_push_of_some _ e
 refine ⟨(s.heap.push { cls:=.type "range",data:=.fields #[.int lo t,.int hi u,.int 1 v] }).objs.size,[(s.heap.push { cls:=.type "range",data:=.fields #[.int lo t,.int hi u,.int 1 v] }).objs.size],_,_,H,rfl,
  I1.kept (t':=tk) fun b o e=>Heap.get?_push_of_some _ e,zhi_ _ lo (hi-lo).toNat,?_,fun b hb=>?_,q⟩
 ·have e1:lo+((0:Nat):Int)*1=lo:=by simp
  have e2:(((hi-lo).toNat:Nat):Int)-((0:Nat):Int)=Builtin.Range.rangeSize lo hi 1:=by rw [rangeSize_one]; split<;>omega
  show IsRangeIter _ _ (lo+((0:Nat):Int)*1) ((((hi-lo).toNat:Nat):Int)-((0:Nat):Int)) 1
  rw [e1,e2]
  exact Heap.get?_push_size _ rfl
 ·have e:b=(s.heap.push { cls:=.type "range",data:=.fields #[.int lo t,.int hi u,.int 1 v] }).objs.size:=by simpa using hb
  subst e
  exact I1.fpOk (Nat.le_refl _) (I1.hok.fresh (Nat.le_refl _))
def tFor (wi:TI) (g:TG) (tb:TS):TS:=fun D σ H=>wi σ H fun J H1=>∃ W:Nat→Nat→St→Hp→Prop,(∃ m,W 0 m σ H1)∧∀ i m σ H,W i m σ H →
 (J.stop i H∧D.nx σ H)∨(J.go i H∧∃ N:St→Hp→Prop,(∀ σ' H',N σ' H'→∃ m',m'<m∧W (i+1) m' σ' H')∧∀ x H',J.yld i H x H'→g x σ H' fun σ2 H2=>tb { D with nx:=N,ct:=N,bk:=D.nx } σ2 H2)
def pinsAt (fp:List Addr) (h:Heap):Pnn:=fp.filterMap fun b=>(h.get? b).map fun o=>(b,o)
theorem za5_ {fp:List Addr}{h:Heap}{b:Addr}{o:Obj}(hb:b∈fp) (e:h.get? b=some o):(b,o)∈pinsAt fp h:=List.mem_filterMap.mpr ⟨b,hb,by rw [e]; rfl⟩
theorem zif_ {fp:List Addr}{h:Heap}{p:Addr×Obj}(hp:p∈pinsAt fp h):p.1∈fp∧h.get? p.1=some p.2:=by
 obtain ⟨b,hb,e⟩:=List.mem_filterMap.mp hp
 cases q:h.get? b with
 | none=>rw [q] at e; cases e
 | some o =>
  rw [q] at e
  have e':(b,o)=p:=Option.some.inj e
  subst e'
  exact ⟨hb,q⟩
theorem Inv.pinned {pins:Pnn}{σ:St}{H:Hp}{s:Shared}{fp:List Addr}(I:Inv X pins σ H s) (hf:∀ b∈fp,FpOk X pins H b) (ho:∀ b∈fp,∃ o,s.heap.get? b=some o∧∀ v,o.data≠.cell v):Inv X (pins++pinsAt fp s.heap) σ H s :=
 I.pins_of fun p hp=>(List.mem_append.mp hp).elim (fun z=>I.pin p (List.mem_append_right _ z)) fun z=>by
  obtain ⟨hb,e⟩:=zif_ z
  obtain ⟨f0,f1,f2,_⟩:=hf p.1 hb
  obtain ⟨o,e',d⟩:=ho p.1 hb
  rw [e] at e'; cases e'
  exact ⟨e,f0,f1,f2,d⟩
theorem Inv.unpinned {pins pl:Pnn}{σ:St}{H:Hp}{s:Shared}(I:Inv X (pins++pl) σ H s):Inv X pins σ H s:=I.pins_of fun p hp=>I.pin p (List.mem_append_right _ (List.mem_append_left _ hp))
theorem zbP_ {iter:Expr}{body:List Stmt}{wi:TI}{g:TG}{tb:TS}{pos:Pos}(hp:PassesOwn (model X.prog X.w) X.A X.env X.xe) (hc:X.calm=true) (hi:PI X tg iter wi) (hg:PG X tg g) (hb:PSs X body tb)
  (hs:∀ x,foldedSetIterable iter X.env x=pure x:=by intro _; rfl):PS X (.For tg iter body [] pos) (tFor wi g tb):=by
 intro pins s σ H D I h
 refine wpAny_For (thn (hi pins s σ H _ I h) fun v s1 h1=>thn h1 fun itv s2 h2=>?_) hs
 obtain ⟨it,fp,tn,J,H2,e,I2,T,st2,f2,W,⟨m0,w0⟩,turn⟩:=h2
 subst e
 have stat:∀ {H':Hp},(∀ b∈fp,H' b=none)→∀ b∈fp,FpOk X pins H' b:=fun hn b hb=>⟨hn b hb,(f2 b hb).2⟩
 refine codeAny_forLoop_any (fun n s'=>∃ i σ' H',Inv X pins σ' H' s'∧tn i s'.heap∧(∀ b∈fp,H' b=none)∧W i n σ' H') ?_ m0 ⟨0,σ,H2,I2,st2,fun b hb=>(f2 b hb).1,w0⟩
 rintro n s3 ⟨i,σ3,H3,I3,st3,fr3,w3⟩
 rcases turn i n σ3 H3 w3 with ⟨stop,qn⟩ | ⟨go,N,hN,step⟩
 ·refine wpAny_passesOwn hp (thn (T.done X rfl rfl rfl hc i pins s3 σ3 H3 X.xe I3 (stat fr3) st3 stop) fun r s4 hq_=>?_)
  obtain ⟨hr,I4⟩:=hq_
  subst hr
  exact wpAny_execs_nil ⟨σ3,H3,I4,qn⟩
 ·refine wpAny_passesOwn hp (thn (T.item X rfl rfl rfl hc i pins s3 σ3 H3 X.xe I3 (stat fr3) st3 go) fun r s4 hq_=>?_)
  obtain ⟨u,hr,h4⟩:=hq_
  subst hr
  refine wpAny_passesOwn hp (thn h4 fun _ s5 hq_=>?_)
  obtain ⟨x,H5,I5,r5,y5,st5,fr5⟩:=hq_
  have I5':=I5.pinned (stat fr5) (T.obj _ _ st5)
  refine wpAny_passesOwn hp (thn (hg _ s5 σ3 H5 x u _ I5' r5 (step x H5 y5)) fun _ s6 hq_=>?_)
  obtain ⟨σ6,H6,I6,q6⟩:=hq_
  refine wpAny_passesOwn hp (thn (hb _ s6 σ6 H6 _ I6 q6) fun f s7 q7=>?_)
  have again:∀ {σ7:St}{H7:Hp},Inv X (pins++pinsAt fp s5.heap) σ7 H7 s7→N σ7 H7→∃ m,m<n∧∃ i σ' H',Inv X pins σ' H' s7∧tn i s7.heap∧(∀ b∈fp,H' b=none)∧W i m σ' H':=fun {σ7 H7} I7 n7=>by
   obtain ⟨m',hm,w7⟩:=hN σ7 H7 n7
   refine ⟨m',hm,i+1,σ7,H7,I7.unpinned,T.keep _ _ _ st5 fun b hb o e=>(I7.pin (b,o) (List.mem_append_right _ (List.mem_append_right _ (za5_ hb e)))).1,fun b hb=>?_,w7⟩
   obtain ⟨o,e,d⟩:=T.obj _ _ st5 b hb
   exact (I7.pin (b,o) (List.mem_append_right _ (List.mem_append_right _ (za5_ hb e)))).2.1
  cases f with
  | next=>obtain ⟨σ7,H7,I7,n7⟩:=q7; exact again I7 n7
  | cont=>obtain ⟨σ7,H7,I7,n7⟩:=q7; exact again I7 n7
  | brk=>obtain ⟨σ7,H7,I7,q7⟩:=q7; exact ⟨σ7,H7,I7.unpinned,q7⟩
  | ret v=>obtain ⟨x7,σ7,H7,I7,r7,q7⟩:=q7; exact ⟨x7,σ7,H7,I7.unpinned,r7,q7⟩
end
end L2
namespace L2
open PySem PySem.Spec PyProof.Rows
abbrev R2:=V→V→Hp→VK→Prop
def OpR (X:Cx) (f:Value→Value→Sem Value) (r:R2):Prop :=
 ∀ (pins:Pnn) (s:Shared) (σ:St) (H:Hp) (x y:V) (v u:Value) (Q:VK),Inv X pins σ H s→RelV x v→RelV y u→r x y H Q →
  wpAny (model X.prog X.w) X.A (f v u) (EP X pins σ Q) X.xe s
def UnR (X:Cx) (f:Value→Sem Value) (r:V→Hp→VK→Prop):Prop :=
 ∀ (pins:Pnn) (s:Shared) (σ:St) (H:Hp) (x:V) (v:Value) (Q:VK),Inv X pins σ H s→RelV x v→r x H Q →
  wpAny (model X.prog X.w) X.A (f v) (EP X pins σ Q) X.xe s
def CallR (X:Cx) (f:Value) (r:List V→Hp→VK→Prop):Prop :=
 ∀ (pins:Pnn) (s:Shared) (σ:St) (H:Hp) (xs:List V) (us:List Value) (Q:VK),Inv X pins σ H s→Vals xs us→r xs H Q →
  wpAny (model X.prog X.w) X.A (call f us) (EP X pins σ Q) X.xe s
def tOp (r:R2) (ta tb:TE):TE:=fun σ H Q=>ta σ H fun x H1=>tb σ H1 fun y H2=>r x y H2 Q
def tUn (r:V→Hp→VK→Prop) (ta:TE):TE:=fun σ H Q=>ta σ H fun x H1=>r x H1 Q
def rI (C:Int→Int→Prop) (g:Int→Int→V):R2:=fun x y H Q=>∃ i j,x=.int i∧y=.int j∧C i j∧Q (g i j) H
def rI0 (g:Int→Int→V):R2:=fun x y H Q=>∃ i j,x=.int i∧y=.int j∧Q (g i j) H
def rU (g:Int→V):V→Hp→VK→Prop:=fun x H Q=>∃ i,x=.int i∧Q (g i) H
section
variable {X:Cx}{a b c:Expr}{ta tb tc:TE}{pos:Pos}
theorem binT (ha:PE X a ta) (hb:PE X b tb) {pins:Pnn}{s:Shared}{σ:St}{H:Hp}{R:V→V→Hp→Prop}(I:Inv X pins σ H s)
  (h:ta σ H fun x H1=>tb σ H1 fun y H2=>R x y H2) {Q:Value→Shared→Prop}{f:Value→Value→Sem Value}
  (hf:∀ v u s2 x y H2,Inv X pins σ H2 s2→RelV x v→RelV y u→R x y H2→wpAny (model X.prog X.w) X.A (f v u) Q X.xe s2) :
  wpAny (model X.prog X.w) X.A (eval a X.env) (fun v s₁=>wpAny (model X.prog X.w) X.A (eval b X.env) (fun u s₂=>wpAny (model X.prog X.w) X.A (f v u) Q X.xe s₂) X.xe s₁) X.xe s:=by
 refine thn (ha pins s σ H _ I h) fun v s1 hq_=>?_
 obtain ⟨x,H1,I1,r1,q1⟩:=hq_
 refine thn (hb pins s1 σ H1 _ I1 q1) fun u s2 hq_=>?_
 obtain ⟨y,H2,I2,r2,q2⟩:=hq_
 exact hf v u s2 x y H2 I2 r1 r2 q2
theorem zJ_ {op:Operator}{r:R2}(ho:OpR X (binaryOp op) r) (ha:PE X a ta) (hb:PE X b tb):PE X (.BinOp a op b pos) (tOp r ta tb):=by
 intro pins s σ H Q I h
 exact wpAny_BinOp (binT ha hb I h fun v u s2 x y H2 I2 rx ry q=>ho pins s2 σ H2 x y v u Q I2 rx ry q)
theorem opI {f:Value→Value→Sem Value}{C:Int→Int→Prop}{g:Int→Int→Int}
  (rule:∀ (i j:Int) (t u:Tok) (s:Shared) (Q:Value→Shared→Prop) (E:Value→Shared→Prop),C i j→Q (.int (g i j) s.toks) { s with toks:=s.toks+1 }→wpAny (model X.prog X.w) X.A (f (.int i t) (.int j u)) Q E s) :
  OpR X f (rI C fun i j=>.int (g i j)):=by
 intro pins s σ H x y v u Q I rx ry h
 obtain ⟨i,j,rfl,rfl,hc,q⟩:=h
 obtain ⟨t,rfl⟩:=rx
 obtain ⟨t',rfl⟩:=ry
 exact rule i j t t' s _ _ hc ⟨.int (g i j),H,I.tok _,⟨_,rfl⟩,q⟩
theorem opI0 {f:Value→Value→Sem Value}{g:Int→Int→Int}
  (rule:∀ (i j:Int) (t u:Tok) (s:Shared) (Q:Value→Shared→Prop) (E:Value→Shared→Prop),Q (.int (g i j) s.toks) { s with toks:=s.toks+1 }→wpAny (model X.prog X.w) X.A (f (.int i t) (.int j u)) Q E s) :
  OpR X f (rI0 fun i j=>.int (g i j)):=by
 intro pins s σ H x y v u Q I rx ry h
 obtain ⟨i,j,rfl,rfl,q⟩:=h
 obtain ⟨t,rfl⟩:=rx
 obtain ⟨t',rfl⟩:=ry
 exact rule i j t t' s _ _ ⟨.int (g i j),H,I.tok _,⟨_,rfl⟩,q⟩
theorem opB0 {f:Value→Value→Sem Value}{g:Int→Int→Bool}
  (rule:∀ (i j:Int) (t u:Tok) (s:Shared) (Q:Value→Shared→Prop) (E:Value→Shared→Prop),Q (.bool (g i j)) s→wpAny (model X.prog X.w) X.A (f (.int i t) (.int j u)) Q E s) :
  OpR X f (rI0 fun i j=>.bl (g i j)):=by
 intro pins s σ H x y v u Q I rx ry h
 obtain ⟨i,j,rfl,rfl,q⟩:=h
 obtain ⟨t,rfl⟩:=rx
 obtain ⟨t',rfl⟩:=ry
 exact rule i j t t' s _ _ ⟨.bl (g i j),H,I,rfl,q⟩
def CDiv (i j:Int):Prop:=0<j∧j<1073741824
def CPow (i j:Int):Prop:=0≤j∧j≤1000000∧i.natAbs<2 ^ 64
def CMul (i j:Int):Prop:=(-(2 ^ 64)<i∧i<2 ^ 64)∨(-(2 ^ 64)<j∧j<2 ^ 64)
theorem CMul.ok {i j:Int}(h:CMul i j):IntMulOk i j:=by
 rcases h with ⟨h1,h2⟩ | ⟨h1,h2⟩
 ·exact .of_left (intBits_le_64 h1 h2)
 ·exact .of_right (intBits_le_64 h1 h2)
theorem zmy_:OpR X (binaryOp .Add) (rI0 fun i j=>.int (i+j)):=opI0 fun _ _ _ _ _ _ _ q=>add_int q
theorem zmi_:OpR X (binaryOp .Sub) (rI0 fun i j=>.int (i-j)):=opI0 fun _ _ _ _ _ _ _ q=>sub_int q
theorem zm3_:OpR X (binaryOp .Mod) (rI (fun _ j=>0<j) fun i j=>.int (i % j)):=opI fun i j _ _ _ _ _ hc q=>by
 have h1:(0:Int)<j:=hc
 exact mod_int' (by lia) (by rw [Int.fmod_eq_emod_of_nonneg i (by lia)]; exact q)
theorem unI {f:Value→Sem Value}{g:Int→Int}
  (rule:∀ (i:Int) (t:Tok) (s:Shared) (Q:Value→Shared→Prop) (E:Value→Shared→Prop),Q (.int (g i) s.toks) { s with toks:=s.toks+1 }→wpAny (model X.prog X.w) X.A (f (.int i t)) Q E s) :
  UnR X f (rU fun i=>.int (g i)):=by
 intro pins s σ H x v Q I rx h
 obtain ⟨i,rfl,q⟩:=h
 obtain ⟨t,rfl⟩:=rx
 exact rule i t s _ _ ⟨.int (g i),H,I.tok _,⟨_,rfl⟩,q⟩
theorem zmw_:UnR X (unaryOp .USub) (rU fun i=>.int (-i)):=unI fun _ _ _ _ _ q=>neg_int q
end
def scal:V→V→Bool
 | .non,.non=>true | .non,.int _=>true | .int _,.non=>true | .non,.bl _=>true | .bl _,.non=>true | .non,.str _=>true | .str _,.non=>true
 | .int _,.int _=>true | .bl _,.bl _=>true | .str _,.str _=>true | .byt _,.byt _=>true
 | .int _,.str _=>true | .str _,.int _=>true | .bl _,.str _=>true | .str _,.bl _=>true
 | _,_=>false
def rEq:R2:=fun x y H Q=>scal x y=true∧Q (.bl (decide (x=y))) H
def rNe:R2:=fun x y H Q=>scal x y=true∧Q (.bl (!decide (x=y))) H
theorem zi4_ {i j:Int}:decide (V.int i=V.int j)=(i == j):=by
 rw [Bool.eq_iff_iff]
 simp
theorem zlv_ {i j:Bool}:decide (V.bl i=V.bl j)=(i == j):=by
 rw [Bool.eq_iff_iff]
 simp
theorem ziH_ {i j:Str}:decide (V.str i=V.str j)=(i == j):=by
 rw [Bool.eq_iff_iff]
 simp
theorem ziN_ {i j:Array UInt8}:decide (V.byt i=V.byt j)=(i.toList == j.toList):=by
 rw [Bool.eq_iff_iff]
 cases i
 cases j
 simp
section
variable {X:Cx}{a b c:Expr}{ta tb tc:TE}{pos:Pos}
theorem zI_ {pins:Pnn}{σ:St}{H:Hp}{s:Shared}{Q:VK}{k k':Bool}(I:Inv X pins σ H s) (q:Q (.bl k) H) (e:k=k'):EP X pins σ Q (.bool k') s:=by
 subst e
 exact ⟨.bl k,H,I,rfl,q⟩
theorem op_eq:OpR X (compareOp .Eq) rEq:=by
 intro pins s σ H x y v u Q I rx ry h
 obtain ⟨hs,q⟩:=h
 cases x with
 | non =>
  cases rx
  cases y with
  | non=>cases ry; exact PySem.EqNone.eq_none_none (zI_ I q (by simp))
  | bl j=>cases ry; exact PySem.EqNone.eq_none_bool (zI_ I q (by simp))
  | int j=>obtain ⟨t',rfl⟩:=ry; exact PySem.EqNone.eq_none_int (zI_ I q (by simp))
  | str j=>obtain ⟨t',rfl⟩:=ry; exact PySem.EqNone.eq_none_str (zI_ I q (by simp))
  | _=>exact absurd (show false=true from hs) Bool.false_ne_true
 | bl i =>
  cases rx
  cases y with
  | non=>cases ry; exact PySem.EqNone.eq_bool_none (zI_ I q (by simp))
  | bl j=>cases ry; exact eq_bool (zI_ I q zlv_)
  | str j=>obtain ⟨t',rfl⟩:=ry; exact PySem.EqMixed.eq_bool_str (zI_ I q (by simp))
  | _=>exact absurd (show false=true from hs) Bool.false_ne_true
 | int i =>
  obtain ⟨t,rfl⟩:=rx
  cases y with
  | non=>cases ry; exact PySem.EqNone.eq_int_none (zI_ I q (by simp))
  | int j=>obtain ⟨t',rfl⟩:=ry; exact eq_int (zI_ I q zi4_)
  | str j=>obtain ⟨t',rfl⟩:=ry; exact PySem.EqMixed.eq_int_str (zI_ I q (by simp))
  | _=>exact absurd (show false=true from hs) Bool.false_ne_true
 | str i =>
  obtain ⟨t,rfl⟩:=rx
  cases y with
  | non=>cases ry; exact PySem.EqNone.eq_str_none (zI_ I q (by simp))
  | bl j=>cases ry; exact PySem.EqMixed.eq_str_bool (zI_ I q (by simp))
  | int j=>obtain ⟨t',rfl⟩:=ry; exact PySem.EqMixed.eq_str_int (zI_ I q (by simp))
  | str j=>obtain ⟨t',rfl⟩:=ry; exact eq_str (zI_ I q ziH_)
  | _=>exact absurd (show false=true from hs) Bool.false_ne_true
 | byt i =>
  obtain ⟨t,rfl⟩:=rx
  cases y with
  | byt j=>obtain ⟨t',rfl⟩:=ry; exact PySem.W.eq_bytes (zI_ I q ziN_)
  | _=>exact absurd (show false=true from hs) Bool.false_ne_true
 | _=>cases y<;>exact absurd (show false=true from hs) Bool.false_ne_true
theorem op_ne:OpR X (compareOp .NotEq) rNe:=by
 intro pins s σ H x y v u Q I rx ry h
 obtain ⟨hs,q⟩:=h
 cases x with
 | non =>
  cases rx
  cases y with
  | non=>cases ry; exact PySem.EqNone.ne_none_none (zI_ I q (by simp))
  | bl j=>cases ry; exact PySem.EqNone.ne_none_bool (zI_ I q (by simp))
  | int j=>obtain ⟨t',rfl⟩:=ry; exact PySem.EqNone.ne_none_int (zI_ I q (by simp))
  | str j=>obtain ⟨t',rfl⟩:=ry; exact PySem.EqNone.ne_none_str (zI_ I q (by simp))
  | _=>exact absurd (show false=true from hs) Bool.false_ne_true
 | bl i =>
  cases rx
  cases y with
  | non=>cases ry; exact PySem.EqNone.ne_bool_none (zI_ I q (by simp))
  | bl j=>cases ry; exact ne_bool (zI_ I q (congrArg not zlv_))
  | str j=>obtain ⟨t',rfl⟩:=ry; exact PySem.EqMixed.ne_bool_str (zI_ I q (by simp))
  | _=>exact absurd (show false=true from hs) Bool.false_ne_true
 | int i =>
  obtain ⟨t,rfl⟩:=rx
  cases y with
  | non=>cases ry; exact PySem.EqNone.ne_int_none (zI_ I q (by simp))
  | int j=>obtain ⟨t',rfl⟩:=ry; exact ne_int (zI_ I q (congrArg not zi4_))
  | str j=>obtain ⟨t',rfl⟩:=ry; exact PySem.EqMixed.ne_int_str (zI_ I q (by simp))
  | _=>exact absurd (show false=true from hs) Bool.false_ne_true
 | str i =>
  obtain ⟨t,rfl⟩:=rx
  cases y with
  | non=>cases ry; exact PySem.EqNone.ne_str_none (zI_ I q (by simp))
  | bl j=>cases ry; exact PySem.EqMixed.ne_str_bool (zI_ I q (by simp))
  | int j=>obtain ⟨t',rfl⟩:=ry; exact PySem.EqMixed.ne_str_int (zI_ I q (by simp))
  | str j=>obtain ⟨t',rfl⟩:=ry; exact ne_str (zI_ I q (congrArg not ziH_))
  | _=>exact absurd (show false=true from hs) Bool.false_ne_true
 | byt i =>
  obtain ⟨t,rfl⟩:=rx
  cases y with
  | byt j=>obtain ⟨t',rfl⟩:=ry; exact PySem.W.ne_bytes (zI_ I q (congrArg not ziN_))
  | _=>exact absurd (show false=true from hs) Bool.false_ne_true
 | _=>cases y<;>exact absurd (show false=true from hs) Bool.false_ne_true
theorem op_lt:OpR X (compareOp .Lt) (rI0 fun i j=>.bl (decide (i<j))):=opB0 fun _ _ _ _ _ _ _ q=>lt_int q
theorem op_le:OpR X (compareOp .LtE) (rI0 fun i j=>.bl (decide (i≤j))):=opB0 fun _ _ _ _ _ _ _ q=>le_int q
theorem op_gt:OpR X (compareOp .Gt) (rI0 fun i j=>.bl (decide (j<i))):=opB0 fun _ _ _ _ _ _ _ q=>gt_int q
theorem op_ge:OpR X (compareOp .GtE) (rI0 fun i j=>.bl (decide (j≤i))):=opB0 fun _ _ _ _ _ _ _ q=>ge_int q
theorem zhy_:OpR X (compareOp .In) (fun x y H Q=>∃ i j,x=.str i∧y=.str j∧Q (.bl (!(Builtin.Str.occurrences j i 0 j.length 1).isEmpty)) H):=by
 intro pins s σ H x y v u Q I rx ry h
 obtain ⟨i,j,rfl,rfl,q⟩:=h
 obtain ⟨t,rfl⟩:=rx
 obtain ⟨t',rfl⟩:=ry
 exact in_str (zI_ I q rfl)
theorem zm0_:OpR X (compareOp .Is) (fun x y H Q=>y=.non∧Q (.bl (decide (x=.non))) H):=by
 intro pins s σ H x y v u Q I rx ry h
 obtain ⟨rfl,q⟩:=h
 cases ry
 refine is_none_gen (zI_ I q ?_)
 cases x<;>first
  | (cases rx; rfl)
  | (obtain ⟨t,rfl⟩:=rx; rfl)
theorem zev_:OpR X (compareOp .NotIn) (fun x y H Q=>∃ i j,x=.str i∧y=.str j∧Q (.bl (!(!(Builtin.Str.occurrences j i 0 j.length 1).isEmpty))) H):=by
 intro pins s σ H x y v u Q I rx ry h
 obtain ⟨i,j,rfl,rfl,q⟩:=h
 obtain ⟨t,rfl⟩:=rx
 obtain ⟨t',rfl⟩:=ry
 exact notIn_str (zI_ I q rfl)
theorem zkX_ {op:CmpOp}{r:R2}(ho:OpR X (compareOp op) r) (ha:PE X a ta) (hb:PE X b tb) (hm:behindInMarks op b=false):PE X (.Compare a [op] [b] pos) (tOp r ta tb):=by
 intro pins s σ H Q I h
 exact wpAny_Compare1 (binT ha hb I h fun v u s2 x y H2 I2 rx ry q=>ho pins s2 σ H2 x y v u Q I2 rx ry q) hm
theorem line63:(sizeLine:Nat)<2 ^ 63:=by rw [sizeLine_eq]; decide
theorem zgL_:OpR X (binaryOp .Add) (fun x y H Q=>∃ i j,x=.str i∧y=.str j∧i.length+j.length≤sizeLine∧Q (.str (i++j)) H):=by
 intro pins s σ H x y v u Q I rx ry h
 obtain ⟨i,j,rfl,rfl,hz,q⟩:=h
 obtain ⟨t,rfl⟩:=rx
 obtain ⟨t',rfl⟩:=ry
 exact add_str (fun t' tk=>⟨.str (i++j),H,I.tok _,⟨_,rfl⟩,q⟩) hz
theorem vals1 {x:V}{us:List Value}(r:Vals [x] us):∃ u,us=[u]∧RelV x u:=by
 cases r with
 | cons r1 r2=>cases r2; exact ⟨_,rfl,r1⟩
theorem vals2 {x y:V}{us:List Value}(r:Vals [x,y] us):∃ u w',us=[u,w']∧RelV x u∧RelV y w':=by
 cases r with
 | cons r1 r2 =>
  cases r2 with
  | cons r3 r4=>cases r4; exact ⟨_,_,rfl,r1,r3⟩
theorem zeB_:CallR X (.type "str") (fun xs H Q=>∃ i,xs=[.int i]∧i.natAbs.log2<1920∧Q (.str (toString i)) H):=by
 intro pins s σ H xs us Q I r h
 obtain ⟨i,rfl,hz,q⟩:=h
 obtain ⟨u,rfl,t,rfl⟩:=vals1 r
 exact PySem.P.str_of_int hz ⟨.str _,H,I.tok _,⟨_,rfl⟩,q⟩
end
end L2
namespace L2
open PySem PySem.Spec PyProof.Rows
structure ObjM (h:Heap) (x dx C:Addr) (mA:Str→Option Value):Prop where
 obj:h.get? x=some (PySem.W.instObj C dx)
 ns:h.Ns1 dx mA
 ne:dx≠x
theorem zhA_ {h:Heap}{dx:Addr}{mA:Str→Option Value}(n:h.Ns1 dx mA):∃ od,h.get? dx=some od∧∀ name,PySem.W.lookIn name od=some (mA name):=by
 obtain ⟨o,es,ep,ho,hd,hk,_,hm⟩:=n
 refine ⟨o,ho,fun name=>?_⟩
 have e:=hm name
 unfold nsFind findBy at e
 rw [← Array.find?_toList] at e
 unfold PySem.W.lookIn
 rw [hd]
 dsimp only
 split
 ·rename_i y q
  rw [q] at e
  exact congrArg some e
 ·rename_i q
  rw [q] at e
  have a:es.toList.any (·.refKey)=false:=by
   rw [List.any_eq_false]
   intro y hy
   obtain ⟨z,t,hkey⟩:=hk y (Array.mem_toList_iff.mp hy)
   simp [DictEntry.refKey,hkey]
  have a':¬ es.toList.any (·.refKey)=true:=by rw [a]; exact Bool.false_ne_true
  rw [if_neg a']
  exact congrArg some e
theorem ObjM.look {h:Heap}{x dx C:Addr}{mA:Str→Option Value}(I:ObjM h x dx C mA):∃ od,PySem.W.InstAt h x (PySem.W.instObj C dx) C (some od)∧∀ name,PySem.W.lookIn name od=some (mA name) :=
 let ⟨od,ho,hl⟩:=zhA_ I.ns
 ⟨od,⟨I.obj,rfl,rfl,ho⟩,hl⟩
section
variable {prog:Program}{w:World}{A:Around}{E:Value→Shared→Prop}{s:Shared}{K:Fgg}{x dx C f:Addr}{mA:Str→Option Value}{name:Str}{v:Value}
end
def putF (f:Str) (v:V):List (Str×V)→List (Str×V)
 | []=>[(f,v)]
 | (g,x)::r=>if g=f then (g,v)::r else (g,x)::putF f v r
theorem zc1_ (f g:Str) (v:V):∀ fs:List (Str×V),(putF f v fs).lookup g=if g=f then some v else fs.lookup g
 | []=>by
  show List.lookup g [(f,v)]=_
  by_cases h:g=f
  ·have hb:(g == f)=true:=beq_iff_eq.mpr h
   simp only [List.lookup,hb,if_pos h]
  ·have hb:(g == f)=false:=beq_eq_false_iff_ne.mpr h
   simp only [List.lookup,hb,if_neg h]
 | (k,x)::r=>by
  have ih:=zc1_ f g v r
  rw [show putF f v ((k,x)::r)=(if k=f then (k,v)::r else (k,x)::putF f v r) from rfl]
  by_cases hk:k=f
  ·rw [if_pos hk]
   by_cases h:g=k
   ·have hb:(g == k)=true:=beq_iff_eq.mpr h
    simp only [List.lookup,hb,if_pos (h.trans hk)]
   ·have hb:(g == k)=false:=beq_eq_false_iff_ne.mpr h
    simp only [List.lookup,hb,if_neg (fun e:g=f=>h (e.trans hk.symm))]
  ·rw [if_neg hk]
   by_cases h:g=k
   ·have hb:(g == k)=true:=beq_iff_eq.mpr h
    simp only [List.lookup,hb,if_neg (fun e:g=f=>hk (h.symm.trans e))]
   ·have hb:(g == k)=false:=beq_eq_false_iff_ne.mpr h
    simp only [List.lookup,hb]
    exact ih
theorem zc5_ (f:Str) (v:V):∀ fs:List (Str×V),f∈(putF f v fs).map (·.1)∧∀ g,g∈fs.map (·.1)→g∈(putF f v fs).map (·.1)
 | []=>⟨by simp [putF],fun g h=>by simp at h⟩
 | (k,x)::r=>by
  obtain ⟨i1,i2⟩:=zc5_ f v r
  rw [show putF f v ((k,x)::r)=(if k=f then (k,v)::r else (k,x)::putF f v r) from rfl]
  by_cases hk:k=f
  ·rw [if_pos hk]
   subst hk
   exact ⟨by simp,fun g h=>by simpa using h⟩
  ·rw [if_neg hk]
   refine ⟨?_,fun g h=>?_⟩
   ·rw [List.map_cons]
    exact List.mem_cons_of_mem _ i1
   ·rw [List.map_cons] at h ⊢
    rcases List.mem_cons.mp h with e | e
    ·exact List.mem_cons.mpr (.inl e)
    ·exact List.mem_cons_of_mem _ (i2 g e)
theorem RelO.some_of {v:V}{o:Option Value}(r:RelO (some v) o):∃ u,o=some u∧RelV v u:=by
 cases o with
 | none=>exact (show False from r).elim
 | some u=>exact ⟨u,rfl,r⟩
theorem zij_ {v:V}{u:Value}(r:RelV v u):PySem.W.handedIn u=true:=by
 cases v with
 | non=>cases (show u=Value.none from r); rfl
 | bl b=>cases (show u=Value.bool b from r); rfl
 | int i=>obtain ⟨t,e⟩:=(show ∃ t,u=Value.int i t from r); cases e; rfl
 | str x=>obtain ⟨t,e⟩:=(show ∃ t,u=Value.str x t from r); cases e; rfl
 | byt b=>obtain ⟨t,e⟩:=(show ∃ t,u=Value.bytes b t from r); cases e; rfl
 | flt b=>obtain ⟨t,e⟩:=(show ∃ t,u=Value.float b t from r); cases e; rfl
 | ref a=>cases (show u=Value.ref a from r); rfl
 | ty n=>cases (show u=Value.type n from r); rfl
section
variable {P:Program}{w:World}{H H':Hp}{h h':Heap}{a C dx:Addr}{fs fs':List (Str×V)}
theorem zkV_ (hok:HOk P w H h) (e:H a=some (.ins C dx fs)):∃ mA,ObjM h a dx C mA∧(∀ f,RelO (fs.lookup f) (mA f))∧PySem.Within mA (fs.map (·.1))∧fs.length≤1000∧H dx=some (.own a):=by
 obtain ⟨d,z,ne,ob,mA,n,r,q⟩:=(show ObjOk P w H h a (.ins C dx fs) from hok a _ e)
 exact ⟨mA,⟨ob,n,ne⟩,r,q,z,d⟩
end
structure Cls (K:Fgg) (C:Addr):Prop where
 pg:PySem.W.plainGet K C Str.empty=true
 hd:PySem.W.hasDictIn K C=true
 po:PySem.W.plainOver K C=true
 sa:PySem.W.findIn K (.ref C) "__setattr__" = some (some (.builtin "object.__setattr__"))
theorem Cls.get {K:Fgg}{C:Addr}(c:Cls K C) (f:Str):PySem.W.plainGet K C f=true:=c.pg
section
variable {X:Cx}{pins:Pnn}{σ:St}{H:Hp}{s:Shared}{a C dx:Addr}{fs:List (Str×V)}{f:Str}{v:V}{A:Around}{E:Value→Shared→Prop}
theorem zk6_ {prog:Program}{w:World}{env:Env}{e:Expr}{f:Str}{pos:Pos}{s:Shared}{Q:Value→Shared→Prop}(hb:attributeBase e f env (eval e env)=eval e env)
  (h:wpAny (model prog w) A (eval e env) (fun o s₁=>wpAny (model prog w) A (getAttr o f true) Q E s₁) E s):wpAny (model prog w) A (eval (.Attribute e f pos) env) Q E s :=
 Attribute_any_ h (by rw [arm_eval_Attribute,hb])
end
section
variable {X:Cx}{o e value:Expr}{f:Str}{pos pos' tpos:Pos}{ta tv:TE}
end
section
variable {X:Cx}{pins:Pnn}{σ:St}{H:Hp}{s:Shared}{A:Around}{E:Value→Shared→Prop}{Q:Value→Shared→Prop}{c:Value}{b:Bool}
inductive TyOf (K:Fgg) (H:Hp):V→Value→Prop where
 | non:TyOf K H .non (.type "NoneType")
 | bl (x:Bool):TyOf K H (.bl x) (.type "bool")
 | int (i:Int):TyOf K H (.int i) (.type "int")
 | str (x:Str):TyOf K H (.str x) (.type "str")
 | flt (x:UInt64):TyOf K H (.flt x) (.type "float")
 | lst {a:Addr}{xs:List V}(e:H a=some (.lst xs)):TyOf K H (.ref a) (.type "list")
 | frz {a:Addr}{o:Obj}{xs:List V}(e:H a=some (.frz o (.lst xs))):TyOf K H (.ref a) (.type "list")
 | tup {a:Addr}{xs:List V}(e:H a=some (.tup xs)):TyOf K H (.ref a) (.type "tuple")
 | dK {a:Addr}{kvs:List (Key×V)}(e:H a=some (.dK kvs)):TyOf K H (.ref a) (.type "dict")
 | dT {a:Addr}{kvs:List (List Key×V)}(e:H a=some (.dT kvs)):TyOf K H (.ref a) (.type "dict")
 | ins {a C dx:Addr}{fs:List (Str×V)}(e:H a=some (.ins C dx fs)) (cl:Cls K C) (ha:PySem.W.findIn K (.ref C) "__class__" = some (some (.builtin "object.__class__")))
   (hn:PySem.W.specialIn K (.builtin "object.__class__") "__get__" = some (some (.builtin "getset_descriptor.__get__"))) (htk:PySem.W.takesIn K (.builtin "object.__class__")=some true)
   (hm:PySem.W.mroIn K C (.type "object")=some true):TyOf K H (.ref a) (.ref C)
theorem zim_ {x:V}{u t:Value}(I:Inv X pins σ H s) (rx:RelV x u) (ty:TyOf X.K H x t) (e:PySem.W.kitOne X.K t c=some b) (h:∀ tk,Q (.bool b) { s with toks:=tk }) :
  wpAny (model X.prog X.w) A (call (.builtin "isinstance") [u,c]) Q E s:=by
 cases ty with
 | non=>cases (show u=Value.none from rx); exact PySem.W.kia_one PySem.W.kitx_none I.kIn True.intro e (fun z=>nomatch z) h
 | bl y=>cases (show u=Value.bool y from rx); exact PySem.W.kia_one PySem.W.kitx_bool I.kIn True.intro e (fun z=>nomatch z) h
 | int i=>obtain ⟨t,q⟩:=(show ∃ t,u=Value.int i t from rx); cases q; exact PySem.W.kia_one PySem.W.kitx_int I.kIn True.intro e (fun z=>nomatch z) h
 | str y=>obtain ⟨t,q⟩:=(show ∃ t,u=Value.str y t from rx); cases q; exact PySem.W.kia_one PySem.W.kitx_str I.kIn True.intro e (fun z=>nomatch z) h
 | flt y=>obtain ⟨t,q⟩:=(show ∃ t,u=Value.float y t from rx); cases q; exact PySem.W.kia_one PySem.W.kitx_float I.kIn True.intro e (fun z=>nomatch z) h
 | @lst a xs ea =>
  cases (show u=Value.ref a from rx)
  obtain ⟨_,_,n,_,h1⟩:=(show ObjOk X.prog X.w H s.heap a (.lst xs) from I.hok a _ ea)
  exact PySem.W.kia_one PySem.W.kitx_list I.kIn ⟨_,h1,rfl⟩ e (fun z=>nomatch z) h
 | @frz a ob xs ea =>
  cases (show u=Value.ref a from rx)
  obtain ⟨_,_,_,n,_,h1⟩:=(show ObjOk X.prog X.w H s.heap a (.frz ob (.lst xs)) from I.hok a _ ea)
  exact PySem.W.kia_one PySem.W.kitx_list I.kIn ⟨_,h1,rfl⟩ e (fun z=>nomatch z) h
 | @tup a xs ea =>
  cases (show u=Value.ref a from rx)
  obtain ⟨_,_,_,p⟩:=(show ObjOk X.prog X.w H s.heap a (.tup xs) from I.hok a _ ea)
  obtain ⟨o,h1,h2,_⟩:=p
  exact PySem.W.kia_one PySem.W.kitx_tuple I.kIn ⟨o,h1,h2⟩ e (fun z=>nomatch z) h
 | @dK a kvs ea =>
  cases (show u=Value.ref a from rx)
  obtain ⟨_,_,vs,_,p⟩:=(show ObjOk X.prog X.w H s.heap a (.dK kvs) from I.hok a _ ea)
  obtain ⟨o,es,ep,h1,h2,_⟩:=p
  exact PySem.W.kia_one PySem.W.kitx_dict I.kIn ⟨o,h1,h2.1⟩ e (fun z=>nomatch z) h
 | @dT a kvs ea =>
  cases (show u=Value.ref a from rx)
  obtain ⟨_,_,xs,_,o,es,ep,h1,h2,_⟩:=(show ObjOk X.prog X.w H s.heap a (.dT kvs) from I.hok a _ ea)
  exact PySem.W.kia_one PySem.W.kitx_dict I.kIn ⟨o,h1,h2.1⟩ e (fun z=>nomatch z) h
 | @ins a C dx fs ea cl ha hn htk hm =>
  cases (show u=Value.ref a from rx)
  obtain ⟨mA,O,_⟩:=zkV_ I.hok ea
  obtain ⟨od,J,_⟩:=O.look
  exact PySem.W.kia_one (PySem.W.kitx_own (cl.get _) cl.hd ha hn htk hm) I.kIn J e (fun z=>nomatch z) h
end
end L2
namespace L2
open PySem PySem.Spec PyProof.Rows
structure Room (k:Nat) (A:Around):Prop where
 hd:A.handled=none
 dp:A.depth+3*k+5<recursionLimit
 un:A.units+16*k+200<cLine
theorem Room.mono {j k:Nat}{A:Around}(r:Room k A) (h:j≤k):Room j A:=⟨r.hd,by have:=r.dp; lia,by have:=r.un; lia⟩
theorem Room.deeper {k:Nat}{A:Around}(r:Room (k+1) A) (env:Env):Room k (A.deeper env) :=
 ⟨r.hd,by have:=r.dp; show A.depth+1+3*k+5<_; lia,by have:=r.un; show A.units+3+16*k+200<_; lia⟩
theorem zg4_ {A:Around}{C:Addr}{us:List Value}{kw:List (Str×Value)}:(A.under (.builtin "type.__call__" ⟨.ref C::us,kw⟩)).depth=A.depth+1:=by
 first | rfl | simp [Around.under,Code.weight,Code.isCreation,Code.isGuard,Code.isCaller,Code.frames,Code.isFrame,guardIds]
theorem zg1_ {A:Around}{C:Addr}{us:List Value}{kw:List (Str×Value)}:(A.under (.builtin "type.__call__" ⟨.ref C::us,kw⟩)).units=A.units+1:=by
 first | rfl | simp [Around.under,Code.cUnits,Code.frames,Code.isFrame]
theorem Room.make {k:Nat}{A:Around}(r:Room (k+1) A) (C:Addr) (us:List Value) (kw:List (Str×Value)):Room k (A.under (.builtin "type.__call__" ⟨.ref C::us,kw⟩)) :=
 ⟨r.hd,by have:=r.dp; rw [zg4_]; lia,by have:=r.un; rw [zg1_]; lia⟩
theorem Room.depth {k:Nat}{A:Around}(r:Room k A):A.depth<recursionLimit:=by have:=r.dp; lia
theorem Room.units {k:Nat}{A:Around}(r:Room k A):A.units+64<cLine:=by have:=r.un; lia
def tNil:TA:=fun _ H Q=>Q [] H
def tCons (ta:TE) (tr:TA):TA:=fun σ H Q=>ta σ H fun x H1=>tr σ H1 fun xs H2=>Q (x::xs) H2
section
variable {X:Cx}{e:Expr}{es:List Expr}{te:TE}{t:TA}{pos:Pos}
theorem zf_:PA X [] tNil:=fun _ _ _ _ H Q I h=>Calls.spliced_nil ⟨[],H,I,.nil,h⟩
theorem zb_ (ha:PE X e te) (hr:PA X es t) (hs:starEach (e::es) X.env=(false,eval e X.env)::starEach es X.env:=by rfl):PA X (e::es) (tCons te t):=by
 intro pos pins s σ H Q I h
 rw [hs]
 show wpAny _ _ (spliced ((false,eval e X.env)::backTo pos (starEach es X.env))) _ _ s
 refine Calls.spliced_cons (thn (ha pins s σ H _ I h) fun u s1 hq_=>?_)
 obtain ⟨x,H1,I1,r1,q1⟩:=hq_
 exact thn (hr pos pins s1 σ H1 _ I1 q1) fun us s2 ⟨xs,H2,I2,r2,q2⟩=>⟨x::xs,H2,I2,.cons r1 r2,q2⟩
def tTup (t:TA):TE:=fun σ H Q=>t σ H fun xs H1=>xs.length≤sizeLine∧∀ p,H1 p=none→Q (.ref p) (upd H1 p (.tup xs))
def tLst (t:TA):TE:=fun σ H Q=>t σ H fun xs H1=>xs.length≤sizeLine∧∀ p,H1 p=none→Q (.ref p) (upd H1 p (.lst xs))
theorem zfk_ {x1} (h:PA X es t):PE X (.Tuple es x1 pos) (tTup t):=by
 intro pins s σ H Q I hq
 refine wpAny_Tuple_spliced (thn (h pos pins s σ H _ I hq) fun us s1 ⟨xs,H1,I1,r,z,q⟩=>⟨by rw [← r.length]; exact z,?_⟩)
 have hf:H1 s1.heap.objs.size=none:=I1.hok.fresh (Nat.le_refl _)
 refine ⟨.ref s1.heap.objs.size,upd H1 s1.heap.objs.size (.tup xs),I1.laid (t':=s1.toks) (fun b u e=>Heap.get?_push_of_some _ e) (Nat.le_refl _) ?_,rfl,q _ hf⟩
 exact ⟨z,us,r,⟨_,Heap.get?_push_size _ rfl,rfl,_,rfl⟩⟩
theorem zaa_ (h:PA X es t):PE X (.List es pos) (tLst t):=by
 intro pins s σ H Q I hq
 refine wpAny_List_spliced (thn (h pos pins s σ H _ I hq) fun us s1 ⟨xs,H1,I1,r,z,q⟩=>⟨by rw [← r.length]; exact z,?_⟩)
 have hf:H1 s1.heap.objs.size=none:=I1.hok.fresh (Nat.le_refl _)
 refine ⟨.ref s1.heap.objs.size,upd H1 s1.heap.objs.size (.lst xs),I1.laid (t':=s1.toks) (fun b u e=>Heap.get?_push_of_some _ e) (Nat.le_refl _) ?_,rfl,q _ hf⟩
 exact ⟨z,us,0,r,Heap.get?_push_size _ rfl⟩
end
abbrev Sp:=List V→Hp→VK→XK→Prop
abbrev CXT:=List Env→Hp→Shared→XK→Value→Shared→Prop
structure Env0 (P:Program) (w:World) (K:Fgg) (mg:Str→Option Value) (base:Heap) (A:Around) (outer:List Env) (s:Shared) (H:Hp):Prop where
 frames:A.frames=some outer
 mod:Mod K mg base
 bs:∀ b o,base.get? b=some o→s.heap.get? b=some o∧H b=none
 bsz:base.objs.size≤s.heap.objs.size
 funs:s.heap.FunFrames base outer
 frf:∀ b∈frs outer,H b=none
 hok:HOk P w H s.heap
 bare:AllBare s.gens
def CE (outer:List Env) (P:Program) (w:World) (H:Hp) (s:Shared) (Q:VK) (u:Value) (s':Shared):Prop :=
 ∃ v H',s'.os=s.os∧AllBare s'.gens∧Un (frs outer) [] H H' s.heap s'.heap∧HOk P w H' s'.heap∧RelV v u∧Q v H'
def CR (CX:CXT) (outer:List Env) (P:Program) (w:World) (H:Hp) (s:Shared) (Q:VK) (E:XK) (r:Result) (s':Shared):Prop :=
 match r with
 | .ok (.ret u)=>CE outer P w H s Q u s'
 | .ok _=>False
 | .error e=>CX outer H s E e s'
structure FnOk (P:Program) (w:World) (K:Fgg) (mg:Str→Option Value) (base:Heap) (CX:CXT) (k:Nat) (f:Addr) (fd:FuncData) (ps:List Str) (sp:Sp):Prop where
 len:∀ vs H Q E,sp vs H Q E→vs.length=ps.length
 run:∀ (A:Around) (outer:List Env) (s:Shared) (H:Hp) (args:Args) (us:List Value) (vs:List V) (Q:VK) (E:XK),Room k A→Env0 P w K mg base A outer s H→BindsTo s fd args (ps.zip us)→Vals vs us→sp vs H Q E →
  codeAny (model P w) A (.call (.ref f) args) (CR CX outer P w H s Q E) s
theorem Env0.make {P:Program}{w:World}{K:Fgg}{mg:Str→Option Value}{base:Heap}{A:Around}{outer:List Env}{s:Shared}{H:Hp}(e:Env0 P w K mg base A outer s H) (C:Addr) (us:List Value) (kw:List (Str×Value)) :
  Env0 P w K mg base (A.under (.builtin "type.__call__" ⟨.ref C::us,kw⟩)) outer s H:=⟨by first | exact e.frames | (simpa [Around.under,Code.envs,Code.isFrame,pushEnvs] using e.frames),e.mod,e.bs,e.bsz,e.funs,e.frf,e.hok,e.bare⟩
section
variable {X:Cx}{pins:Pnn}{σ:St}{H:Hp}{s s':Shared}
theorem Inv.env0 (I:Inv X pins σ H s):Env0 X.prog X.w X.K X.mg X.base X.A X.stack s H :=
 ⟨I.ok.frames,I.ok.mod,I.bs,Nat.le_trans I.ok.bsz I.sz,I.stack,I.stkFree,I.hok,I.bare⟩
theorem Inv.after {Q:VK}{u:Value}(I:Inv X pins σ H s) (h:CE X.stack X.prog X.w H s Q u s'):EP X pins σ Q u s':=by
 obtain ⟨v,H',os,bare,un,hok,r,q⟩:=h
 obtain ⟨hh,g,d,t,os'⟩:=s'
 obtain rfl:os'=s.os:=os
 exact ⟨v,H',I.call (h':=hh) (g':=g) (d':=d) (t':=t) (ch:=[]) un hok bare (fun b z=>absurd z (by simp)),r,q⟩
end
def tCall (sp:Sp) (dvs:List V) (E:XK) (t:TA):TE:=fun σ H Q=>t σ H fun vs H1=>sp (vs++dvs) H1 Q E
def Binds (K:Fgg) (fd:FuncData) (ps:List Str) (ds:List Value):Prop :=
 ∀ (s:Shared) (us:List Value),K.In s.heap→(us++ds).length=ps.length→BindsTo s fd ⟨us,[]⟩ (ps.zip (us++ds))
theorem Binds.all {K:Fgg}{fd:FuncData}{ps:List Str}(h:∀ us:List Value,us.length=ps.length→bindArgs fd ⟨us,[]⟩=pure (ps.zip us)):Binds K fd ps []:=fun s us _ hl=>by
 rw [List.append_nil] at hl ⊢
 exact .of_eq (h us hl)
def Passes (CX:CXT) (X:Cx) (E:XK):Prop:=∀ (pins:Pnn) (σ:St) (H:Hp) (s:Shared) (e:Value) (s':Shared),Inv X pins σ H s→CX X.stack H s E e s'→X.xe e s'
section
variable {X:Cx}{CX:CXT}{k:Nat}{f C:Addr}{fd:FuncData}{ps:List Str}{sp:Sp}{dvs:List V}{ds:List Value}{E:XK}{x m:Str}{p pos apos:Pos}{e o:Expr}{es:List Expr}{ta:TE}{t:TA}
theorem zmv_ {pins:Pnn}{σ:St}{H:Hp}{s:Shared}{Q:VK}{us:List Value}{vs:List V}(F:FnOk X.prog X.w X.K X.mg X.base CX k f fd ps sp) (hr:Room k X.A) (hb:Binds X.K fd ps ds) (hd:Vals dvs ds) (hx:Passes CX X E)
  (I:Inv X pins σ H s) (r:Vals vs us) (h:sp (vs++dvs) H Q E):wpAny (model X.prog X.w) X.A (call (.ref f) us) (EP X pins σ Q) X.xe s:=by
 have r2:Vals (vs++dvs) (us++ds):=r.append hd
 have hl:(us++ds).length=ps.length:=by rw [← r2.length]; exact F.len _ _ _ _ h
 refine wpAny_call (codeAny_mono (F.run X.A X.stack s H ⟨us,[]⟩ (us++ds) (vs++dvs) Q E hr I.env0 (hb s us I.kIn hl) r2 h) fun r s' hq=>?_)
 cases r with
 | error e=>exact hx pins σ H s e s' I hq
 | ok fl =>
  cases fl with
  | ret u=>exact I.after hq
  | next=>exact False.elim hq
  | brk=>exact False.elim hq
  | cont=>exact False.elim hq
theorem zit_ (F:FnOk X.prog X.w X.K X.mg X.base CX k f fd ps sp) (hr:Room k X.A) (hg:Gl X x) (hm:X.mg x=some (.ref f)) (hk:PySem.W.keepIn X.K (.ref f)=true) (hb:Binds X.K fd ps ds) (hd:Vals dvs ds) (hx:Passes CX X E)
  (ha:PA X (e::es) t) (hdb:(x == ("__debug__" : Str))=false:=by decide) (he:starEach (e::es) X.env=(false,eval e X.env)::starEach es X.env:=by rfl) (hpl:(backTo pos (starEach es X.env)).any (·.1)=false:=by rfl) :
  PE X (.Call (.Name x p) (e::es) [] pos) (tCall sp dvs E t):=by
 intro pins s σ H Q I h
 refine wpAny_Call_Name_kw (zcf_ I hg hm ?_ hdb)
 refine PySem.W.callWith_K (h₀:=X.base) I.ok.mod.kin hk (thn (ha pos pins s σ H _ I h) fun us s1 ⟨vs,H1,I1,r,q⟩=>⟨I1.kIn,?_⟩) he hpl
 exact zmv_ F hr hb hd hx I1 r q
end
section
variable {X:Cx}{CX:CXT}{k:Nat}{f C:Addr}{fd:FuncData}{ps ks:List Str}{sp:Sp}{E:XK}{x m:Str}{p pos apos kpos:Pos}{e o:Expr}{es:List Expr}{kws:List Keyword}{te ta:TE}{t tk:TA}{nm:Option Str}
variable {g:List Value→List Value→List Value}{gV:List V→List V→List V}
end
structure FnScope (N P:List Str) (sc:Scope):Prop where
 kind:sc.kind=.function
 co:sc.isCoroutine=false
 gen:sc.isGenerator=false
 nd:N.Nodup
 pre:N.take P.length=P
 par:∀ x∈P,sc.names.lookup x=some .local∨sc.names.lookup x=some .cell
 nofree:∀ y∈sc.names,y.2≠.free
theorem zeY_ {kindOf:Str→Option NameKind}{x:Str}:∀ {binds:List (Str×Value)}{m:Str→Option Value},(∀ v,(x,v)∉binds)→bindL kindOf binds m x=m x
 | [],_,_=>rfl
 | (n,v)::r,m,h=>by
  unfold bindL
  rw [zeY_ fun w hw=>h w (List.mem_cons_of_mem _ hw)]
  split
  ·have:x≠n:=by rintro rfl; exact h v List.mem_cons_self
   simp [this]
  ·rfl
theorem ze2_ {kindOf:Str→Option NameKind}{x:Str}:∀ {binds:List (Str×Value)}{m:Str→Option Value},(∀ v,(x,v)∉binds)→bindC kindOf binds m x=m x
 | [],_,_=>rfl
 | (n,v)::r,m,h=>by
  unfold bindC
  rw [ze2_ fun w hw=>h w (List.mem_cons_of_mem _ hw)]
  split
  ·rfl
  ·have:x≠n:=by rintro rfl; exact h v List.mem_cons_self
   simp [this]
theorem ze0_ {kindOf:Str→Option NameKind}{x:Str}{v:Value}:∀ {P:List Str}{vs:List Value}{i:Nat}{m:Str→Option Value},P.Nodup→P[i]?=some x→vs[i]?=some v→kindOf x=some .local →
  bindL kindOf (P.zip vs) m x=some v
 | [],_,_,_,_,h,_,_=>by simp at h
 | _::_,[],_,_,_,_,h,_=>by simp at h
 | p::P,w::vs,0,m,nd,h1,h2,hk=>by
  simp at h1 h2; subst h1; subst h2
  show bindL kindOf ((p,w)::P.zip vs) m p=_
  unfold bindL
  rw [zeY_ fun v hv=>(List.nodup_cons.mp nd).1 (List.of_mem_zip hv).1,if_pos hk]
  simp
 | p::P,w::vs,i+1,m,nd,h1,h2,hk=>by
  show bindL kindOf ((p,w)::P.zip vs) m x=_
  unfold bindL
  exact ze0_ (i:=i) (List.nodup_cons.mp nd).2 (by simpa using h1) (by simpa using h2) hk
theorem zfg_ {kindOf:Str→Option NameKind}{x:Str}{v:Value}:∀ {P:List Str}{vs:List Value}{i:Nat}{m:Str→Option Value},P.Nodup→P[i]?=some x→vs[i]?=some v→kindOf x≠some .local →
  bindC kindOf (P.zip vs) m x=some v
 | [],_,_,_,_,h,_,_=>by simp at h
 | _::_,[],_,_,_,_,h,_=>by simp at h
 | p::P,w::vs,0,m,nd,h1,h2,hk=>by
  simp at h1 h2; subst h1; subst h2
  show bindC kindOf ((p,w)::P.zip vs) m p=_
  unfold bindC
  rw [ze2_ fun v hv=>(List.nodup_cons.mp nd).1 (List.of_mem_zip hv).1,if_neg hk]
  simp
 | p::P,w::vs,i+1,m,nd,h1,h2,hk=>by
  show bindC kindOf ((p,w)::P.zip vs) m x=_
  unfold bindC
  exact zfg_ (i:=i) (List.nodup_cons.mp nd).2 (by simpa using h1) (by simpa using h2) hk
def start (N:List Str) (vs:List V):St:=vs.map some++List.replicate (N.length-vs.length) none
def cxOf (CX:CXT) (P:Program) (w:World) (K:Fgg) (mg:Str→Option Value) (base:Heap) (N:List Str) (qual:Str) (scope:Scope) (f:Addr) (cd:Value) (A:Around) (outer:List Env) (s:Shared) (H:Hp) (E:XK):Cx where
 prog:=P
 w:=w
 K:=K
 mg:=mg
 base:=base
 A:=A.deeper (envOfC qual scope s.heap.objs.size f cd)
 N:=N
 s₀:=s
 H₀:=H
 env:=envOfC qual scope s.heap.objs.size f cd
 outer:=outer
 stack:=envOfC qual scope s.heap.objs.size f cd::outer
 ex:=[]
 calm:=true
 fn:=fun _=>true
 pn:=[]
 xe:=fun e s'=>wpAny (model P w) (A.deeper (envOfC qual scope s.heap.objs.size f cd)) (leaving (envOfC qual scope s.heap.objs.size f cd) e) (fun _ s''=>CX outer H s E e s'') (fun e' s''=>CX outer H s E e' s'') s'
theorem zg2_ {sc:Scope}{n:Nat}{x:Str}(h:sc.names.lookup x=some .cell):∃ c,(cellsFrom n sc.names []).lookup x=some c:=by
 have q:=PySem.W.cellsFrom_some sc.names n [] (.inl h)
 exact Option.isSome_iff_exists.mp q
theorem ze9_ {CX:CXT}{P:Program}{w:World}{K:Fgg}{mg:Str→Option Value}{base:Heap}{N ps:List Str}{qual:Str}{scope:Scope}{f:Addr}{cd:Value}{A:Around}{outer:List Env}{s s1:Shared}{H:Hp}{E:XK}{us:List Value}{vs:List V}
  (S:FnScope N ps scope) (hd:A.handled=none) (e0:Env0 P w K mg base A outer s H) (hl:vs.length=ps.length) (r:Vals vs us)
  (x:InCallC s s.heap.objs.size (bindL (envOfC qual scope s.heap.objs.size f cd).kindOf (ps.zip us) fun _=>none) (cellsFrom (s.heap.objs.size+1) scope.names []) (bindC (envOfC qual scope s.heap.objs.size f cd).kindOf (ps.zip us) fun _=>none) s1) :
  Inv (cxOf CX P w K mg base N qual scope f cd A outer s H E) [] (start N vs) H s1:=by
 have hpl:ps.length≤N.length:=by have:=congrArg List.length S.pre; rw [List.length_take] at this; lia
 obtain ⟨h1,tk,rfl,hk⟩:=x.done
 have noA:∀ b:Addr,b∉(cxOf CX P w K mg base N qual scope f cd A outer s H E).ex:=fun b z=>absurd (show b∈([]:List Addr) from z) (by simp)
 refine ⟨⟨e0.mod,S.kind,rfl,rfl,Nat.le_refl _,fun y z c h1 h2=>?_,fun y hy=>?_,fun y c _ h=>?_,fun _=>hd,Around.frames_deeper e0.frames,.inr ⟨rfl,rfl⟩,fun b z=>absurd z (noA b),e0.bs,e0.bsz,fun b _ _=>noA b,fun b z=>absurd z (noA b),e0.funs,e0.frf⟩,
  rfl,e0.bare,Un.kept hk,⟨_,x.toInCall.ns,fun i y v h1 h2 h3=>?_⟩,fun y c h=>⟨_,x.cell y c h⟩,e0.hok.fresh (Nat.le_refl _),fun y c h=>?_,fun p hp=>absurd (show p∈([]:Pnn) from hp) (by simp),e0.hok.kept hk,?_⟩
 ·exact name_of_addr x.apart (PySem.mem_of_lookup h1) (PySem.mem_of_lookup h2)
 ·have hy:scope.names.lookup y=some .cell∨scope.names.lookup y=some .free:=hy
  rcases hy with hy | hy
  ·exact zg2_ hy
  ·exact absurd rfl (S.nofree _ (PySem.mem_of_lookup hy))
 ·exact Nat.le_of_lt (x.above y c (PySem.mem_of_lookup h))
 ·have hi:i<vs.length:=by
   unfold start at h2
   by_cases hi:i<vs.length
   ·exact hi
   ·rw [List.getElem?_append_right (by simpa using hi)] at h2
    rw [List.getElem?_replicate] at h2
    split at h2<;>cases h2
  have ha:vs[i]?=some v:=by
   unfold start at h2
   rw [List.getElem?_append_left (by simpa using hi),List.getElem?_map] at h2
   cases e:vs[i]? with
   | none=>rw [e] at h2; cases h2
   | some a=>rw [e] at h2; cases h2; rfl
  obtain ⟨u,hu,rv⟩:=r.get ha
  have hp:ps[i]?=some y:=by
   rw [← S.pre,List.getElem?_take_of_lt (by lia)]; exact h1
  have ndP:ps.Nodup:=by rw [← S.pre]; exact S.nd.sublist (List.take_sublist _ _)
  refine ⟨u,rv,?_⟩
  rcases S.par y (List.mem_of_getElem? hp) with k | k
  ·exact .inl ⟨k,ze0_ ndP hp hu k⟩
  ·obtain ⟨c,e⟩:=zg2_ (n:=s.heap.objs.size+1) k
   refine .inr ⟨.inl k,c,e,?_⟩
   have q:=x.cell y c e
   rw [zfg_ ndP hp hu (by show scope.names.lookup y≠_; rw [k]; decide)] at q
   exact q
 ·exact e0.hok.fresh (Nat.le_of_lt (x.above y c (PySem.mem_of_lookup h)))
 ·unfold start
  show _=N.length
  rw [List.length_append,List.length_map,List.length_replicate]
  lia
theorem fn_of {CX:CXT}{P:Program}{w:World}{K:Fgg}{mg:Str→Option Value}{base:Heap}{k:Nat}{f:Addr}{name qual:Str}{params:Arguments}{body:List Stmt}{scope:Scope}{dV kV doc pm cdv ct oc:Value}{an od:Option Addr}
  {osl:Array (Option Value)}{N ps:List Str}{sp:Sp}(lk:K.lookup f=some ⟨oc,od,.func (PySem.W.fnOf name qual params body scope dV kV doc pm an cdv ct),osl⟩) (hcd:PySem.W.codeIn K cdv qual=true) (S:FnScope N ps scope)
  (len:∀ vs H Q E,sp vs H Q E→vs.length=ps.length)
  (hbody:∀ (A:Around) (outer:List Env) (s:Shared) (H:Hp) (vs:List V) (Q:VK) (E:XK),Room k (A.deeper (envOfC qual scope s.heap.objs.size f cdv))→sp vs H Q E →
   ∃ t,PSs (cxOf CX P w K mg base N qual scope f cdv A outer s H E) body t∧t { nx:=fun _ H'=>Q .non H',rt:=Q } (start N vs) H) :
  FnOk P w K mg base CX (k+1) f (PySem.W.fnOf name qual params body scope dV kV doc pm an cdv ct) ps sp:=by
 refine ⟨len,fun A outer s H args us vs Q E hr e0 hb r hsp=>?_⟩
 have hl:=len _ _ _ _ hsp
 have KX:K.In s.heap:=e0.mod.kin.keeps fun b o e=>(e0.bs b o e).1
 have lim:s.heap.NoLimit:=e0.mod.nolimit.keeps fun b o e=>(e0.bs b o e).1
 have hkind:∀ y∈ps.zip us,scope.names.lookup y.1=some .local∨(scope.names.lookup y.1=some .cell∧((cellsFrom (s.heap.objs.size+1) scope.names []).lookup y.1).isSome=true):=fun ⟨n,v⟩ hy=>by
  rcases S.par n (List.of_mem_zip hy).1 with q | q
  ·exact .inl q
  ·exact .inr ⟨q,PySem.W.cellsFrom_some _ _ _ (.inl q)⟩
 refine codeAny_call_function hr.depth (KX _ _ lk) rfl S.co S.gen rfl (PySem.W.codeRec_of KX hcd) (hb _ _ _ _ ?_)
 refine wpAny_newFunctionEnv_cells S.kind hkind fun env he s1 x=>?_
 subst he
 refine ⟨lim.keeps x.toInCall.keep,codeAny_func ?_⟩
 obtain ⟨t,ht,hq⟩:=hbody A outer s H vs Q E (hr.deeper _) hsp
 have I:Inv (cxOf CX P w K mg base N qual scope f cdv A outer s H E) [] (start N vs) H s1:=ze9_ S hr.hd e0 hl r x
 refine wpAny_mono (ht [] s1 (start N vs) H _ I hq) (fun fl s' hs=>?_) fun e s' hs=>hs
 have fin:∀ {σ':St}{H':Hp}{v:V}{u:Value},Inv (cxOf CX P w K mg base N qual scope f cdv A outer s H E) [] σ' H' s'→RelV v u→Q v H'→CE outer P w H s Q u s' :=
  fun {σ' H' v u} J rv q=>⟨v,H',J.os,J.bare,J.base,J.hok,rv,q⟩
 cases fl with
 | ret u =>
  obtain ⟨v,σ',H',J,rv,q⟩:=hs
  exact fin J rv q
 | next =>
  obtain ⟨σ',H',J,q⟩:=hs
  exact fin (v:=V.non) (u:=Value.none) J rfl q
 | brk =>
  obtain ⟨_,_,_,q⟩:=hs
  exact False.elim q
 | cont =>
  obtain ⟨_,_,_,q⟩:=hs
  exact False.elim q
end L2
namespace L2
open PySem PySem.Spec PyProof.Rows
section
variable {X:Cx}{x:Str}{p pos:Pos}{e:Expr}{es:List Expr}{t:TA}{id T:String}{r:List V→Hp→VK→Prop}
def tCB (r:List V→Hp→VK→Prop) (t:TA):TE:=fun σ H Q=>t σ H fun vs H1=>r vs H1 Q
theorem zj7_ (hc:CallR X (.builtin id) r) (hg:Gl X x) (hm:X.mg x=none) (hv:bootBuiltins x=some (.builtin id)) (ha:PA X (e::es) t) (hn:x ≠ "__name__" := by decide) (hdb:(x == ("__debug__" : Str))=false:=by decide)
  (he:starEach (e::es) X.env=(false,eval e X.env)::starEach es X.env:=by rfl) (hpl:(backTo pos (starEach es X.env)).any (·.1)=false:=by rfl):PE X (.Call (.Name x p) (e::es) [] pos) (tCB r t):=by
 intro pins s σ H Q I h
 refine wpAny_Call_Name_kw (zib_ I hg hm hv ?_ hn hdb)
 exact PyProof.Rows.callWith_builtin1 (thn (ha pos pins s σ H _ I h) fun us s1 ⟨vs,H1,I1,r1,q1⟩=>hc pins s1 σ H1 vs us Q I1 r1 q1) he hpl
theorem zhZ_ (hc:CallR X (.type T) r) (hg:Gl X x) (hm:X.mg x=none) (hv:bootBuiltins x=some (.type T)) (ha:PA X (e::es) t) (hn:x ≠ "__name__" := by decide) (hdb:(x == ("__debug__" : Str))=false:=by decide)
  (he:starEach (e::es) X.env=(false,eval e X.env)::starEach es X.env:=by rfl) (hpl:(backTo pos (starEach es X.env)).any (·.1)=false:=by rfl):PE X (.Call (.Name x p) (e::es) [] pos) (tCB r t):=by
 intro pins s σ H Q I h
 refine wpAny_Call_Name_kw (zib_ I hg hm hv ?_ hn hdb)
 exact PyProof.Rows.callWith_type1 (thn (ha pos pins s σ H _ I h) fun us s1 ⟨vs,H1,I1,r1,q1⟩=>hc pins s1 σ H1 vs us Q I1 r1 q1) he hpl
end
end L2
namespace HT
open PySem PyProof.Rows
section
open PySem.SeqAt
open PySem.AutoSeq1 (wpAny_loadPart')
open PySem.MeetsSeq PySem.MeetsSeq2 PySem.MeetsSeq3
end
section
variable {prog:Program}{w:World}{A:Around}{E:Value→Shared→Prop}{s:Shared}
def sIx (n d:Nat):Option Int→Nat
 | none=>d
 | some v=>if v<0 then (v+(n:Int)).toNat else min v.toNat n
theorem sIx_le (n d:Nat) (hd:d≤n) (o:Option Int):sIx n d o≤n:=by
 cases o with
 | none=>exact hd
 | some v =>
  show (if v<0 then (v+(n:Int)).toNat else min v.toNat n)≤n
  by_cases hv:v<0
  ·rw [if_pos hv]; lia
  ·rw [if_neg hv]; exact Nat.min_le_right _ _
end
end HT
namespace L2
open PySem PySem.Spec PyProof.Rows
abbrev TO:=St→Hp→(Option Int→Hp→Prop)→Prop
def PO (X:Cx) (e:Option Expr) (t:TO):Prop :=
 ∀ (pins:Pnn) (s:Shared) (σ:St) (H:Hp) (Q:Option Int→Hp→Prop),Inv X pins σ H s→t σ H Q →
  wpAny (model X.prog X.w) X.A (evalPart e X.env) (fun u s'=>∃ o H',Inv X pins σ H' s'∧IsPart u o∧Q o H') X.xe s
def tNoPart:TO:=fun _ H Q=>Q none H
section
variable {X:Cx}{e:Expr}{te:TE}{lo hi:Option Expr}{tl th:TO}{pos p2:Pos}
theorem zbg_:PO X none tNoPart:=by
 intro pins s σ H Q I h
 rw [evalPart_none]
 exact wpAny_pure ⟨none,H,I,.none,h⟩
def SlR (X:Cx) (r:V→Option Int→Option Int→Hp→VK→Prop):Prop :=
 ∀ (pins:Pnn) (s:Shared) (σ:St) (H:Hp) (x:V) (v vl vu:Value) (lo hi:Option Int) (sl:Addr) (Q:VK),Inv X pins σ H s→RelV x v→s.heap.IsSliceOf sl vl vu .none→IsPart vl lo→IsPart vu hi→r x lo hi H Q →
  ∃ T id,typeLookup (.type T) "__getitem__" = pure (some (.builtin id))∧s.TypeIs v T∧wpAny (model X.prog X.w) X.A (getItem v (.ref sl)) (EP X pins σ Q) X.xe s
def tSl (r:V→Option Int→Option Int→Hp→VK→Prop) (te:TE) (tl th:TO):TE:=fun σ H Q=>te σ H fun x H1=>tl σ H1 fun l H2=>th σ H2 fun u H3=>r x l u H3 Q
theorem zag_ {r:V→Option Int→Option Int→Hp→VK→Prop}(hr:SlR X r) (he:PE X e te) (hl:PO X lo tl) (hu:PO X hi th):PE X (.Subscript e (.Slice lo hi none p2) pos) (tSl r te tl th):=by
 intro pins s σ H Q I h
 refine Subscript_ (thn (he pins s σ H _ I h) fun v s1 hq_=>?_)
 obtain ⟨x,H1,I1,r1,q1⟩:=hq_
 refine wpAny_Slice (thn (hl pins s1 σ H1 _ I1 q1) fun vl s2 ⟨l,H2,I2,pl,q2⟩=>thn (hu pins s2 σ H2 _ I2 q2) fun vu s3 hq_=>?_)
 obtain ⟨u,H3,I3,pu,q3⟩:=hq_
 rw [evalPart_none]
 refine wpAny_pure ?_
 have I4:Inv X pins σ H3 { s3 with heap:=s3.heap.push { cls:=.type "slice",data:=.fields #[vl,vu,.none] } }:=I3.kept (t':=s3.toks) fun b ob q=>Heap.get?_push_of_some _ q
 obtain ⟨T,id,hT,ht,hg⟩:=hr pins { s3 with heap:=s3.heap.push { cls:=.type "slice",data:=.fields #[vl,vu,.none] } } σ H3 x v vl vu l u s3.heap.objs.size Q I4 r1 (Heap.IsSliceOf.new ..) pl pu q3
 show wpAny (model X.prog X.w) X.A (subscriptTail e (.Slice lo hi none p2) v (.ref s3.heap.objs.size)) (EP X pins σ Q) X.xe { s3 with heap:=s3.heap.push { cls:=.type "slice",data:=.fields #[vl,vu,.none] } }
 exact tail_any (ops:=[.ref s3.heap.objs.size,v]) ht hT hg (by with_unfolding_all rfl)
def cutV (xs:List V) (lo hi:Option Int):List V:=(xs.drop (HT.sIx xs.length 0 lo)).take (HT.sIx xs.length xs.length hi-HT.sIx xs.length 0 lo)
theorem zfT_ (xs:List V) (lo hi:Option Int):(cutV xs lo hi).length≤xs.length:=by
 unfold cutV
 rw [List.length_take,List.length_drop]
 lia
end
end L2
namespace L2
open PySem PySem.Spec PyProof.Rows
def ixN (n:Nat) (i:Int):Option Nat:=if 0≤i then (if i<n then some i.toNat else none) else if -(n:Int)≤i then some (i+n).toNat else none
def atI {α:Type}(xs:List α) (i:Int):Option α:=(ixN xs.length i).bind fun j=>xs[j]?
theorem ziM_ {n:Nat}{i:Int}{j:Nat}(h:ixN n i=some j):seqIndex? i n=some j∧j<n ∧ -(n:Int)≤i∧i<n:=by
 unfold ixN at h
 by_cases h0:0≤i
 ·rw [if_pos h0] at h
  by_cases h1:i<n
  ·rw [if_pos h1] at h
   have e:i.toNat=j:=Option.some.inj h
   exact ⟨by rw [seqIndex_of h0 h1,e],by lia,by lia,h1⟩
  ·rw [if_neg h1] at h; cases h
 ·rw [if_neg h0] at h
  by_cases h1 : -(n:Int)≤i
  ·rw [if_pos h1] at h
   have e:(i+n).toNat=j:=Option.some.inj h
   exact ⟨by rw [seqIndex_neg (by lia) h1,e],by lia,h1,by lia⟩
  ·rw [if_neg h1] at h; cases h
theorem zgc_ {α:Type}{xs:List α}{i:Int}{v:α}(h:atI xs i=some v):∃ j,seqIndex? i xs.length=some j∧xs[j]?=some v∧j<xs.length ∧ -(xs.length:Int)≤i∧i<xs.length:=by
 unfold atI at h
 cases e:ixN xs.length i with
 | none=>rw [e] at h; cases h
 | some j =>
  rw [e] at h
  obtain ⟨h1,h2,h3,h4⟩:=ziM_ e
  exact ⟨j,h1,h,h2,h3,h4⟩
def PlainIx (b:Expr):Prop:=∀ o i,subscripted b false o i=operate [o,i] (getItem o i)
def IxR (X:Cx) (r:R2):Prop :=
 ∀ (value slice:Expr) (pins:Pnn) (s:Shared) (σ:St) (H:Hp) (x y:V) (v u:Value) (Q:VK),Inv X pins σ H s→RelV x v→RelV y u→r x y H Q →
  subscripted slice false v u=operate [v,u] (getItem v u)→wpAny (model X.prog X.w) X.A (subscriptTail value slice v u) (EP X pins σ Q) X.xe s
def MtR (X:Cx) (id:String) (r:V→List V→Hp→VK→Prop):Prop :=
 ∀ (pins:Pnn) (s:Shared) (σ:St) (H:Hp) (x:V) (xs:List V) (v:Value) (us:List Value) (Q:VK),Inv X pins σ H s→RelV x v→Vals xs us→r x xs H Q →
  wpAny (model X.prog X.w) X.A (call (.builtin id) (v::us)) (EP X pins σ Q) X.xe s
section
variable {X:Cx}{a b:Expr}{ta tb:TE}{pos:Pos}
theorem zW_ {r:R2}(hr:IxR X r) (ha:PE X a ta) (hb:PE X b tb) (hs:PlainIx b):PE X (.Subscript a b pos) (tOp r ta tb):=by
 intro pins s σ H Q I h
 exact Subscript_ (binT ha hb I h fun v u s2 x y H2 I2 rx ry q=>hr a b pins s2 σ H2 x y v u Q I2 rx ry q (hs _ _))
def rIxL (K:Fgg):R2:=fun x y H Q=>∃ p xs i v,x=.ref p∧y=.int i∧SqL K H p xs∧atI xs i=some v∧Q v H
def rIxT (K:Fgg):R2:=fun x y H Q=>∃ p xs i v,x=.ref p∧y=.int i∧SqT K H p xs∧atI xs i=some v∧Q v H
def rIxS:R2:=fun x y H Q=>∃ z i c,x=.str z∧y=.int i∧z.length≤sizeLine∧atI z.cps.toList i=some c∧Q (.str ⟨#[c]⟩) H
theorem zlD_:IxR X (rIxL X.K):=by
 intro value slice pins s σ H x y v u Q I rx ry h hs
 obtain ⟨p,xs,i,z,rfl,rfl,hq,he,q⟩:=h
 cases rx
 obtain ⟨t,rfl⟩:=ry
 obtain ⟨its,r,pl,hz⟩:=I.list hq
 obtain ⟨j,h1,h2,h3,h4,h5⟩:=zgc_ he
 obtain ⟨w,ew,rw'⟩:=r.get h2
 have hl:=r.length
 have hn:=line63
 have fin:EP X pins σ Q w s:=⟨z,H,I,rw',q⟩
 by_cases h0:0≤i
 ·have hj:i.toNat=j:=by
   rw [seqIndex_of h0 h5] at h1
   exact Option.some.inj h1
  exact item_listR pl.isList h0 (by lia) (by rw [hj]; simpa using ew) fin hs
 ·have hj:(i+(its.toArray.size:Int)).toNat=j:=by
   rw [seqIndex_neg (by lia) h4] at h1
   rw [List.size_toArray,← hl]
   exact Option.some.inj h1
  exact subscriptTail_builtinR (x:=w) pl.isList.typeIs slot_list_getitem.lookup
   (wpAny_getItem_list_neg (Q:=fun r s'=>r=w∧EP X pins σ Q r s') pl.isList (by lia) (by rw [List.size_toArray]<;>lia) (by lia) (by rw [hj]; simpa using ew) ⟨rfl,fin⟩) hs
theorem zm7_:IxR X (rIxT X.K):=by
 intro value slice pins s σ H x y v u Q I rx ry h hs
 obtain ⟨p,xs,i,z,rfl,rfl,hq,he,q⟩:=h
 cases rx
 obtain ⟨t,rfl⟩:=ry
 obtain ⟨its,r,pl,hz⟩:=I.tuple hq
 obtain ⟨j,h1,h2,h3,h4,h5⟩:=zgc_ he
 obtain ⟨w,ew,rw'⟩:=r.get h2
 have hl:=r.length
 have hn:=line63
 have fin:EP X pins σ Q w s:=⟨z,H,I,rw',q⟩
 exact subscriptTail_builtinR (x:=w) pl.typeIs slot_tuple_getitem.lookup
  (getItem_tuple (j:=j) (Q:=fun r s'=>r=w∧EP X pins σ Q r s') pl (by lia) (by lia) (by rw [List.size_toArray,← hl]; exact h1) (by simpa using ew) ⟨rfl,fin⟩) hs
theorem zm9_:IxR X rIxS:=by
 intro value slice pins s σ H x y v u Q I rx ry h hs
 obtain ⟨z,i,c,rfl,rfl,hz,he,q⟩:=h
 obtain ⟨t,rfl⟩:=rx
 obtain ⟨t',rfl⟩:=ry
 obtain ⟨j,h1,h2,h3,h4,h5⟩:=zgc_ he
 have hl:z.cps.toList.length=z.length:=by simp [Str.length]
 rw [hl] at h1 h4 h5
 have hn:=line63
 exact tail_any (typeIs_str s z t) slot_str_getitem.lookup (getItem_str (c:=c) (by
  have e1:decide (i < -(2 ^ 63:Int))=false:=decide_eq_false (by lia)
  have e2:decide (i ≥ 2 ^ 63)=false:=decide_eq_false (by lia)
  rw [e1,e2,Bool.or_false]) (by rw [h1]; simpa using h2) ⟨.str ⟨#[c]⟩,H,I.tok _,⟨_,rfl⟩,q⟩) hs
theorem zgU_ (its:List Value) (n j:Nat) (u:Value):Obj.mapSeq (·.setIfInBounds j u) { cls:=.type "list",data:=.seq its.toArray n }={ cls:=.type "list",data:=.seq (its.set j u).toArray n }:=by
 simp [Obj.mapSeq]
theorem Inv.lst {pins:Pnn}{σ:St}{H:Hp}{s:Shared}{p:Addr}{xs:List V}(I:Inv X pins σ H s) (h:H p=some (.lst xs)) :
  ∃ (its:List Value) (n:Nat),Vals xs its∧s.heap.get? p=some { cls:=.type "list",data:=.seq its.toArray n }∧xs.length≤sizeLine:=by
 obtain ⟨z,its,n,r,e⟩:=I.hok p _ h
 exact ⟨its,n,r,e,z⟩
theorem Inv.lstUpd {pins:Pnn}{σ:St}{H:Hp}{s:Shared}{p:Addr}{xs ys:List V}{its its':List Value}{n n':Nat}{f:Obj→Obj}(I:Inv X pins σ H s) (h:H p=some (.lst xs))
  (ho:s.heap.get? p=some { cls:=.type "list",data:=.seq its.toArray n }) (hf:f { cls:=.type "list",data:=.seq its.toArray n }={ cls:=.type "list",data:=.seq its'.toArray n' }) (r:Vals ys its') (hz:ys.length≤sizeLine) (t:Nat) :
  Inv X pins σ (upd H p (.lst ys)) { s with heap:=s.heap.update p f,toks:=t }:=by
 have e:(s.heap.update p f).get? p=some { cls:=.type "list",data:=.seq its'.toArray n' }:=by
  rw [Heap.get?_update_self f ho (by rw [hf]<;>rfl),hf]
 refine I.write (x:=p) (e:=p) (by rw [h]; trivial) (.inl rfl) (fun b u hb q=>(Heap.get?_update_other _ _ (Ne.symm hb)).trans q) ⟨_,e⟩ ?_
 exact ⟨hz,its',n',r,e⟩
def rSetL:V→V→V→Hp→(Hp→Prop)→Prop:=fun o i v H Q=>∃ p xs k j,o=.ref p∧i=.int k∧H p=some (.lst xs)∧ixN xs.length k=some j∧Q (upd H p (.lst (xs.set j v)))
theorem zji_:PSet X rSetL:=by
 intro pins s σ H o i v ov iv u Q I ro ri rv h
 obtain ⟨p,xs,k,j,rfl,rfl,hp,hj,q⟩:=h
 cases ro
 obtain ⟨t,rfl⟩:=ri
 obtain ⟨its,n,r,ho,hz⟩:=I.lst hp
 obtain ⟨h1,h2,h3,h4⟩:=ziM_ hj
 have hl:=r.length
 have hn:=line63
 have I':Inv X pins σ (upd H p (.lst (xs.set j v))) { s with heap:=s.heap.update p (Obj.mapSeq (·.setIfInBounds j u)) } :=
  I.lstUpd hp ho (zgU_ its n j u) (r.set rv j) (by rw [List.length_set]; exact hz) s.toks
 by_cases h0:0≤k
 ·have hk:k.toNat=j:=by
   rw [seqIndex_of h0 h4] at h1
   exact Option.some.inj h1
  exact PySem.W.ki_setAt ho h0 (by lia) (by rw [List.size_toArray,← hl]; exact h4) (by rw [hk]; exact ⟨_,I',q⟩)
 ·have hk:(k+(its.toArray.size:Int)).toNat=j:=by
   rw [seqIndex_neg (by lia) h3] at h1
   rw [List.size_toArray,← hl]
   exact Option.some.inj h1
  exact PySem.W.ki_setBack ho (by lia) (by rw [List.size_toArray,← hl]; exact h3) (by lia) (by rw [hk]; exact ⟨_,I',q⟩)
theorem zeq_ (lo hi:Option Int) (n:Nat):(sliceBounds lo hi none n).1=((HT.sIx n 0 lo:Nat):Int)∧(sliceBounds lo hi none n).2.1=((HT.sIx n n hi:Nat):Int)∧(sliceBounds lo hi none n).2.2=1:=by
 refine ⟨?_,?_,rfl⟩
 ·cases lo with
  | none=>simp [sliceBounds,HT.sIx]
  | some i =>
   simp only [sliceBounds,HT.sIx,Option.getD_none,show (1:Int) > 0 by decide,if_true]
   by_cases h:i<0
   ·simp only [h,if_true]<;>lia
   ·simp only [h,if_false]<;>lia
 ·cases hi with
  | none=>simp [sliceBounds,HT.sIx]
  | some i =>
   simp only [sliceBounds,HT.sIx,Option.getD_none,show (1:Int) > 0 by decide,if_true]
   by_cases h:i<0
   ·simp only [h,if_true]<;>lia
   ·simp only [h,if_false]<;>lia
theorem zdX_ (its:List Value) (lo hi:Option Int):slicePick its.toArray lo hi none=((its.drop (HT.sIx its.length 0 lo)).take (HT.sIx its.length its.length hi-HT.sIx its.length 0 lo)).toArray:=by
 obtain ⟨h1,h2,h3⟩:=zeq_ lo hi its.toArray.size
 unfold slicePick
 rw [h1,h2,h3]
 simp only [sliceRange_one,pick_run,List.size_toArray]<;>rfl
def rSlL (K:Fgg):V→Option Int→Option Int→Hp→VK→Prop:=fun x lo hi H Q=>∃ a xs,x=.ref a∧SqL K H a xs∧∀ p,H p=none→Q (.ref p) (upd H p (.lst (cutV xs lo hi)))
theorem zln_:SlR X (rSlL X.K):=by
 intro pins s σ H x v vl vu lo hi sl Q I rx hs pl pu h
 obtain ⟨a,xs,rfl,hx,q⟩:=h
 cases rx
 obtain ⟨its,r,ht,hz⟩:=I.list hx
 have hlen:=r.length
 refine ⟨"list",_,slot_list_getitem.lookup,ht.isList.typeIs,?_⟩
 refine wpAny_getItem_list_slice ht.isList hs pl pu .none (by simp) ?_ (by rw [List.size_toArray]<;>lia)
 rw [zdX_,← hlen]
 refine ⟨.ref s.heap.objs.size,_,I.laid (t':=s.toks) (o:=.lst (cutV xs lo hi)) (fun b ob q=>Heap.get?_push_of_some _ q) (Nat.le_refl _) ?_,rfl,q _ (I.hok.fresh (Nat.le_refl _))⟩
 exact ⟨Nat.le_trans (zfT_ xs lo hi) hz,_,0,(r.drop (HT.sIx xs.length 0 lo)).take (HT.sIx xs.length xs.length hi-HT.sIx xs.length 0 lo),Heap.get?_push_size _ rfl⟩
def flatV:V→Bool
 | .non=>true
 | .bl _=>true
 | .int _=>true
 | .str _=>true
 | _=>false
def eqV:V→V→Bool
 | .non,.non=>true
 | .bl a,.bl b=>a == b
 | .bl a,.int b=>(if a then 1 else 0) == b
 | .int a,.bl b=>a == (if b then 1 else 0)
 | .int a,.int b=>a == b
 | .str a,.str b=>a == b
 | _,_=>false
theorem zlC_ {A:Around}{s:Shared}{y x:V}{u v:Value}(ry:RelV y u) (rx:RelV x v) (fy:flatV y=true) (fx:flatV x=true):SeqAt.EqAt A s u v (eqV y x):=by
 cases y with
 | non =>
  cases ry
  cases x with
  | non=>cases rx; exact SeqAt.EqAt.same _
  | bl b=>cases rx; exact SeqAt.EqAt.none_bool b
  | int b=>obtain ⟨t,rfl⟩:=rx; exact SeqAt.EqAt.none_int b t
  | str b=>obtain ⟨t,rfl⟩:=rx; exact SeqAt.EqAt.none_str b t
  | _=>exact absurd (show false=true from fx) Bool.false_ne_true
 | bl a =>
  cases ry
  cases x with
  | non=>cases rx; exact SeqAt.EqAt.bool_none a
  | bl b=>cases rx; exact SeqAt.EqAt.bool_bool a b
  | int b=>obtain ⟨t,rfl⟩:=rx; exact SeqAt.EqAt.bool_int a b t
  | str b=>obtain ⟨t,rfl⟩:=rx; exact SeqAt.EqAt.bool_str a b t
  | _=>exact absurd (show false=true from fx) Bool.false_ne_true
 | int a =>
  obtain ⟨t',rfl⟩:=ry
  cases x with
  | non=>cases rx; exact SeqAt.EqAt.int_none a t'
  | bl b=>cases rx; exact SeqAt.EqAt.int_bool a t' b
  | int b=>obtain ⟨t,rfl⟩:=rx; exact SeqAt.EqAt.int_int a t' b t
  | str b=>obtain ⟨t,rfl⟩:=rx; exact SeqAt.EqAt.int_str a t' b t
  | _=>exact absurd (show false=true from fx) Bool.false_ne_true
 | str a =>
  obtain ⟨t',rfl⟩:=ry
  cases x with
  | non=>cases rx; exact SeqAt.EqAt.str_none a t'
  | bl b=>cases rx; exact SeqAt.EqAt.str_bool a t' b
  | int b=>obtain ⟨t,rfl⟩:=rx; exact SeqAt.EqAt.str_int a t' b t
  | str b=>obtain ⟨t,rfl⟩:=rx; exact SeqAt.EqAt.str_str a t' b t
  | _=>exact absurd (show false=true from fx) Bool.false_ne_true
 | _=>exact absurd (show false=true from fy) Bool.false_ne_true
def eqU (x:V) (u:Value):Bool:=match u with
 | .none=>eqV .non x
 | .bool b=>eqV (.bl b) x
 | .int i _=>eqV (.int i) x
 | .str z _=>eqV (.str z) x
 | _=>false
theorem zkB_ {x y:V}{u:Value}(r:RelV y u) (f:flatV y=true):eqU x u=eqV y x:=by
 cases y with
 | non=>cases r; rfl
 | bl b=>cases r; rfl
 | int i=>obtain ⟨t,rfl⟩:=r; rfl
 | str z=>obtain ⟨t,rfl⟩:=r; rfl
 | _=>exact absurd (show false=true from f) Bool.false_ne_true
theorem zd5_ {x:V}:∀ {xs:List V}{us:List Value},Vals xs us→xs.all flatV=true→us.any (eqU x)=xs.any fun y=>eqV y x
 | _,_,.nil,_=>rfl
 | y::xs,u::us,.cons r t,f=>by
  rw [List.all_cons,Bool.and_eq_true] at f
  rw [List.any_cons,List.any_cons,zkB_ r f.1,zd5_ t f.2]
theorem zca_ {A:Around}{s:Shared}{x:V}{v:Value}(rx:RelV x v) (fx:flatV x=true):∀ {xs:List V}{us:List Value},Vals xs us→xs.all flatV=true→∀ u∈us,SeqAt.EqAt A s u v (eqU x u)
 | _,_,.nil,_=>fun u hu=>by cases hu
 | y::xs,u::us,.cons r t,f=>fun u' hu=>by
  rw [List.all_cons,Bool.and_eq_true] at f
  rcases List.mem_cons.mp hu with rfl | hu
  ·rw [zkB_ r f.1]; exact zlC_ r rx f.1 fx
  ·exact zca_ rx fx t f.2 u' hu
def inV (x:V) (xs:List V):Bool:=xs.any fun y=>eqV y x
def rIn (K:Fgg) (neg:Bool):R2:=fun x y H Q=>∃ p xs,y=.ref p∧(SqL K H p xs∨SqT K H p xs)∧flatV x=true∧xs.all flatV=true∧Q (.bl (if neg then !inV x xs else inV x xs)) H
theorem zii_:OpR X (compareOp .In) (rIn X.K false):=by
 intro pins s σ H x y v u Q I rx ry h
 obtain ⟨p,xs,rfl,hq,fx,fs,q⟩:=h
 cases ry
 rcases hq with hq | hq
 ·obtain ⟨its,r,pl,hz⟩:=I.list hq
  refine SeqAt.in_listAt (eqU x) pl.isList (fun w hw=>zca_ rx fx r fs w (by simpa using hw)) ⟨.bl _,H,I,rfl,?_⟩
  rw [show its.toArray.any (eqU x)=its.any (eqU x) by simp,zd5_ r fs]
  exact q
 ·obtain ⟨its,r,pl,hz⟩:=I.tuple hq
  refine SeqAt.in_tupleAt (eqU x) pl (fun w hw=>zca_ rx fx r fs w (by simpa using hw)) ⟨.bl _,H,I,rfl,?_⟩
  rw [show its.toArray.any (eqU x)=its.any (eqU x) by simp,zd5_ r fs]
  exact q
theorem zeF_:OpR X (compareOp .NotIn) (rIn X.K true):=by
 intro pins s σ H x y v u Q I rx ry h
 obtain ⟨p,xs,rfl,hq,fx,fs,q⟩:=h
 cases ry
 rcases hq with hq | hq
 ·obtain ⟨its,r,pl,hz⟩:=I.list hq
  refine SeqAt.notIn_listAt (eqU x) pl.isList (fun w hw=>zca_ rx fx r fs w (by simpa using hw)) ⟨.bl _,H,I,rfl,?_⟩
  rw [show its.toArray.any (eqU x)=its.any (eqU x) by simp,zd5_ r fs]
  exact q
 ·obtain ⟨its,r,pl,hz⟩:=I.tuple hq
  refine SeqAt.notIn_tupleAt (eqU x) pl (fun w hw=>zca_ rx fx r fs w (by simpa using hw)) ⟨.bl _,H,I,rfl,?_⟩
  rw [show its.toArray.any (eqU x)=its.any (eqU x) by simp,zd5_ r fs]
  exact q
theorem zeg_:CallR X (.builtin "len") (fun xs H Q=>∃ p ys,xs=[.ref p]∧(SqL X.K H p ys∨SqT X.K H p ys)∧Q (.int ys.length) H):=by
 intro pins s σ H xs us Q I r h
 obtain ⟨p,ys,rfl,hq,q⟩:=h
 obtain ⟨u,rfl,rx⟩:=vals1 r
 cases rx
 have hn:=line63
 rcases hq with hq | hq
 ·obtain ⟨its,r',pl,hz⟩:=I.list hq
  have hlen:=r'.length
  exact Calls.call_len_list pl.isList (by simp only [List.size_toArray]<;>lia) ⟨.int ys.length,H,I.tok _,⟨s.toks+1,by rw [List.size_toArray,hlen]⟩,q⟩
 ·obtain ⟨its,r',pl,hz⟩:=I.tuple hq
  have hlen:=r'.length
  exact len_tuple pl (by simp only [List.size_toArray]<;>lia) ⟨.int ys.length,H,I.tok _,⟨s.toks+1,by rw [List.size_toArray,hlen]⟩,q⟩
theorem zd9_:CallR X (.builtin "len") (fun xs H Q=>∃ z,xs=[.str z]∧z.length≤sizeLine∧Q (.int z.length) H):=by
 intro pins s σ H xs us Q I r h
 obtain ⟨z,rfl,hz,q⟩:=h
 obtain ⟨u,rfl,t,rfl⟩:=vals1 r
 have hn:=line63
 exact len_str (by lia) ⟨.int z.length,H,I.tok _,⟨_,rfl⟩,q⟩
def tyV (K:Fgg) (T:String) (x:V) (H:Hp):Prop:=match x with
 | .str _=>T = "str"
 | .int _=>T = "int"
 | .ref p=>(T = "list" ∧ ∃ xs,SqL K H p xs)∨(T = "tuple" ∧ ∃ o,K.lookup p=some o∧o.cls=.type "tuple" ∧ o.dict=none) ∨
   (T = "dict" ∧ ((∃ kvs,H p=some (.dK kvs))∨∃ kvs,H p=some (.dT kvs)))∨(T = "set" ∧ ∃ S n,H p=some (.set S n))
 | _=>False
theorem zna_ {pins:Pnn}{σ:St}{H:Hp}{s:Shared}{T:String}{x:V}{v:Value}(I:Inv X pins σ H s) (r:RelV x v) (ty:tyV X.K T x H) :
  s.TypeIs v T∧∀ a,v=.ref a→∃ ob,s.heap.get? a=some ob∧ob.dict=none:=by
 cases x with
 | str z =>
  obtain ⟨t,rfl⟩:=r
  cases (show T = "str" from ty)
  exact ⟨typeIs_str s z t,fun _ e=>nomatch e⟩
 | int i =>
  obtain ⟨t,rfl⟩:=r
  cases (show T = "int" from ty)
  exact ⟨typeIs_int s i t,fun _ e=>nomatch e⟩
 | ref p =>
  cases r
  rcases ty with ⟨rfl,xs,hq⟩ | ⟨rfl,o,hk,hc,hd⟩ | ⟨rfl,hk⟩ | ⟨rfl,S,n,hk⟩
  ·obtain ⟨its,_,pl,_⟩:=I.list hq
   refine ⟨pl.isList.typeIs,fun a e=>?_⟩
   cases e
   obtain ⟨o,n,e,c,hd,_⟩:=pl
   exact ⟨o,e,hd⟩
  ·refine ⟨⟨o,I.kIn p o hk,hc⟩,fun a e=>?_⟩
   cases e
   exact ⟨o,I.kIn _ o hk,hd⟩
  ·have z:∃ o,s.heap.get? p=some o∧o.ExactDict:=by
    rcases hk with ⟨kvs,hk⟩ | ⟨kvs,hk⟩
    ·obtain ⟨_,_,_,_,o,_,_,e,ex,_⟩:=I.hok p _ hk
     exact ⟨o,e,ex⟩
    ·obtain ⟨_,_,_,_,o,_,_,e,ex,_⟩:=I.hok p _ hk
     exact ⟨o,e,ex⟩
   obtain ⟨o,e,ex⟩:=z
   refine ⟨⟨o,e,ex.1⟩,fun a e2=>?_⟩
   cases e2
   exact ⟨o,e,ex.2.1⟩
  ·obtain ⟨o,_,_,_,e,ex,_⟩:=I.hok p _ hk
   refine ⟨⟨o,e,ex.1⟩,fun a e2=>?_⟩
   cases e2
   exact ⟨o,e,ex.2.1⟩
 | _=>exact False.elim ty
def tBM (K:Fgg) (T:String) (r:V→List V→Hp→VK→Prop) (to:TE) (t:TA):TE:=fun σ H Q=>to σ H fun x H1=>tyV K T x H1∧t σ H1 fun xs H2=>r x xs H2 Q
variable {o e:Expr}{es:List Expr}{to:TE}{t:TA}{name:Str}{apos cpos:Pos}{T id:String}{r:V→List V→Hp→VK→Prop}
theorem zlG_ (pa:PlainAttrs T) (slot:Slot T name id) (hty:typeOf (.builtin id)=pure (.type "method_descriptor")) (hm:MtR X id r) (ho:PE X o to) (ha:PA X (e::es) t)
  (hbase:attributeBase o name X.env (eval o X.env)=eval o X.env:=by rfl)
  (hfew:((backTo cpos (starEach (e::es) X.env)).all (fun x=>!x.1) && (backToKw cpos (keywordEach [] X.env)).all (fun x=>x.1.isSome)
   && decide ((e::es).length+([]:List Keyword).length+(if ([]:List Keyword).isEmpty then 0 else 1)<30))=true:=by rfl)
  (hline:(apos.endLine == cpos.line)=true:=by rfl) (hs:starEach (e::es) X.env=(false,eval e X.env)::starEach es X.env:=by rfl) (hplain:(backTo cpos (starEach es X.env)).any (·.1)=false:=by rfl) :
  PE X (.Call (.Attribute o name apos) (e::es) [] cpos) (tBM X.K T r to t):=by
 intro pins s σ H Q I h
 refine wpAny_Call_method_late hbase hfew hline rfl (thn (ho pins s σ H _ I h) fun v s1 hq_=>?_)
 obtain ⟨x,H1,I1,r1,ty,q1⟩:=hq_
 obtain ⟨h1,h2⟩:=zna_ I1 r1 ty
 refine ⟨T,id,pa,slot,hty,h1,h2,?_⟩
 have hA:=ha cpos pins s1 σ H1 _ I1 q1
 rw [hs] at hA ⊢
 refine Calls.callWith_builtin (by show (false || (backTo cpos (starEach es X.env)).any (·.1))=false; rw [hplain]<;>rfl) (Calls.evalArgs_plain ?_)
 exact thn hA fun us s2 ⟨vs,H2,I2,r2,q2⟩=>hm pins s2 σ H2 x vs v us Q I2 r1 r2 q2
end
end L2
namespace L2
open PySem PySem.Spec PyProof.Rows
def MtM (X:Cx) (id:String) (r:V→List V→Hp→VK→Prop):Prop :=
 ∀ (pins:Pnn) (s:Shared) (σ:St) (H:Hp) (x:V) (xs:List V) (v:Value) (us:List Value) (Q:VK),Inv X pins σ H s→RelV x v→Vals xs us→r x xs H Q →
  wpAny (model X.prog X.w) X.A (call (.builtin id) (v::us)) (EP X pins σ Q) X.xe s
theorem Vals.one:∀ {x:V}{us:List Value},Vals [x] us→∃ u,us=[u]∧RelV x u
 | _,_,.cons r .nil=>⟨_,rfl,r⟩
theorem Vals.dropLast {xs:List V}{us:List Value}(h:Vals xs us):Vals xs.dropLast us.dropLast:=by
 induction h with
 | nil=>exact .nil
 | cons r t ih =>
  cases t with
  | nil=>exact .nil
  | cons q t'=>exact .cons r ih
theorem Vals.rep {xs:List V}{us:List Value}(h:Vals xs us):∀ k:Nat,Vals (List.replicate k xs).flatten (List.replicate k us).flatten
 | 0=>.nil
 | k+1=>by
  rw [List.replicate_succ,List.replicate_succ,List.flatten_cons,List.flatten_cons]
  exact Vals.append h (Vals.rep h k)
theorem zkR_ {α:Type}(l:List α):l.eraseIdx (l.length-1)=l.dropLast:=by
 induction l with
 | nil=>rfl
 | cons a r ih =>
  cases r with
  | nil=>rfl
  | cons b r =>
   have e:(a::b::r).length-1=((b::r).length-1)+1:=by
    have h1:(a::b::r).length=r.length+2:=rfl
    have h2:(b::r).length=r.length+1:=rfl
    lia
   rw [e,List.eraseIdx_cons_succ,ih]
   all_goals rfl
theorem zfh_ (its:List Value):∀ (k:Nat) (acc:List Value),
  List.foldl (fun x1 x2=>x1++x2) acc.toArray (List.replicate k its.toArray)=(acc++(List.replicate k its).flatten).toArray
 | 0,acc=>by simp
 | k+1,acc=>by
  have e:acc.toArray++its.toArray=(acc++its).toArray:=by simp
  have e2:(acc++its)++(List.replicate k its).flatten=acc++(List.replicate (k+1) its).flatten:=by
   rw [List.replicate_succ,List.flatten_cons,List.append_assoc]
  rw [← e2,← zfh_ its k (acc++its),← e,List.replicate_succ,List.foldl_cons]
section
variable {X:Cx}{pins:Pnn}{σ:St}{H:Hp}{s:Shared}{l b:Addr}{xs ys zs:List V}
theorem Inv.lset {its its':List Value}{n:Nat}{f:Array Value→Array Value}{t':Nat}(I:Inv X pins σ H s) (hH:H l=some (.lst xs))
  (e:s.heap.get? l=some { cls:=.type "list",data:=.seq its.toArray n }) (hf:f its.toArray=its'.toArray) (hv:Vals ys its') (hz:ys.length≤sizeLine) :
  Inv X pins σ (upd H l (.lst ys)) { s with heap:=s.heap.update l (Obj.mapSeq f),toks:=t' }:=by
 have q:=PySem.IsL.update e f
 rw [hf] at q
 refine I.write (x:=l) (e:=l) (by rw [hH]; exact trivial) (.inl rfl) (fun b' u hb hu=>(Heap.get?_update_other s.heap (Obj.mapSeq f) (Ne.symm hb)).trans hu) ⟨_,q⟩ ?_
 exact ⟨hz,its',_,hv,q⟩
theorem Inv.lnew {its:List Value}{t':Nat}(I:Inv X pins σ H s) (hv:Vals ys its) (hz:ys.length≤sizeLine) :
  Inv X pins σ (upd H s.heap.objs.size (.lst ys)) { s with heap:=s.heap.push { cls:=.type "list",data:=.seq its.toArray },toks:=t' } :=
 I.laid (fun _ _ q=>Heap.get?_push_of_some _ q) (Nat.le_refl _) ⟨hz,its,0,hv,Heap.get?_push_size _ rfl⟩
theorem Inv.fresh (I:Inv X pins σ H s):H s.heap.objs.size=none:=I.hok.fresh (Nat.le_refl _)
theorem Inv.lstM (I:Inv X pins σ H s) (hH:H l=some (.lst xs)):xs.length≤sizeLine∧∃ (its:List Value) (n:Nat),Vals xs its∧xs.length=its.length∧s.heap.get? l=some { cls:=.type "list",data:=.seq its.toArray n }:=by
 obtain ⟨z,its,n,r,e⟩:=I.hok l _ hH
 exact ⟨z,its,n,r,r.length,e⟩
theorem notLongL {n:Nat}(h:n≤sizeLine):Builtin.List.listTooLong n=false:=by
 unfold Builtin.List.listTooLong
 exact decide_eq_false (by lia)
end
section
variable {X:Cx}
def rAppend:V→List V→Hp→VK→Prop:=fun x vs H Q=>∃ l xs y,x=.ref l∧vs=[y]∧H l=some (.lst xs)∧xs.length<sizeLine∧Q .non (upd H l (.lst (xs++[y])))
theorem zbT_:MtM X "list.append" rAppend:=by
 intro pins s σ H x vs v us Q I rx rv h
 obtain ⟨l,xs,y,rfl,rfl,hH,hz,q⟩:=h
 cases rx
 obtain ⟨u,rfl,ru⟩:=rv.one
 obtain ⟨z,its,n,r,hl,e⟩:=I.lstM hH
 refine call_meets F.slot_list_append ⟨_,e,rfl⟩ F.entry_list_append (F.args_list_append_2 _ _) (PySem.list_append l its.toArray n u (by rw [List.size_toArray]; lia)) ⟨e,?_⟩
 refine ⟨.non,_,I.lset (its':=its++[u]) hH e (by simp) (r.append (.cons ru .nil)) ?_,rfl,q⟩
 rw [List.length_append,List.length_singleton]
 lia
def rExtend:V→List V→Hp→VK→Prop:=fun x vs H Q=>∃ l b xs zs,x=.ref l∧vs=[.ref b]∧H l=some (.lst xs)∧H b=some (.lst zs)∧xs.length+zs.length≤sizeLine∧Q .non (upd H l (.lst (xs++zs)))
theorem zhD_:MtM X "list.extend" rExtend:=by
 intro pins s σ H x vs v us Q I rx rv h
 obtain ⟨l,b,xs,zs,rfl,rfl,hH,hB,hz,q⟩:=h
 cases rx
 obtain ⟨u,rfl,ru⟩:=rv.one
 cases ru
 obtain ⟨z,its,n,r,hl,e⟩:=I.lstM hH
 obtain ⟨z2,its2,n2,r2,hl2,e2⟩:=I.lstM hB
 have hsz:its.toArray.size+its2.toArray.size≤sizeLine:=by rw [List.size_toArray,List.size_toArray]; lia
 have hlong:¬ (!its.toArray.isEmpty && Builtin.List.listTooLong (its.toArray.size+its2.toArray.size))=true:=by
  rw [notLongL hsz,Bool.and_false]
  exact Bool.false_ne_true
 refine call_meets F.slot_list_extend ⟨_,e,rfl⟩ F.entry_list_extend (F.args_list_extend_2 _ _)
  (AutoSeq1.list_extend_list_list_0 l its.toArray n b its2.toArray n2 hlong (by rw [List.size_toArray]; lia) (by lia)) ⟨e,e2,?_⟩
 refine ⟨.non,_,I.lset (its':=its++its2) hH e (by simp) (r.append r2) ?_,rfl,q⟩
 rw [List.length_append]
 lia
def rCat:R2:=fun x y H Q=>∃ l b xs zs,x=.ref l∧y=.ref b∧H l=some (.lst xs)∧H b=some (.lst zs)∧xs.length+zs.length≤sizeLine∧∀ p,H p=none→Q (.ref p) (upd H p (.lst (xs++zs)))
theorem zmj_:OpR X (binaryOp .Add) rCat:=by
 intro pins s σ H x y v u Q I rx ry h
 obtain ⟨l,b,xs,zs,rfl,rfl,hH,hB,hz,q⟩:=h
 cases rx
 cases ry
 obtain ⟨z,its,n,r,hl,e⟩:=I.lstM hH
 obtain ⟨z2,its2,n2,r2,hl2,e2⟩:=I.lstM hB
 refine PySem.P.add_list e e2 ?_ (by rw [List.size_toArray,List.size_toArray]; lia)
 have ea:its.toArray++its2.toArray=(its++its2).toArray:=by simp
 rw [ea]
 exact ⟨.ref _,_,I.lnew (t':=s.toks) (r.append r2) (by rw [List.length_append]; lia),rfl,q _ I.fresh⟩
def rRep:R2:=fun x y H Q=>∃ l k xs,x=.ref l∧y=.int k∧H l=some (.lst xs) ∧ -(2 ^ 63)≤k∧k<2 ^ 63∧xs.length*k.toNat≤sizeLine ∧
 ∀ p,H p=none→Q (.ref p) (upd H p (.lst (List.replicate k.toNat xs).flatten))
theorem ziA_ {α:Type}(xs:List α) (k:Nat):(List.replicate k xs).flatten.length=k*xs.length:=by
 induction k with
 | zero=>simp
 | succ k ih=>rw [List.replicate_succ,List.flatten_cons,List.length_append,ih,Nat.succ_mul,Nat.add_comm]
theorem znc_:OpR X (binaryOp .Mult) rRep:=by
 intro pins s σ H x y v u Q I rx ry h
 obtain ⟨l,k,xs,rfl,rfl,hH,h1,h2,hz,q⟩:=h
 cases rx
 obtain ⟨t,rfl⟩:=ry
 obtain ⟨z,its,n,r,hl,e⟩:=I.lstM hH
 have hlen:its.toArray.size*k.toNat≤sizeLine:=by rw [List.size_toArray,← hl]; exact hz
 have hcap:¬ its.toArray.size*k.toNat > (2 ^ 63-1) / 8:=by
  have:(sizeLine:Nat)≤(2 ^ 63-1) / 8:=by decide
  lia
 have hfit:¬ (!Builtin.List.listFitsIndex k)=true:=by
  rw [fitsIndex_both h1 h2]
  exact Bool.false_ne_true
 have hlong:¬ Builtin.List.listTooLong (its.toArray.size*k.toNat)=true:=by
  rw [notLongL hlen]
  exact Bool.false_ne_true
 have hnew:List.foldl (fun x1 x2=>x1++x2) #[] (List.replicate (if its.toArray.isEmpty=true then 0 else k.toNat) its.toArray)=(List.replicate k.toNat its).flatten.toArray:=by
  have f0:∀ m:Nat,List.foldl (fun x1 x2=>x1++x2) #[] (List.replicate m its.toArray)=(List.replicate m its).flatten.toArray:=fun m=>by
   have:=zfh_ its m []
   rw [List.nil_append] at this
   exact this
  rw [f0]
  cases its with
  | nil=>simp
  | cons a r'=>rw [if_neg (by simp)]
 refine wpAny_binaryOp_repeat_ref (T := "list") (U := "int") (by decide) ⟨_,e,rfl⟩ (fun s'=>typeIs_int s' k t) noFill_list_mul F.fills_int_mul F.slot_int_rmul repeat_list F.slot_int_index.lookup
  (call_meets F.slot_int_rmul (typeIs_int s k t) F.entry_int_rmul (F.args_int_rmul_2 _ _) (int___rmul___int_list k t l its.toArray n)
   ⟨e,rfl,⟨_,e,rfl⟩,call_meets F.slot_list_mul ⟨_,e,rfl⟩ F.entry_list_mul (F.args_list_mul_2 _ _) (AutoListH.list___mul___list_int_3 l its.toArray n k t hfit hcap hlong) ⟨e,?_⟩⟩)
 rw [hnew]
 exact ⟨.ref _,_,I.lnew (t':=s.toks) (r.rep k.toNat) (by rw [ziA_,Nat.mul_comm]; exact hz),rfl,q _ I.fresh⟩
end
section
variable {prog:Program}{w:World}{A:Around}{E:Value→Shared→Prop}{s:Shared}
end
section
variable {X:Cx}
end
end L2
namespace Att
open PySem PySem.W PySem.Calls PyProof.Rows
theorem zcy_ {P:Params}{h:Heap}:∀ (ns:List Int) (vs:List Value),WellAll P h vs (ns.map WData.int)→IntsAre vs ns:=by
 intro ns
 induction ns with
 | nil =>
  intro vs w
  rw [List.map_nil] at w
  cases w
  exact .nil
 | cons n ns ih =>
  intro vs w
  rw [List.map_cons] at w
  cases w with
  | cons a b =>
   cases a
   exact .cons _ _ (ih _ b)
theorem zhM_ {l:OpenLaw}{n:Nat}(hn:l.most=some n) {P:Params}{h:Heap}{args:List WData}{vals:List Value}
  (hpre:l.row.toRowW.claim.pre args=true) (hwl:WellAll P h vals args) :
  ∃ a vs ns,vals=[Value.ref a]∧args=[WData.list (ns.map WData.int)]∧h.get? a=some { cls:=.type "list",data:=.seq vs.toArray }∧IntsAre vs ns∧ns.length≤n:=by
 have hsh:WShape.hasAll [] args [.list .int]=true:=(pre_splitW hpre).1
 have hc:l.pre.holds [] { args:=args }=true:=(pre_splitW hpre).2
 obtain ⟨d,r,rfl,h1,h2⟩:=hasAllW_cons hsh
 obtain rfl:=hasAllW_nil h2
 obtain ⟨xs,rfl,h3⟩:=hasW_list h1
 obtain ⟨ns,rfl⟩:=items_int h3
 have hlen:ns.length≤n:=by
  unfold OpenLaw.pre at hc
  have h4:(WTm.not (.lt (.lit (.int (n:Int))) (.len (.arg 0)))).holds [] { args:=[.list (ns.map .int)] }=true:=by
   have h4:=(holds_andW hc).1
   rw [hn] at h4
   exact h4
  have h5:=condW_of h4 (w_not (w_lt w_lit (w_len_list (w_arg rfl))))
  rw [List.length_map] at h5
  refine Nat.le_of_not_lt fun q=>?_
  have q':(n:Int)<((ns.length:Nat):Int):=by lia
  first
   | (rw [decide_eq_true q'] at h5; exact absurd h5 (by decide))
   | (simp at h5; lia)
 cases hwl with
 | cons w1 w2 =>
  cases w2
  cases w1 with
  | list ho hall=>exact ⟨_,_,ns,rfl,rfl,ho,zcy_ ns _ hall,hlen⟩
theorem zh6_ (l:OpenLaw) (args:List WData):l.row.toRowW.claim.post args (.bool true) args=true :=
 postW_of (r:=l.row.toRowW) (X:=(true == true))
  (show WShape.has [] (.bool true) .bool=true by first | rfl | decide | simp [WShape.has,WShape.arms,WShape.armsAll])
  (show (WTm.eq .res (.lit (.bool true))).value [] { args:=args,res:=some (.bool true),after:=args }=some (.bool (true == true)) from w_eq_bool (w_res rfl) w_lit) rfl
section
variable {prog:Program}{w:World}{A:Around}{E:Value→Shared→Prop}{s:Shared}{K:Frag}
end
end Att
namespace L2
open PySem PySem.Spec PyProof.Rows
theorem ze1_:∀ {vs:List Value}{ns:List Int},IntsAre vs ns→Vals (ns.map V.int) vs
 | _,_,.nil=>.nil
 | _,_,.cons n t h=>.cons ⟨t,rfl⟩ (ze1_ h)
def Only (H:Hp):Prop:=∀ b,H b=none∨∃ o xs,H b=some (.frz o (.lst xs))
theorem zjI_ {P:Program}{w:World}{K:Fgg}{mg mb:Str→Option Value}{CX:CXT}{k:Nat}{fa a:Addr}{fd:FuncData}{x:Str}{sp:Sp}{s₁:Shared}{vs:List Value}{ns:List Int}
  (KX:K.In s₁.heap) (hns:s₁.heap.Ns mainGlobals mg) (hb:s₁.heap.Ns builtinsNs mb) (hbb:∀ x:Str,x ≠ "__name__" → mb x=bootBuiltins x) (hlim:s₁.heap.NoLimit) (hg:s₁.gens=#[])
  (ha:s₁.heap.get? a=some { cls:=.type "list",data:=.seq vs.toArray }) (hi:IntsAre vs ns) (hl:ns.length≤sizeLine) (hr:Room k callerA)
  (F:∀ base:Heap,K.In base→base.Ns mainGlobals mg→FnOk P w K mg base CX k fa fd [x] sp) (hbind:∀ (s:Shared) (u:Value),BindsTo s fd ⟨[u],[]⟩ [(x,u)])
  (hsp:∀ H:Hp,Only H→SqL K H a (ns.map V.int)→sp [.ref a] H (fun v _=>v=.bl true) fun _ _ _=>False)
  (hCX:∀ H e s',CX [] H s₁ (fun _ _ _=>False) e s'→False) :
  codeAny (model P w) callerA (.call (.ref fa) ⟨[.ref a],[]⟩) (fun r s'=>r=.ok (.ret (.bool true))∧OldK s₁.heap s'.heap∧s'.os=s₁.os∧AllBare s'.gens) s₁:=by
 have rv:=ze1_ hi
 have lenV:=hi.length
 have core:∀ H:Hp,Only H→SqL K H a (ns.map V.int)→HOk P w H s₁.heap→(∀ b,H b≠none→b=a)→(H a≠none→K.lookup a=none) →
   codeAny (model P w) callerA (.call (.ref fa) ⟨[.ref a],[]⟩) (fun r s'=>r=.ok (.ret (.bool true))∧OldK s₁.heap s'.heap∧s'.os=s₁.os∧AllBare s'.gens) s₁:=by
  intro H hO hS hok hA hK
  have base_of:∀ {b:Addr}{o:Obj},s₁.heap.get? b=some o→H b=none→(hidT s₁.heap H).get? b=some o:=fun e n=>zj1_ e n
  have noA:∀ {b:Addr}{o:Obj}{es:Array DictEntry}{ep:Nat},s₁.heap.get? b=some o→o.data=.dict es ep→H b=none:=fun {b o es ep} e d=>by
   cases q:H b with
   | none=>rfl
   | some u =>
    have e':b=a:=hA b (by rw [q]; simp)
    subst e'
    rw [ha] at e; cases e
    have d':Data.seq vs.toArray _=Data.dict es ep:=d
    cases d'
  have nsK:∀ {b:Addr}{m:Str→Option Value},s₁.heap.Ns b m→(hidT s₁.heap H).Ns b m:=fun {b m} ⟨o,es,ep,e,d,r⟩=>⟨o,es,ep,base_of e (noA e d),d,r⟩
  have hKb:K.In (hidT s₁.heap H):=fun b o e=>base_of (KX b o e) (by
   cases q:H b with
   | none=>rfl
   | some u =>
    have e':b=a:=hA b (by rw [q]; simp)
    subst e'
    rw [hK (by rw [q]; simp)] at e; cases e)
  have hM:Mod K mg (hidT s₁.heap H):=⟨hKb,nsK hns,⟨mb,nsK hb,hbb⟩,let ⟨mc,h1,h2⟩:=hlim; ⟨mc,nsK h1,h2⟩⟩
  have e0:Env0 P w K mg (hidT s₁.heap H) callerA [] s₁ H:=⟨rfl,hM,fun b o e=>zlg_ e,Nat.le_of_eq (zhK_ _ _),trivial,fun b hb=>absurd (show b∈([]:List Addr) from hb) (by simp),hok,.of_eq hg⟩
  refine codeAny_mono ((F _ hKb (nsK hns)).run callerA [] s₁ H ⟨[.ref a],[]⟩ [.ref a] [.ref a] _ _ hr e0 (hbind s₁ (.ref a)) (.cons rfl .nil) (hsp H hO hS)) fun r s' h=>?_
  cases r with
  | error e=>exact (hCX H e s' h).elim
  | ok fl =>
   cases fl with
   | next=>exact False.elim h
   | brk=>exact False.elim h
   | cont=>exact False.elim h
   | ret u =>
    obtain ⟨v,H',os,bare,un,hok',r',q⟩:=h
    have q':v=.bl true:=q
    subst q'
    obtain rfl:u=Value.bool true:=r'
    refine ⟨rfl,OldK.of_keep fun b o e=>?_,os,bare⟩
    cases q:H b with
    | none=>exact un.keep b o e q (by intro z; exact absurd (show b∈([]:List Addr) from z) (by simp)) (by simp)
    | some u =>
     rcases hO b with z | ⟨ob,xs,z⟩
     ·rw [q] at z; cases z
     ·have z2:=un.frzs b ob _ z
      obtain ⟨e1,_⟩:=hok b _ z
      obtain ⟨e2,_⟩:=hok' b _ z2
      rw [e] at e1; cases e1
      exact e2
 cases hk:K.lookup a with
 | some o =>
  have e:=KX a o hk
  rw [ha] at e
  cases e
  refine core (fun _=>none) (fun _=>.inl rfl) (.inr ⟨_,vs.toArray,_,hk,rfl,rfl,rfl,by rw [List.size_toArray,lenV]; exact hl,by simpa using rv⟩) (fun b u z=>by have z':(none:Option HO)=some u:=z; cases z') (fun b z=>absurd rfl z) fun z=>absurd rfl z
 | none =>
  refine core (fun b=>if b=a then some (.frz { cls:=.type "list",data:=.seq vs.toArray } (.lst (ns.map V.int))) else none) (fun b=>?_) (.inl (.inr ⟨{ cls:=.type "list",data:=.seq vs.toArray },if_pos rfl⟩)) (fun b u z=>?_) (fun b z=>?_) fun _=>hk
  ·by_cases hb:b=a
   ·exact .inr ⟨_,_,if_pos hb⟩
   ·exact .inl (if_neg hb)
  ·by_cases hb:b=a
   ·have z':=(if_pos hb).symm.trans z
    cases z'
    subst hb
    exact ⟨ha,by rw [List.length_map]; exact hl,vs,_,rv,ha⟩
   ·have z':=(if_neg hb).symm.trans z
    cases z'
  ·by_cases hb:b=a
   ·exact hb
   ·exact absurd (if_neg hb) z
end L2
namespace L2
open PySem PySem.Spec PyProof.Rows
end L2
namespace L2
open PySem PySem.Spec PyProof.Rows
def inClass (s:Stmt) (j:Nat):Stmt:=match s with
 | .ClassDef _ _ _ body _ _ _ _ _ _ _=>body.getD j (.Pass ⟨0,0,0,0⟩)
 | _=>.Pass ⟨0,0,0,0⟩
def defArgs (s:Stmt):Arguments:=match s with
 | .FunctionDef _ a _ _ _ _ _ _ _ _=>a
 | _=>{ posonlyargs:=[],args:=[],vararg:=none,kwonlyargs:=[],kw_defaults:=[],kwarg:=none,defaults:=[] }
def defBody (s:Stmt):List Stmt:=match s with
 | .FunctionDef _ _ b _ _ _ _ _ _ _=>b
 | _=>[]
def defScope (s:Stmt):Scope:=match s with
 | .FunctionDef _ _ _ _ _ _ sc _ _ _=>sc
 | _=>{ kind:=.function,names:=[],isGenerator:=false,isCoroutine:=false }
abbrev CX0:CXT:=fun _ _ _ _ _ _=>False
abbrev E0:XK:=fun _ _ _=>False
theorem pass0 {X:Cx}:Passes CX0 X E0:=fun _ _ _ _ _ _ _ h=>h.elim
structure Fun (K:Fgg) (x qual:Str) (st:Stmt) (f:Addr) (fd:FuncData):Prop where
 ex:∃ (oc:Value) (od:Option Addr) (kV doc pm:Value) (an:Option Addr) (cdv ct:Value) (osl:Array (Option Value)),
  fd=PySem.W.fnOf x qual (defArgs st) (defBody st) (defScope st) .none kV doc pm an cdv ct∧K.lookup f=some ⟨oc,od,.func fd,osl⟩∧PySem.W.codeIn K cdv qual=true
 kp:PySem.W.keepIn K (.ref f)=true
section
variable {P:Program}{w:World}{K:Fgg}{mg:Str→Option Value}{base:Heap}
theorem Fun.ok {x qual:Str}{st:Stmt}{f:Addr}{fd:FuncData}{N ps:List Str}{k:Nat}{sp:Sp}(F:Fun K x qual st f fd) (S:FnScope N ps (defScope st)) (len:∀ vs H Q E,sp vs H Q E→vs.length=ps.length)
  (hbody:∀ (cdv:Value) (A:Around) (outer:List Env) (s:Shared) (H:Hp) (vs:List V) (Q:VK) (E:XK),Room k (A.deeper (envOfC qual (defScope st) s.heap.objs.size f cdv))→sp vs H Q E →
   ∃ t,PSs (cxOf CX0 P w K mg base N qual (defScope st) f cdv A outer s H E).nox (defBody st) t∧t { nx:=fun _ H'=>Q .non H',rt:=Q } (start N vs) H):FnOk P w K mg base CX0 (k+1) f fd ps sp:=by
 obtain ⟨oc,od,kV,doc,pm,an,cdv,ct,osl,rfl,lk,hcd⟩:=F.ex
 refine fn_of lk hcd S len fun A outer s H vs Q E hr hsp=>?_
 obtain ⟨t,h,q⟩:=hbody cdv A outer s H vs Q E hr hsp
 exact ⟨t,h.nox,q⟩
theorem Fun.binds {x qual:Str}{st:Stmt}{f:Addr}{fd:FuncData}{ps:List Str}(F:Fun K x qual st f fd)
  (h:∀ (kV doc pm:Value) (an:Option Addr) (cdv ct:Value) (us:List Value),us.length=ps.length→bindArgs (PySem.W.fnOf x qual (defArgs st) (defBody st) (defScope st) .none kV doc pm an cdv ct) ⟨us,[]⟩=pure (ps.zip us)):Binds K fd ps []:=by
 obtain ⟨oc,od,kV,doc,pm,an,cdv,ct,osl,rfl,lk,hcd⟩:=F.ex
 exact .all (h kV doc pm an cdv ct)
theorem zlL_ {x qual:Str}{st:Stmt}{f:Addr}{oc:Value}{od an:Option Addr}{osl:Array (Option Value)}{kV doc pm cdv ct:Value}(l:K.lookup f=some ⟨oc,od,.func (PySem.W.fnOf x qual (defArgs st) (defBody st) (defScope st) .none kV doc pm an cdv ct),osl⟩)
  (c:PySem.W.codeIn K cdv qual=true) (k:PySem.W.keepIn K (.ref f)=true):Fun K x qual st f (PySem.W.fnOf x qual (defArgs st) (defBody st) (defScope st) .none kV doc pm an cdv ct):=⟨⟨oc,od,kV,doc,pm,an,cdv,ct,osl,rfl,l,c⟩,k⟩
end
section
variable {X:Cx}
end
def Same (H H':Hp):Prop:=∀ b o,H b=some o→H' b=some o
theorem Same.refl (H:Hp):Same H H:=fun _ _ h=>h
theorem Same.trans {H H1 H2:Hp}(a:Same H H1) (b:Same H1 H2):Same H H2:=fun c o h=>b c o (a c o h)
theorem Same.free {H H':Hp}(e:Same H H') {l:Addr}(h:H' l=Option.none):H l=Option.none:=by
 cases q:H l with
 | none=>rfl
 | some o =>
  rw [e l o q] at h
  cases h
theorem Same.seq {K:Fgg}{H H':Hp}{a:Addr}{xs:List V}(e:Same H H') (h:SqL K H a xs):SqL K H' a xs:=by
 rcases h with (h | ⟨o,h⟩) | h
 ·exact .inl (.inl (e _ _ h))
 ·exact .inl (.inr ⟨o,e _ _ h⟩)
 ·exact .inr h
end L2
namespace L2
open PySem PySem.Spec PyProof.Rows
def Itp (n:Nat) (f:Nat→V):It:=⟨fun i _=>i<n,fun i H x H'=>H'=H∧x=f i,fun i _=>n≤i⟩
def ownTups:List String:=["enumerate", "zip", "dict_itemiterator", "dict_reverseitemiterator", "odict_iterator", "itertools.zip_longest", "itertools.pairwise"]
theorem zh7_ {P:Program}{w:World}{K:Fgg}{tg:Expr}{it:Addr}{n:Nat}{f:Nat→V}{Pw:Nat→Value→Prop}{St:Nat→Heap→Prop}
  (W:∀ A:Around,A.handled=none→Walks P w A it [it] [it] n Pw St) (hv:∀ i v,i<n→Pw i v→RelV (f i) v)
  (ho:∀ i h,St i h→∃ o nm vs,h.get? it=some o∧o.cls=.type nm∧o.data=.fields vs∧ownTups.contains nm=false)
  (hself:∀ (A:Around) (i:Nat) (s:Shared) (Q:Value→Shared→Prop) (E:Value→Shared→Prop),St i s.heap→Q (.ref it) s→wpAny (model P w) A (pyIter (.ref it)) Q E s)
  (hkeep:∀ i h h',St i h→(∀ b∈[it],∀ o,h.get? b=some o→h'.get? b=some o)→St i h') :
  Turn P w K tg (Itp n f) [it] it (fun i h=>i≤n∧St i h) where
 mem:=by simp
 obj:=fun i h st b hb=>by
  have e:b=it:=by simpa using hb
  subst e
  obtain ⟨o,nm,vs,e,c,d,_⟩:=ho i h st.2
  exact ⟨o,e,fun v z=>by rw [d] at z; cases z⟩
 keep:=fun i h h' st k=>⟨st.1,hkeep i h h' st.2 k⟩
 item:=by
  intro X hP hw hK hc i pins s σ H E I hf st hg
  subst hP hw hK
  obtain ⟨f0,f1,f2,f3,f4,f5⟩:=hf it (by simp)
  have hi:i<n:=hg
  refine (W X.A (I.ok.hd hc)).item i s _ _ hi st.2 fun v h' tk hv' st' kk=>?_
  have I1:Inv X pins σ H { s with heap:=h',toks:=tk }:=I.turned (fun b o hb e=>kk b o (by simpa using hb) e) f0 f1 f3 f4 f5
  obtain ⟨o,nm,vs,e,c,d,hn⟩:=ho _ _ st'
  exact ⟨_,rfl,zmd_ (s:={ s with heap:=h',toks:=tk }) (n:=nm) e c d hn ⟨f i,H,I1,hv i v hi hv',⟨rfl,rfl⟩,⟨hi,st'⟩,fun b hb=>(hf b hb).1⟩⟩
 done:=by
  intro X hP hw hK hc i pins s σ H E I hf st hg
  subst hP hw hK
  obtain ⟨f0,f1,f2,f3,f4,f5⟩:=hf it (by simp)
  have hi:n≤i:=hg
  have e:i=n:=Nat.le_antisymm st.1 hi
  subst e
  exact (W X.A (I.ok.hd hc)).done s _ _ st.2 fun h' tk kk=>⟨rfl,I.turned (fun b o hb e=>kk b o (by simpa using hb) e) f0 f1 f3 f4 f5⟩
 self:=fun A i s Q E st h=>hself A i s Q E st.2 h
def sgn (x:Str) (i:Nat):V:=.str ⟨#[x.cps.getD i 0]⟩
theorem zhF_ {P:Program}{w:World}{it:Addr}{x:Str}{t:Tok}(A:Around) (hA:A.handled=none):Walks P w A it [it] [it] x.cps.size (SignAt x) (fun i h=>h.IsStrIter it (strIterType x) x t i):=by
 cases ha:x.cps.all (·<128)
 ·have e:strIterType x = "str_iterator" := by simp [strIterType,ha]
  rw [e]; exact Walks.strWide hA it x t
 ·have e:strIterType x = "str_ascii_iterator" := by simp [strIterType,ha]
  rw [e]; exact Walks.strAscii hA it x t
theorem zhr_ {x:Str}{i:Nat}{v:Value}(h:SignAt x i v):RelV (sgn x i) v:=by
 obtain ⟨c,u,e,rfl⟩:=h
 refine ⟨u,?_⟩
 have:x.cps.getD i 0=c:=by simp [Array.getD_eq_getD_getElem?,e]
 rw [this]
theorem zc9_ (x:Str):ownTups.contains (strIterType x)=false:=by
 unfold strIterType; split<;>decide
theorem zki_ {P:Program}{w:World}{K:Fgg}{tg:Expr}(it:Addr) (x:Str) (t:Tok):Turn P w K tg (Itp x.cps.size (sgn x)) [it] it (fun i h=>i≤x.cps.size∧h.IsStrIter it (strIterType x) x t i):=by
 refine zh7_ (Pw:=SignAt x) (fun A hA=>zhF_ A hA) (fun i v _ h=>zhr_ h) (fun i h st=>?_) (fun A i s Q E st h=>?_) (fun i h h' st k=>?_)
 ·obtain ⟨o,e,c,d⟩:=st
  exact ⟨o,_,_,e,c,d,zc9_ x⟩
 ·cases ha:x.cps.all (·<128)
  ·have e:strIterType x = "str_iterator" := by simp [strIterType,ha]
   rw [e] at st; exact wpAny_pyIter_striter_wide st h
  ·have e:strIterType x = "str_ascii_iterator" := by simp [strIterType,ha]
   rw [e] at st; exact wpAny_pyIter_striter_ascii st h
 ·obtain ⟨o,e,r⟩:=st
  exact ⟨o,k it (by simp) o e,r⟩
section
variable {X:Cx}{tg:Expr}
end
end L2
namespace L2
open PySem PySem.Spec PyProof.Rows
section
variable {X:Cx}{elts:List Expr}{kk:Nat}{tpos:Pos}
end
end L2
namespace L2
open PySem PySem.Spec PyProof.Rows
section
variable {prog:Program}{w:World}{A:Around}{R:Result→Shared→Prop}{s:Shared}
theorem zfz_ {elt target iter:Expr}{ifs:List Expr}{scope:Scope}{pos:Pos}{it acc:Value}{env:Env}(I:Nat→Shared→Prop)
  (turn:∀ n s,I n s→wpAny (model prog w) A (pyNext it) (fun r s₁=>match r with
   | none=>R (.ok .next) s₁
   | some v=>wpAny (model prog w) A (letOwnedTupleGo target it v) (fun _ s₂=>wpAny (model prog w) A (assign target env v) (fun _ s₃ =>
     wpAny (model prog w) A (forIn ifs true fun c r=>if r=true then do let ok ← isTrue c env (eval c env); pure (ForInStep.yield ok) else pure (ForInStep.yield r)) (fun ok s₄ =>
      if ok=true then wpAny (model prog w) A (eval elt env) (fun x s₅ =>
       wpAny (model prog w) A (call (.builtin "list.append") [acc,x]) (fun _ s₆=>∃ m,m<n∧I m s₆) (fun _ _=>False) s₅) (fun _ _=>False) s₄
      else ∃ m,m<n∧I m s₄) (fun _ _=>False) s₃) (fun _ _=>False) s₂) (fun _ _=>False) s₁) (fun _ _=>False) s)
  (n:Nat) (h:I n s) :
  codeAny (model prog w) A (.compLoop (.ListComp elt [⟨target,iter,ifs,0⟩] scope pos) 0 it acc env) R s:=by
 refine codeAny_loop rfl I (fun n s hI=>?_) n h
 show wpAny _ A ((compTurn (.ListComp elt [⟨target,iter,ifs,0⟩] scope pos) 0 it acc env).onRaise (fun x=>do noteFrame x env; theTreesLotGoes x)) _ _ s
 refine wpAny_noted ?_
 rw [compTurn_list]
 refine wpAny_bind (wpAny_standAt (wpAny_bind (wpAny_mono (turn n s hI) (fun r s₁ h₁=>?_) fun _ _ h'=>h'.elim)))
 cases r with
 | none=>exact wpAny_pure h₁
 | some v =>
  refine wpAny_bind (wpAny_mono h₁ (fun _ s₂ h₂=>?_) fun _ _ h'=>h'.elim)
  refine wpAny_bind (wpAny_mono h₂ (fun _ s₃ h₃=>wpAny_bind (wpAny_mono h₃ (fun ok s₄ h₄=>?_) fun _ _ h'=>h'.elim)) fun _ _ h'=>h'.elim)
  cases ok with
  | false=>exact wpAny_pure ⟨rfl,h₄⟩
  | true =>
   exact wpAny_bind (wpAny_bind (wpAny_mono h₄ (fun x s₅ h₅=>wpAny_bind (wpAny_mono h₅ (fun _ s₆ h₆=>wpAny_pure (wpAny_pure ⟨rfl,h₆⟩)) fun _ _ h'=>h'.elim)) fun _ _ h'=>h'.elim))
end
def closeL (cells:List (Str×Addr)):List (Str×NameKind)→List (Str×Addr)→Option (List (Str×Addr))
 | [],acc=>some acc
 | (n,k)::r,acc=>if (k == .free)=true then (match cells.lookup n with | some c=>closeL cells r ((n,c)::acc) | none=>none) else closeL cells r acc
theorem zcg_ {env:Env}{f:Str×NameKind→List (Str×Addr)→Sem (ForInStep (List (Str×Addr)))}
  (hf:∀ n k cs,f (n,k) cs=if (k == NameKind.free)=true then (do let c ← cellOf env n; pure (ForInStep.yield ((n,c)::cs))) else pure (ForInStep.yield cs)) :
  ∀ (names:List (Str×NameKind)) (acc cl:List (Str×Addr)),closeL env.cells names acc=some cl→(forIn names acc f:Sem (List (Str×Addr)))=pure cl
 | [],acc,cl,h=>by cases h; rfl
 | (n,k)::r,acc,cl,h=>by
  rw [List.forIn_cons,hf]
  unfold closeL at h
  by_cases hk:(k == NameKind.free)=true
  ·rw [if_pos hk] at h
   rw [if_pos hk]
   cases hc:env.cells.lookup n with
   | none=>rw [hc] at h; cases h
   | some c =>
    rw [hc] at h
    have e:cellOf env n=pure c:=by unfold cellOf; rw [hc]
    rw [e]
    simp only [pure_bind]
    exact zcg_ hf r _ cl h
  ·rw [if_neg hk] at h
   rw [if_neg hk]
   simp only [pure_bind]
   exact zcg_ hf r _ cl h
theorem zeV_ {env:Env}{scope:Scope}{cl:List (Str×Addr)}(h:closeL env.cells scope.names []=some cl):closureFor scope env=pure cl:=by
 unfold closureFor
 dsimp only
 rw [zcg_ (env:=env) (fun n k cs=>rfl) scope.names [] cl h]
 rfl
theorem zbn_ {cells:List (Str×Addr)}:∀ (names:List (Str×NameKind)) (acc cl:List (Str×Addr)),closeL cells names acc=some cl→(∀ x c,acc.lookup x=some c→cells.lookup x=some c) →
  (∀ x c,cl.lookup x=some c→cells.lookup x=some c)
 | [],acc,cl,h,ha=>by cases h; exact ha
 | (n,k)::r,acc,cl,h,ha=>by
  unfold closeL at h
  by_cases hk:(k == NameKind.free)=true
  ·rw [if_pos hk] at h
   cases hc:cells.lookup n with
   | none=>rw [hc] at h; cases h
   | some c =>
    rw [hc] at h
    refine zbn_ r _ cl h fun x c' e=>?_
    rw [List.lookup_cons] at e
    cases hx:x == n with
    | true=>rw [hx] at e; cases e; rw [eq_of_beq hx]; exact hc
    | false=>rw [hx] at e; exact ha x c' e
  ·rw [if_neg hk] at h
   exact zbn_ r _ cl h ha
theorem zb1_ {cells:List (Str×Addr)}:∀ (names:List (Str×NameKind)) (acc cl:List (Str×Addr)),closeL cells names acc=some cl→∀ x,((x,NameKind.free)∈names∨∃ c,acc.lookup x=some c)→∃ c,cl.lookup x=some c
 | [],acc,cl,h,x,hx=>by
  cases h
  rcases hx with hx | hx
  ·cases hx
  ·exact hx
 | (n,k)::r,acc,cl,h,x,hx=>by
  unfold closeL at h
  by_cases hk:(k == NameKind.free)=true
  ·rw [if_pos hk] at h
   cases hc:cells.lookup n with
   | none=>rw [hc] at h; cases h
   | some c =>
    rw [hc] at h
    refine zb1_ r _ cl h x ?_
    rcases hx with hx | ⟨c',e⟩
    ·rcases List.mem_cons.mp hx with e | hx
     ·cases e; exact .inr ⟨c,by rw [List.lookup_cons,beq_self_eq_true]⟩
     ·exact .inl hx
    ·refine .inr ?_
     rw [List.lookup_cons]
     cases hxn:x == n with
     | true=>exact ⟨c,rfl⟩
     | false=>exact ⟨c',e⟩
  ·rw [if_neg hk] at h
   refine zb1_ r _ cl h x ?_
   rcases hx with hx | hx
   ·rcases List.mem_cons.mp hx with e | hx
    ·cases e; exact absurd rfl hk
    ·exact .inl hx
   ·exact .inr hx
theorem zcD_ {scope:Scope}{env:Env}{x:Str}{k:NameKind}(h:(relabel scope env).names.lookup x=some k) (hk:k=.cell∨k=.free) (hcell:∀ y∈scope.names,y.2≠.cell):(x,NameKind.free)∈scope.names:=by
 have m:=PySem.mem_of_lookup h
 obtain ⟨⟨n,k0⟩,hm,e⟩:=List.mem_map.mp m
 dsimp only at e
 split at e
 ·rename_i hc
  cases e
  have:k0=.free:=by
   simp only [Bool.and_eq_true,beq_iff_eq] at hc
   exact hc.1.1
  subst this; exact hm
 ·cases e
  rcases hk with rfl | rfl
  ·exact absurd rfl (hcell _ hm)
  ·exact hm
def cxComp (X:Cx) (scope:Scope) (cl:List (Str×Addr)) (C:Addr) (N:List Str) (fp:List Addr) (s2:Shared) (H2:Hp):Cx where
 prog:=X.prog
 w:=X.w
 K:=X.K
 mg:=X.mg
 base:=X.base
 A:=X.A
 N:=N
 s₀:=s2
 H₀:=H2
 env:=compEnvC scope cl C X.env
 outer:=X.stack
 stack:=X.stack
 ex:=fp
 fn:=fun _=>false
 calm:=X.calm
 pn:=[]
 xe:=fun _ _=>False
structure CScope (X:Cx) (scope:Scope) (cl:List (Str×Addr)) (lv:List Str) (fr:List (Str×Nat)):Prop where
 clos:closeL X.env.cells scope.names []=some cl
 cell:∀ y∈scope.names,y.2≠.cell
 kind:scope.kind=.function
 names:∀ z∈scope.names,z.2=.local→scope.names.lookup z.1=some .local
 fr:∀ q∈fr,X.N[q.2]?=some q.1∧(q.1,NameKind.free)∈scope.names∧(X.env.kindOf q.1=some .cell∨X.env.kindOf q.1=some .free) ∧
  ((relabel scope X.env).names.lookup q.1=some .cell∨(relabel scope X.env).names.lookup q.1=some .free)
def cN (lv:List Str) (fr:List (Str×Nat)):List Str:=lv++fr.map (·.1)
def cS (lv:List Str) (fr:List (Str×Nat)) (σ:St):St:=lv.map (fun _=>none)++fr.map fun q=>(σ[q.2]?).join
theorem zkn_ {X:Cx}{pins:Pnn}{σ:St}{H2:Hp}{s2:Shared}{scope:Scope}{cl:List (Str×Addr)}{lv:List Str}{fr:List (Str×Nat)}{fp:List Addr}{h4:Heap}{tk:Nat}{m:Str→Option Value}{n:Nat}
  (I:Inv X pins σ H2 s2) (S:CScope X scope cl lv fr) (hf:∀ b∈fp,FpOk X pins H2 b) (hlt:∀ b∈fp,b<s2.heap.objs.size) (hC:h4.Ns (s2.heap.objs.size+1) m) (hD:h4.get? s2.heap.objs.size=some { cls:=.type "list",data:=.seq #[] n })
  (hk:∀ b o,s2.heap.get? b=some o→h4.get? b=some o) :
  Inv (cxComp X scope cl (s2.heap.objs.size+1) (cN lv fr) fp s2 H2) [] (cS lv fr σ) (upd H2 s2.heap.objs.size (.lst [])) { s2 with heap:=h4,toks:=tk }:=by
 have hcl:=zbn_ scope.names [] cl S.clos (fun x c e=>by cases e)
 have hhas:=zb1_ scope.names [] cl S.clos
 have hDn:H2 s2.heap.objs.size=none:=I.hok.fresh (Nat.le_refl _)
 have hCn:H2 (s2.heap.objs.size+1)=none:=I.hok.fresh (Nat.le_succ _)
 have hCD:s2.heap.objs.size+1≠s2.heap.objs.size:=Nat.ne_of_gt (Nat.lt_succ_self _)
 have fpC:∀ b∈fp,(b∈X.ex∨X.s₀.heap.objs.size≤b):=fun b hb=>(hf b hb).2.2.2.1
 have cellLt:∀ x c,cl.lookup x=some c→c<s2.heap.objs.size:=fun x c e=>by
  obtain ⟨v,o,ho,_⟩:=I.cell x c (hcl x c e)
  exact Heap.lt_size ho
 refine ⟨⟨I.ok.mod,S.kind,I.ok.glob,I.ok.blt,Nat.le_succ _,fun x y c h1 h2=>I.ok.inj x y c (hcl x c h1) (hcl y c h2),fun x hx=>?_,fun x c hfn=>(by cases hfn),I.ok.hd,I.ok.frames,.inl rfl,fun b hb=>?_,I.bs,Nat.le_trans I.ok.bsz I.sz,fun b o e hb=>?_,fun b hb z=>?_,I.stack,I.stkFree⟩,
  rfl,I.bare,?_,⟨m,hC,fun i x v h1 h2 h3=>?_⟩,fun x c e=>?_,?_,fun x c e=>?_,fun p hp=>absurd (show p∈([]:Pnn) from hp) (by simp),?_,?_⟩
 ·-- has
  have hx':(relabel scope X.env).names.lookup x=some .cell∨(relabel scope X.env).names.lookup x=some .free:=hx
  have hm:(x,NameKind.free)∈scope.names:=hx'.elim (fun z=>zcD_ z (.inl rfl) S.cell) fun z=>zcD_ z (.inr rfl) S.cell
  exact hhas x (.inl hm)
 ·-- exf
  obtain ⟨f0,f1,f2,f3,f4,f5⟩:=hf b hb
  refine ⟨fun z=>?_,fun x c e=>f4 x c (hcl x c e)⟩
  have z':b=s2.heap.objs.size+1:=z
  have:=hlt b hb
  rw [z'] at this
  exact absurd this (Nat.not_lt.mpr (Nat.le_succ _))
 ·rcases fpC b hb with z | z
  ·exact I.ok.noex b o e z
  ·exact absurd (Nat.lt_of_lt_of_le (Nat.lt_of_lt_of_le (Heap.lt_size e) I.ok.bsz) z) (Nat.lt_irrefl _)
 ·obtain ⟨f0,f1,f2,_⟩:=hf b hb
  rcases List.mem_cons.mp (I.stkSub b z) with q | q
  ·exact f1 q
  ·exact f2 q
 ·exact Un.laid hk (Nat.le_refl _) hDn
 ·-- loc
  have h1':(lv++fr.map (·.1))[i]?=some x:=h1
  have h2':(lv.map (fun _=>none)++fr.map fun q=>(σ[q.2]?).join:St)[i]?=some (some v):=h2
  by_cases hi:i<lv.length
  ·rw [List.getElem?_append_left (by simpa using hi),List.getElem?_map] at h2'
   cases hq:lv[i]? with
   | none=>rw [hq] at h2'; cases h2'
   | some z=>rw [hq] at h2'; cases h2'
  ·rw [List.getElem?_append_right (by simpa using hi),List.getElem?_map] at h2'
   rw [List.getElem?_append_right (by lia),List.getElem?_map] at h1'
   simp only [List.length_map] at h2'
   cases hq:fr[i-lv.length]? with
   | none=>rw [hq] at h1'; cases h1'
   | some q =>
    rw [hq] at h1' h2'
    have e1:q.1=x:=Option.some.inj h1'
    have e2:(σ[q.2]?).join=some v:=Option.some.inj h2'
    have e3:σ[q.2]?=some (some v):=by
     cases hz:σ[q.2]? with
     | none=>rw [hz] at e2; cases e2
     | some z=>rw [hz] at e2; exact congrArg some e2
    obtain ⟨g1,g2,g3,g4⟩:=S.fr q (List.mem_of_getElem? hq)
    obtain ⟨m0,hn0,hl0⟩:=I.loc
    have vis:Vis X.env.scope q.1:=by
     rcases g3 with g3 | g3
     ·exact .inr (.inl g3)
     ·exact .inr (.inr g3)
    obtain ⟨u,r,l⟩:=hl0 q.2 q.1 v g1 e3 vis
    refine ⟨u,r,.inr ⟨?_,?_⟩⟩
    ·rw [← e1]; exact g4
    ·rcases l with ⟨lk,_⟩ | ⟨_,c,ec,ic⟩
     ·rcases g3 with g3 | g3<;>(rw [lk] at g3; cases g3)
     ·obtain ⟨c',ec'⟩:=hhas q.1 (.inl g2)
      have:c'=c:=by
       have:=hcl q.1 c' ec'
       rw [ec] at this; exact (Option.some.inj this).symm
      subst this
      obtain ⟨o,ho,hd⟩:=ic
      exact ⟨c',by rw [← e1]; exact ec',o,hk _ _ ho,hd⟩
 ·obtain ⟨v,o,ho,hd⟩:=I.cell x c (hcl x c e)
  exact ⟨v,o,hk _ _ ho,hd⟩
 ·show upd H2 _ _ (s2.heap.objs.size+1)=none
  rw [zO_ hCD]; exact hCn
 ·have:=cellLt x c e
  rw [zO_ (Nat.ne_of_lt this)]
  exact I.freeC x c (hcl x c e)
 ·exact I.hok.laid hk (Nat.le_refl _) ⟨Nat.zero_le _,[],n,.nil,hD⟩
 ·show (cS lv fr σ).length=(cN lv fr).length
  simp [cS,cN]
end L2
namespace L2
open PySem PySem.Spec PyProof.Rows
def PIf (X:Cx) (ifs:List Expr) (t:TT):Prop :=
 ∀ (pins:Pnn) (s:Shared) (σ:St) (H:Hp) (Q:Bool→Hp→Prop),Inv X pins σ H s→t σ H Q →
  wpAny (model X.prog X.w) X.A (forIn ifs true fun c r=>if r=true then do let ok ← isTrue c X.env (eval c X.env); pure (ForInStep.yield ok) else pure (ForInStep.yield r)) (TP X pins σ Q) X.xe s
def tTrue:TT:=fun _ H Q=>Q true H
theorem zcn_ {X:Cx}:PIf X [] tTrue:=fun pins s σ H Q I h=>wpAny_tests_nil ⟨H,I,h⟩
def tCompR (J:It) (g:TG) (tt:TT) (te:TE) (σ0:St) (H1:Hp) (Q:VK):Prop :=
 ∀ D,H1 D=none→∃ W:Nat→Nat→List V→St→Hp→Prop,(∃ m,W 0 m [] σ0 (upd H1 D (.lst [])))∧∀ i m ys σ H,W i m ys σ H →
  (J.stop i H∧Q (.ref D) H)∨(J.go i H∧∃ N:List V→St→Hp→Prop,(∀ ys' σ' H',N ys' σ' H'→∃ m',m'<m∧W (i+1) m' ys' σ' H') ∧
   ∀ x H',J.yld i H x H'→g x σ H' fun σ2 H2=>tt σ2 H2 fun b H3=>if b=true then te σ2 H3 fun v H4=>H4 D=some (.lst ys)∧ys.length<sizeLine∧N (ys++[v]) σ2 (upd H4 D (.lst (ys++[v]))) else N ys σ2 H3)
section
variable {X:Cx}{scope:Scope}{cl:List (Str×Addr)}{lv:List Str}{fr:List (Str×Nat)}{elt tg iter:Expr}{ifs:List Expr}{pos:Pos}{g:TG}{tt:TT}{te:TE}
theorem zdA_ {pins:Pnn}{σ:St}{H2:Hp}{s2:Shared}{it:Addr}{fp:List Addr}{tn:Nat→Heap→Prop}{J:It}{Q:VK}{E:Value→Shared→Prop}{use:Option (Value→Sem Unit)}{Q':Value→Shared→Prop}
  (I:Inv X pins σ H2 s2) (S:CScope X scope cl lv fr) (T:Turn X.prog X.w X.K tg J fp it tn) (st:tn 0 s2.heap) (hf:∀ b∈fp,FpOk X pins H2 b) (hc:X.calm=true)
  (hg:∀ C fp s2 H2,PG (cxComp X scope cl C (cN lv fr) fp s2 H2) tg g) (ht:∀ C fp s2 H2,PIf (cxComp X scope cl C (cN lv fr) fp s2 H2) ifs tt) (he:∀ C fp s2 H2,PE (cxComp X scope cl C (cN lv fr) fp s2 H2) elt te)
  (hq:tCompR J g tt te (cS lv fr σ) H2 Q)
  (fin:∀ D C oC H' s',Inv X (pins++[(C,oC)]) σ H' s'→(∀ h:Heap,h.get? C=some oC→∃ m,h.Ns C m)→FpOk X pins H' C→Q (.ref D) H'→compPost (model X.prog X.w) X.A E use Q' (.ref D) C (.ok .next) s') :
  wpAny (model X.prog X.w) X.A (newList []) (fun acc s₃=>wpAny (model X.prog X.w) X.A (newFunctionEnv scope X.env.globals cl [] X.env.qual none .none (some X.env)) (fun cenv s₄ =>
   codeAny (model X.prog X.w) X.A (.compStart (.ListComp elt [⟨tg,iter,ifs,0⟩] scope pos) 0 (.ref it) acc { cenv with scope:=relabel scope X.env }) (compPost (model X.prog X.w) X.A E use Q' acc cenv.locals) s₄) E s₃) E s2:=by
 have hlt:∀ b∈fp,b<s2.heap.objs.size:=fun b hb=>by
  obtain ⟨o,ho,_⟩:=T.obj 0 _ st b hb
  exact Heap.lt_size ho
 refine wpAny_newList (wpAny_newFunctionEnv S.cell (by intro y hy; simp at hy) (fun h₁ hns₁ hsb₁=>?_) S.kind)
 dsimp only at hns₁ hsb₁ ⊢
 have hsz:(s2.heap.push { cls:=.type "list",data:=.seq ([]:List Value).toArray }).objs.size=s2.heap.objs.size+1:=Heap.size_push ..
 rw [hsz] at hns₁ hsb₁ ⊢
 have old:∀ b o,s2.heap.get? b=some o→h₁.get? b=some o:=fun b o e=>hsb₁.extBut b o (Nat.ne_of_lt (Nat.lt_succ_of_lt (Heap.lt_size e))) (Heap.get?_push_of_some _ (Heap.get?_push_of_some _ e))
 have hacc:h₁.get? s2.heap.objs.size=some { cls:=.type "list",data:=.seq #[] }:=hsb₁.extBut _ _ (Nat.ne_of_lt (Nat.lt_succ_self _)) (Heap.get?_push_of_some _ (Heap.get?_push_size _ rfl))
 have I4:Inv (cxComp X scope cl (s2.heap.objs.size+1) (cN lv fr) fp s2 H2) [] (cS lv fr σ) (upd H2 s2.heap.objs.size (.lst [])) { s2 with heap:=h₁,toks:=s2.toks+([]:List (Str×Value)).length } :=
  zkn_ I S hf hlt hns₁ hacc old
 generalize hX':cxComp X scope cl (s2.heap.objs.size+1) (cN lv fr) fp s2 H2=X' at I4
 have eP:X'.prog=X.prog:=by rw [← hX']; rfl
 have ew:X'.w=X.w:=by rw [← hX']; rfl
 have eK:X'.K=X.K:=by rw [← hX']; rfl
 have eA:X'.A=X.A:=by rw [← hX']; rfl
 have ec:X'.calm=true:=by rw [← hX']; exact hc
 have ex:X'.xe=fun _ _=>False:=by rw [← hX']; rfl
 have een:X'.env=compEnvC scope cl (s2.heap.objs.size+1) X.env:=by rw [← hX']; rfl
 have hg':PG X' tg g:=hX' ▸ hg _ _ _ _
 have ht':PIf X' ifs tt:=hX' ▸ ht _ _ _ _
 have he':PE X' elt te:=hX' ▸ he _ _ _ _
 obtain ⟨W,⟨m0,w0⟩,turn⟩:=hq s2.heap.objs.size (I.hok.fresh (Nat.le_refl _))
 have st1:tn 0 h₁:=T.keep _ _ _ st fun b _ o e=>old b o e
 have f4:∀ b∈fp,FpOk X' [] (upd H2 s2.heap.objs.size (.lst [])) b:=fun b hb=>by
  obtain ⟨f0,f1,f2,f3,f4,f5⟩:=hf b hb
  have:=hlt b hb
  refine ⟨?_,?_,?_,.inl ?_,?_,?_⟩
  ·rw [zO_ (Nat.ne_of_lt this)]; exact f0
  ·rw [een]; exact Nat.ne_of_lt (Nat.lt_succ_of_lt this)
  ·intro z
   have z':b∈frs X.stack:=by rw [← hX'] at z; exact z
   rcases List.mem_cons.mp (I.stkSub b z') with q | q
   ·exact f1 q
   ·exact f2 q
  ·rw [← hX']; exact hb
  ·intro x c e
   rw [een] at e
   exact f4 x c (zbn_ scope.names [] cl S.clos (fun x c e=>by cases e) x c e)
  ·intro p hp
   rw [← hX'] at hp
   exact absurd (show p∈([]:Pnn) from hp) (by simp)
 have stat:∀ {H':Hp},(∀ b∈fp,H' b=none)→∀ b∈fp,FpOk X' [] H' b:=fun hn b hb=>⟨hn b hb,(f4 b hb).2⟩
 have loop:∀ s₃:Shared,s₃={ s2 with heap:=h₁,toks:=s2.toks+([]:List (Str×Value)).length } →
   codeAny (model X.prog X.w) X.A (.compLoop (.ListComp elt [⟨tg,iter,ifs,0⟩] scope pos) 0 (.ref it) (.ref s2.heap.objs.size) (compEnvC scope cl (s2.heap.objs.size+1) X.env))
    (compPost (model X.prog X.w) X.A E use Q' (.ref s2.heap.objs.size) (s2.heap.objs.size+1)) s₃:=by
  rintro s₃ rfl
  refine zfz_ (fun n s'=>∃ i ys σ' H',Inv X' [] σ' H' s'∧tn i s'.heap∧(∀ b∈fp,H' b=none)∧W i n ys σ' H') ?_ m0 ⟨0,[],_,_,I4,st1,fun b hb=>(f4 b hb).1,w0⟩
  rintro n s3 ⟨i,ys,σ3,H3,I3,st3,fr3,w3⟩
  rcases turn i n ys σ3 H3 w3 with ⟨stop,qn⟩ | ⟨go,N,hN,step⟩
  ·have a0:=T.done X' eP ew eK ec i [] s3 σ3 H3 (fun _ _=>False) I3 (stat fr3) st3 stop
   rw [eA] at a0
   refine thn a0 fun r s4 hq_=>?_
   obtain ⟨hr,I4'⟩:=hq_
   subst hr
   have un:Un (frs X.stack) fp H2 H3 s2.heap s4.heap:=by
    have:=I4'.base
    rw [← hX'] at this
    exact this
   have os:s4.os=s2.os:=by
    have:=I4'.os
    rw [← hX'] at this
    exact this
   have hok:HOk X.prog X.w H3 s4.heap:=by
    have:=I4'.hok
    rw [← hX'] at this
    exact this
   have J1:Inv X pins σ H3 s4:=I.call' os un hok I4'.bare fun b hb=>by
    obtain ⟨f0,f1,f2,f3,f4,f5⟩:=hf b hb
    exact ⟨f3,f1,f4,f5⟩
   obtain ⟨m,hn,_⟩:=I4'.loc
   have hn':s4.heap.Ns (s2.heap.objs.size+1) m:=by rw [een] at hn; exact hn
   have hCn:H3 (s2.heap.objs.size+1)=none:=by
    have:=I4'.free
    rw [een] at this; exact this
   have fC:FpOk X pins H3 (s2.heap.objs.size+1):=I.fpOk (Nat.le_succ _) hCn
   obtain ⟨oC,es,ep,hoC,hdC,rC⟩:=id hn'
   have J2:Inv X (pins++[(s2.heap.objs.size+1,oC)]) σ H3 s4:=J1.pins_of fun p hp=>by
    rcases List.mem_append.mp hp with hp | hp
    ·exact J1.pin p (List.mem_append_right _ hp)
    ·have e:p=(s2.heap.objs.size+1,oC):=by simpa using hp
     subst e
     exact ⟨hoC,hCn,fC.2.1,fC.2.2.1,fun v z=>by rw [hdC] at z; cases z⟩
   exact fin _ _ oC H3 s4 J2 (fun h e=>⟨m,oC,es,ep,e,hdC,rC⟩) fC qn
  ·have a0:=T.item X' eP ew eK ec i [] s3 σ3 H3 (fun _ _=>False) I3 (stat fr3) st3 go
   rw [eA] at a0
   refine thn a0 fun r s4 hq_=>?_
   obtain ⟨u,hr,h4⟩:=hq_
   subst hr
   refine thn h4 fun _ s5 hq_=>?_
   obtain ⟨x,H5,I5,r5,y5,st5,fr5⟩:=hq_
   have I5':=I5.pinned (stat fr5) (T.obj _ _ st5)
   have a1:=hg' _ s5 σ3 H5 x u _ I5' r5 (step x H5 y5)
   rw [eP,ew,eA,een,ex] at a1
   refine thn a1 fun _ s6 hq_=>?_
   obtain ⟨σ6,H6,I6,q6⟩:=hq_
   have a2:=ht' _ s6 σ6 H6 _ I6 q6
   rw [eP,ew,eA,een,ex] at a2
   refine thn a2 fun ok s7 hq_=>?_
   obtain ⟨H7,I7,q7⟩:=hq_
   have again:∀ {ys7:List V}{H7:Hp}{s7:Shared},Inv X' ([]++pinsAt fp s5.heap) σ6 H7 s7→N ys7 σ6 H7→∃ m,m<n∧∃ i ys σ' H',Inv X' [] σ' H' s7∧tn i s7.heap∧(∀ b∈fp,H' b=none)∧W i m ys σ' H':=fun {ys7 H7 s7} I7 n7=>by
    obtain ⟨m',hm,w7⟩:=hN ys7 σ6 H7 n7
    refine ⟨m',hm,i+1,ys7,σ6,H7,I7.unpinned,T.keep _ _ _ st5 fun b hb o e=>(I7.pin (b,o) (List.mem_append_right _ (List.mem_append_right _ (za5_ hb e)))).1,fun b hb=>?_,w7⟩
    obtain ⟨o,e,d⟩:=T.obj _ _ st5 b hb
    exact (I7.pin (b,o) (List.mem_append_right _ (List.mem_append_right _ (za5_ hb e)))).2.1
   cases ok with
   | false=>exact again I7 q7
   | true =>
    have a3:=he' _ s7 σ6 H7 _ I7 q7
    rw [eP,ew,eA,een,ex] at a3
    refine thn a3 fun y s8 hq_=>?_
    obtain ⟨v,H8,I8,r8,hD8,hl8,n8⟩:=hq_
    have a4:=zbT_ (X:=X') _ s8 σ6 H8 (.ref s2.heap.objs.size) [v] (.ref s2.heap.objs.size) [y] (fun _ H9=>N (ys++[v]) σ6 H9) I8 rfl (.cons r8 .nil) ⟨_,_,_,rfl,rfl,hD8,hl8,n8⟩
    rw [eP,ew,eA,ex] at a4
    refine thn a4 fun _ s9 hq_=>?_
    obtain ⟨v9,H9,I9,_,n9⟩:=hq_
    exact again I9 n9
 exact codeAny_compStart_list (loop _ rfl) (T.self _ 0 _ _ _ st1 (loop _ rfl))
def tComp (lv:List Str) (fr:List (Str×Nat)) (wi:TI) (g:TG) (tt:TT) (te:TE):TE:=fun σ H Q=>wi σ H fun J H1=>tCompR J g tt te (cS lv fr σ) H1 Q
theorem zcY_ {wi:TI}(hc:X.calm=true) (S:CScope X scope cl lv fr) (hi:PI X tg iter wi)
  (hg:∀ C fp s2 H2,PG (cxComp X scope cl C (cN lv fr) fp s2 H2) tg g) (ht:∀ C fp s2 H2,PIf (cxComp X scope cl C (cN lv fr) fp s2 H2) ifs tt) (he:∀ C fp s2 H2,PE (cxComp X scope cl C (cN lv fr) fp s2 H2) elt te)
  (hs:∀ x,foldedSetIterable iter X.env x=pure x:=by intro _; rfl):PE X (.ListComp elt [⟨tg,iter,ifs,0⟩] scope pos) (tComp lv fr wi g tt te):=by
 intro pins s σ H Q I h
 rw [eval_ListComp]
 refine wpAny_comprehension_free (use:=none) rfl hs (zeV_ S.clos) S.kind S.names ?_
 refine thn (hi pins s σ H _ I h) fun v s1 h1=>thn h1 fun itv s2 h2=>?_
 obtain ⟨it,fp,tn,J,H2,e,I2,T,st2,f2,q⟩:=h2
 subst e
 refine zdA_ I2 S T st2 f2 hc hg ht he q fun D C oC H' s' J1 hNs fC qD=>?_
 have hp:=J1.pin (C,oC) (List.mem_append_right _ (List.mem_append_right _ (List.mem_singleton.mpr rfl)))
 obtain ⟨m,hm⟩:=hNs s'.heap hp.1
 refine ⟨m,hm,fun h' hs'=>?_⟩
 exact ⟨.ref D,H',J1.unpinned.turned (t':=s'.toks) (fun b o hb e=>(hs'.2 b hb).trans e) fC.1 fC.2.1 fC.2.2.2.1 fC.2.2.2.2.1 fC.2.2.2.2.2,rfl,qD⟩
theorem zgS_ {wi:TI}{j:Nat}{y:Str}{py spos:Pos}(hc:X.calm=true) (S:CScope X scope cl lv fr) (hi:PI X tg iter wi)
  (hg:∀ C fp s2 H2,PG (cxComp X scope cl C (cN lv fr) fp s2 H2) tg g) (ht:∀ C fp s2 H2,PIf (cxComp X scope cl C (cN lv fr) fp s2 H2) ifs tt) (he:∀ C fp s2 H2,PE (cxComp X scope cl C (cN lv fr) fp s2 H2) elt te)
  (hy:PG X (.Name y py) (gName j))
  (hsw:swapsWith (.ListComp elt [⟨tg,iter,ifs,0⟩] scope pos) (some (.Name y py)) spos.line X.env=pure true:=by rfl)
  (hs:∀ x,foldedSetIterable iter X.env x=pure x:=by intro _; rfl):PS X (.Assign [.Name y py] (.ListComp elt [⟨tg,iter,ifs,0⟩] scope pos) spos) (tAsg (tComp lv fr wi g tt te) (gName j)):=by
 intro pins s σ H D I h
 rw [exec_Assign_Name_used _ _ _ _ hsw]
 refine wpAny_bind (wpAny_standAt (wpAny_bind ?_))
 show wpAny _ X.A (do let _ ← comprehension (.ListComp elt [⟨tg,iter,ifs,0⟩] scope pos) scope X.env _ (newList []) false (eval iter X.env) (some (assign (.Name y py) X.env))) _ _ s
 refine wpAny_bind (wpAny_mono (wpAny_comprehension_free (use:=some (assign (.Name y py) X.env)) (Q:=fun _ s'=>SP X pins D .next s') rfl hs (zeV_ S.clos) S.kind S.names ?_) (fun _ s' hq=>wpAny_pure (wpAny_pure hq)) fun _ _ e=>e)
 refine thn (hi pins s σ H _ I h) fun v s1 h1=>thn h1 fun itv s2 h2=>?_
 obtain ⟨it,fp,tn,J,H2,e,I2,T,st2,f2,q⟩:=h2
 subst e
 refine zdA_ I2 S T st2 f2 hc hg ht he q fun D' C oC H' s' J1 hNs fC qD=>?_
 show wpAny _ X.A (assign (.Name y py) X.env (.ref D')) _ _ _
 refine thn (hy _ s' σ H' (.ref D') (.ref D') _ J1 rfl qD) fun _ s3 hq_=>?_
 obtain ⟨σ3,H3,I3,q3⟩:=hq_
 have hp:=I3.pin (C,oC) (List.mem_append_right _ (List.mem_append_right _ (List.mem_singleton.mpr rfl)))
 obtain ⟨m,hm⟩:=hNs s3.heap hp.1
 refine ⟨m,hm,fun h' hs'=>?_⟩
 have fC':FpOk X pins H3 C:=⟨hp.2.1,fC.2⟩
 exact ⟨σ3,H3,I3.unpinned.turned (t':=s3.toks) (fun b o hb e=>(hs'.2 b hb).trans e) fC'.1 fC'.2.1 fC'.2.2.2.1 fC'.2.2.2.2.1 fC'.2.2.2.2.2,q3⟩
end
end L2
namespace L2
open PySem PySem.Spec PyProof.Rows
abbrev tx (l:List Nat):V:=.str ⟨l.toArray⟩
def br (b:Bool) (A B:Prop):Prop:=(b=true→A)∧(b=false→B)
theorem zd6_ (a b:Str):a++b=⟨(a.cps.toList++b.cps.toList).toArray⟩:=by
 cases a; cases b
 show Str.mk (_++_)=_
 simp
theorem zM_ (a:Str):a=⟨a.cps.toList.toArray⟩:=by cases a; simp
def cutL (l:List Nat) (lo hi:Option Int):List Nat:=(l.drop (HT.sIx l.length 0 lo)).take (HT.sIx l.length l.length hi-HT.sIx l.length 0 lo)
theorem zcm_ (lo hi:Option Int) (n:Nat):Builtin.Str.strSliceIndices lo hi 1 n=sliceRange ((HT.sIx n 0 lo:Nat):Int) ((HT.sIx n n hi:Nat):Int) 1:=by
 unfold Builtin.Str.strSliceIndices
 simp only [show (1:Int) > 0 by decide,if_true]
 congr 1
 ·cases lo with
  | none=>simp [HT.sIx]
  | some i =>
   simp only [HT.sIx]
   by_cases h:i<0
   ·simp only [h,if_true]<;>lia
   ·simp only [h,if_false]<;>lia
 ·cases hi with
  | none=>simp [HT.sIx]
  | some i =>
   simp only [HT.sIx]
   by_cases h:i<0
   ·simp only [h,if_true]<;>lia
   ·simp only [h,if_false]<;>lia
theorem zgO_ (x:Str) (lo hi:Option Int):(Builtin.Str.strSliceIndices lo hi 1 x.length).filterMap (x.cps[·]?)=cutL x.cps.toList lo hi:=by
 rw [zcm_,sliceRange_one,pick_run]
 unfold cutL Str.length
 simp only [Array.length_toList]
theorem zdd_ (l:List Nat) (lo hi:Option Int):(cutL l lo hi).length≤l.length:=by
 unfold cutL
 rw [List.length_take,List.length_drop]
 lia
theorem zic_ {l:List Nat}{lo hi:Option Int}(h:(cutL l lo hi).length=l.length):cutL l lo hi=l:=by
 unfold cutL at h ⊢
 rw [List.length_take,List.length_drop] at h
 have h1:HT.sIx l.length l.length hi≤l.length:=HT.sIx_le _ _ (Nat.le_refl _) _
 by_cases hl:l.length=0
 ·have:l=[]:=List.length_eq_zero_iff.mp hl
  subst this
  simp
 ·have h2:HT.sIx l.length 0 lo=0:=by lia
  rw [h2,List.drop_zero,List.take_of_length_le]
  lia
section
variable {X:Cx}
def rSlS:V→Option Int→Option Int→Hp→VK→Prop:=fun x lo hi H Q=>match x with | .str z=>z.length≤sizeLine∧Q (tx (cutL z.cps.toList lo hi)) H | _=>False
theorem zcs_ {v:Value}{o:Option Int}(p:IsPart v o):∃ l:Option (Int×Tok),v=partValue l∧l.map (·.1)=o:=by
 cases p with
 | none=>exact ⟨none,rfl,rfl⟩
 | int i t=>exact ⟨some (i,t),rfl,rfl⟩
theorem zmY_:SlR X rSlS:=by
 intro pins s σ H x v vl vu lo hi sl Q I rx hs pl pu h
 cases x with
 | str z =>
  obtain ⟨hz,q⟩:=h
  obtain ⟨t,rfl⟩:=rx
  obtain ⟨l,rfl,rfl⟩:=zcs_ pl
  obtain ⟨u,rfl,rfl⟩:=zcs_ pu
  refine ⟨"str",_,F.slot_str_getitem.lookup,typeIs_str _ _ _,?_⟩
  refine wpAny_getItem_str_slice (l:=l) (u:=u) (st:=none) hs rfl ?_
  unfold sliceMade
  have e:slicePicked z l u none=Builtin.Str.strSliceIndices (l.map (·.1)) (u.map (·.1)) 1 z.length:=rfl
  rw [e]
  have hlen:(Builtin.Str.strSliceIndices (l.map (·.1)) (u.map (·.1)) 1 z.length).length=(cutL z.cps.toList (l.map (·.1)) (u.map (·.1))).length:=by
   rw [zcm_,sliceRange_one,List.length_map,List.length_range]
   unfold cutL
   rw [List.length_take,List.length_drop]
   have h1:HT.sIx z.length z.length (u.map (·.1))≤z.length:=HT.sIx_le _ _ (Nat.le_refl _) _
   have h2:z.cps.toList.length=z.length:=by simp [Str.length]
   rw [h2]
   lia
  split
  ·rename_i hc
   have hc':(cutL z.cps.toList (l.map (·.1)) (u.map (·.1))).length=z.cps.toList.length:=by
    rw [← hlen]
    simpa [Str.length] using hc
   rw [zic_ hc'] at q
   have q':Q (.str z) H:=by rw [zM_ z]; exact q
   exact ⟨.str z,H,I,⟨_,rfl⟩,q'⟩
  ·rw [zgO_]
   have h3:=zdd_ z.cps.toList (l.map (·.1)) (u.map (·.1))
   have h2:z.cps.toList.length=z.length:=by simp [Str.length]
   refine ⟨?_,tx (cutL z.cps.toList (l.map (·.1)) (u.map (·.1))),H,I.tok _,⟨_,rfl⟩,q⟩
   show (cutL z.cps.toList (l.map (·.1)) (u.map (·.1))).toArray.size≤sizeLine
   rw [List.size_toArray]
   exact Nat.le_trans h3 (by rw [h2]; exact hz)
 | _=>exact h.elim
end
end L2
namespace L2
open PySem PySem.Spec PyProof.Rows
def mVar (i:Nat):TE:=fun σ H Q=>match σ[i]? with | some (some v)=>Q v H | _=>False
section
variable {X:Cx}{a b c:Expr}{ta tb tc:TE}{pos:Pos}
theorem za_ (i:Nat) {x:Str}{pos:Pos}(hN:X.N[i]?=some x:=by rfl) (hv:Vis X.env.scope x:=by first | exact Or.inl rfl | exact Or.inr (Or.inl rfl) | exact Or.inr (Or.inr rfl)) (hd:(x == ("__debug__" : Str))=false:=by decide)
  (hcd:(x == ("__classdict__" : Str))=false:=by decide):PE X (.Name x pos) (mVar i):=by
 intro pins s σ H Q I h
 unfold mVar at h
 cases e:σ[i]? with
 | none=>rw [e] at h; exact h.elim
 | some o =>
  rw [e] at h
  cases o with
  | none=>exact h.elim
  | some v=>exact zmI_ hN hv hd hcd pins s σ H Q I ⟨v,e,h⟩
theorem zD_ {x:Str}{l:List Nat}{j pos} (h:x=⟨l.toArray⟩:=by rfl):PE X (.Constant (.str x) j pos) (tC (tx l)):=h ▸ zl5_
def mAdd:R2:=fun x y H Q=>match x,y with
 | .int i,.int j=>Q (.int (i+j)) H
 | .str a,.str b=>a.cps.toList.length+b.cps.toList.length≤sizeLine∧Q (tx (a.cps.toList++b.cps.toList)) H
 | .ref a,.ref b=>∃ xs zs,H a=some (.lst xs)∧H b=some (.lst zs)∧xs.length+zs.length≤sizeLine∧∀ p,H p=none→Q (.ref p) (upd H p (.lst (xs++zs)))
 | _,_=>False
theorem zr_:OpR X (binaryOp .Add) mAdd:=by
 intro pins s σ H x y v u Q I rx ry h
 cases x<;>cases y<;>first
  | exact h.elim
  | exact zmy_ pins s σ H _ _ v u Q I rx ry ⟨_,_,rfl,rfl,h⟩
  | exact zgL_ pins s σ H _ _ v u Q I rx ry ⟨_,_,rfl,rfl,by simpa [Str.length] using h.1,by rw [zd6_]; exact h.2⟩
  | (obtain ⟨xs,zs,h1,h2,h3,h4⟩:=h; exact zmj_ pins s σ H _ _ v u Q I rx ry ⟨_,_,xs,zs,rfl,rfl,h1,h2,h3,h4⟩)
def mI (C:Int→Int→Prop) (g:Int→Int→V):R2:=fun x y H Q=>match x,y with | .int i,.int j=>C i j∧Q (g i j) H | _,_=>False
def mI0 (g:Int→Int→V):R2:=fun x y H Q=>match x,y with | .int i,.int j=>Q (g i j) H | _,_=>False
theorem opM {f:Value→Value→Sem Value}{C:Int→Int→Prop}{g:Int→Int→V}(h:OpR X f (rI C g)):OpR X f (mI C g):=by
 intro pins s σ H x y v u Q I rx ry q
 cases x<;>cases y<;>first | exact q.elim | exact h pins s σ H _ _ v u Q I rx ry ⟨_,_,rfl,rfl,q.1,q.2⟩
theorem opM0 {f:Value→Value→Sem Value}{g:Int→Int→V}(h:OpR X f (rI0 g)):OpR X f (mI0 g):=by
 intro pins s σ H x y v u Q I rx ry q
 cases x<;>cases y<;>first | exact q.elim | exact h pins s σ H _ _ v u Q I rx ry ⟨_,_,rfl,rfl,q⟩
abbrev mSub:R2:=mI0 fun i j=>.int (i-j)
abbrev mMod:R2:=mI (fun _ j=>0<j) fun i j=>.int (i % j)
theorem zcZ_:OpR X (binaryOp .Sub) mSub:=opM0 zmi_
theorem zaq_:OpR X (binaryOp .Mod) mMod:=opM zm3_
def mEqB (x y:V):Option Bool:=match x,y with
 | .int i,.int j=>some (decide (i=j))
 | .str a,.str b=>some (decide (a.cps.toList=b.cps.toList))
 | .bl a,.bl b=>some (decide (a=b))
 | .non,.non=>some true
 | .non,.int _=>some false | .int _,.non=>some false | .non,.bl _=>some false | .bl _,.non=>some false | .non,.str _=>some false | .str _,.non=>some false
 | .int _,.str _=>some false | .str _,.int _=>some false | .bl _,.str _=>some false | .str _,.bl _=>some false
 | _,_=>none
theorem zgE_ {x y:V}{b:Bool}(h:mEqB x y=some b):scal x y=true∧decide (x=y)=b:=by
 cases x<;>cases y<;>first
  | (cases (show (none:Option Bool)=some b from h); done)
  | (refine ⟨rfl,?_⟩; have h':=Option.some.inj h; rw [← h']; first | rfl | (simp; done))
  | (rename_i a b'
     refine ⟨rfl,?_⟩
     have h':=Option.some.inj h
     rw [← h',decide_eq_decide]
     constructor
     ·intro e; cases e; rfl
     ·intro e; rw [zM_ a,zM_ b',e])
def mEq:R2:=fun x y H Q=>match mEqB x y with | some b=>Q (.bl b) H | none=>False
def mNe:R2:=fun x y H Q=>match mEqB x y with | some b=>Q (.bl (!b)) H | none=>False
theorem znb_:OpR X (compareOp .Eq) mEq:=by
 intro pins s σ H x y v u Q I rx ry h
 unfold mEq at h
 cases e:mEqB x y with
 | none=>rw [e] at h; exact h.elim
 | some b =>
  rw [e] at h
  obtain ⟨h1,h2⟩:=zgE_ e
  exact op_eq pins s σ H x y v u Q I rx ry ⟨h1,by rw [h2]; exact h⟩
theorem zmu_:OpR X (compareOp .NotEq) mNe:=by
 intro pins s σ H x y v u Q I rx ry h
 unfold mNe at h
 cases e:mEqB x y with
 | none=>rw [e] at h; exact h.elim
 | some b =>
  rw [e] at h
  obtain ⟨h1,h2⟩:=zgE_ e
  exact op_ne pins s σ H x y v u Q I rx ry ⟨h1,by rw [h2]; exact h⟩
abbrev mLt:R2:=mI0 fun i j=>.bl (decide (i<j))
abbrev mLe:R2:=mI0 fun i j=>.bl (decide (i≤j))
abbrev mGt:R2:=mI0 fun i j=>.bl (decide (j<i))
abbrev mGe:R2:=mI0 fun i j=>.bl (decide (j≤i))
theorem zjH_:OpR X (compareOp .Lt) mLt:=opM0 op_lt
theorem zh5_:OpR X (compareOp .LtE) mLe:=opM0 op_le
theorem zhd_:OpR X (compareOp .Gt) mGt:=opM0 op_gt
theorem zla_:OpR X (compareOp .GtE) mGe:=opM0 op_ge
def mIsB (x y:V):Option Bool:=match y with
 | .non=>some (decide (x=.non))
 | .bl b=>(match x with | .bl a=>some (decide (a=b)) | _=>none)
 | _=>none
def mIs:R2:=fun x y H Q=>match mIsB x y with | some b=>Q (.bl b) H | none=>False
theorem zjS_ {M:Model}{A:Around}{E:Value→Shared→Prop}{s:Shared}{a b:Bool}{Q:Value→Shared→Prop}(h:Q (.bool (decide (a=b))) s):wpAny M A (compareOp .Is (.bool a) (.bool b)) Q E s:=by
 cases a<;>cases b<;>exact wpAny_pure h
theorem zmL_:OpR X (compareOp .Is) mIs:=by
 intro pins s σ H x y v u Q I rx ry h
 unfold mIs mIsB at h
 cases y with
 | non=>exact zm0_ pins s σ H x _ v u Q I rx ry ⟨rfl,h⟩
 | bl b =>
  cases x with
  | bl a=>cases rx; cases ry; exact zjS_ ⟨.bl _,H,I,rfl,h⟩
  | _=>exact h.elim
 | _=>exact h.elim
def inS (l:List Nat) (t:List Nat):Bool:=match l with | [c]=>decide (c∈t) | _=>!(Builtin.Str.occurrences ⟨t.toArray⟩ ⟨l.toArray⟩ 0 t.length 1).isEmpty
theorem ziO_ (a b:Str):(!(Builtin.Str.occurrences b a 0 b.length 1).isEmpty)=inS a.cps.toList b.cps.toList:=by
 have e:b.length=b.cps.toList.length:=by simp [Str.length]
 unfold inS
 split
 ·rename_i c hc
  have ea:a=⟨#[c]⟩:=by rw [zM_ a,hc]
  rw [ea]
  exact StrLaws.found_one b c
 ·rw [← zM_,← zM_,e]
def mIn (K:Fgg) (neg:Bool):R2:=fun x y H Q=>match y with
 | .str b=>(match x with | .str a=>Q (.bl (if neg then !inS a.cps.toList b.cps.toList else inS a.cps.toList b.cps.toList)) H | _=>False)
 | .ref p=>∃ xs,(SqL K H p xs∨SqT K H p xs)∧flatV x=true∧xs.all flatV=true∧Q (.bl (if neg then !inV x xs else inV x xs)) H
 | _=>False
theorem zkC_:OpR X (compareOp .In) (mIn X.K false):=by
 intro pins s σ H x y v u Q I rx ry h
 unfold mIn at h
 cases y with
 | str b =>
  cases x with
  | str a=>exact zhy_ pins s σ H _ _ v u Q I rx ry ⟨_,_,rfl,rfl,by rw [ziO_]; exact h⟩
  | _=>exact h.elim
 | ref p =>
  obtain ⟨xs,h1,h2,h3,h4⟩:=h
  exact zii_ pins s σ H _ _ v u Q I rx ry ⟨_,xs,rfl,h1,h2,h3,h4⟩
 | _=>exact h.elim
theorem zdl_:OpR X (compareOp .NotIn) (mIn X.K true):=by
 intro pins s σ H x y v u Q I rx ry h
 unfold mIn at h
 cases y with
 | str b =>
  cases x with
  | str a=>exact zev_ pins s σ H _ _ v u Q I rx ry ⟨_,_,rfl,rfl,by rw [ziO_]; exact h⟩
  | _=>exact h.elim
 | ref p =>
  obtain ⟨xs,h1,h2,h3,h4⟩:=h
  exact zeF_ pins s σ H _ _ v u Q I rx ry ⟨_,xs,rfl,h1,h2,h3,h4⟩
 | _=>exact h.elim
def mTest (t:TE):TT:=fun σ H Q=>t σ H fun x H'=>match x with | .bl k=>Q k H' | _=>False
def mAndV (ta tb:TE):TE:=fun σ H Q=>ta σ H fun x H1=>match x with | .bl c=>br c (tb σ H1 Q) (Q (.bl false) H1) | _=>False
def mNotV (ta:TE):TE:=fun σ H Q=>ta σ H fun x H1=>match x with | .bl c=>Q (.bl (!c)) H1 | _=>False
def mAnd (t u:TT):TT:=fun σ H Q=>t σ H fun c H1=>br c (u σ H1 Q) (Q false H1)
def mOr (t u:TT):TT:=fun σ H Q=>t σ H fun c H1=>br c (Q true H1) (u σ H1 Q)
variable {rest:List Expr}{tA tB':TT}
theorem zc2_ (ha:PE X a ta) (hb:PE X (.BoolOp .And (b::rest) pos) tb):PE X (.BoolOp .And (a::b::rest) pos) (mAndV ta tb):=by
 intro pins s σ H Q I h
 refine BoolOp_and (thn (ha pins s σ H _ I h) fun v s1 hq_=>?_)
 obtain ⟨x,H1,I1,r1,q1⟩:=hq_
 cases x with
 | bl c =>
  cases r1
  refine wpAny_truthy_bool ?_
  cases c with
  | true=>exact hb pins s1 σ H1 Q I1 (q1.1 rfl)
  | false=>exact ⟨.bl false,H1,I1,rfl,q1.2 rfl⟩
 | _=>exact q1.elim
theorem zgg_ (ha:PE X a ta):PE X (.UnaryOp .Not a pos) (mNotV ta):=by
 intro pins s σ H Q I h
 refine UnaryOp_ (thn (ha pins s σ H _ I h) fun v s1 hq_=>?_)
 obtain ⟨x,H1,I1,r1,q1⟩:=hq_
 cases x with
 | bl c=>cases r1; exact not_of (wpAny_truthy_bool ⟨.bl (!c),H1,I1,rfl,q1⟩)
 | _=>exact q1.elim
theorem zdF_ (ha:PT X a tA) (hb:PW X (.BoolOp .And (b::rest) pos) tB'):PW X (.BoolOp .And (a::b::rest) pos) (mAnd tA tB'):=by
 intro wh pins s σ H Q I h
 refine isTrue_and (thn (ha pins s σ H _ I h) fun c s1 hq_=>?_)
 obtain ⟨H1,I1,q1⟩:=hq_
 cases c with
 | true=>exact hb wh pins s1 σ H1 Q I1 (q1.1 rfl)
 | false=>exact ⟨H1,I1,q1.2 rfl⟩
theorem zbO_ (ha:PT X a tA) (hb:PW X (.BoolOp .Or (b::rest) pos) tB'):PW X (.BoolOp .Or (a::b::rest) pos) (mOr tA tB'):=by
 intro wh pins s σ H Q I h
 refine isTrue_or (thn (ha pins s σ H _ I h) fun c s1 hq_=>?_)
 obtain ⟨H1,I1,q1⟩:=hq_
 cases c with
 | true=>exact ⟨H1,I1,q1.1 rfl⟩
 | false=>exact hb wh pins s1 σ H1 Q I1 (q1.2 rfl)
theorem zcb_ {e:Expr}{t:TE}(h:PE X e t) (he:∀ whole,isTrue e X.env whole=(do let v ← whole; standAt e.pos; holding [v] (truthy v)):=by intro _; rfl):PT X e (mTest t):=by
 intro pins s σ H Q I hw
 refine isTrue_plain (thn (h pins s σ H _ I hw) fun v s1 hq_=>?_) (he _)
 obtain ⟨x,H1,I1,r1,q1⟩:=hq_
 cases x with
 | bl c=>cases r1; exact wpAny_truthy_bool ⟨H1,I1,q1⟩
 | _=>exact q1.elim
theorem zs_ {op:CmpOp}{r:R2}(ho:OpR X (compareOp op) r) (ha:PE X a ta) (hb:PE X b tb) (hm:behindInMarks op b=false:=by first | exact nobehind _ (by decide) (by decide) | rfl):PT X (.Compare a [op] [b] pos) (mTest (tOp r ta tb)):=by
 intro pins s σ H Q I hw
 refine wpAny_isTrue_Compare1 (binT ha hb I hw fun v u s2 x y H2 I2 rx ry q=>?_) hm
 refine thn (ho pins s2 σ H2 x y v u _ I2 rx ry q) fun c s3 hq_=>?_
 obtain ⟨z,H3,I3,r3,q3⟩:=hq_
 cases z with
 | bl k=>cases r3; exact wpAny_truthy_bool ⟨H3,I3,q3⟩
 | _=>exact q3.elim
theorem zfj_ {op:CmpOp}{r:R2}(ho:OpR X (compareOp op) r) (ha:PE X a ta) (hb:PE X b tb) (hm:behindInMarks op b=false:=by first | exact nobehind _ (by decide) (by decide) | rfl):PE X (.Compare a [op] [b] pos) (tOp r ta tb):=zkX_ ho ha hb hm
def mIfS (c:TT) (t u:TS):TS:=fun D σ H=>c σ H fun b H1=>br b (t D σ H1) (u D σ H1)
theorem zK_ {c:Expr}{a b:List Stmt}{tc:TT}{t u:TS}(hc:PT X c tc) (ha:PSs X a t) (hb:PSs X b u):PS X (.If c a b pos) (mIfS tc t u):=by
 intro pins s σ H D I h
 refine wpAny_If (thn (hc pins s σ H _ I h) fun d s1 hq_=>?_)
 obtain ⟨H1,I1,q1⟩:=hq_
 cases d with
 | true=>exact ha pins s1 σ H1 D I1 (q1.1 rfl)
 | false=>exact hb pins s1 σ H1 D I1 (q1.2 rfl)
def mChain (r r':R2) (ta tb tc:TE):TE:=fun σ H Q=>ta σ H fun x H1=>tb σ H1 fun y H2=>r x y H2 fun z H3=>match z with | .bl k=>br k (tc σ H3 fun w H4=>r' y w H4 Q) (Q (.bl false) H3) | _=>False
theorem zhW_ {op op':CmpOp}{r r':R2}(ho:OpR X (compareOp op) r) (ho':OpR X (compareOp op') r') (ha:PE X a ta) (hb:PE X b tb) (hc:PE X c tc)
  (hm:lastMarks [op,op'] [b,c]=false:=by with_unfolding_all rfl):PE X (.Compare a [op,op'] [b,c] pos) (mChain r r' ta tb tc):=by
 intro pins s σ H Q I h
 refine Compare_chain (thn (ha pins s σ H _ I h) fun v s1 ⟨x,H1,I1,r1,q1⟩=>chain_link (thn (hb pins s1 σ H1 _ I1 q1) fun u s2 ⟨y,H2,I2,r2,q2⟩ =>
  thn (ho pins s2 σ H2 x y v u _ I2 r1 r2 q2) fun d s3 ⟨z,H3,I3,r3,q3⟩=>?_)) hm
 cases z with
 | bl k =>
  cases r3
  refine wpAny_truthy_bool ?_
  cases k with
  | false=>exact ite_ff ⟨.bl false,H3,I3,rfl,q3.2 rfl⟩
  | true=>exact ite_tt (chain_last (thn (hc pins s3 σ H3 _ I3 (q3.1 rfl)) fun w' s4 ⟨z',H4,I4,r4,q4⟩=>ho' pins s4 σ H4 y z' u w' Q I4 r2 r4 q4))
 | _=>exact q3.elim
end
end L2
namespace L2
open PySem PySem.Spec PyProof.Rows
section
variable {X:Cx}{a b c e o:Expr}{es:List Expr}{ta tb tc:TE}{t:TA}{pos:Pos}
def mIx (K:Fgg):R2:=fun x y H Q=>match y with
 | .int i=>(match x with
  | .ref p=>∃ xs,(SqL K H p xs∨SqT K H p xs)∧(match atI xs i with | some v=>Q v H | none=>False)
  | .str z=>z.cps.toList.length≤sizeLine∧(match atI z.cps.toList i with | some c=>Q (tx [c]) H | none=>False)
  | _=>False)
 | _=>False
theorem ix_M:IxR X (mIx X.K):=by
 intro value slice pins s σ H x y v u Q I rx ry h hs0
 unfold mIx at h
 cases y with
 | int i =>
  cases x with
  | ref p =>
   obtain ⟨xs,hs,h⟩:=h
   cases ev:atI xs i with
   | none=>rw [ev] at h; exact h.elim
   | some w' =>
    rw [ev] at h
    rcases hs with hs | hs
    ·exact zlD_ value slice pins s σ H _ _ v u Q I rx ry ⟨p,xs,i,w',rfl,rfl,hs,ev,h⟩ hs0
    ·exact zm7_ value slice pins s σ H _ _ v u Q I rx ry ⟨p,xs,i,w',rfl,rfl,hs,ev,h⟩ hs0
  | str z =>
   obtain ⟨hz,h⟩:=h
   cases ev:atI z.cps.toList i with
   | none=>rw [ev] at h; exact h.elim
   | some w' =>
    rw [ev] at h
    exact zm9_ value slice pins s σ H _ _ v u Q I rx ry ⟨z,i,w',rfl,rfl,by simpa [Str.length] using hz,ev,h⟩ hs0
  | _=>exact h.elim
 | _=>exact h.elim
def mSl (K:Fgg):V→Option Int→Option Int→Hp→VK→Prop:=fun x lo hi H Q=>match x with
 | .str z=>z.cps.toList.length≤sizeLine∧Q (tx (cutL z.cps.toList lo hi)) H
 | .ref a=>∃ xs,SqL K H a xs∧∀ p,H p=none→Q (.ref p) (upd H p (.lst (cutV xs lo hi)))
 | _=>False
theorem sl_M:SlR X (mSl X.K):=by
 intro pins s σ H x v vl vu lo hi sl Q I rx hs pl pu h
 unfold mSl at h
 cases x with
 | str z=>exact zmY_ pins s σ H _ v vl vu lo hi sl Q I rx hs pl pu ⟨by simpa [Str.length] using h.1,h.2⟩
 | ref p =>
  obtain ⟨xs,h1,h2⟩:=h
  exact zln_ pins s σ H _ v vl vu lo hi sl Q I rx hs pl pu ⟨p,xs,rfl,h1,h2⟩
 | _=>exact h.elim
def mPart (t:TE):TO:=fun σ H Q=>t σ H fun x H1=>match x with | .int i=>Q (some i) H1 | _=>False
theorem po_M (h:PE X e ta):PO X (some e) (mPart ta):=by
 intro pins s σ H Q I hw
 rw [evalPart_some]
 refine thn (h pins s σ H _ I hw) fun u s1 hq_=>?_
 obtain ⟨x,H1,I1,r1,q1⟩:=hq_
 cases x with
 | int i=>obtain ⟨t,rfl⟩:=r1; exact ⟨some i,H1,I1,.int i t,q1⟩
 | _=>exact q1.elim
def mLen (K:Fgg):List V→Hp→VK→Prop:=fun xs H Q=>match xs with
 | [.str z]=>z.cps.toList.length≤sizeLine∧Q (.int z.cps.toList.length) H
 | [.ref p]=>∃ ys,(SqL K H p ys∨SqT K H p ys)∧Q (.int ys.length) H
 | _=>False
theorem zjT_ {K:Fgg}{xs:List V}{H:Hp}{Q:VK}(h:mLen K xs H Q):(∃ z,xs=[.str z]∧z.cps.toList.length≤sizeLine∧Q (.int z.cps.toList.length) H)∨∃ p ys,xs=[.ref p]∧(SqL K H p ys∨SqT K H p ys)∧Q (.int ys.length) H:=by
 rcases xs with _ | ⟨x,_ | ⟨y,t⟩⟩
 ·exact False.elim h
 ·cases x with
  | str z=>exact .inl ⟨z,rfl,h⟩
  | ref p=>obtain ⟨ys,h⟩:=h; exact .inr ⟨p,ys,rfl,h⟩
  | _=>exact False.elim h
 ·cases x<;>exact False.elim h
theorem zX_:CallR X (.builtin "len") (mLen X.K):=by
 intro pins s σ H xs us Q I r h
 rcases zjT_ h with ⟨z,rfl,h⟩ | ⟨p,ys,rfl,h1,h2⟩
 ·exact zd9_ pins s σ H _ us Q I r ⟨_,rfl,by simpa [Str.length] using h.1,by simpa [Str.length] using h.2⟩
 ·exact zeg_ pins s σ H _ us Q I r ⟨_,ys,rfl,h1,h2⟩
def tyS (K:Fgg) (H:Hp):V→String→Prop:=fun x T=>match x with
 | .non=>T = "NoneType" | .bl _=>T = "bool" | .int _=>T = "int" | .str _=>T = "str"
 | .ref p=>(T = "list" ∧ ∃ xs,H p=some (.lst xs))∨(T = "tuple" ∧ ∃ xs,H p=some (.tup xs))
 | _=>False
theorem zmX_ {K:Fgg}{H:Hp}{x:V}{T:String}(h:tyS K H x T):TyOf K H x (.type T):=by
 unfold tyS at h
 cases x with
 | non=>subst h; exact .non
 | bl b=>subst h; exact .bl b
 | int i=>subst h; exact .int i
 | str z=>subst h; exact .str z
 | ref p =>
  rcases h with ⟨rfl,xs,h⟩ | ⟨rfl,xs,h⟩
  ·exact .lst h
  ·exact .tup h
 | _=>exact h.elim
def isaB (T c:String):Option Bool :=
 if T=c then some true else if T = "bool" ∧ c = "int" then some true
 else if (T = "bool" ∨ T = "int" ∨ T = "str" ∨ T = "list" ∨ T = "tuple" ∨ T = "NoneType")∧(c = "bool" ∨ c = "int" ∨ c = "str" ∨ c = "list" ∨ c = "tuple" ∨ c = "dict") then some false else none
theorem zkN_ {K:Fgg}{T c:String}{b:Bool}(h:isaB T c=some b):PySem.W.kitOne K (.type T) (.type c)=some b:=by
 unfold isaB at h
 split at h
 ·rename_i e; subst e; cases h
  unfold PySem.W.kitOne
  rw [if_pos (by simp)]
 ·split at h
  ·rename_i e; obtain ⟨rfl,rfl⟩:=e; cases h; rfl
  ·split at h
   ·rename_i h1 h2 e
    cases h
    obtain ⟨e1,e2⟩:=e
    rcases e1 with rfl | rfl | rfl | rfl | rfl | rfl<;>rcases e2 with rfl | rfl | rfl | rfl | rfl | rfl<;>first | rfl | exact absurd rfl h1 | exact absurd ⟨rfl,rfl⟩ h2
   ·cases h
def mIsa (K:Fgg):List V→Hp→VK→Prop:=fun xs H Q=>match xs with
 | [.int _,.ty c]=>(match isaB "int" c with | some b=>Q (.bl b) H | none=>False)
 | [.bl _,.ty c]=>(match isaB "bool" c with | some b=>Q (.bl b) H | none=>False)
 | [.str _,.ty c]=>(match isaB "str" c with | some b=>Q (.bl b) H | none=>False)
 | [.non,.ty c]=>(match isaB "NoneType" c with | some b=>Q (.bl b) H | none=>False)
 | [.ref p,.ty c]=>∃ T,tyS K H (.ref p) T∧(match isaB T c with | some b=>Q (.bl b) H | none=>False)
 | _=>False
theorem zbv_:CallR X (.builtin "isinstance") (mIsa X.K):=by
 intro pins s σ H xs us Q I r h
 have key:∀ (x:V) (T c:String),xs=[x,.ty c]→tyS X.K H x T→(match isaB T c with | some b=>Q (.bl b) H | none=>False)→wpAny (model X.prog X.w) X.A (call (.builtin "isinstance") us) (EP X pins σ Q) X.xe s:=by
  intro x T c e ht hq
  subst e
  obtain ⟨u,w',rfl,r1,r2⟩:=vals2 r
  cases r2
  cases eb:isaB T c with
  | none=>rw [eb] at hq; exact hq.elim
  | some b =>
   rw [eb] at hq
   exact zim_ I r1 (zmX_ ht) (zkN_ eb) fun tk=>⟨.bl b,H,I.tok tk,rfl,hq⟩
 unfold mIsa at h
 split at h
 ·exact key _ "int" _ rfl rfl h
 ·exact key _ "bool" _ rfl rfl h
 ·exact key _ "str" _ rfl rfl h
 ·exact key _ "NoneType" _ rfl rfl h
 ·obtain ⟨T,h1,h2⟩:=h
  exact key _ T _ rfl h1 h2
 ·exact h.elim
def findS (l:List Nat) (t:List Nat):Int:=Txt.find ⟨l.toArray⟩ ⟨t.toArray⟩
theorem zge_ (l:List Nat) (c:Nat):findS l [c]=(match l.findIdx? (· == c) with | some i=>(i:Int) | none => -1):=by
 unfold findS
 rcases find_whole ⟨l.toArray⟩ ⟨[c].toArray⟩ with ⟨h1,h2⟩ | ⟨i,h1,h2,h3⟩
 ·rw [h1]
  have:l.findIdx? (· == c)=none:=by
   rw [List.findIdx?_eq_none_iff]
   intro x hx
   obtain ⟨j,hj⟩:=List.mem_iff_getElem?.mp hx
   by_cases hxc:x=c
   ·subst hxc
    exact absurd ((StrLaws.subAt_one ⟨l.toArray⟩ x j).mpr (by simpa using hj)) (h2 j)
   ·simpa using hxc
  rw [this]
 ·rw [h1]
  have hi:l[i]?=some c:=by simpa using (StrLaws.subAt_one ⟨l.toArray⟩ c i).mp h2
  have:l.findIdx? (· == c)=some i:=by
   obtain ⟨hlt,hget⟩:=List.getElem?_eq_some_iff.mp hi
   rw [List.findIdx?_eq_some_iff_getElem]
   refine ⟨hlt,by simp [hget],fun j hj=>?_⟩
   have hjl:j<l.length:=Nat.lt_trans hj hlt
   have hn:=h3 j hj
   intro hc
   have hc':l[j]=c:=by simpa using hc
   exact hn ((StrLaws.subAt_one ⟨l.toArray⟩ c j).mpr (by simp [hjl,hc']))
  rw [this]
def mFind:V→List V→Hp→VK→Prop:=fun x xs H Q=>match x,xs with | .str l,[.str t]=>Q (.int (findS l.cps.toList t.cps.toList)) H | _,_=>False
theorem zir_ {x:V}{xs:List V}{H:Hp}{Q:VK}(h:mFind x xs H Q):∃ l t,x=.str l∧xs=[.str t]∧Q (.int (findS l.cps.toList t.cps.toList)) H:=by
 cases x with
 | str l =>
  rcases xs with _ | ⟨y,_ | ⟨z,t⟩⟩
  ·exact False.elim h
  ·cases y with
   | str t=>exact ⟨l,t,rfl,rfl,h⟩
   | _=>exact False.elim h
  ·cases y<;>exact False.elim h
 | _=>exact False.elim h
theorem zli_:MtR X "str.find" mFind:=by
 intro pins s σ H x xs v us Q I rx rv h
 obtain ⟨l,t,rfl,rfl,h⟩:=zir_ h
 obtain ⟨k,rfl⟩:=rx
 obtain ⟨u,rfl,ru⟩:=rv.one
 obtain ⟨k',rfl⟩:=ru
 refine SC.find ?_
 have e:Txt.find l t=findS l.cps.toList t.cps.toList:=by unfold findS; rw [← zM_,← zM_]
 rw [e]
 exact ⟨.int _,H,I.tok _,⟨_,rfl⟩,h⟩
def mIndex:V→List V→Hp→VK→Prop:=fun x xs H Q=>match x,xs with | .str l,[.str t]=>findS l.cps.toList t.cps.toList ≠ -1∧Q (.int (findS l.cps.toList t.cps.toList)) H | _,_=>False
theorem zjA_:MtR X "str.index" mIndex:=by
 intro pins s σ H x xs v us Q I rx rv h
 unfold mIndex at h
 split at h
 ·rename_i l t
  obtain ⟨k,rfl⟩:=rx
  obtain ⟨u,rfl,ru⟩:=rv.one
  obtain ⟨k',rfl⟩:=ru
  have e:Txt.find l t=findS l.cps.toList t.cps.toList:=by unfold findS; rw [← zM_,← zM_]
  rw [← e] at h
  unfold Txt.find at h
  cases ho:Builtin.Str.occurrences l t 0 l.length 1 with
  | nil=>rw [ho] at h; exact absurd rfl h.1
  | cons i rest =>
   rw [ho] at h
   exact SC.index ho ⟨.int _,H,I.tok _,⟨_,rfl⟩,h.2⟩
 ·exact h.elim
def strsOf:List V→Option (List Str)
 | []=>some []
 | .str z::r=>(strsOf r).map (z::·)
 | _::_=>none
theorem zgF_ {vs:List V}{zs:List Str}:strsOf vs=some zs→vs=zs.map V.str:=by
 induction vs generalizing zs with
 | nil=>intro h; cases h; rfl
 | cons v r ih =>
  intro h
  cases v with
  | str z =>
   unfold strsOf at h
   cases e:strsOf r with
   | none=>rw [e] at h; cases h
   | some y=>rw [e] at h; cases h; rw [ih e]; rfl
  | _=>cases h
def joinS (sep:List Nat) (zs:List Str):List Nat:=(Txt.join ⟨sep.toArray⟩ zs).cps.toList
def mJoin (K:Fgg):V→List V→Hp→VK→Prop:=fun x xs H Q=>match x,xs with
 | .str l,[.ref D]=>∃ vs,(SqL K H D vs)∧(match strsOf vs with | some zs=>JoinOk l zs=true∧Q (tx (joinS l.cps.toList zs)) H | none=>False)
 | _,_=>False
theorem zeQ_:∀ {zs:List Str}{us:List Value},Vals (zs.map V.str) us→∃ l:List (Str×Tok),us=strValues l∧l.map (·.1)=zs
 | [],us,r=>by cases r; exact ⟨[],rfl,rfl⟩
 | z::zs,us,r=>by
  cases r with
  | cons r rr =>
   obtain ⟨t,rfl⟩:=r
   obtain ⟨l,rfl,hl⟩:=zeQ_ rr
   exact ⟨(z,t)::l,rfl,by rw [List.map_cons,hl]⟩
theorem zhL_ {K:Fgg}{x:V}{xs:List V}{H:Hp}{Q:VK}(h:mJoin K x xs H Q):∃ l D,x=.str l∧xs=[.ref D]∧∃ vs,(SqL K H D vs)∧(match strsOf vs with | some zs=>JoinOk l zs=true∧Q (tx (joinS l.cps.toList zs)) H | none=>False):=by
 cases x with
 | str l =>
  rcases xs with _ | ⟨y,_ | ⟨z,t⟩⟩
  ·exact False.elim h
  ·cases y with
   | ref t=>exact ⟨l,t,rfl,rfl,h⟩
   | _=>exact False.elim h
  ·cases y<;>exact False.elim h
 | _=>exact False.elim h
theorem zkU_:MtR X "str.join" (mJoin X.K):=by
 intro pins s σ H x xs v us Q I rx rv h
 obtain ⟨l,D,rfl,rfl,h⟩:=zhL_ h
 ·obtain ⟨k,rfl⟩:=rx
  obtain ⟨u,rfl,ru⟩:=rv.one
  cases ru
  obtain ⟨vs,hs,h⟩:=h
  cases ez:strsOf vs with
  | none=>rw [ez] at h; exact h.elim
  | some zs =>
   rw [ez] at h
   have ev:=zgF_ ez
   subst ev
   obtain ⟨its,r,p,hz⟩:=I.list hs
   obtain ⟨lz,e1,e2⟩:=zeQ_ r
   subst e1
   refine SC.join p.isList e2 h.1 fun t' k'=>⟨tx (joinS l.cps.toList zs),H,I.tok _,⟨t',?_⟩,h.2⟩
   unfold joinS
   rw [← zM_,← zM_]
end
end L2
namespace L2
open PySem PySem.Spec PyProof.Rows
def Gd (P:Program) (w:World) (K:Fgg) (mg:Str→Option Value) (base:Heap) (CX:CXT) (k:Nat) (x:Str) (ps:List Str) (sp:Sp):Prop :=
 ∃ f fd,FnOk P w K mg base CX k f fd ps sp∧mg x=some (.ref f)∧PySem.W.keepIn K (.ref f)=true∧Binds K fd ps []
def Gc (mg:Str→Option Value) (x:Str) (v:V):Prop:=∃ u,mg x=some u∧RelV v u
abbrev Gb (mg:Str→Option Value) (x:Str):Prop:=mg x=none
section
variable {X:Cx}{CX:CXT}{k:Nat}{x:Str}{ps:List Str}{sp:Sp}{p pos:Pos}{e:Expr}{es:List Expr}{t:TA}{tg:Expr}
theorem zt_ (G:Gd X.prog X.w X.K X.mg X.base CX0 k x ps sp) (hr:Room k X.A) (ha:PA X (e::es) t) (hg:Gl X x:=by rfl) (hdb:(x == ("__debug__" : Str))=false:=by decide)
  (he:starEach (e::es) X.env=(false,eval e X.env)::starEach es X.env:=by rfl) (hpl:(backTo pos (starEach es X.env)).any (·.1)=false:=by rfl) :
  PE X (.Call (.Name x p) (e::es) [] pos) (tCall sp [] E0 t):=by
 obtain ⟨f,fd,F,hm,hk,hb⟩:=G
 exact zit_ F hr hg hm hk hb .nil pass0 ha hdb he hpl
theorem zex_ {v:V}(h:Gc X.mg x v) (hg:Gl X x:=by rfl) (hd:(x == ("__debug__" : Str))=false:=by decide):PE X (.Name x pos) (tC v):=by
 obtain ⟨u,hm,r⟩:=h
 exact ziX_ hg hm r hd
theorem zjc_ (T:String) (hm:Gb X.mg x) (hg:Gl X x:=by rfl) (hv:bootBuiltins x=some (.type T):=by rfl) (hn:x ≠ "__name__" := by decide) (hd:(x == ("__debug__" : Str))=false:=by decide):PE X (.Name x pos) (tC (.ty T)) :=
 zlQ_ hg hm hv rfl hn hd
theorem za7_ {id:String}{r:List V→Hp→VK→Prop}(hc:CallR X (.builtin id) r) (hm:Gb X.mg x) (ha:PA X (e::es) t) (hg:Gl X x:=by rfl) (hv:bootBuiltins x=some (.builtin id):=by rfl) (hn:x ≠ "__name__" := by decide) (hdb:(x == ("__debug__" : Str))=false:=by decide)
  (hs:starEach (e::es) X.env=(false,eval e X.env)::starEach es X.env:=by rfl) (hpl:(backTo pos (starEach es X.env)).any (·.1)=false:=by rfl):PE X (.Call (.Name x p) (e::es) [] pos) (tCB r t) :=
 zj7_ hc hg hm hv ha hn hdb hs hpl
theorem ziZ_ {o:Expr}{to:TE}{name:Str}{id:String}{r:V→List V→Hp→VK→Prop}{apos cpos:Pos}(slot:Slot "str" name id) (hty:typeOf (.builtin id)=pure (.type "method_descriptor")) (hm:MtR X id r) (ho:PE X o to) (ha:PA X (e::es) t)
  (h1:attributeBase o name X.env (eval o X.env)=eval o X.env:=by rfl) (h2:((((backTo cpos (starEach (e::es) X.env)).all fun x=>!x.fst) && (backToKw cpos (keywordEach [] X.env)).all fun x=>x.fst.isSome) && decide (((e::es).length+([]:List Keyword).length+if ([]:List Keyword).isEmpty=true then 0 else 1)<30))=true:=by rfl)
  (h3:(apos.endLine == cpos.line)=true:=by rfl) (h4:starEach (e::es) X.env=(false,eval e X.env)::starEach es X.env:=by rfl) (h5:((backTo cpos (starEach es X.env)).any fun x=>x.fst)=false:=by rfl) :
  PE X (.Call (.Attribute o name apos) (e::es) [] cpos) (tBM X.K "str" r to t):=zlG_ PySem.F.plainAttrs_str slot hty hm ho ha h1 h2 h3 h4 h5
def iAny (K:Fgg) (tl:TE):TI:=fun σ H R=>tl σ H fun x H1=>match x with
 | .str z=>R (Itp z.cps.toList.length (fun i=>tx [z.cps.toList.getD i 0])) H1
 | .ref a=>((∃ xs,SqL K H1 a xs)∧R (Itl K a) H1)∨((∃ xs,SqT K H1 a xs)∧R (Itt K a) H1)
 | _=>False
theorem zmE_ (z:Str):sgn z=fun i=>tx [z.cps.toList.getD i 0]:=by
 funext i
 unfold sgn
 simp [Array.getD_eq_getD_getElem?,List.getD_eq_getElem?_getD]
theorem zbh_ {l:Expr}{tl:TE}(hl:PE X l tl):PI X tg l (iAny X.K tl):=by
 intro pins s σ H R I h
 refine thn (hl pins s σ H _ I h) fun v s1 hq_=>?_
 obtain ⟨x,H1,I1,r1,q1⟩:=hq_
 have pt:∀ (v:V),PE X l (tC v)→PE X l (tC v):=fun _ h=>h
 cases x with
 | str z =>
  obtain ⟨t,rfl⟩:=r1
  refine wpAny_pyIter_strU ?_
  have q:R (Itp z.cps.size (sgn z)) H1:=by
   have e:z.cps.toList.length=z.cps.size:=by simp
   rw [zmE_,← e]
   exact q1
  refine ⟨s1.heap.objs.size,[s1.heap.objs.size],_,_,H1,rfl,I1.kept (t':=s1.toks) fun b o e=>Heap.get?_push_of_some _ e,zki_ _ z t,⟨Nat.zero_le _,⟨_,Heap.get?_push_size _ rfl,rfl,rfl⟩⟩,fun b hb=>?_,q⟩
  have e:b=s1.heap.objs.size:=by simpa using hb
  subst e
  exact I1.fpOk (Nat.le_refl _) (I1.hok.fresh (Nat.le_refl _))
 | ref a =>
  cases r1
  rcases q1 with ⟨⟨xs,hq⟩,q⟩ | ⟨⟨xs,hq⟩,q⟩
  ·obtain ⟨its,rv,p,hz⟩:=I1.list hq
   refine wpAny_pyIter_list p.isList ?_
   refine ⟨s1.heap.objs.size,[s1.heap.objs.size],_,_,H1,rfl,I1.kept (t':=s1.toks) fun b o e=>Heap.get?_push_of_some _ e,zhI_ a _,⟨_,Heap.get?_push_size _ rfl,rfl,rfl⟩,fun b hb=>?_,q⟩
   have e:b=s1.heap.objs.size:=by simpa using hb
   subst e
   exact I1.fpOk (Nat.le_refl _) (I1.hok.fresh (Nat.le_refl _))
  ·obtain ⟨its,rv,p,hz⟩:=I1.tuple hq
   refine wpAny_pyIter_tuple (show s1.heap.IsTuple a its.toArray from p) ?_
   refine ⟨s1.heap.objs.size,[s1.heap.objs.size],_,_,H1,rfl,I1.kept (t':=s1.toks) fun b o e=>Heap.get?_push_of_some _ e,zf4_ a _,⟨_,Heap.get?_push_size _ rfl,rfl,rfl⟩,fun b hb=>?_,q⟩
   have e:b=s1.heap.objs.size:=by simpa using hb
   subst e
   exact I1.fpOk (Nat.le_refl _) (I1.hok.fresh (Nat.le_refl _))
 | _=>exact q1.elim
def mRng1 (ta:TA):TI:=fun σ H R=>ta σ H fun vs H1=>match vs with | [.int j] => -(2 ^ 62)≤j∧j<2 ^ 62∧R (Itr 0 j.toNat) H1 | _=>False
end
section
variable {X:Cx}{tg:Expr}
theorem zcv_ {a:Expr}{ta:TA}{p pos:Pos}(hm:Gb X.mg "range") (ha:PA X [a] ta) (hg:Gl X "range" := by rfl) (hs:starEach [a] X.env=[(false,eval a X.env)]:=by rfl):PI X tg (.Call (.Name "range" p) [a] [] pos) (mRng1 ta):=by
 intro pins s σ H R I h
 refine Call_ (zib_ I hg hm boot_range (PyProof.Rows.callWith_type1 (thn (ha pos pins s σ H _ I h) fun us s1 hq_=>?_) hs rfl))
 obtain ⟨vs,H1,I1,r1,q1⟩:=hq_
 try dsimp only at q1
 split at q1
 ·obtain ⟨q2,q3,q⟩:=q1
  cases r1 with
  | cons r rr =>
   cases rr
   obtain ⟨t,rfl⟩:=r
   exact call_range_1 (zjv_ I1 (by lia) (by lia) q2 q3 (by simpa using q))
 ·exact q1.elim
variable {elts:List Expr}{kk:Nat}{tpos:Pos}
def gNilM:TGs:=fun vs σ H Q=>match vs with | []=>Q σ H | _=>False
def gConsM (t:TG) (u:TGs):TGs:=fun vs σ H Q=>match vs with | v::r=>t v σ H fun σ' H'=>u r σ' H' Q | []=>False
theorem zg7_:PGs X [] gNilM:=by
 intro pins s σ H vs us Q I r h
 cases vs with
 | nil=>exact zlZ_ pins s σ H [] us Q I r ⟨rfl,h⟩
 | cons _ _=>exact h.elim
theorem zbS_ {e:Expr}{es:List Expr}{t:TG}{u:TGs}(h1:PG X e t) (h2:PGs X es u)
  (hs:(assignEach (e::es) X.env).map (·.2)=assign e X.env::(assignEach es X.env).map (·.2):=by rfl):PGs X (e::es) (gConsM t u):=by
 intro pins s σ H vs us Q I r h
 cases vs with
 | nil=>exact h.elim
 | cons v vr=>exact zka_ h1 h2 hs pins s σ H _ us Q I r ⟨v,vr,rfl,h⟩
def gTupM (K:Fgg) (n:Nat) (t:TGs):TG:=fun v σ H Q=>match v with | .ref a=>∃ xs,SqT K H a xs∧xs.length=n∧t xs σ H Q | _=>False
theorem ziE_ {es:List Expr}{k:Nat}{t:TGs}{n:Nat}{pos:Pos}(hc:X.calm=true) (h:PGs X es t)
  (hn:(assignEach es X.env).length=n:=by rfl) (hst:(assignEach es X.env).findIdx? (·.1)=none:=by rfl):PG X (.Tuple es k pos) (gTupM X.K n t):=by
 intro pins s σ H v u Q I r hw
 cases v with
 | ref a =>
  obtain ⟨xs,h1,h2,h3⟩:=hw
  exact zml_ hc h hn hst pins s σ H _ u Q I r ⟨a,xs,rfl,h1,h2,h3⟩
 | _=>exact hw.elim
def mNeg (ta:TE):TE:=fun σ H Q=>ta σ H fun x H1=>match x with | .int i=>Q (.int (-i)) H1 | _=>False
theorem zkh_ {a:Expr}{ta:TE}{pos:Pos}(ha:PE X a ta):PE X (.UnaryOp .USub a pos) (mNeg ta):=by
 intro pins s σ H Q I h
 refine UnaryOp_ (thn (ha pins s σ H _ I h) fun v s1 hq_=>?_)
 obtain ⟨x,H1,I1,r1,q1⟩:=hq_
 cases x with
 | int i=>exact zmw_ pins s1 σ H1 _ v Q I1 r1 ⟨i,rfl,q1⟩
 | _=>exact q1.elim
end
theorem zas_ {H:Hp}{p:Addr}(h:H p=none) (o:HO):Same H (upd H p o):=fun b u q=>by rw [zO_ (zao_ q h)]; exact q
theorem Same.tup {K:Fgg}{H H':Hp}{a:Addr}{xs:List V}(e:Same H H') (h:SqT K H a xs):SqT K H' a xs:=by
 rcases h with (h | ⟨o,h⟩) | h
 ·exact .inl (.inl (e _ _ h))
 ·exact .inl (.inr ⟨o,e _ _ h⟩)
 ·exact .inr h
end L2
namespace L2
open PySem PySem.Spec PyProof.Rows
theorem zb5_ {n:Nat}(h:n≤100000):n≤sizeLine:=by rw [sizeLine_eq]; lia
end L2
namespace L2
open PySem PySem.Spec PyProof.Rows
section
variable {X:Cx}{tg:Expr}
def mSet:TSet:=fun o i v H Q=>match i with
 | .int k=>(match o with
  | .ref p=>∃ xs,H p=some (.lst xs)∧(match ixN xs.length k with | some j=>Q (upd H p (.lst (xs.set j v))) | none=>False)
  | _=>False)
 | _=>False
theorem set_M:PSet X mSet:=by
 intro pins s σ H o i v ov iv u Q I ro ri rv h
 unfold mSet at h
 cases i with
 | int k =>
  cases o with
  | ref p =>
   obtain ⟨xs,h1,h⟩:=h
   cases e:ixN xs.length k with
   | none=>rw [e] at h; exact h.elim
   | some j =>
    rw [e] at h
    exact zji_ pins s σ H _ _ v ov iv u Q I ro ri rv ⟨p,xs,k,j,rfl,rfl,h1,e,h⟩
  | _=>exact h.elim
 | _=>exact h.elim
theorem zlU_ {n:Nat}{k:Int}(h0:0≤k) (h1:k<n):ixN n k=some k.toNat:=by unfold ixN; rw [if_pos h0,if_pos h1]
def strI (i:Int):List Nat:=(Str.ofString (toString i)).cps.toList
def mStr:List V→Hp→VK→Prop:=fun xs H Q=>match xs with | [.int i]=>i.natAbs.log2<1920∧Q (tx (strI i)) H | _=>False
theorem zbX_:CallR X (.type "str") mStr:=by
 intro pins s σ H xs us Q I r h
 unfold mStr at h
 split at h
 ·rename_i i
  refine zeB_ pins s σ H _ us Q I r ⟨i,rfl,h.1,?_⟩
  have e:tx (strI i)=V.str (Str.ofString (toString i)):=by unfold strI tx; rw [← zM_]
  rw [← e]
  exact h.2
 ·exact h.elim
end
section
variable {X:Cx}{x:Str}{p pos:Pos}{e:Expr}{es:List Expr}{t:TA}
theorem zkx_ (T:String) {r:List V→Hp→VK→Prop}(hc:CallR X (.type T) r) (hm:Gb X.mg x) (ha:PA X (e::es) t) (hg:Gl X x:=by rfl) (hv:bootBuiltins x=some (.type T):=by rfl) (hn:x ≠ "__name__" := by decide) (hdb:(x == ("__debug__" : Str))=false:=by decide)
  (hs:starEach (e::es) X.env=(false,eval e X.env)::starEach es X.env:=by rfl) (hpl:(backTo pos (starEach es X.env)).any (·.1)=false:=by rfl):PE X (.Call (.Name x p) (e::es) [] pos) (tCB r t) :=
 zhZ_ hc hg hm hv ha hn hdb hs hpl
end
end L2
namespace L2
open PySem PySem.Spec PyProof.Rows
end L2
namespace L2
open PySem PySem.Spec PyProof.Rows
def numL (l:List Nat):Int:=l.foldl (fun (v:Int) (c:Nat)=>v*10+((c:Int)-48)) 0
theorem zgx_ {c:Nat}(h:48≤c∧c≤57):findS [48,49,50,51,52,53,54,55,56,57] [c]=(c:Int)-48:=by
 rw [zge_]
 obtain ⟨h1,h2⟩:=h
 have:c=48∨c=49∨c=50∨c=51∨c=52∨c=53∨c=54∨c=55∨c=56∨c=57:=by lia
 rcases this with rfl | rfl | rfl | rfl | rfl | rfl | rfl | rfl | rfl | rfl<;>rfl
end L2
namespace L2
open PySem PySem.Spec PyProof.Rows
def Dc (x:Addr) (d:Option Addr) (h:Heap):Prop:=∃ o,h.get? x=some o∧o.dict=d∧∀ vs,o.data=.fields vs→vs[2]?=some .none
theorem zlS_ (o:Obj) (f):(o.mapFields f).dict=o.dict:=by obtain ⟨c,d,dt,sl⟩:=o; cases dt<;>rfl
section
variable {M:Model}{A:Around}{E:Value→Shared→Prop}{s:Shared}{base:Heap}{env:Env}{outer l:List Env}{L e:Addr}{cls a0 fl:Value}{d:Option Addr}{Q:Unit→Shared→Prop}
theorem ent_d {oe:Obj}{vs:Array Value}{head:Value}{nx:Bool}(hfr:A.frames=some (env::outer)) (hl:s.heap.FunFrames base (env::outer)) (hf:env.frame=some L) (he:s.heap.get? e=some oe) (hkb:base.StaysIn s.heap) (hen:base.get? e=none) (hd:oe.data=.fields vs) (hsz:1<vs.size) (h0:vs[0]?=some a0) (hx2:vs[2]?=some .none)
  (k:∀ h',Heap.NotedW base (env::outer) e oe.cls a0 (rawInt L) s.heap h'→Dc e oe.dict h'→Q () { s with heap:=h' }) :
  wpAny M A (do let a ← frameOf env; let pl ← entryPlaceOf L nx; let b ← EntryCells.newEntry head a .none (rawInt L) .none pl; setField (.ref e) 1 b) Q E s:=by
 have out:e∉(env::outer).filterMap (·.frame):=fun hm=>by obtain ⟨_,o,ho,hnf⟩:=hl.mem hm; cases he.symm.trans ho; exact hnf vs hd
 refine wpAny_bind (wpAny_frameOf_fun hfr hl hf fun g1 so=>wpAny_bind (wpAny_entryPlaceOf fun pl hpl=>?_))
 unfold EntryCells.newEntry newFields; refine wpAny_bind (wpAny_newObj_type ?_ (hpl.sizeOk5 _ _ _ _ _))
 have e1:g1.get? e=some oe:=(so.2.1 e out).trans he
 have b1:base.StaysIn g1:=fun b o q=>(so.2.1 b fun hm=>by have:=(hl.mem hm).1; rw [q] at this; cases this).trans (hkb b o q)
 have ne:g1.objs.size≠e:=Nat.ne_of_gt (Heap.lt_size e1)
 generalize hOb:({ cls:=.type "traceback",dict:=none,data:=.fields ([head,.ref L,.none,rawInt L,.none]++(if pl.isEmpty then List.replicate 6 Value.none else pl)).toArray }:Obj)=ob
 have obd:ob.data=.fields ([head,.ref L,.none,rawInt L,.none]++(if pl.isEmpty then List.replicate 6 Value.none else pl)).toArray:=by rw [← hOb]
 have obf:ob.isFreed=false:=Obj.isFreed_of_fields obd
 have e2:(g1.push ob).get? e=some oe:=Heap.get?_push_of_some ob e1
 have d3:=Obj.data_mapFields hd (·.setIfInBounds 1 (Value.ref g1.objs.size))
 have e3:=Heap.get?_update_self (Obj.mapFields (·.setIfInBounds 1 (Value.ref g1.objs.size))) e2 (Obj.isFreed_of_fields d3)
 have t3:((g1.push ob).update e (Obj.mapFields (·.setIfInBounds 1 (Value.ref g1.objs.size)))).get? g1.objs.size=some ob:=(Heap.get?_update_other _ _ ne.symm).trans (Heap.get?_push_size g1 obf)
 have old:∀ b o,b≠e→g1.get? b=some o→((g1.push ob).update e (Obj.mapFields (·.setIfInBounds 1 (Value.ref g1.objs.size)))).get? b=some o:=fun b o hb q=>(Heap.get?_update_other _ _ hb.symm).trans (Heap.get?_push_of_some ob q)
 have nrec:∀ b o,s.heap.get? b=some o→(∀ vs,o.data≠.fields vs)→b≠e:=fun b o q hnf z=>by rw [z,he] at q; cases q; exact hnf vs hd
 refine wpAny_setField e2 hd hsz (k _ ⟨fun b o q=>old b o (fun z=>by rw [z,hen] at q; cases q) (b1 b o q),hl.of_keeps fun b o q hnf=>?_,?_,fun b o q hnf=>?_⟩ ⟨_,e3,zlS_ _ _,fun ws q=>by cases d3.symm.trans q; rw [Array.getElem?_setIfInBounds_ne (by decide)]; exact hx2⟩)
 ·obtain ⟨sl,z⟩:=so.2.2 b o q; exact ⟨_,old b _ (nrec b o q hnf) z,rfl⟩
 ·exact ⟨_,_,_,_,_,e3,⟨Obj.cls_mapFields _ _,by rw [Array.getElem?_setIfInBounds_ne (by decide)]; exact h0⟩,d3,by simp [hsz],b1.fresh,ne,t3,obd,by first | (simp; done) | (rcases hpl with rfl | ⟨_,_,_,_,_,_,_,rfl⟩<;>simp)⟩
 ·obtain ⟨sl,z⟩:=so.2.2 b o q; exact ⟨sl,old b _ (nrec b o q hnf) z⟩
theorem fl_d (hkb:base.StaysIn s.heap) (hl:s.heap.FunFrames base l) (ht:s.heap.TracedAtW base e cls a0 fl) (hD:Dc e d s.heap)
  (k:∀ h',base.StaysIn h'→h'.FunFrames base l→h'.TracedW base e cls a0→s.heap.UpToSlots h'→Dc e d h'→Q () { s with heap:=h' }):wpAny M A (setFlight (.ref e) none) Q E s:=by
 obtain ⟨oe,vs,T,oT,ts,he,hc,hd,h1,hnT,hTe,hT,hdT,h3⟩:=ht
 have h3s:3<ts.size:=(Array.getElem?_eq_some_iff.mp h3).1
 have oth:∀ b,b≠T→(s.heap.update T (Obj.mapFields (·.setIfInBounds 3 ((none:Option Addr).elim Value.none fun f=>rawInt f)))).get? b=s.heap.get? b:=fun b z=>Heap.get?_update_other _ _ (Ne.symm z)
 have nrec:∀ b o,s.heap.get? b=some o→(∀ vs,o.data≠.fields vs)→b≠T:=fun b o q hnf z=>by rw [z,hT] at q; cases q; exact hnf ts hdT
 unfold setFlight; refine wpAny_bind (wpAny_field he hd h1 ?_); rw [if_pos (show (Value.ref T != Value.none)=true by simp)]
 refine wpAny_setField hT hdT h3s (k _ (fun b o q=>(oth b fun z=>by rw [z,hnT] at q; cases q).trans (hkb b o q)) (hl.of_keeps fun b o q hnf=>⟨o,(oth b (nrec b o q hnf)).trans q,rfl⟩) ?_ (fun b o q hnf=>⟨o.slots,(oth b (nrec b o q hnf)).trans q⟩) ?_)
 ·exact ⟨oe,vs,T,_,_,(oth e hTe.symm).trans he,hc,hd,h1,hnT,hTe,Heap.get?_update_self _ hT (Obj.isFreed_of_fields (Obj.data_mapFields hdT _)),Obj.data_mapFields hdT _,by simp [h3s]⟩
 ·obtain ⟨o,q,z⟩:=hD; exact ⟨o,(oth e hTe.symm).trans q,z⟩
theorem zlj_ {oe:Obj}{vs:Array Value}(hfr:A.frames=some (env::outer)) (hl:s.heap.FunFrames base (env::outer)) (hf:env.frame=some L) (he:s.heap.get? e=some oe) (hkb:base.StaysIn s.heap) (hen:base.get? e=none) (hd:oe.data=.fields vs) (h1:vs[1]?=some .none) (h0:vs[0]?=some a0) (hx2:vs[2]?=some .none)
  (k:∀ h',Heap.NotedW base (env::outer) e oe.cls a0 (rawInt L) s.heap h'→Dc e oe.dict h'→Q () { s with heap:=h' }):wpAny M A (noteFrame (.ref e) env) Q E s:=by
 unfold noteFrame; simp only [hf]; refine wpAny_bind (wpAny_field he hd h1 ?_); rw [if_neg (by decide)]
 exact ent_d hfr hl hf he hkb hen hd (Array.getElem?_eq_some_iff.mp h1).1 h0 hx2 k
theorem zi5_ (hfr:A.frames=some (env::outer)) (hl:s.heap.FunFrames base (env::outer)) (hf:env.frame=some L) (ht:s.heap.TracedW base e cls a0) (hkb:base.StaysIn s.heap) (hen:base.get? e=none) (hD:Dc e d s.heap)
  (k:∀ h',Heap.NotedW base (env::outer) e cls a0 (rawInt L) s.heap h'→Dc e d h'→Q () { s with heap:=h' }):wpAny M A (noteFrame (.ref e) env) Q E s:=by
 obtain ⟨oe,vs,T,oT,ts,he,⟨rfl,h0⟩,hd,h1,hnT,hTe,hT,hdT,h3⟩:=ht
 obtain ⟨rfl,hx⟩:oe.dict=d∧vs[2]?=some .none:=by obtain ⟨o,q,z,z2⟩:=hD; cases he.symm.trans q; exact ⟨z,z2 _ hd⟩
 unfold noteFrame; simp only [hf]; refine wpAny_bind (wpAny_field he hd h1 ?_); rw [if_pos (show (Value.ref T != Value.none)=true by simp)]
 refine wpAny_bind (wpAny_field hT hdT h3 ?_); rw [if_neg (show ¬ ((Value.none == rawInt L)=true) by simp [rawInt])]; refine wpAny_bind (wpAny_setField hT hdT (Array.getElem?_eq_some_iff.mp h3).1 ?_)
 have oth:∀ b,b≠T→(s.heap.update T (Obj.mapFields (·.setIfInBounds 3 Value.none))).get? b=s.heap.get? b:=fun b z=>Heap.get?_update_other _ _ (Ne.symm z)
 have nrec:∀ b o,s.heap.get? b=some o→(∀ vs,o.data≠.fields vs)→b≠T:=fun b o q hnf z=>by rw [z,hT] at q; cases q; exact hnf ts hdT
 refine ent_d (s:={ s with heap:=s.heap.update T (Obj.mapFields (·.setIfInBounds 3 Value.none)) }) hfr (hl.of_keeps fun b o q hnf=>⟨o,(oth b (nrec b o q hnf)).trans q,rfl⟩) hf ((oth e hTe.symm).trans he) (fun b o q=>(oth b fun z=>by rw [z,hnT] at q; cases q).trans (hkb b o q)) hen hd (Array.getElem?_eq_some_iff.mp h1).1 h0 hx
  fun h' ⟨x1,x2,x3,x4⟩ dd=>k h' ⟨x1,x2,x3,fun b o q hnf=>x4 b o ((oth b (nrec b o q hnf)).trans q) hnf⟩ dd
theorem zdQ_ {h h1 h2:Heap}(n:Heap.NotedW base l e cls a0 fl h h1) (a:base.StaysIn h2) (b:h2.FunFrames base l) (c:h2.TracedW base e cls a0) (u:h1.UpToSlots h2):Heap.LeftW base l e cls a0 h h2 :=
 ⟨a,b,c,fun x o q hnf=>by obtain ⟨sl,z⟩:=n.2.2.2 x o q hnf; obtain ⟨sl',z'⟩:=u x _ z hnf; exact ⟨sl',z'⟩⟩
theorem zj6_ {oe:Obj}{vs:Array Value}(hfr:A.frames=some (env::outer)) (hl:s.heap.FunFrames base (env::outer)) (hf:env.frame=some L) (he:s.heap.get? e=some oe) (hkb:base.StaysIn s.heap) (hen:base.get? e=none) (hd:oe.data=.fields vs) (h1:vs[1]?=some .none) (h0:vs[0]?=some a0) (hx2:vs[2]?=some .none)
  (k:∀ h',Heap.LeftW base (env::outer) e oe.cls a0 s.heap h'→Dc e oe.dict h'→Q () { s with heap:=h' }):wpAny M A (leaving env (.ref e)) Q E s:=by
 unfold leaving; refine wpAny_bind (zlj_ hfr hl hf he hkb hen hd h1 h0 hx2 fun h' n dd=>?_)
 exact fl_d n.1 n.2.1 n.2.2.1 dd fun h2 a b c u dd=>k h2 (zdQ_ n a b c u) dd
theorem zja_ (hfr:A.frames=some (env::outer)) (hl:s.heap.FunFrames base (env::outer)) (hf:env.frame=some L) (ht:s.heap.TracedW base e cls a0) (hkb:base.StaysIn s.heap) (hen:base.get? e=none) (hD:Dc e d s.heap)
  (k:∀ h',Heap.LeftW base (env::outer) e cls a0 s.heap h'→Dc e d h'→Q () { s with heap:=h' }):wpAny M A (leaving env (.ref e)) Q E s:=by
 unfold leaving; refine wpAny_bind (zi5_ hfr hl hf ht hkb hen hD fun h' n dd=>?_)
 exact fl_d n.1 n.2.1 n.2.2.1 dd fun h2 a b c u dd=>k h2 (zdQ_ n a b c u) dd
end
def XAt (x C:Addr) (d:Option Addr) (h:Heap):Prop:=∃ o vs,h.get? x=some o∧o.cls=.ref C∧o.dict=d∧o.data=.fields vs∧vs[2]?=some .none
abbrev XO (x C:Addr) (d:Option Addr):HO:=.ext (XAt x C d)
theorem xo_ok {P:Program}{w:World}{H:Hp}{x C:Addr}{d:Option Addr}{h:Heap}(q:XAt x C d h):ObjOk P w H h x (XO x C d):=by
 obtain ⟨o,vs,a,b⟩:=q
 exact ⟨⟨o,vs,a,b⟩,⟨o,a⟩,fun h1 h2 ⟨o,vs,z1,z2⟩ k=>⟨o,vs,k o z1,z2⟩⟩
def DAt (dx:Addr) (fs:List (Str×V)) (h:Heap):Prop:=∃ mA,h.Ns1 dx mA∧(∀ f,RelO (fs.lookup f) (mA f))∧PySem.Within mA (fs.map (·.1))
abbrev XDO (dx:Addr) (fs:List (Str×V)):HO:=.ext (DAt dx fs)
theorem xd_ok {P:Program}{w:World}{H:Hp}{dx:Addr}{fs:List (Str×V)}{h:Heap}(q:DAt dx fs h):ObjOk P w H h dx (XDO dx fs) :=
 ⟨q,(by obtain ⟨_,⟨_,_,_,e,_⟩,_⟩:=q; exact ⟨_,e⟩),fun h1 h2 ⟨mA,⟨o,es,ep,e,c⟩,r⟩ k=>⟨mA,⟨o,es,ep,k o e,c⟩,r⟩⟩
structure FlyX (x T C:Addr) (d:Option Addr) (H:Hp) (hb h:Heap):Prop where
 obj:∃ oe vs a0 oT ts,h.get? x=some oe∧(oe.cls=.ref C∧vs[0]?=some a0)∧oe.data=.fields vs∧vs[1]?=some (.ref T)∧T≠x∧h.get? T=some oT∧oT.data=.fields ts∧ts[3]?=some .none
 dc:Dc x d h
 hx:H x=none
 hT:H T=none
 nx:hb.get? x=none
 nT:hb.get? T=none
def CXx (P:Program) (w:World):CXT:=fun outer H s E e s'=>∃ x T C d H',e=.ref x∧s'.os=s.os∧AllBare s'.gens∧Un (frs outer) [] H H' s.heap s'.heap∧HOk P w H' s'.heap ∧
 FlyX x T C d H' s.heap s'.heap∧E (.ref C) d H'
theorem HOk.at_ {P:Program}{w:World}{H:Hp}{h:Heap}{a:Addr}{o:HO}(x:HOk P w H h) (e:H a=some o):∃ u,h.get? a=some u:=by
 have q:=x a o e
 clear e x
 induction o with
 | lst xs=>obtain ⟨_,_,_,_,e⟩:=q; exact ⟨_,e⟩
 | tup xs=>obtain ⟨_,_,_,o,e,_⟩:=q; exact ⟨_,e⟩
 | dK kvs=>obtain ⟨_,_,_,_,o,_,_,e,_⟩:=q; exact ⟨_,e⟩
 | dT kvs=>obtain ⟨_,_,_,_,o,_,_,e,_⟩:=q; exact ⟨_,e⟩
 | set S n=>obtain ⟨o,_,_,_,e,_⟩:=q; exact ⟨_,e⟩
 | ins C dx fs=>obtain ⟨_,_,_,e,_⟩:=q; exact ⟨_,e⟩
 | own y=>obtain ⟨_,e⟩:=q; exact ⟨_,e⟩
 | xd fs=>obtain ⟨_,⟨_,_,_,e,_⟩,_⟩:=q; exact ⟨_,e⟩
 | rng lo hi=>obtain ⟨_,_,_,e⟩:=q; exact ⟨_,e⟩
 | frz ob u _=>obtain ⟨e,_⟩:=q; exact ⟨_,e⟩
 | tbl ps=>exact ⟨_,(show h.get? a=some _ from q)⟩
 | met f y=>exact ⟨_,(show h.get? a=some _ from q)⟩
 | ext φ=>obtain ⟨_,⟨_,e⟩,_⟩:=q; exact ⟨_,e⟩
theorem HOk.none_at {P:Program}{w:World}{H:Hp}{h:Heap}{a:Addr}(x:HOk P w H h) (e:h.get? a=none):H a=none:=by
 cases q:H a with
 | none=>rfl
 | some o =>
  obtain ⟨u,z⟩:=x.at_ q
  rw [e] at z; cases z
section
variable {X:Cx}{pins:Pnn}{σ:St}{H:Hp}{s:Shared}
theorem zmP_ (hst:X.stack=X.env::X.outer) {b:Addr}(h:b∈X.fs):b∈frs X.stack:=by
 rw [hst]
 unfold Cx.fs frs at *
 rw [List.filterMap_cons]
 split
 ·exact h
 ·exact List.mem_cons_of_mem _ h
theorem ze4_ (I:Inv X pins σ H s) (hst:X.stack=X.env::X.outer) (hex:X.ex=[]) {x C:Addr}{a0:Value}{ex:List Addr}{h2:Heap}(hxs:∀ b∈ex,H b=none∧X.s₀.heap.get? b=none) (hx:x∈ex)
  {d:Option Addr}(L:Heap.LeftW (PySem.W.hideAll s.heap (frs X.stack++ex)) X.stack x (.ref C) a0 s.heap h2) (dd:Dc x d h2) :
  ∃ T,Un (frs X.outer) [] X.H₀ H X.s₀.heap h2∧HOk X.prog X.w H h2∧FlyX x T C d H X.s₀.heap h2:=by
 obtain ⟨st,ff,⟨oe,vs,T,oT,ts,he,hc,hd,h1,hnT,hTe,hT,hdT,h3⟩,up⟩:=L
 have nex:∀ b:Addr,b∉X.ex:=fun b z=>by rw [hex] at z; cases z
 have keepS:∀ b o,s.heap.get? b=some o→b∉frs X.stack→b∉ex→h2.get? b=some o:=fun b o q n1 n2=>st b o (PySem.W.hideAll_get _ q fun z=>(List.mem_append.mp z).elim n1 n2)
 have slotS:∀ b o,s.heap.get? b=some o→b∈frs X.stack→∃ sl,h2.get? b=some { o with slots:=sl }:=fun b o q hb=>up b o q (by
  obtain ⟨_,o',q',d⟩:=I.stack.mem hb
  cases q.symm.trans q'
  exact d)
 have notL:∀ b o,X.s₀.heap.get? b=some o→b≠X.env.locals:=fun b o q=>Nat.ne_of_lt (Nat.lt_of_lt_of_le (Heap.lt_size q) I.ok.above)
 have notX:∀ b o,X.s₀.heap.get? b=some o→b∉ex:=fun b o q z=>by
  have:=(hxs b z).2
  rw [q] at this; cases this
 have notF:∀ b o,X.s₀.heap.get? b=some o→b∉X.fs→b∉frs X.stack:=fun b o q n z=>by
  rcases List.mem_cons.mp (I.stkSub b z) with e | e
  ·exact notL b o q e
  ·exact n e
 have young:∀ b,s.heap.get? b=none→X.s₀.heap.get? b=none:=fun b q=>by
  cases e:X.s₀.heap.get? b with
  | none=>rfl
  | some o =>
   obtain ⟨o',z⟩:=I.base.there b o e (nex b)
   rw [q] at z; cases z
 refine ⟨T,⟨fun b o q n hb _=>?_,fun b o q n hb _=>?_,fun b o q n _=>I.base.free b o q n (nex b),fun b o q _=>?_,I.base.tups,I.base.frzs,I.base.tbls⟩,fun a o e=>?_,⟨oe,vs,a0,oT,ts,he,hc,hd,h1,hTe,hT,hdT,h3⟩,dd,(hxs x hx).1,?_,(hxs x hx).2,?_⟩
 ·exact keepS b o (I.base.keep b o q n hb (nex b)) (notF b o q hb) (notX b o q)
 ·obtain ⟨sl,e⟩:=I.base.slot b o q n hb (nex b)
  obtain ⟨sl',e'⟩:=slotS b _ e (zmP_ hst hb)
  exact ⟨sl',e'⟩
 ·obtain ⟨o',e⟩:=I.base.there b o q (nex b)
  by_cases hb:b∈frs X.stack
  ·obtain ⟨sl',e'⟩:=slotS b _ e hb
   exact ⟨_,e'⟩
  ·exact ⟨o',keepS b o' e hb (notX b o q)⟩
 ·refine (I.hok a o e).stay (fun b u hb q=>?_) (fun _ q=>q) fun _ _ q=>q
  have tr:∃ o,H b=some o:=by
   rcases hb with rfl | hb
   ·exact ⟨_,e⟩
   ·exact ⟨_,hb⟩
  obtain ⟨ob,tr⟩:=tr
  refine keepS b u q (fun z=>?_) fun z=>?_
  ·rw [I.stkFree b z] at tr; cases tr
  ·rw [(hxs b z).1] at tr; cases tr
 all_goals
  by_cases hTx:T∈ex
  ·first | exact (hxs T hTx).1 | exact (hxs T hTx).2
  by_cases hTf:T∈frs X.stack
  ·obtain ⟨_,o',q',d⟩:=I.stack.mem hTf
   obtain ⟨sl,e'⟩:=slotS T o' q' hTf
   rw [hT] at e'
   cases e'
   exact absurd hdT (d ts)
  have q:s.heap.get? T=none:=by
   cases e:s.heap.get? T with
   | none=>rfl
   | some o =>
    rw [PySem.W.hideAll_get _ e fun z=>(List.mem_append.mp z).elim hTf hTx] at hnT
    cases hnT
  first | exact I.hok.none_at q | exact young T q
end
section
variable {P:Program}{w:World}{K:Fgg}{mg:Str→Option Value}{base:Heap}{N:List Str}{qual:Str}{scope:Scope}{f:Addr}{cd:Value}{A:Around}{outer:List Env}{s0:Shared}{H0:Hp}{E:XK}
theorem zjK_ {l:List Env}{more:List Addr}:∀ env∈l,∀ a,env.frame=some a→a∈frs l++more:=fun env he a hf=>List.mem_append_left _ (List.mem_filterMap.mpr ⟨env,he,hf⟩)
def Takes (X:Cx) (E:XK):Prop:=∀ (pins:Pnn) (σ:St) (H:Hp) (s:Shared) (x C:Addr) (oe:Obj) (vs:Array Value) (a0:Value),Inv X pins σ H s→H x=none→X.s₀.heap.get? x=none→s.heap.get? x=some oe→oe.cls=.ref C→oe.data=.fields vs→vs[1]?=some .none→vs[0]?=some a0→vs[2]?=some .none→E (.ref C) oe.dict H→X.xe (.ref x) s
theorem za1_:Takes (cxOf (CXx P w) P w K mg base N qual scope f cd A outer s0 H0 E) E:=by
 intro pins σ H s x C oe vs a0 I hx hx0 he hc hd h1 h0 hx2 hE
 show wpAny _ _ (leaving _ _) _ _ _
 refine zj6_ (base:=PySem.W.hideAll s.heap (frs (envOfC qual scope s0.heap.objs.size f cd::outer)++[x])) (a0:=a0) I.ok.frames (PySem.W.funFrames_hide I.stack zjK_) rfl he (fun b o q=>PySem.W.of_hideAll _ q)
  (PySem.W.hideAll_none _ (List.mem_append_right _ List.mem_cons_self)) hd h1 h0 hx2 fun h2 L dd=>?_
 rw [hc] at L
 obtain ⟨T,u,ok,fly⟩:=ze4_ (ex:=[x]) I rfl rfl (fun b hb=>by
  rw [List.mem_singleton.mp hb]
  exact ⟨hx,hx0⟩) List.mem_cons_self L dd
 exact ⟨x,T,C,_,H,rfl,I.os,I.bare,u,ok,fly,hE⟩
theorem Takes.made {X:Cx}(hT:Takes X E) {pins:Pnn}{σ:St}{H:Hp}{s:Shared}{h:Heap}{x C:Addr}{args:List Value}(I:Inv X pins σ H s) (hex:X.ex=[]) (hx:Heap.MadeExcOf s.heap h x (.ref C) args) (hE:E (.ref C) none H):X.xe (.ref x) { s with heap:=h }:=by
 obtain ⟨t,he,htn,ht⟩:=hx.there
 refine hT pins σ H { s with heap:=h } x C _ _ _ (I.kept (t':=s.toks) hx.keeps) (I.hok.none_at hx.new) ?_ he rfl rfl rfl rfl rfl hE
 cases e:X.s₀.heap.get? x with
 | none=>rfl
 | some o =>
  obtain ⟨o',z⟩:=I.base.there x o e (fun z=>by rw [hex] at z; cases z)
  rw [hx.new] at z; cases z
theorem zbY_:Passes (CXx P w) (cxOf (CXx P w) P w K mg base N qual scope f cd A outer s0 H0 E) E:=by
 intro pins σ H s e s' I h
 obtain ⟨x,T,C,d,H',rfl,os,bare,un,ok,fly,hE⟩:=h
 have I1:Inv (cxOf (CXx P w) P w K mg base N qual scope f cd A outer s0 H0 E) pins σ H' s':=I.call' (ch:=[]) os un ok bare (fun b z=>absurd z (by simp))
 obtain ⟨oe,vs,a0,oT,ts,he,hc,hd,h1,hTe,hT,hdT,h3⟩:=fly.obj
 show wpAny _ _ (leaving _ _) _ _ _
 refine zja_ (base:=PySem.W.hideAll s'.heap (frs (envOfC qual scope s0.heap.objs.size f cd::outer)++[x,T])) (cls:=.ref C) (a0:=a0) I.ok.frames (PySem.W.funFrames_hide I1.stack zjK_) rfl
  ⟨oe,vs,T,oT,ts,he,hc,hd,h1,PySem.W.hideAll_none _ (List.mem_append_right _ (List.mem_cons_of_mem _ List.mem_cons_self)),hTe,hT,hdT,h3⟩ (fun b o q=>PySem.W.of_hideAll _ q)
  (PySem.W.hideAll_none _ (List.mem_append_right _ List.mem_cons_self)) fly.dc fun h2 L dd=>?_
 have old:∀ b,s.heap.get? b=none→s0.heap.get? b=none:=fun b q=>by
  cases e:s0.heap.get? b with
  | none=>rfl
  | some o =>
   obtain ⟨o',z⟩:=I.base.there b o e (fun z=>nomatch z)
   rw [q] at z; cases z
 obtain ⟨T2,u,ok2,fly2⟩:=ze4_ (ex:=[x,T]) I1 rfl rfl (fun b hb=>by
  rcases List.mem_cons.mp hb with rfl | hb
  ·exact ⟨fly.hx,old _ fly.nx⟩
  ·rw [List.mem_singleton.mp hb]
   exact ⟨fly.hT,old _ fly.nT⟩) List.mem_cons_self L dd
 exact ⟨x,T2,C,d,H',rfl,I1.os,I1.bare,u,ok2,fly2,hE⟩
end
end L2
namespace L2
open PySem PySem.Spec PyProof.Rows
abbrev bmV:List Value:=[.type "ValueError",.type "Exception",.type "BaseException",.type "object"]
def excK (K:Fgg) (C:Addr):Bool:=PySem.W.excIn K C bmV "ValueError.__new__"
def gA (K:Fgg) (x:Str):Addr:=match PySem.W.nsIn K mainGlobals x with | some (some (.ref c))=>c | _=>0
theorem zlV_ {K:Fgg}{x:Str}{c:Addr}(h:PySem.W.nsIn K mainGlobals x=some (some (.ref c))):gA K x=c:=by unfold gA; rw [h]
theorem zl8_ {K:Fgg}{h:Heap}{C:Addr}(kin:K.In h) (q:excK K C=true) :
  ∃ nm qn N bs bm hd sn sub ab col dd k0 k1 k2 k3 k5 mN,h.get? C=some (excClassObj nm qn C N bs bm hd sn sub ab col dd k0 k1 k2 k3 k5 "ValueError.__new__")∧h.Ns N mN∧mN "__init__" = none∧OwnTail h bmV bm:=by
 unfold excK PySem.W.excIn at q
 split at q
 case h_2=>cases q
 case h_1 dx cx slx at1 =>
  split at q
  case h_2=>cases q
  case h_1 Cx tl y0 y1 y2 y3 yn y5 m1 m2 =>
   rw [Bool.and_eq_true,Bool.and_eq_true,Bool.and_eq_true,Bool.and_eq_true,Bool.and_eq_true] at q
   obtain ⟨⟨⟨⟨⟨q1,q2⟩,q3⟩,q4⟩,q5⟩,q6⟩:=q
   replace q1:=beq_iff_eq.mp q1
   replace q2:=beq_iff_eq.mp q2
   replace q6:=beq_iff_eq.mp q6
   replace q3:cx.hasDel=false:=by simpa using q3
   subst q1 q2
   cases cx
   dsimp only at m1 q3 q5 q6
   subst m1 q3
   cases slx
   dsimp only at m2
   subst m2
   exact ⟨_,_,_,_,tl,_,_,_,_,_,dx,y0,y1,y2,y3,y5,_,kin _ _ at1,.of_isNs (PySem.W.isNs_of_in kin q5),PySem.W.nsMap_none_of_in kin q5 q6,PySem.W.tail_of_in kin q4⟩
section
variable {X:Cx}{E:XK}{C:Addr}{x:Str}{e:Expr}{es:List Expr}{t:TA}{np cpos pos:Pos}
def tRaise (C:Addr) (E:XK) (t:TA):TS:=fun _ σ H=>t σ H fun vs H1=>vs.length≤100∧E (.ref C) none H1
theorem zbw_ (hT:Takes X E) (hcm:X.calm=true) (hq:excK X.K C=true) (hm:X.mg x=some (.ref C)) (ha:PA X (e::es) t) (hg:Gl X x:=by rfl) (hdb:(x == ("__debug__" : Str))=false:=by decide)
  (he:starEach (e::es) X.env=(false,eval e X.env)::starEach es X.env:=by rfl) (hpl:(backTo cpos (starEach es X.env)).any (·.1)=false:=by rfl) (hex:X.ex=[]:=by rfl) :
  PS X (.Raise (some (.Call (.Name x np) (e::es) [] cpos)) none pos) (tRaise C E t):=by
 intro pins s σ H D I h
 obtain ⟨nm,qn,N,bs,bm,hd,sn,sub,ab,col,dd,k0,k1,k2,k3,k5,mN,hC,hN,hni,TL⟩:=zl8_ I.ok.mod.kin hq
 refine wpAny_Raise_call_subU (C:=C) (nm:=nm) (q:=qn) (N:=N) (bs:=bs) (bm:=bm) (hdct:=hd) (sn:=sn) (sub:=sub) (ab:=ab) (col:=col) (dd:=dd) (k0:=k0) (k1:=k1) (k2:=k2) (k3:=k3) (k5:=k5)
  PySem.F.excBase_ValueError (by decide) PySem.F.excBase_ValueError (mN:=mN) (TL.hasType rfl) (I.ok.hd hcm) (by rw [he]; show (false || (backTo cpos (starEach es X.env)).any (·.1))=false; rw [hpl]; rfl) hni (zcf_ I hg hm ⟨rfl,?_⟩ hdb)
 have h2:=ha cpos pins s σ H _ I h
 rw [he] at h2 ⊢
 refine Calls.evalArgs_plain (wpAny_mono h2 (fun us s1 q=>?_) fun _ _ y=>y)
 obtain ⟨vs,H1,I1,r,hl,q⟩:=q
 refine ⟨rfl,?_,I1.bk _ _ hC,hN.keeps I1.bk,TL.keeps I1.bk,fun h' a hmade=>hT.made I1 hex hmade q⟩
 show us.length≤sizeLine
 rw [← r.length]
 exact Nat.le_trans hl (by rw [sizeLine_eq]; decide)
end
section
variable {X:Cx}{a:Expr}{ta:TE}{pos:Pos}
def mRepr:V→Hp→VK→Prop:=fun x H Q=>match x with | .str z=>(reprText z).length≤sizeLine∧Q (.str (reprText z)) H | _=>False
theorem zhc_ (ha:PE X a ta):PE X (.FormattedValue a 114 none pos) (tUn mRepr ta):=by
 intro pins s σ H Q I h
 refine wpAny_FormattedValue_repr (thn (ha pins s σ H _ I h) fun v s1 hq_=>?_)
 obtain ⟨x,H1,I1,r1,q1⟩:=hq_
 cases x with
 | str z =>
  obtain ⟨k,rfl⟩:=r1
  refine wpAny_pyReprObj_gives (T := "str") (typeIs_str _ _ _) PySem.F.slot_str_repr PySem.F.entry_str_repr (PySem.F.args_str_repr_1 _) (gives_str_repr z k) ?_ rfl q1.1
  exact wpAny_formatField_str ⟨.str (reprText z),H1,I1.tok _,⟨_,rfl⟩,q1.2⟩ ⟨.str (reprText z),H1,(I1.tok _).tok _,⟨_,rfl⟩,q1.2⟩ q1.1
 | _=>exact q1.elim
abbrev TJ:=Str→St→Hp→(Str→Hp→Prop)→Prop
def PJ (X:Cx) (vs:List Expr) (t:TJ):Prop:=∀ (acc:Str) (pins:Pnn) (s:Shared) (σ:St) (H:Hp) (Q:Str→Shared→Prop) (R:Str→Hp→Prop),Inv X pins σ H s→t acc σ H R→(∀ out s1 H1,Inv X pins σ H1 s1→R out H1→Q out s1) →
 Joins (model X.prog X.w) X.A X.xe (evalEach vs X.env) acc Q s
def tJ0:TJ:=fun acc _ H R=>R acc H
def tJ1 (ta:TE) (tr:TJ):TJ:=fun acc σ H R=>ta σ H fun x H1=>match x with | .str z=>(acc++z).length≤sizeLine∧tr (acc++z) σ H1 R | _=>False
theorem zfZ_:PJ X [] tJ0:=fun acc pins s σ H Q R I h hq=>hq acc s H I h
theorem z2_ {vs:List Expr}{tr:TJ}(ha:PE X a ta) (hr:PJ X vs tr) (he:evalEach (a::vs) X.env=eval a X.env::evalEach vs X.env:=by rfl):PJ X (a::vs) (tJ1 ta tr):=by
 intro acc pins s σ H Q R I h hq
 rw [he]
 refine wpAny_mono (ha pins s σ H _ I h) (fun v s1 q=>?_) fun _ _ y=>y
 obtain ⟨x,H1,I1,r1,q1⟩:=q
 cases x with
 | str z =>
  obtain ⟨k,rfl⟩:=r1
  exact ⟨z,k,rfl,q1.1,hr (acc++z) pins s1 σ H1 Q R I1 q1.2 hq⟩
 | _=>exact q1.elim
def tJoin (tj:TJ):TE:=fun σ H Q=>tj Str.empty σ H fun out H1=>out.length≤sizeLine∧Q (.str out) H1
theorem zaM_ {b:Expr}{vs:List Expr}{tj:TJ}(h:PJ X (a::b::vs) tj):PE X (.JoinedStr (a::b::vs) pos) (tJoin tj):=by
 intro pins s σ H Q I q
 refine wpAny_JoinedStr (h Str.empty pins s σ H _ _ I q fun out s1 H1 I1 q1=>⟨q1.1,.str out,H1,I1.tok _,⟨_,rfl⟩,q1.2⟩)
end
def isaK (K:Fgg) (D:Addr) (c:Value):Option Bool :=
 if (PySem.W.findIn K (.ref D) "__getattribute__" == some (some (.builtin "BaseException.__getattribute__")) && PySem.W.findIn K (.ref D) "__getattr__" == some none && PySem.W.mroIn K D (.type "BaseException") == some true) && PySem.W.hasDictIn K D && PySem.W.findIn K (.ref D) "__class__" == some (some (.builtin "object.__class__")) && PySem.W.specialIn K (.builtin "object.__class__") "__get__" == some (some (.builtin "getset_descriptor.__get__"))
  && PySem.W.takesIn K (.builtin "object.__class__") == some true && PySem.W.mroIn K D (.type "object") == some true then PySem.W.kitOne K (.ref D) c else none
end L2
namespace LX
open PySem PySem.W PySem.Calls PyProof.Rows Builtin Builtin.ObjectAttr Builtin.Getset_descriptor
section
variable {prog:Program}{w:World}{A:Around}{K:Frag}{x D:Addr}{dc:Option Addr}
theorem ty_x {M:Model}{h:Heap}(I:L2.XAt x D dc h):Looks M h (typeOf (.ref x)) (.ref D):=by
 obtain ⟨o,_,e,c,_⟩:=I
 exact c ▸ (Looks.ld e).andThen .now
theorem check_ga {M:Model}{E:Value→Shared→Prop}{s:Shared}{nameV:Value}{Q:Unit→Shared→Prop}(T0:Looks M s.heap (typeOf (.ref x)) (.ref D)) (T8:Looks M s.heap (isSubtype (.ref D) (.type "BaseException")) true) (hq:Q () s) :
  wpAny M A (checkBuiltinCall "BaseException.__getattribute__" ⟨[.ref x,nameV],[]⟩) Q E s:=by
 have hk:builtinKind "BaseException.__getattribute__" = some .slot:=by decide +kernel
 have hsplit:splitId "BaseException.__getattribute__" = some ("BaseException", "__getattribute__"):=by decide +kernel
 have hargs:=F.args_bexc_ga (.ref x) nameV
 simp only [checkBuiltinCall,hk,hsplit]
 refine wpAny_bind ?_
 unfold isInstance
 cases s with
 | mk hp gs dr tk ost =>
 refine wpAny_bind (T0.at (T8.at ?_))
 repeat (first | assumption | wp_step)
theorem zkd_ {E:Value→Shared→Prop}{s:Shared}{Q:Option Value→Shared→Prop}(hg1:findIn K (.ref D) "__getattribute__" = some (some (.builtin "BaseException.__getattribute__"))) (hg2:findIn K (.ref D) "__getattr__" = some none)
  (ha:findIn K (.ref D) "__class__" = some (some (.builtin "object.__class__")))
  (hn:specialIn K (.builtin "object.__class__") "__get__" = some (some (.builtin "getset_descriptor.__get__"))) (htk:takesIn K (.builtin "object.__class__")=some true) (hm:mroIn K D (.type "object")=some true) (hb:mroIn K D (.type "BaseException")=some true)
  (kin:K.In s.heap) (I:L2.XAt x D dc s.heap) (h:Q (some (.ref D)) { s with toks:=s.toks+1 }):wpAny (model prog w) A (getAttr? (.ref x) "__class__") Q E s:=by
 cases s with
 | mk hp gs dr tk ost =>
 have T0:=ty_x (M:=model prog w) I
 have T1:=looks_findIn (M:=model prog w) kin hg1
 have T2:=looks_findIn (M:=model prog w) kin hg2
 have T3:=looks_findIn (M:=model prog w) kin ha
 have T4:=looks_specialIn (M:=model prog w) kin hn
 have T5:=looks_takesIn (M:=model prog w) kin htk
 have T6:=looks_mroIn (M:=model prog w) kin hm
 have T8:=looks_mroIn (M:=model prog w) kin hb
 have T7:Looks (model prog w) hp (find (.ref x) (.ref D) "__class__") (.bind (.builtin "getset_descriptor.__get__") (.builtin "object.__class__")) :=
  T3.andThen (T4.andThen ((show Looks (model prog w) hp (dataDescriptor? (some (.builtin "object.__class__")) (some (.builtin "getset_descriptor.__get__"))) (some (.builtin "getset_descriptor.__get__",.builtin "object.__class__")) from T5.andThen .now).andThen (.tag .now)))
 have hx2:(onTheHeap (Value.ref D) && Value.builtin "BaseException.__getattribute__" == Value.builtin "object.__getattribute__")=false:=(show (Value.builtin "BaseException.__getattribute__" == Value.builtin "object.__getattribute__")=false by decide +kernel)
 have f3:=F.excAttr_ValueError.ga.bind (.ref x)
 unfold getAttr? getAttrBy? getAttrBy
 refine wpAny_bind (wpAny_mkText ?_); refine wpAny_bind (wpAny_attempt (wpAny_holding ?_)); refine wpAny_bind (T0.at ?_); refine wpAny_bind (T1.at ?_)
 simp only [hx2]
 rw [if_neg (by decide)]
 unfold getAttrByItsOwn hookBefore
 refine wpAny_bind ?_
 show wpAny _ _ (typeLookup (.ref D) "__getattr__") _ _ _
 refine T2.at ?_
 refine wpAny_bind (wpAny_attempt (wpAny_holding ?_))
 show wpAny _ _ (boundAndCalled _ _ _) _ _ _
 unfold boundAndCalled
 rw [f3]
 refine wpAny_bind (wpAny_pure ?_)
 refine wpAny_call ?_
 refine codeAny_call_builtin F.excAttr_ValueError.ga.plain F.entry_bexc_ga ?_
 refine (show wpAny _ _ (checkBuiltinCall "BaseException.__getattribute__" ⟨[.ref x,.str "__class__" tk],[]⟩) _ _ _ from ?_)
 refine check_ga T0 T8 ?_
 unfold Builtin.«object.__getattribute__»
 refine wpAny_bind (wpAny_pure ?_)
 refine wpAny_bind (wpAny_pure ?_)
 refine wpAny_bind (T0.at ?_)
 refine wpAny_bind (T7.at ?_)
 show wpAny _ _ (holding [Value.builtin "object.__class__"] (call (.builtin "getset_descriptor.__get__") [.builtin "object.__class__",.ref x,.ref D])>>=ret) _ _ _
 refine wpAny_bind (wpAny_holding (wpAny_call ?_))
 refine codeAny_call_builtin KF.slot_gs.plain KF.entry_gs (KF.slot_gs.check _ _ _ _ _ _ _ _ KF.type_class (KF.args_gs _ _ _) ?_); unfold Builtin.«getset_descriptor.__get__» descrGet; rw [dga_obj]
 refine wpAny_bind (wpAny_pure ?_); unfold descrGetter descrCheckInstance descrNameAndClass isInstance; simp only [KF.owner_class]; repeat lk
 refine ⟨Code.quiet_builtin _ (by decide +kernel),codeAny_builtin KF.entry_class ?_⟩; unfold Builtin.«object.__class__» shownTypeOf; repeat lk
 exact h
theorem it_x {h:Heap}(hd:hasDictIn K D=true) (kin:K.In h):(∃ c d cd sl,h.get? D=some ⟨c,d,.cls cd,sl⟩)∧∀ M:Model,Looks M h (isType (.ref D)) true:=by
 obtain ⟨cd,e,_⟩:=any_some hd
 unfold clsIn at e
 split at e
 case h_2=>cases e
 case h_1 c1 d1 cd1 sl1 at1 =>
  refine ⟨⟨_,_,_,_,kin _ _ at1⟩,fun M A' Q' E' s' k q=>?_⟩
  unfold isType loadHead
  exact wpAny_bind (wpAny_loadPart (k _ _ (kin _ _ at1)) (wpAny_pure q))
theorem kitx_x (hg1:findIn K (.ref D) "__getattribute__" = some (some (.builtin "BaseException.__getattribute__"))) (hg2:findIn K (.ref D) "__getattr__" = some none) (hb:mroIn K D (.type "BaseException")=some true) (hd:hasDictIn K D=true) (ha:findIn K (.ref D) "__class__" = some (some (.builtin "object.__class__")))
  (hn:specialIn K (.builtin "object.__class__") "__get__" = some (some (.builtin "getset_descriptor.__get__"))) (htk:takesIn K (.builtin "object.__class__")=some true) (hm:mroIn K D (.type "object")=some true) :
  KitX K (.ref x) (.ref D) (L2.XAt x D dc) :=
 ⟨fun _ _ _ I=>ty_x I,fun _ _ kin _=>(it_x hd kin).2 _,(fun h tp dd its n sl kin e=>by
  obtain ⟨⟨c,d,cd,sl2,e2⟩,_⟩:=it_x hd kin
  refine Bool.eq_false_iff.mpr fun q=>?_
  have z:=Value.ref.inj (beq_iff_eq.mp q)
  subst z
  have e3:=e2.symm.trans e
  cases e3),fun kin I k=>zkd_ hg1 hg2 ha hn htk hm hb kin I k⟩
end
end LX
namespace L2
open PySem PySem.Spec PyProof.Rows
def clsV:V→Option Value
 | .ty c=>some (.type c)
 | .ref a=>some (.ref a)
 | _=>none
def mIsaX (K:Fgg):List V→Hp→VK→Prop:=fun xs H Q=>match xs with
 | [.ref p,c]=>∃ D d v b,H p=some (XO p D d)∧clsV c=some v∧isaK K D v=some b∧Q (.bl b) H
 | _=>False
theorem zY_ {X:Cx}:CallR X (.builtin "isinstance") (mIsaX X.K):=by
 intro pins s σ H xs us Q I r h
 unfold mIsaX at h
 split at h
 ·rename_i p c
  obtain ⟨D,d,v,b,hp,hv,hk,q⟩:=h
  obtain ⟨u,z,rfl,r1,r2⟩:=vals2 r
  obtain rfl:u=.ref p:=r1
  have ez:z=v:=by
   cases c<;>first | (cases hv; exact r2) | cases hv
  subst ez
  unfold isaK at hk
  split at hk
  case isFalse=>cases hk
  case isTrue g =>
   rw [Bool.and_eq_true,Bool.and_eq_true,Bool.and_eq_true,Bool.and_eq_true,Bool.and_eq_true,Bool.and_eq_true,Bool.and_eq_true] at g
   obtain ⟨⟨⟨⟨⟨⟨⟨g1,g7⟩,g8⟩,g2⟩,g3⟩,g4⟩,g5⟩,g6⟩:=g
   obtain ⟨hx,_,_⟩:=I.hok p _ hp
   exact PySem.W.kia_one (LX.kitx_x (beq_iff_eq.mp g1) (beq_iff_eq.mp g7) (beq_iff_eq.mp g8) g2 (beq_iff_eq.mp g3) (beq_iff_eq.mp g4) (beq_iff_eq.mp g5) (beq_iff_eq.mp g6)) I.kIn hx hk (fun z=>by cases z) fun tk=>⟨.bl b,H,I.tok tk,rfl,q⟩
 ·exact h.elim
end L2
namespace L2
open PySem PySem.Spec PyProof.Rows
section
variable {X:Cx}{k:Nat}{x:Str}{ps:List Str}{sp:Sp}{E:XK}{p pos:Pos}{e:Expr}{es:List Expr}{t:TA}
theorem zdc_ (G:Gd X.prog X.w X.K X.mg X.base (CXx X.prog X.w) k x ps sp) (hr:Room k X.A) (hx:Passes (CXx X.prog X.w) X E) (ha:PA X (e::es) t) (hg:Gl X x:=by rfl) (hdb:(x == ("__debug__" : Str))=false:=by decide)
  (he:starEach (e::es) X.env=(false,eval e X.env)::starEach es X.env:=by rfl) (hpl:(backTo pos (starEach es X.env)).any (·.1)=false:=by rfl) :
  PE X (.Call (.Name x p) (e::es) [] pos) (tCall sp [] E t):=by
 obtain ⟨f,fd,F,hm,hk,hb⟩:=G
 exact zit_ F hr hg hm hk hb .nil hx ha hdb he hpl
end
def XP (X:Cx) (pins:Pnn) (W:St→XK) (e:Value) (s':Shared):Prop:=∃ σ' Hb sb,Inv X pins σ' Hb sb∧CXx X.prog X.w X.stack Hb sb (W σ') e s'
abbrev TX:=Ends→(St→XK)→St→Hp→Prop
def PSx (X:Cx) (st:Stmt) (t:TX):Prop :=
 ∀ (pins:Pnn) (s:Shared) (σ:St) (H:Hp) (D:Ends) (W:St→XK),Inv X pins σ H s→t D W σ H→wpAny (model X.prog X.w) X.A (exec st X.env) (SP X pins D) (XP X pins W) s
def PSsx (X:Cx) (st:List Stmt) (t:TX):Prop :=
 ∀ (pins:Pnn) (s:Shared) (σ:St) (H:Hp) (D:Ends) (W:St→XK),Inv X pins σ H s→t D W σ H→wpAny (model X.prog X.w) X.A (execs st X.env) (SP X pins D) (XP X pins W) s
theorem PA.nox {X:Cx}{es:List Expr}{t:TA}(h:PA X.nox es t):PA X es t:=fun pos pins s σ H Q I hw =>
 wpAny_mono (h pos pins s σ H Q (I.wish _) hw) (fun _ _ ⟨v,H',I',r,q⟩=>⟨v,H',I'.unwish,r,q⟩) fun _ _ z=>False.elim z
section
variable {X:Cx}{st:Stmt}{rest:List Stmt}{t u:TX}{k:Nat}{x:Str}{ps:List Str}{sp:Sp}{p pos pos':Pos}{e:Expr}{es:List Expr}{ta:TA}
theorem zjx_ (h1:PSx X st t):PSsx X [st] t:=by
 intro pins s σ H D W I h
 refine wpAny_execs_cons (thn (h1 pins s σ H D W I h) fun f s1 q=>?_)
 cases f with
 | next=>exact wpAny_execs_nil q
 | ret v=>exact q
 | brk=>exact q
 | cont=>exact q
theorem zkW_ (G:Gd X.prog X.w X.K X.mg X.base (CXx X.prog X.w) k x ps sp) (hr:Room k X.A) (ha:PA X.nox (e::es) ta) {pins:Pnn}{s:Shared}{σ:St}{H:Hp}{Q:VK}{W:St→XK}(I:Inv X pins σ H s)
  (h:ta σ H fun vs H1=>sp (vs++[]) H1 Q (W σ)) (hg:Gl X x:=by rfl) (hdb:(x == ("__debug__" : Str))=false:=by decide)
  (he:starEach (e::es) X.env=(false,eval e X.env)::starEach es X.env:=by rfl) (hpl:(backTo pos (starEach es X.env)).any (·.1)=false:=by rfl) :
  wpAny (model X.prog X.w) X.A (eval (.Call (.Name x p) (e::es) [] pos) X.env) (EP X pins σ Q) (XP X pins W) s:=by
 obtain ⟨f,fd,F,hm,hk,hb⟩:=G
 refine wpAny_Call_Name_kw (zcf_ I hg hm ?_ hdb)
 have ha':=(PA.nox (X:=X.wish (XP X pins W)) ha) pos pins s σ H _ (I.wish _) h
 refine PySem.W.callWith_K (h₀:=X.base) I.ok.mod.kin hk (thn ha' fun us s1 q=>?_) he hpl
 obtain ⟨vs,H1,I1,r,q⟩:=q
 have I1:=I1.unwish
 refine ⟨I1.kIn,?_⟩
 have r2:Vals (vs++[]) (us++[]):=r.append .nil
 have hl:(us++[]).length=ps.length:=by rw [← r2.length]; exact F.len _ _ _ _ q
 refine wpAny_call (codeAny_mono (F.run X.A X.stack s1 H1 ⟨us,[]⟩ (us++[]) (vs++[]) Q (W σ) hr I1.env0 (hb s1 us I1.kIn hl) r2 q) fun r s' hq=>?_)
 cases r with
 | error e=>exact ⟨σ,H1,s1,I1,hq⟩
 | ok fl =>
  cases fl with
  | ret u=>exact I1.after hq
  | next=>exact False.elim hq
  | brk=>exact False.elim hq
  | cont=>exact False.elim hq
end
section
variable {X:Cx}{pins:Pnn}{σ:St}{Hb H':Hp}{sb s1:Shared}{x T C:Addr}{d:Option Addr}
theorem landed (Ib:Inv X pins σ Hb sb) (os:s1.os=sb.os) (bare:AllBare s1.gens) (un:Un (frs X.stack) [] Hb H' sb.heap s1.heap) (ok:HOk X.prog X.w H' s1.heap) (fly:FlyX x T C d H' sb.heap s1.heap) {h':Heap}{a0:Value}
  (f:Heap.FlyingW (PySem.W.hideAll s1.heap (frs X.stack++[x,T])) X.stack x (.ref C) a0 h') (up:s1.heap.UpToSlots h') (dd:Dc x d h'):Inv X pins σ (upd H' x (XO x C d)) { s1 with heap:=h' }:=by
 have ne:∀ b o,sb.heap.get? b=some o→b≠x∧b≠T:=fun b o q=>⟨(fun z=>by rw [z,fly.nx] at q; cases q),(fun z=>by rw [z,fly.nT] at q; cases q)⟩
 have nt:∀ b o,H' b=some o→b≠x∧b≠T:=fun b o q=>⟨(fun z=>by rw [z,fly.hx] at q; cases q),(fun z=>by rw [z,fly.hT] at q; cases q)⟩
 have I1:Inv X pins σ H' s1:=Ib.call' (ch:=[]) os un ok bare (fun b z=>absurd z (by simp))
 have keepS:∀ b o,s1.heap.get? b=some o→b∉frs X.stack→b≠x∧b≠T→h'.get? b=some o:=fun b o q n1 n2=>f.1 b o (PySem.W.hideAll_get _ q fun z=>by
  rcases List.mem_append.mp z with z | z
  ·exact n1 z
  ·rcases List.mem_cons.mp z with z | z
   ·exact n2.1 z
   ·exact n2.2 (List.mem_singleton.mp z))
 have slotS:∀ b o,s1.heap.get? b=some o→b∈frs X.stack→∃ sl,h'.get? b=some { o with slots:=sl }:=fun b o q hb=>up b o q (by
  obtain ⟨_,o',q',d⟩:=I1.stack.mem hb
  cases q.symm.trans q'
  exact d)
 have old:∀ b,b≠x→upd H' x (XO x C d) b=H' b:=fun b h=>zO_ h
 refine Ib.call' (s':={ s1 with heap:=h' }) (ch:=[]) os ⟨fun b o q n hb hx=>?_,fun b o q n hb hx=>?_,fun b o q n hx=>?_,fun b o q hx=>?_,fun b xs q=>?_,fun b o u q=>?_,fun b ps q=>?_⟩ (fun a o e=>?_) bare (fun b z=>absurd z (by simp))
 ·exact keepS b o (un.keep b o q n hb hx) hb (ne b o q)
 ·obtain ⟨sl,e⟩:=un.slot b o q n hb hx
  obtain ⟨sl',e'⟩:=slotS b _ e hb
  exact ⟨sl',e'⟩
 ·rw [old b (ne b o q).1]
  exact un.free b o q n hx
 ·obtain ⟨o',e⟩:=un.there b o q hx
  by_cases hb:b∈frs X.stack
  ·obtain ⟨sl',e'⟩:=slotS b _ e hb
   exact ⟨_,e'⟩
  ·exact ⟨o',keepS b o' e hb (ne b o q)⟩
 ·have z:=un.tups b xs q
  rw [old b (nt b _ z).1]
  exact z
 ·have z:=un.frzs b o u q
  rw [old b (nt b _ z).1]
  exact z
 ·obtain ⟨m,z⟩:=un.tbls b ps q
  exact ⟨m,by rw [old b (nt b _ z).1]; exact z⟩
 ·by_cases ha:a=x
  ·subst ha
   rw [zC_] at e
   cases e
   obtain ⟨ob,vs,q1,q2,q3,_⟩:=f.first; obtain ⟨o2,z1,z2,z3⟩:=dd; cases q1.symm.trans z1
   exact xo_ok ⟨ob,vs,q1,q2,z2,q3,z3 _ q3⟩
  ·rw [old a ha] at e
   refine (ok a o e).stay (fun b u hb q=>?_) (fun b q=>by rw [old b (nt b _ q).1]; exact q) fun b xs q=>by rw [old b (nt b _ q).1]; exact q
   have tr:∃ o,H' b=some o:=by
    rcases hb with rfl | hb
    ·exact ⟨_,e⟩
    ·exact ⟨_,hb⟩
   obtain ⟨ob,tr⟩:=tr
   refine keepS b u q (fun z=>?_) (nt b ob tr)
   rw [I1.stkFree b z] at tr; cases tr
end
abbrev Cx.inX (X:Cx) (x:Addr):Cx:={ X with A:=X.A.mark (some (.ref x)),calm:=false,xe:=fun _ _=>False }
theorem Inv.inX {X:Cx}{pins:Pnn}{σ:St}{H:Hp}{s:Shared}(I:Inv X pins σ H s) (x:Addr):Inv (X.inX x) pins σ H s :=
 ⟨⟨I.ok.mod,I.ok.kind,I.ok.glob,I.ok.blt,I.ok.above,I.ok.inj,I.ok.has,I.ok.cab,(fun z=>by cases z),I.ok.frames,I.ok.stk,I.ok.exf,I.ok.bs,I.ok.bsz,I.ok.noex,I.ok.exfs,I.ok.funs,I.ok.frf⟩,I.os,I.bare,I.base,I.loc,I.cell,I.free,I.freeC,I.pin,I.hok,I.len⟩
theorem Inv.outX {X:Cx}{pins:Pnn}{σ:St}{H:Hp}{s:Shared}{x:Addr}(ok:X.Ok) (I:Inv (X.inX x) pins σ H s):Inv X pins σ H s :=
 ⟨ok,I.os,I.bare,I.base,I.loc,I.cell,I.free,I.freeC,I.pin,I.hok,I.len⟩
theorem SP.outX {X:Cx}{pins:Pnn}{D:Ends}{f:Flow}{s':Shared}{x:Addr}(ok:X.Ok) (h:SP (X.inX x) pins D f s'):SP X pins D f s':=by
 cases f with
 | next=>obtain ⟨σ',H',I,q⟩:=h; exact ⟨σ',H',I.outX ok,q⟩
 | brk=>obtain ⟨σ',H',I,q⟩:=h; exact ⟨σ',H',I.outX ok,q⟩
 | cont=>obtain ⟨σ',H',I,q⟩:=h; exact ⟨σ',H',I.outX ok,q⟩
 | ret u=>obtain ⟨v,σ',H',I,r,q⟩:=h; exact ⟨v,σ',H',I.outX ok,r,q⟩
def catN (K:Fgg) (C S:Addr):Bool :=
 PySem.W.typeIn K (.ref S) == some (.type "type") && (PySem.W.clsIn K S).isSome && PySem.W.mroIn K S (.type "BaseException") == some true && PySem.W.mroIn K C (.ref S) == some false
def catK (K:Fgg) (C S:Addr):Bool :=
 PySem.W.typeIn K (.ref S) == some (.type "type") && (PySem.W.clsIn K S).isSome && PySem.W.mroIn K S (.type "BaseException") == some true && PySem.W.mroIn K C (.ref S) == some true
theorem zhB_ {K:Fgg}{M:Model}{A:Around}{E:Value→Shared→Prop}{s:Shared}{x C S:Addr}{d:Option Addr}{Q:Bool→Shared→Prop}(kin:K.In s.heap) (I:XAt x C d s.heap) (h:catK K C S=true) (q:Q true s) :
  wpAny M A (excMatches (.ref x) (.ref S)) Q E s:=by
 unfold catK at h
 rw [Bool.and_eq_true,Bool.and_eq_true,Bool.and_eq_true] at h
 obtain ⟨⟨⟨h1,h2⟩,h3⟩,h4⟩:=h
 have T1:=PySem.W.looks_typeIn (M:=M) kin (beq_iff_eq.mp h1)
 have T3:=PySem.W.looks_mroIn (M:=M) kin (beq_iff_eq.mp h3)
 have T4:=PySem.W.looks_mroIn (M:=M) kin (beq_iff_eq.mp h4)
 have T5:=LX.ty_x (M:=M) I
 have T6:PySem.W.Looks M s.heap (isSubtype (.type "type") (.type "tuple")) false:=.of_pure tc_notTuple
 have T2:PySem.W.Looks M s.heap (isType (.ref S)) true:=by
  obtain ⟨cd,e⟩:=Option.isSome_iff_exists.mp h2
  unfold PySem.W.clsIn at e
  split at e
  case h_2=>cases e
  case h_1 c1 d1 cd1 sl1 at1 =>
   intro A' Q' E' s' k z
   unfold isType loadHead
   exact wpAny_bind (wpAny_loadPart (k _ _ (kin _ _ at1)) (wpAny_pure z))
 cases s with
 | mk hp gs dr tk ost =>
 unfold excMatches isInstance isExcClass
 repeat lk
 exact q
theorem zhE_ {K:Fgg}{M:Model}{A:Around}{E:Value→Shared→Prop}{s:Shared}{x C S:Addr}{d:Option Addr}{Q:Bool→Shared→Prop}(kin:K.In s.heap) (I:XAt x C d s.heap) (h:catN K C S=true) (q:Q false s) :
  wpAny M A (excMatches (.ref x) (.ref S)) Q E s:=by
 unfold catN at h
 rw [Bool.and_eq_true,Bool.and_eq_true,Bool.and_eq_true] at h
 obtain ⟨⟨⟨h1,h2⟩,h3⟩,h4⟩:=h
 have T1:=PySem.W.looks_typeIn (M:=M) kin (beq_iff_eq.mp h1)
 have T3:=PySem.W.looks_mroIn (M:=M) kin (beq_iff_eq.mp h3)
 have T4:=PySem.W.looks_mroIn (M:=M) kin (beq_iff_eq.mp h4)
 have T5:=LX.ty_x (M:=M) I
 have T6:PySem.W.Looks M s.heap (isSubtype (.type "type") (.type "tuple")) false:=.of_pure tc_notTuple
 have T2:PySem.W.Looks M s.heap (isType (.ref S)) true:=by
  obtain ⟨cd,e⟩:=Option.isSome_iff_exists.mp h2
  unfold PySem.W.clsIn at e
  split at e
  case h_2=>cases e
  case h_1 c1 d1 cd1 sl1 at1 =>
   intro A' Q' E' s' k z
   unfold isType loadHead
   exact wpAny_bind (wpAny_loadPart (k _ _ (kin _ _ at1)) (wpAny_pure z))
 cases s with
 | mk hp gs dr tk ost =>
 unfold excMatches isInstance isExcClass
 repeat lk
 exact q
end L2
namespace L2
open PySem PySem.Spec PyProof.Rows
theorem zeX_ {X:Cx}{pins:Pnn}{σ:St}{H:Hp}{s:Shared}{M:Model}{A:Around}{E:Value→Shared→Prop}{i:Nat}{n:Str}{pos:Pos}{Q:Unit→Shared→Prop}(I:Inv X pins σ H s) (hN:X.N.Nodup) (hi:X.N[i]?=some n)
  (hl:X.env.scope.names.lookup n=some .local) (h:∀ s',Inv X pins (σ.set i none) H s'→Q () s'):wpAny M A (do bindName X.env n .none; unbindBehindTheSuite X.env n pos) Q E s:=by
 have hcls:(X.env.scope.kind == .class || (X.env.scope.kind == .module && X.env.locals != X.env.globals))=false:=by rw [I.ok.kind]; rfl
 have hk:X.env.kindOf n=some .local:=hl
 refine wpAny_bind (wpAny_bindName (zb4_ (v:=.non) I hN hi (.inl hl) rfl (fun s1 I1=>?_) (.inr hl)))
 obtain ⟨m,hn,hlo⟩:=id I1.loc
 unfold unbindBehindTheSuite; refine wpAny_onRaise ?_; unfold unbindName
 refine wpAny_bind (wpAny_point ?_); refine wpAny_bind ?_
 unfold deleteName; simp only [hk,hcls]; rw [if_neg (by decide)]
 have hiσ:i<σ.length:=by rw [I.len]; exact (List.getElem?_eq_some_iff.mp hi).1
 have there:(m n).isSome=true:=by
  obtain ⟨u,r,q⟩:=hlo i n .non hi (List.getElem?_set_self hiσ) (.inl hl)
  rcases q with ⟨_,e⟩ | ⟨z,_⟩
  ·rw [e]; rfl
  ·rw [hk] at z
   rcases z with z | z<;>cases z
 refine wpAny_bind (wpAny_nsDel_keeps hn fun h2 v hn2 hs=>?_)
 rw [there]
 simp only [Bool.not_true,Bool.false_eq_true,if_false]
 refine wpAny_pure (wpAny_point (h _ ?_))
 obtain ⟨oL,_,_,hoL,_⟩:=id hn
 have cne:=I1.cne
 have low:∀ b o,X.s₀.heap.get? b=some o→b≠X.env.locals:=fun b o e=>Nat.ne_of_lt (Nat.lt_of_lt_of_le (Heap.lt_size e) I1.ok.above)
 refine ⟨I1.ok,I1.os,I1.bare,⟨fun b o e n hb hx=>?_,fun b o e n hb hx=>?_,I1.base.free,fun b o e hx=>?_,I1.base.tups,I1.base.frzs,I1.base.tbls⟩,⟨_,hn2,fun j y v' e1 e2 e3=>?_⟩,fun y c e=>?_,I1.free,I1.freeC,fun p hp=>?_,fun b ob e=>?_,by simpa using I.len⟩
 ·exact (hs.2 b (low b o e)).trans (I1.base.keep b o e n hb hx)
 ·obtain ⟨sl,e1⟩:=I1.base.slot b o e n hb hx
  exact ⟨sl,(hs.2 b (low b o e)).trans e1⟩
 ·obtain ⟨o',e1⟩:=I1.base.there b o e hx
  exact ⟨o',(hs.2 b (low b o e)).trans e1⟩
 ·by_cases hj:j=i
  ·subst hj
   rw [List.getElem?_set_self hiσ] at e2
   cases e2
  ·rw [List.getElem?_set_ne (Ne.symm hj)] at e2
   obtain ⟨u',r',q⟩:=hlo j y v' e1 (by rw [List.getElem?_set_ne (Ne.symm hj)]; exact e2) e3
   refine ⟨u',r',?_⟩
   rcases q with ⟨k,e⟩ | ⟨k,c,e,z⟩
   ·refine .inl ⟨k,?_⟩
    have:y≠n:=fun e=>hj (zet_ hN e1 (e ▸ hi))
    simp [this,e]
   ·exact .inr ⟨k,c,e,z.sameBut hs (cne y c e)⟩
 ·obtain ⟨w',z⟩:=I1.cell y c e
  exact ⟨w',z.sameBut hs (cne y c e)⟩
 ·obtain ⟨e,n,ne,nf,d⟩:=I1.pin p hp
  exact ⟨(hs.2 p.1 ne).trans e,n,ne,nf,d⟩
 ·refine (I1.hok b ob e).stay (fun c w' hc q=>(hs.2 c ?_).trans q) (fun _ q=>q) fun _ _ q=>q
  rintro rfl
  rcases hc with rfl | hc
  ·rw [I1.free] at e; cases e
  ·rw [I1.free] at hc; cases hc
abbrev zkZ_ (X:Cx) (s1:Shared) (x T:Addr):Heap:=PySem.W.hideAll s1.heap (frs X.stack++[x,T])
section
variable {X:Cx}{body:List Stmt}{tb:TX}{ts:TS}{S:Addr}{sx n:Str}{i:Nat}{b₀:Stmt}{suite:List Stmt}{np hpos pos:Pos}
def gone (i:Nat) (D:Ends):Ends:={ nx:=fun σ H=>D.nx (σ.set i none) H,rt:=D.rt,bk:=fun σ H=>D.bk (σ.set i none) H,ct:=fun σ H=>D.ct (σ.set i none) H }
abbrev TH:=Addr→Option Addr→Ends→St→Hp→Prop
def tHAs (K:Fgg) (S:Addr) (i:Nat) (ts:TS) (rest:TH):TH:=fun C d D σ H=>if catK K C S=true then ∀ x,H x=none→ts (gone i D) (σ.set i (some (.ref x))) (upd H x (XO x C d)) else catN K C S=true∧rest C d D σ H
def tH0:TH:=fun _ _ _ _ _=>False
def PH (X:Cx) (hs:List ExceptHandler) (t:TH):Prop:=∀ (pins:Pnn) (σ:St) (H:Hp) (D:Ends) (s:Shared) (x C:Addr) (d:Option Addr) (E:Value→Shared→Prop),Inv X pins σ (upd H x (XO x C d)) s→H x=none →
 (∀ A' Q' E',(∀ h2,Inv X pins σ (upd H x (XO x C d)) { s with heap:=h2 }→Q' () { s with heap:=h2 })→wpAny (model X.prog X.w) A' (setFlight (.ref x) none) Q' E' s)→t C d D σ H→wpAny (model X.prog X.w) X.A (handleBy (.ref x) X.env hs) (SP X pins D) E s
variable {th rest:TH}{hs:List ExceptHandler}
theorem znd_:PH X [] tH0:=fun _ _ _ _ _ _ _ _ _ _ _ _ h=>h.elim
theorem zlb_ {t:Prop}{nm:Option Str}(hm:X.mg sx=some (.ref S)) (hg:Gl X sx) (hdb:(sx == ("__debug__" : Str))=false) {pins:Pnn}{σ:St}{H:Hp}{D:Ends}{s:Shared}{x C:Addr}{d:Option Addr}{E:Value→Shared→Prop}(I:Inv X pins σ (upd H x (XO x C d)) s)
  (h:if catK X.K C S=true then codeAny (model X.prog X.w) (X.A.mark (some (.ref x))) (.handlers (.ref x) [.ExceptHandler none nm (b₀::suite) hpos] X.env) (fun r s₂=>match r with
     | .ok f=>(match nm with
      | none=>SP X pins D f s₂
      | some n=>wpAny (model X.prog X.w) X.A (do bindName X.env n .none; unbindBehindTheSuite X.env n hpos) (fun _ s₃=>SP X pins D f s₃) E s₂)
     | .error y=>cameBackBy (model X.prog X.w) X.A X.env E y s₂) s else catN X.K C S=true∧wpAny (model X.prog X.w) X.A (handleBy (.ref x) X.env hs) (SP X pins D) E s) :
  wpAny (model X.prog X.w) X.A (handleBy (.ref x) X.env (.ExceptHandler (some (.Name sx np)) nm (b₀::suite) hpos::hs)) (SP X pins D) E s:=by
 refine wpAny_handleBy_cons (codeAny_handlers_test (zcf_ (X:=X.inX x) (I.inX x) hg hm ?_ hdb)) (by intro q; cases q)
 obtain ⟨xa,_⟩:=I.hok x _ zC_
 split at h
 case isTrue hc=>exact zhB_ (K:=X.K) I.kIn xa hc h
 case isFalse hc=>exact zhE_ (K:=X.K) I.kIn xa h.1 h.2
theorem ph_as (hm:X.mg sx=some (.ref S)) (hN:X.N.Nodup) (hi:X.N[i]?=some n) (hl:X.env.scope.names.lookup n=some .local) (hsu:∀ x,PSs (X.inX x) (b₀::suite) ts) (hr:PH X hs rest)
  (hg:Gl X sx:=by rfl) (hdb:(sx == ("__debug__" : Str))=false:=by decide):PH X (.ExceptHandler (some (.Name sx np)) (some n) (b₀::suite) hpos::hs) (tHAs X.K S i ts rest):=by
 intro pins σ H D s x C d E I hx fl h
 refine zlb_ (t:=True) hm hg hdb I ?_
 unfold tHAs at h
 split at h
 case isFalse hc=>rw [if_neg hc]; exact ⟨h.1,hr pins σ H D s x C d E I hx fl h.2⟩
 case isTrue hc =>
  rw [if_pos hc]
  refine codeAny_handlers_suite_as (fl _ _ _ fun h6 I6=>?_)
  refine zb4_ (X:=X.inX x) (v:=.ref x) (I6.inX x) hN hi (.inl hl) rfl (fun s7 I7=>?_) (.inr hl)
  refine wpAny_mono (hsu x pins s7 _ _ _ I7 (h x hx)) (fun f s8 q=>?_) fun _ _ z=>z.elim
  have q:=q.outX I.ok
  cases f with
  | next =>
   obtain ⟨σ2,H2,I8,q⟩:=q
   exact zeX_ I8 hN hi hl fun s9 I9=>⟨_,H2,I9,q⟩
  | brk =>
   obtain ⟨σ2,H2,I8,q⟩:=q
   exact zeX_ I8 hN hi hl fun s9 I9=>⟨_,H2,I9,q⟩
  | cont =>
   obtain ⟨σ2,H2,I8,q⟩:=q
   exact zeX_ I8 hN hi hl fun s9 I9=>⟨_,H2,I9,q⟩
  | ret u =>
   obtain ⟨v,σ2,H2,I8,r,q⟩:=q
   exact zeX_ I8 hN hi hl fun s9 I9=>⟨v,_,H2,I9,r,q⟩
end
end L2
namespace L2
open PySem PySem.Spec PyProof.Rows
structure RoomN (k:Nat) (A:Around):Prop where
 dp:A.depth+3*k+5<recursionLimit
 un:A.units+16*k+200<cLine
theorem Room.nX {k:Nat}{A:Around}(r:Room k A) (x:Addr):RoomN k (A.mark (some (.ref x))):=⟨r.dp,r.un⟩
theorem RoomN.mono {j k:Nat}{A:Around}(r:RoomN k A) (h:j≤k):RoomN j A:=⟨by have:=r.dp; lia,by have:=r.un; lia⟩
theorem RoomN.deeper {k:Nat}{A:Around}(r:RoomN (k+1) A) (env:Env):RoomN k (A.deeper env):=⟨by have:=r.dp; show A.depth+1+3*k+5<_; lia,by have:=r.un; show A.units+3+16*k+200<_; lia⟩
structure FnOkN (P:Program) (w:World) (K:Fgg) (mg:Str→Option Value) (base:Heap) (k:Nat) (f:Addr) (fd:FuncData) (ps:List Str) (sp:Sp):Prop where
 len:∀ vs H Q E,sp vs H Q E→vs.length=ps.length
 run:∀ (A:Around) (outer:List Env) (s:Shared) (H:Hp) (args:Args) (us:List Value) (vs:List V) (Q:VK) (E:XK),RoomN k A→Env0 P w K mg base A outer s H→BindsTo s fd args (ps.zip us)→Vals vs us→sp vs H Q E →
  codeAny (model P w) A (.call (.ref f) args) (CR CX0 outer P w H s Q E) s
def cxN (P:Program) (w:World) (K:Fgg) (mg:Str→Option Value) (base:Heap) (N:List Str) (qual:Str) (scope:Scope) (f:Addr) (cd:Value) (A:Around) (outer:List Env) (s:Shared) (H:Hp):Cx :=
 { cxOf CX0 P w K mg base N qual scope f cd A outer s H E0 with calm:=false,xe:=fun _ _=>False }
section
variable {P:Program}{w:World}{K:Fgg}{mg:Str→Option Value}{base:Heap}
theorem Fun.okN {x qual:Str}{st:Stmt}{f:Addr}{fd:FuncData}{N ps:List Str}{k:Nat}{sp:Sp}(F:Fun K x qual st f fd) (S:FnScope N ps (defScope st)) (len:∀ vs H Q E,sp vs H Q E→vs.length=ps.length)
  (hbody:∀ (cdv:Value) (A:Around) (outer:List Env) (s:Shared) (H:Hp) (vs:List V) (Q:VK) (E:XK),RoomN k (A.deeper (envOfC qual (defScope st) s.heap.objs.size f cdv))→sp vs H Q E →
   ∃ t,PSs (cxN P w K mg base N qual (defScope st) f cdv A outer s H) (defBody st) t∧t { nx:=fun _ H'=>Q .non H',rt:=Q } (start N vs) H):FnOkN P w K mg base (k+1) f fd ps sp:=by
 obtain ⟨oc,od,kV,doc,pm,an,cdv,ct,osl,rfl,lk,hcd⟩:=F.ex
 refine ⟨len,fun A outer s H args us vs Q E hr e0 hb r hsp=>?_⟩
 have hl:=len _ _ _ _ hsp
 have KX:K.In s.heap:=e0.mod.kin.keeps fun b o e=>(e0.bs b o e).1
 have lim:s.heap.NoLimit:=e0.mod.nolimit.keeps fun b o e=>(e0.bs b o e).1
 have hkind:∀ y∈ps.zip us,(defScope st).names.lookup y.1=some .local∨((defScope st).names.lookup y.1=some .cell∧((cellsFrom (s.heap.objs.size+1) (defScope st).names []).lookup y.1).isSome=true):=fun ⟨n,v⟩ hy=>by
  rcases S.par n (List.of_mem_zip hy).1 with q | q
  ·exact .inl q
  ·exact .inr ⟨q,PySem.W.cellsFrom_some _ _ _ (.inl q)⟩
 refine codeAny_call_function (by have:=hr.dp; lia) (KX _ _ lk) rfl S.co S.gen rfl (PySem.W.codeRec_of KX hcd) (hb _ _ _ _ ?_)
 refine wpAny_newFunctionEnv_cells S.kind hkind fun env he s1 x=>?_
 subst he
 refine ⟨lim.keeps x.toInCall.keep,codeAny_func ?_⟩
 obtain ⟨t,ht,hq⟩:=hbody cdv A outer s H vs Q E (hr.deeper _) hsp
 have J:Inv (cxOf CX0 P w K mg base N qual (defScope st) f cdv { A with handled:=none } outer s H E0) [] (start N vs) H s1:=ze9_ S rfl ⟨e0.frames,e0.mod,e0.bs,e0.bsz,e0.funs,e0.frf,e0.hok,e0.bare⟩ hl r x
 have I:Inv (cxN P w K mg base N qual (defScope st) f cdv A outer s H) [] (start N vs) H s1 :=
  ⟨⟨J.ok.mod,J.ok.kind,J.ok.glob,J.ok.blt,J.ok.above,J.ok.inj,J.ok.has,J.ok.cab,(fun z=>by cases z),Around.frames_deeper e0.frames,J.ok.stk,J.ok.exf,J.ok.bs,J.ok.bsz,J.ok.noex,J.ok.exfs,J.ok.funs,J.ok.frf⟩,J.os,J.bare,J.base,J.loc,J.cell,J.free,J.freeC,J.pin,J.hok,J.len⟩
 refine wpAny_mono (ht [] s1 (start N vs) H _ I hq) (fun fl s' hs=>?_) fun e s' hs=>hs.elim
 have fin:∀ {σ':St}{H':Hp}{v:V}{u:Value},Inv (cxN P w K mg base N qual (defScope st) f cdv A outer s H) [] σ' H' s'→RelV v u→Q v H'→CE outer P w H s Q u s' :=
  fun {σ' H' v u} J rv q=>⟨v,H',J.os,J.bare,J.base,J.hok,rv,q⟩
 cases fl with
 | ret u =>
  obtain ⟨v,σ',H',J,rv,q⟩:=hs
  exact fin J rv q
 | next =>
  obtain ⟨σ',H',J,q⟩:=hs
  exact fin (v:=V.non) (u:=Value.none) J rfl q
 | brk =>
  obtain ⟨_,_,_,q⟩:=hs
  exact False.elim q
 | cont =>
  obtain ⟨_,_,_,q⟩:=hs
  exact False.elim q
theorem Fun.okX {x qual:Str}{st:Stmt}{f:Addr}{fd:FuncData}{N ps:List Str}{k:Nat}{sp:Sp}(F:Fun K x qual st f fd) (S:FnScope N ps (defScope st)) (len:∀ vs H Q E,sp vs H Q E→vs.length=ps.length)
  (hbody:∀ (cdv:Value) (A:Around) (outer:List Env) (s:Shared) (H:Hp) (vs:List V) (Q:VK) (E:XK),Room k (A.deeper (envOfC qual (defScope st) s.heap.objs.size f cdv))→sp vs H Q E →
   ∃ t,PSs (cxOf (CXx P w) P w K mg base N qual (defScope st) f cdv A outer s H E) (defBody st) t∧t { nx:=fun _ H'=>Q .non H',rt:=Q } (start N vs) H):FnOk P w K mg base (CXx P w) (k+1) f fd ps sp:=by
 obtain ⟨oc,od,kV,doc,pm,an,cdv,ct,osl,rfl,lk,hcd⟩:=F.ex
 exact fn_of lk hcd S len fun A outer s H vs Q E hr hsp=>hbody cdv A outer s H vs Q E hr hsp
end
def GdN (P:Program) (w:World) (K:Fgg) (mg:Str→Option Value) (base:Heap) (k:Nat) (x:Str) (ps:List Str) (sp:Sp):Prop :=
 ∃ f fd,FnOkN P w K mg base k f fd ps sp∧mg x=some (.ref f)∧PySem.W.keepIn K (.ref f)=true∧Binds K fd ps []
section
variable {X:Cx}{k:Nat}{x:Str}{ps:List Str}{sp:Sp}{p pos:Pos}{e:Expr}{es:List Expr}{t:TA}
theorem zf6_ (G:GdN X.prog X.w X.K X.mg X.base k x ps sp) (hr:RoomN k X.A) (ha:PA X (e::es) t) (hg:Gl X x:=by rfl) (hdb:(x == ("__debug__" : Str))=false:=by decide)
  (he:starEach (e::es) X.env=(false,eval e X.env)::starEach es X.env:=by rfl) (hpl:(backTo pos (starEach es X.env)).any (·.1)=false:=by rfl) :
  PE X (.Call (.Name x p) (e::es) [] pos) (tCall sp [] E0 t):=by
 intro pins s σ H Q I h
 obtain ⟨f,fd,F,hm,hk,hb⟩:=G
 refine wpAny_Call_Name_kw (zcf_ I hg hm ?_ hdb)
 refine PySem.W.callWith_K (h₀:=X.base) I.ok.mod.kin hk (thn (ha pos pins s σ H _ I h) fun us s1 q=>?_) he hpl
 obtain ⟨vs,H1,I1,r,q⟩:=q
 refine ⟨I1.kIn,?_⟩
 have r2:Vals (vs++[]) (us++[]):=r.append .nil
 have hl:(us++[]).length=ps.length:=by rw [← r2.length]; exact F.len _ _ _ _ q
 refine wpAny_call (codeAny_mono (F.run X.A X.stack s1 H1 ⟨us,[]⟩ (us++[]) (vs++[]) Q E0 hr I1.env0 (hb s1 us I1.kIn hl) r2 q) fun r s' hq=>?_)
 cases r with
 | error e=>exact False.elim hq
 | ok fl =>
  cases fl with
  | ret u=>exact I1.after hq
  | next=>exact False.elim hq
  | brk=>exact False.elim hq
  | cont=>exact False.elim hq
end
end L2
namespace L2
open PySem PySem.Spec PyProof.Rows
section
variable {X:Cx}{k:Nat}{x:Str}{ps:List Str}{sp:Sp}{p pos pos':Pos}{e:Expr}{es:List Expr}{ta:TA}{i:Nat}{y:Str}{py:Pos}
end
def SG:List Nat:=[32,48,49,50,51,52,53,54,55,56,57,65,66,67,68,69,70,71,72,73,74,75,76,77,78,79,80,81,82,83,84,85,86,87,88,89,90]
def AnyL:List Nat:=[32,33,34,35,36,38,39,40,41,42,43,44,45,46,47,48,49,50,51,52,53,54,55,56,57,58,59,60,61,62,63,64,65,66,67,68,69,70,71,72,73,74,75,76,77,78,79,80,81,82,83,84,85,86,87,88,89,90,91,92,93,94,95,96]
def AnyM:List Nat:=[97,98,99,100,101,102,103,104,105,106,107,108,109,110,111,112,113,114,115,116,117,118,119,120,121,122,123,124,125,126,10,9]
theorem zh1_:∀ c∈AnyL++AnyM,c<128:=by decide
theorem zgH_:(AnyL++AnyM).length=96:=by decide
end L2
namespace L2
open PySem PySem.Spec PyProof.Rows
section
variable {X:Cx}
def mAll (K:Fgg):List V→Hp→VK→Prop:=fun xs H Q=>match xs with | [.ref p]=>∃ bs:List Bool,SqL K H p (bs.map V.bl)∧Q (.bl (bs.all id)) H | _=>False
theorem zdy_:∀ {bs:List Bool}{us:List Value},Vals (bs.map V.bl) us→us=bs.map Value.bool
 | [],_,.nil=>rfl
 | b::bs,_,.cons r t=>by rw [zdy_ t]; cases r; rfl
theorem zfm_ {P:Program}{w:World}{A:Around}{bs:List Bool}:TruthOf P w A (fun i v=>(bs.map Value.bool).toArray[i]?=some v) (fun i=>bs.getD i false):=by
 intro i v s Q E h q
 have h':(bs.map Value.bool)[i]?=some v:=by simpa using h
 rw [List.getElem?_map] at h'
 cases e:bs[i]? with
 | none=>rw [e] at h'; cases h'
 | some b =>
  rw [e] at h'
  cases h'
  have:bs.getD i false=b:=by rw [List.getD_eq_getElem?_getD,e]; rfl
  have q:Q (bs.getD i false) s:=q
  rw [this] at q
  exact wpAny_truthy_bool q
theorem zdg_ (bs:List Bool):(List.range bs.length).all (fun i=>bs.getD i false)=bs.all id:=by
 rw [Bool.eq_iff_iff,List.all_eq_true,List.all_eq_true]
 constructor
 ·intro h b hb
  obtain ⟨i,hi,e⟩:=List.getElem_of_mem hb
  have:=h i (List.mem_range.mpr hi)
  rw [List.getD_eq_getElem?_getD,List.getElem?_eq_getElem hi] at this
  rw [← e]; exact this
 ·intro h i hi
  have hi:=List.mem_range.mp hi
  rw [List.getD_eq_getElem?_getD,List.getElem?_eq_getElem hi]
  exact h _ (List.getElem_mem hi)
theorem zhG_ (hc:X.calm=true):CallR X (.builtin "all") (mAll X.K):=by
 intro pins s σ H xs us Q I r h
 unfold mAll at h
 split at h
 ·rename_i p
  obtain ⟨bs,hS,q⟩:=h
  obtain ⟨u,rfl,rx⟩:=vals1 r
  cases rx
  obtain ⟨its,rv,pl,hz⟩:=I.list hS
  rw [zdy_ rv] at pl
  have hp:=Heap.lt_size pl.isList.choose_spec.1
  have hne:p≠s.heap.objs.size:=Nat.ne_of_lt hp
  refine call_all_walk (wpAny_pyIter_list pl.isList ⟨_,_,_,_,_,_,_,rfl,Walks.list (A:=X.A.in1) (I.ok.hd hc) _ p hne (bs.map Value.bool).toArray,⟨⟨_,Heap.get?_push_size _ rfl,rfl,rfl⟩,pl.isList.at fun o e=>Heap.get?_push_of_some _ e⟩,zfm_,fun h' tk kk=>?_⟩)
  refine ⟨.bl (bs.all id),H,I.kept (t':=tk) fun b o e=>kk b o (by simpa using Nat.ne_of_lt (Heap.lt_size e)) (Heap.get?_push_of_some _ e),?_,q⟩
  show Value.bool _=_
  rw [List.size_toArray,List.length_map,zdg_]
 ·exact h.elim
end
section
variable {X:Cx}
end
inductive EqD (K:Fgg) (H:Hp):Nat→V→V→Bool→Prop
 | flat {x y:V}(hx:flatV x=true) (hy:flatV y=true):EqD K H 0 x y (eqV x y)
 | lst {n:Nat}{p q:Addr}{xs ys:List V}(e:Nat→Bool) (hp:SqL K H p xs) (hq:SqL K H q ys) (hl:xs.length=ys.length) (h:∀ (i:Nat) x y,xs[i]?=some x→ys[i]?=some y→EqD K H n x y (e i)):EqD K H (n+1) (.ref p) (.ref q) ((List.range xs.length).all e)
 | lstN {n:Nat}{p q:Addr}{xs ys:List V}(hp:SqL K H p xs) (hq:SqL K H q ys) (hl:xs.length≠ys.length):EqD K H n (.ref p) (.ref q) false
 | tup {n:Nat}{p q:Addr}{xs ys:List V}(e:Nat→Bool) (hp:SqT K H p xs) (hq:SqT K H q ys) (h:∀ (i:Nat) x y,xs[i]?=some x→ys[i]?=some y→EqD K H n x y (e i)):EqD K H (n+1) (.ref p) (.ref q) ((List.range (min xs.length ys.length)).all e && xs.length == ys.length)
 | lt {n:Nat}{p q:Addr}{xs ys:List V}(hp:SqL K H p xs) (hq:SqT K H q ys):EqD K H n (.ref p) (.ref q) false
 | tl {n:Nat}{p q:Addr}{xs ys:List V}(hp:SqT K H p xs) (hq:SqL K H q ys):EqD K H n (.ref p) (.ref q) false
 | lf {n:Nat}{p:Addr}{xs:List V}{y:V}(hp:SqL K H p xs) (hy:flatV y=true):EqD K H n (.ref p) y false
 | fl {n:Nat}{p:Addr}{xs:List V}{y:V}(hp:SqL K H p xs) (hy:flatV y=true):EqD K H n y (.ref p) false
 | tf {n:Nat}{p:Addr}{xs:List V}{y:V}(hp:SqT K H p xs) (hy:flatV y=true):EqD K H n (.ref p) y false
 | ft {n:Nat}{p:Addr}{xs:List V}{y:V}(hp:SqT K H p xs) (hy:flatV y=true):EqD K H n y (.ref p) false
 | up {n:Nat}{x y:V}{b:Bool}(h:EqD K H n x y b):EqD K H (n+1) x y b
section
variable {X:Cx}{pins:Pnn}{σ:St}{H:Hp}{s:Shared}
theorem zbH_ {xs:List V}{us:List Value}(r:Vals xs us) {i:Nat}(h:i<us.toArray.size):∃ x,xs[i]?=some x∧RelV x us.toArray[i]:=by
 have hi:i<us.length:=by simpa using h
 have hl:=r.length
 obtain ⟨u,hu,ru⟩:=r.get (List.getElem?_eq_getElem (show i<xs.length by lia))
 refine ⟨_,List.getElem?_eq_getElem (by lia),?_⟩
 rw [List.getElem?_eq_getElem hi] at hu
 cases hu
 simpa using ru
theorem zgv_ (I:Inv X pins σ H s) {n:Nat}{x y:V}{b:Bool}(h:EqD X.K H n x y b):x=y→b=true:=by
 induction h with
 | flat hx hy =>
  rename_i x y
  rintro rfl
  cases x<;>first | (cases hx; done) | (simp [eqV]; done) | rfl
 | lst e hp hq hl h ih =>
  rename_i n p q xs ys
  intro e0
  cases e0
  have exy:=I.list_inj hp hq
  subst exy
  rw [List.all_eq_true]
  intro i hi
  have hi:=List.mem_range.mp hi
  exact ih i _ _ (List.getElem?_eq_getElem hi) (List.getElem?_eq_getElem hi) rfl
 | lstN hp hq hl =>
  intro e0
  cases e0
  exact absurd (by rw [I.list_inj hp hq]) hl
 | tup e hp hq h ih =>
  rename_i n p q xs ys
  intro e0
  cases e0
  have exy:=I.tuple_inj hp hq
  subst exy
  rw [Bool.and_eq_true,List.all_eq_true]
  refine ⟨?_,by simp⟩
  intro i hi
  have hi:=List.mem_range.mp hi
  have hi:i<xs.length:=by lia
  exact ih i _ _ (List.getElem?_eq_getElem hi) (List.getElem?_eq_getElem hi) rfl
 | lt hp hq =>
  intro e0
  cases e0
  obtain ⟨its,r1,p1,z1⟩:=I.list hp
  obtain ⟨its2,r2,p2,z2⟩:=I.tuple hq
  exact absurd rfl (SeqAt.ne_of_list_tuple p1.isList p2)
 | tl hp hq =>
  intro e0
  cases e0
  obtain ⟨its,r1,p1,z1⟩:=I.tuple hp
  obtain ⟨its2,r2,p2,z2⟩:=I.list hq
  exact absurd rfl (SeqAt.ne_of_list_tuple p2.isList p1)
 | lf hp hy=>rintro rfl; cases hy
 | fl hp hy=>rintro rfl; cases hy
 | tf hp hy=>rintro rfl; cases hy
 | ft hp hy=>rintro rfl; cases hy
 | up h ih=>exact ih
theorem zko_ (I:Inv X pins σ H s) {n:Nat}{x y:V}{b:Bool}(h:EqD X.K H n x y b):∀ (A:Around) (v u:Value),A.units+n<cLine→RelV x v→RelV y u →
  SeqAt.EqAt A s v u b∧(∀ p q,x=.ref p→y=.ref q→SeqAt.RcAt A s v u b):=by
 induction h with
 | flat hx hy =>
  intro A v u _ rx ry
  refine ⟨zlC_ rx ry hx hy,fun p q e _=>?_⟩
  subst e; cases hx
 | lst e hp hq hl h ih =>
  rename_i n p q xs ys
  intro A v u hu rx ry
  cases rx; cases ry
  obtain ⟨its,r1,p1,z1⟩:=I.list hp
  obtain ⟨its2,r2,p2,z2⟩:=I.list hq
  have l1:=r1.length
  have l2:=r2.length
  have rc:SeqAt.RcAt A s (.ref p) (.ref q) ((List.range xs.length).all e):=by
   have:=SeqAt.RcAt.lists (A:=A) (e:=e) p1.isList p2.isList (by simp only [List.size_toArray]; lia) (by lia) (fun j h1 h2=>by
    obtain ⟨x,ex,rx⟩:=zbH_ r1 h1
    obtain ⟨y,ey,ry⟩:=zbH_ r2 h2
    exact (ih j x y ex ey A.in1 _ _ (by show A.units+1+n<_; lia) rx ry).1)
   rw [List.size_toArray,← l1] at this
   exact this
  refine ⟨?_,fun _ _ _ _=>rc⟩
  by_cases hpq:p=q
  ·subst hpq
   have exy:=I.list_inj hp hq
   subst exy
   have:(List.range xs.length).all e=true:=by
    rw [List.all_eq_true]
    intro i hi
    have hi:=List.mem_range.mp hi
    exact zgv_ I (h i _ _ (List.getElem?_eq_getElem hi) (List.getElem?_eq_getElem hi)) rfl
   rw [this]
   exact SeqAt.EqAt.same _
  ·exact .of_refs hpq rc
 | lstN hp hq hl =>
  rename_i n p q xs ys
  intro A v u hu rx ry
  cases rx; cases ry
  obtain ⟨its,r1,p1,z1⟩:=I.list hp
  obtain ⟨its2,r2,p2,z2⟩:=I.list hq
  have l1:=r1.length
  have l2:=r2.length
  have rc:SeqAt.RcAt A s (.ref p) (.ref q) false:=SeqAt.RcAt.lists_lengths p1.isList p2.isList (by simp only [List.size_toArray,bne_iff_ne,ne_eq]; lia) (by lia)
  refine ⟨.of_refs (fun e=>?_) rc,fun _ _ _ _=>rc⟩
  subst e
  exact hl (by rw [I.list_inj hp hq])
 | tup e hp hq h ih =>
  rename_i n p q xs ys
  intro A v u hu rx ry
  cases rx; cases ry
  obtain ⟨its,r1,p1,z1⟩:=I.tuple hp
  obtain ⟨its2,r2,p2,z2⟩:=I.tuple hq
  have l1:=r1.length
  have l2:=r2.length
  have rc:SeqAt.RcAt A s (.ref p) (.ref q) ((List.range (min xs.length ys.length)).all e && xs.length == ys.length):=by
   have:=SeqAt.RcAt.tuples (A:=A) (e:=e) (show s.heap.IsTuple p its.toArray from p1) (show s.heap.IsTuple q its2.toArray from p2) (by lia) (fun j h1 h2=>by
    obtain ⟨x,ex,rx⟩:=zbH_ r1 h1
    obtain ⟨y,ey,ry⟩:=zbH_ r2 h2
    exact (ih j x y ex ey A.in1 _ _ (by show A.units+1+n<_; lia) rx ry).1)
   rw [List.size_toArray,List.size_toArray,← l1,← l2] at this
   exact this
  refine ⟨?_,fun _ _ _ _=>rc⟩
  by_cases hpq:p=q
  ·subst hpq
   have exy:=I.tuple_inj hp hq
   subst exy
   have:((List.range (min xs.length xs.length)).all e && xs.length == xs.length)=true:=by
    rw [Bool.and_eq_true,List.all_eq_true]
    refine ⟨?_,by simp⟩
    intro i hi
    have hi:=List.mem_range.mp hi
    have hi:i<xs.length:=by lia
    exact zgv_ I (h i _ _ (List.getElem?_eq_getElem hi) (List.getElem?_eq_getElem hi)) rfl
   rw [this]
   exact SeqAt.EqAt.same _
  ·exact .of_refs hpq rc
 | lt hp hq =>
  intro A v u hu rx ry
  cases rx; cases ry
  obtain ⟨its,r1,p1,z1⟩:=I.list hp
  obtain ⟨its2,r2,p2,z2⟩:=I.tuple hq
  exact ⟨.list_tuple p1.isList p2 (by lia),fun _ _ _ _=>.list_tuple p1.isList p2 (by lia)⟩
 | tl hp hq =>
  intro A v u hu rx ry
  cases rx; cases ry
  obtain ⟨its,r1,p1,z1⟩:=I.tuple hp
  obtain ⟨its2,r2,p2,z2⟩:=I.list hq
  exact ⟨.tuple_list p1 p2.isList (by lia),fun _ _ _ _=>.tuple_list p1 p2.isList (by lia)⟩
 | lf hp hy =>
  rename_i n p xs y
  intro A v u hu rx ry
  cases rx
  obtain ⟨its,r1,p1,z1⟩:=I.list hp
  refine ⟨?_,fun _ _ _ e=>by subst e; cases hy⟩
  cases y with
  | non=>cases ry; exact .list_none p1.isList (by lia)
  | bl b=>cases ry; exact .list_bool b p1.isList (by lia)
  | int b=>obtain ⟨t,rfl⟩:=ry; exact .list_int b t p1.isList (by lia)
  | str b=>obtain ⟨t,rfl⟩:=ry; exact .list_str b t p1.isList (by lia)
  | _=>cases hy
 | fl hp hy =>
  rename_i n p xs y
  intro A v u hu rx ry
  cases ry
  obtain ⟨its,r1,p1,z1⟩:=I.list hp
  refine ⟨?_,fun _ _ e _=>by subst e; cases hy⟩
  cases y with
  | non=>cases rx; exact .none_list p1.isList (by lia)
  | bl b=>cases rx; exact .bool_list b p1.isList (by lia)
  | int b=>obtain ⟨t,rfl⟩:=rx; exact .int_list b t p1.isList (by lia)
  | str b=>obtain ⟨t,rfl⟩:=rx; exact .str_list b t p1.isList (by lia)
  | _=>cases hy
 | tf hp hy =>
  rename_i n p xs y
  intro A v u hu rx ry
  cases rx
  obtain ⟨its,r1,p1,z1⟩:=I.tuple hp
  refine ⟨?_,fun _ _ _ e=>by subst e; cases hy⟩
  cases y with
  | non=>cases ry; exact .tuple_none p1 (by lia)
  | bl b=>cases ry; exact .tuple_bool b p1 (by lia)
  | int b=>obtain ⟨t,rfl⟩:=ry; exact .tuple_int b t p1 (by lia)
  | str b=>obtain ⟨t,rfl⟩:=ry; exact .tuple_str b t p1 (by lia)
  | _=>cases hy
 | ft hp hy =>
  rename_i n p xs y
  intro A v u hu rx ry
  cases ry
  obtain ⟨its,r1,p1,z1⟩:=I.tuple hp
  refine ⟨?_,fun _ _ e _=>by subst e; cases hy⟩
  cases y with
  | non=>cases rx; exact .none_tuple p1 (by lia)
  | bl b=>cases rx; exact .bool_tuple b p1 (by lia)
  | int b=>obtain ⟨t,rfl⟩:=rx; exact .int_tuple b t p1 (by lia)
  | str b=>obtain ⟨t,rfl⟩:=rx; exact .str_tuple b t p1 (by lia)
  | _=>cases hy
 | up h ih =>
  intro A v u hu rx ry
  exact ih A v u (by lia) rx ry
end
section
variable {X:Cx}
def mEqK (K:Fgg):R2:=fun x y H Q=>match x,y with
 | .ref p,.ref q=>∃ n b,n≤50∧EqD K H n (.ref p) (.ref q) b∧Q (.bl b) H
 | _,_=>mEq x y H Q
def mNeK (K:Fgg):R2:=fun x y H Q=>match x,y with
 | .ref p,.ref q=>∃ n b,n≤50∧EqD K H n (.ref p) (.ref q) b∧Q (.bl (!b)) H
 | _,_=>mNe x y H Q
theorem zan_ (hu:X.A.units+60<cLine):OpR X (compareOp .Eq) (mEqK X.K):=by
 intro pins s σ H x y v u Q I rx ry h
 unfold mEqK at h
 split at h
 ·rename_i p q
  obtain ⟨n,b,hn,h,q⟩:=h
  have:=(zko_ I h X.A v u (by lia) rx ry).2 _ _ rfl rfl
  exact this X.prog X.w X.xe _ ⟨.bl b,H,I,rfl,q⟩
 ·exact znb_ pins s σ H x y v u Q I rx ry h
end
section
variable {X:Cx}{pins:Pnn}{σ:St}{H:Hp}{s:Shared}
theorem zmn_ (I:Inv X pins σ H s) {n:Nat}{x y:V}{b:Bool}(h:EqD X.K H n x y b):∀ (A:Around) (v u:Value),A.units+n<cLine→RelV x v→RelV y u→∀ p q,x=.ref p→y=.ref q→SeqAt.RcNeAt A s v u (!b):=by
 induction h with
 | flat hx hy=>intro A v u _ rx ry p q e _; subst e; cases hx
 | lst e hp hq hl h ih =>
  rename_i n p q xs ys
  intro A v u hu rx ry _ _ _ _
  cases rx; cases ry
  obtain ⟨its,r1,p1,z1⟩:=I.list hp
  obtain ⟨its2,r2,p2,z2⟩:=I.list hq
  have l1:=r1.length
  have l2:=r2.length
  have:=SeqAt.RcNeAt.lists (A:=A) (e:=e) p1.isList p2.isList (by simp only [List.size_toArray]; lia) (by lia) (fun j h1 h2=>by
   obtain ⟨x,ex,rx⟩:=zbH_ r1 h1
   obtain ⟨y,ey,ry⟩:=zbH_ r2 h2
   exact (zko_ I (h j x y ex ey) A.in1 _ _ (by show A.units+1+n<_; lia) rx ry).1)
  rw [List.size_toArray,← l1] at this
  exact this
 | lstN hp hq hl =>
  intro A v u hu rx ry _ _ _ _
  cases rx; cases ry
  obtain ⟨its,r1,p1,z1⟩:=I.list hp
  obtain ⟨its2,r2,p2,z2⟩:=I.list hq
  have l1:=r1.length
  have l2:=r2.length
  exact SeqAt.RcNeAt.lists_lengths p1.isList p2.isList (by simp only [List.size_toArray,bne_iff_ne,ne_eq]; lia) (by lia)
 | tup e hp hq h ih =>
  rename_i n p q xs ys
  intro A v u hu rx ry _ _ _ _
  cases rx; cases ry
  obtain ⟨its,r1,p1,z1⟩:=I.tuple hp
  obtain ⟨its2,r2,p2,z2⟩:=I.tuple hq
  have l1:=r1.length
  have l2:=r2.length
  have:=SeqAt.RcNeAt.tuples (A:=A) (e:=e) (show s.heap.IsTuple p its.toArray from p1) (show s.heap.IsTuple q its2.toArray from p2) (by lia) (fun j h1 h2=>by
   obtain ⟨x,ex,rx⟩:=zbH_ r1 h1
   obtain ⟨y,ey,ry⟩:=zbH_ r2 h2
   exact (zko_ I (h j x y ex ey) A.in1 _ _ (by show A.units+1+n<_; lia) rx ry).1)
  rw [List.size_toArray,List.size_toArray,← l1,← l2] at this
  exact this
 | lt hp hq =>
  intro A v u hu rx ry _ _ _ _
  cases rx; cases ry
  obtain ⟨its,r1,p1,z1⟩:=I.list hp
  obtain ⟨its2,r2,p2,z2⟩:=I.tuple hq
  exact .list_tuple p1.isList p2 (by lia)
 | tl hp hq =>
  intro A v u hu rx ry _ _ _ _
  cases rx; cases ry
  obtain ⟨its,r1,p1,z1⟩:=I.tuple hp
  obtain ⟨its2,r2,p2,z2⟩:=I.list hq
  exact .tuple_list p1 p2.isList (by lia)
 | lf hp hy=>intro A v u hu rx ry _ _ _ e; subst e; cases hy
 | fl hp hy=>intro A v u hu rx ry _ _ e _; subst e; cases hy
 | tf hp hy=>intro A v u hu rx ry _ _ _ e; subst e; cases hy
 | ft hp hy=>intro A v u hu rx ry _ _ e _; subst e; cases hy
 | up h ih=>intro A v u hu rx ry; exact ih A v u (by lia) rx ry
theorem zfJ_ (hu:X.A.units+60<cLine):OpR X (compareOp .NotEq) (mNeK X.K):=by
 intro pins s σ H x y v u Q I rx ry h
 unfold mNeK at h
 split at h
 ·rename_i p q
  obtain ⟨n,b,hn,h,q⟩:=h
  have:=zmn_ I h X.A v u (by lia) rx ry _ _ rfl rfl
  exact this X.prog X.w X.xe _ ⟨.bl (!b),H,I,rfl,q⟩
 ·exact zmu_ pins s σ H x y v u Q I rx ry h
end
theorem Room.u60 {k:Nat}{A:Around}(r:Room k A):A.units+60<cLine:=by have:=r.units; lia
def splitC (c:Nat):List Nat→List (List Nat)
 | []=>[[]]
 | d::r=>if d=c then []::splitC c r else match splitC c r with | p::ps=>(d::p)::ps | []=>[[d]]
theorem zdi_ (c:Nat):∀ l,splitC c l≠[]
 | []=>by simp [splitC]
 | d::r=>by unfold splitC; split; simp; split<;>simp
def joinC (c:Nat):List (List Nat)→List Nat
 | []=>[]
 | [p]=>p
 | p::q::r=>p++c::joinC c (q::r)
theorem zak_ (c:Nat):∀ (l:List Nat),c∉l→splitC c l=[l]
 | [],_=>rfl
 | d::r,h=>by
  have h1:d≠c:=fun e=>h (by rw [e]; exact List.mem_cons_self)
  have h2:c∉r:=fun e=>h (List.mem_cons_of_mem _ e)
  unfold splitC
  rw [if_neg h1,zak_ c r h2]
theorem zaL_ (c:Nat):∀ (p:List Nat) (l:List Nat),c∉p→splitC c (p++c::l)=p::splitC c l
 | [],l,_=>by show splitC c (c::l)=_; rw [splitC,if_pos rfl]
 | d::r,l,h=>by
  have h1:d≠c:=fun e=>h (by rw [e]; exact List.mem_cons_self)
  have h2:c∉r:=fun e=>h (List.mem_cons_of_mem _ e)
  show splitC c (d::(r++c::l))=_
  rw [splitC,if_neg h1,zaL_ c r l h2]
theorem zcU_ (c:Nat):∀ (ps:List (List Nat)),ps≠[]→(∀ p∈ps,c∉p)→splitC c (joinC c ps)=ps
 | [],h,_=>absurd rfl h
 | [p],_,hf=>zak_ c p (hf p List.mem_cons_self)
 | p::q::r,_,hf=>by
  show splitC c (p++c::joinC c (q::r))=_
  rw [zaL_ c p _ (hf p List.mem_cons_self),zcU_ c (q::r) (by simp) (fun p hp=>hf p (List.mem_cons_of_mem _ hp))]
theorem zdW_ (c:Nat):∀ (ps:List Str),(Str.join ⟨#[c]⟩ ps).cps.toList=joinC c (ps.map fun p=>p.cps.toList)
 | []=>rfl
 | [p]=>rfl
 | p::q::r=>by
  show (p++⟨#[c]⟩++Str.join ⟨#[c]⟩ (q::r)).cps.toList=_
  have ih:=zdW_ c (q::r)
  show _=p.cps.toList++c::joinC c ((q::r).map fun p=>p.cps.toList)
  rw [← ih,zd6_,zd6_]
  simp
theorem zfI_ (x:Str) (c:Nat):(Txt.split x ⟨#[c]⟩).map (fun p=>p.cps.toList)=splitC c x.cps.toList:=by
 have h:=StrLaws.join_split x ⟨#[c]⟩
 have h1:=zdW_ c (Txt.split x ⟨#[c]⟩)
 rw [h] at h1
 rw [h1,zcU_]
 ·have:=PyProof.Rows.split_pos x ⟨#[c]⟩
  intro e
  rw [List.map_eq_nil_iff] at e
  rw [e] at this
  cases this
 ·intro p hp
  obtain ⟨z,hz,rfl⟩:=List.mem_map.mp hp
  exact StrLaws.split_free x c z hz
end L2
namespace LX
open PySem Builtin Builtin.Str
section
variable {prog:Program}{w:World}{A:Around}{E:Value→Shared→Prop}{s:Shared}{x:Str}{t:Tok}{Q:Value→Shared→Prop}
theorem split_push {y:Str}{u:Tok}(hy:(y.length == 0)=false)
  (hq:∀ (l:List (Str×Tok)) (k:Nat),l.map (·.1)=Txt.split x y→Q (.ref s.heap.objs.size) { s with toks:=k,heap:=s.heap.push { cls:=.type "list",data:=.seq (strValues l).toArray } })
  (hsz:x.length≤sizeLine) (hsz2:(partsBetween x (occurrences x y 0 x.length (x.length+1)) y.length).length≤sizeLine) :
  wpAny (model prog w) A (call (.builtin "str.split") [.str x t,.str y u]) Q E s:=by
 cases h1:(decide (x.length<y.length) || decide (strKind x<strKind y))
 ·cases hf:(occurrences x y 0 x.length (x.length+1)).isEmpty
  ·refine call_meets F.slot_str_split (typeIs_str _ _ _) F.entry_str_split (F.args_str_split_2 _ _) (meets_str_split_sep x y t u h1 hy hf hsz hsz2) ?_
   show wants Q E _ { s with toks:=_,heap:=s.heap.push { cls:=.type "list",data:=.seq (strsFrom s.toks (partsBetween x (occurrences x y 0 x.length (x.length+1)) y.length)).toArray } }
   rw [strsFrom_eq]
   exact hq (numbered s.toks _) _ ((numbered_texts _ _).trans ((if_neg (ne_true_of_eq_false h1)).trans (if_neg (ne_true_of_eq_false hf))).symm)
  ·exact call_meets F.slot_str_split (typeIs_str _ _ _) F.entry_str_split (F.args_str_split_2 _ _) (meets_str_split_not_found x y t u h1 hy hf)
    (hq [(x,t)] _ ((if_neg (ne_true_of_eq_false h1)).trans (if_pos hf)).symm)
 ·exact call_meets F.slot_str_split (typeIs_str _ _ _) F.entry_str_split (F.args_str_split_2 _ _) (meets_str_split_cannot_occur x y t u h1)
   (hq [(x,t)] _ (if_pos h1).symm)
end
end LX
namespace L2
open PySem PySem.Spec PyProof.Rows
section
variable {X:Cx}
theorem zdJ_:∀ (l:List (Str×Tok)),Vals (l.map fun p=>tx p.1.cps.toList) (strValues l)
 | []=>.nil
 | (z,t)::r=>.cons ⟨t,by rw [← zM_]⟩ (zdJ_ r)
end
section
variable {X:Cx}{a b c d:Expr}{ta tb tc td:TE}{pos:Pos}
end
def cV:Expr→Option V
 | .Constant (.str x) _ _=>some (.str x)
 | .Constant (.int i) _ _=>some (.int i)
 | .Constant (.bool b) _ _=>some (.bl b)
 | .Constant .none _ _=>some .non
 | _=>none
def csV:List Expr→Option (List V)
 | []=>some []
 | e::es=>match cV e,csV es with | some v,some vs=>some (v::vs) | _,_=>none
def tKs (vs:List V):TA:=fun _ H Q=>Q vs H
theorem zda_ {X:Cx}:∀ {es:List Expr}{vs:List V},csV es=some vs→PA X es (tKs vs)
 | [],vs,h=>by cases h; exact zf_
 | e::es,vs,h=>by
  unfold csV at h
  split at h
  ·rename_i v ws h1 h2
   cases h
   have ih:=zda_ (X:=X) h2
   have:PE X e (tC v)∧starEach (e::es) X.env=(false,eval e X.env)::starEach es X.env:=by
    unfold cV at h1
    split at h1
    ·cases h1; exact ⟨zl5_,rfl⟩
    ·cases h1; exact ⟨zg_,rfl⟩
    ·cases h1; exact ⟨zm5_,rfl⟩
    ·cases h1; exact ⟨zec_,rfl⟩
    ·cases h1
   exact zb_ this.1 ih this.2
  ·cases h
end L2
namespace L2
open PySem PySem.Spec PyProof.Rows
section
variable {κ:Type} [DecidableEq κ]
def valV (kvs:List (κ×V)) (k:κ):Option V:=(kvs.find? fun kv=>decide (kv.1=k)).map (·.2)
def putK (kvs:List (κ×V)) (k:κ) (v:V):List (κ×V) :=
 if (kvs.any fun kv=>decide (kv.1=k))=true then kvs.map (fun kv=>if kv.1=k then (kv.1,v) else kv) else kvs++[(k,v)]
theorem zeN_ {p:κ×V}{r:List (κ×V)}{k:κ}(e:p.1=k):valV (p::r) k=some p.2:=by simp [valV,List.find?_cons,e]
theorem zeC_ {p:κ×V}{r:List (κ×V)}{k:κ}(e:¬ p.1=k):valV (p::r) k=valV r k:=by simp [valV,List.find?_cons,e]
theorem zgZ_ (k:κ):∀ kvs:List (κ×V),(kvs.any fun kv=>decide (kv.1=k))=(valV kvs k).isSome
 | []=>rfl
 | p::r=>by
  rw [List.any_cons]
  by_cases e:p.1=k
  ·simp only [zeN_ e,decide_eq_true e,Bool.true_or,Option.isSome_some]
  ·rw [zeC_ e,decide_eq_false e,Bool.false_or]; exact zgZ_ k r
theorem zcB_ (kvs:List (κ×V)) (k:κ) (v:V):(putK kvs k v).length≤kvs.length+1:=by
 unfold putK
 split
 ·rw [List.length_map]; lia
 ·rw [List.length_append,List.length_cons,List.length_nil]; lia
theorem RelO.isSome_eq {o:Option V}{u:Option Value}(r:RelO o u):o.isSome=u.isSome:=by
 cases o with
 | none=>cases u with
  | none=>rfl
  | some _=>exact (show False from r).elim
 | some _=>cases u with
  | none=>exact (show False from r).elim
  | some _=>rfl
theorem KV.val {kvs:List (κ×V)}{vs:List (κ×Value)}(r:KV kvs vs) (k:κ):RelO (valV kvs k) (valueAt vs k):=by
 unfold KV at r
 induction r with
 | nil=>exact True.intro
 | @cons p q ps qs h t ih =>
  obtain ⟨h1,h2⟩:=h
  by_cases e:p.1=k
  ·have e':q.1=k:=h1.symm.trans e
   have b:valueAt (q::qs) k=some q.2:=by simp [valueAt,List.find?_cons,e']
   rw [zeN_ e,b]; exact h2
  ·have e':¬ q.1=k:=fun z=>e (h1.trans z)
   have b:valueAt (q::qs) k=valueAt qs k:=by simp [valueAt,List.find?_cons,e']
   rw [zeC_ e,b]; exact ih
theorem KV.any {kvs:List (κ×V)}{vs:List (κ×Value)}(r:KV kvs vs) (k:κ):(kvs.any fun kv=>decide (kv.1=k))=vs.any fun kv=>decide (kv.1=k):=by
 unfold KV at r
 induction r with
 | nil=>rfl
 | cons h t ih=>rw [List.any_cons,List.any_cons,ih,h.1]
theorem KV.repl {kvs:List (κ×V)}{vs:List (κ×Value)}(r:KV kvs vs) (k:κ) {y:V}{u:Value}(ry:RelV y u) :
  KV (kvs.map fun kv=>if kv.1=k then (kv.1,y) else kv) (vs.map fun kv=>if kv.1=k then (kv.1,u) else kv):=by
 unfold KV at r ⊢
 induction r with
 | nil=>exact .nil
 | @cons p q ps qs h t ih =>
  rw [List.map_cons,List.map_cons]
  refine .cons ?_ ih
  obtain ⟨h1,h2⟩:=h
  by_cases e:p.1=k
  ·rw [if_pos e,if_pos (h1.symm.trans e)]; exact ⟨h1,ry⟩
  ·rw [if_neg e,if_neg (fun z=>e (h1.trans z))]; exact ⟨h1,h2⟩
theorem KV.put {kvs:List (κ×V)}{vs:List (κ×Value)}(r:KV kvs vs) (k:κ) {y:V}{u:Value}(ry:RelV y u):KV (putK kvs k y) (stored vs k u):=by
 unfold putK stored
 rw [r.any k]
 by_cases e:(vs.any fun kv=>decide (kv.1=k))=true
 ·rw [if_pos e,if_pos e]; exact r.repl k ry
 ·rw [if_neg e,if_neg e]; exact Paired.snoc r ⟨rfl,ry⟩
theorem KV.length {kvs:List (κ×V)}{vs:List (κ×Value)}(r:KV kvs vs):kvs.length=vs.length:=Paired.length r
end
theorem zmh_ {P:Program}{w:World}{k:Key}{u:Value}(r:RelV (kV k) u):(mixKind P w).is k u=true:=by
 cases k with
 | inl i=>obtain ⟨t,e⟩:=(show ∃ t,u=Value.int i t from r); subst e; exact zfo_ P w i t
 | inr x=>obtain ⟨t,e⟩:=(show ∃ t,u=Value.str x t from r); subst e; exact zfQ_ P w x t
theorem zfa_ {P:Program}{w:World}:∀ {ks:List Key}{us:List Value},Vals (ks.map kV) us→ItemsAre (mixKind P w) ks us
 | [],_,r=>by rw [List.map_nil] at r; cases r; exact .nil
 | k::ks,_,r=>by
  rw [List.map_cons] at r
  cases r with
  | cons h t=>exact .cons (zmh_ h) (zfa_ t)
abbrev KT (H:Hp):List (List Key×V)→List (List Key×Addr×Value)→Prop:=Paired fun p q=>p.1=q.1∧H q.2.1=some (.tup (p.1.map kV))∧RelV p.2 q.2.2
theorem KT.val {H:Hp}{kvs:List (List Key×V)}{xs:List (List Key×Addr×Value)}(r:KT H kvs xs) (k:List Key):RelO (valV kvs k) ((atKey xs k).map (·.2)):=by
 induction r with
 | nil=>exact True.intro
 | @cons p q ps qs h t ih =>
  obtain ⟨h1,_,h2⟩:=h
  by_cases e:p.1=k
  ·have e':q.1=k:=h1.symm.trans e
   have b:atKey (q::qs) k=some q.2:=by simp [atKey,List.find?_cons,e']
   rw [zeN_ e,b]; exact h2
  ·have e':¬ q.1=k:=fun z=>e (h1.trans z)
   have b:atKey (q::qs) k=atKey qs k:=by simp [atKey,List.find?_cons,e']
   rw [zeC_ e,b]; exact ih
theorem KT.repl {H:Hp}{kvs:List (List Key×V)}{xs:List (List Key×Addr×Value)}(r:KT H kvs xs) (k:List Key) {y:V}{u:Value}(ry:RelV y u) :
  KT H (kvs.map fun kv=>if kv.1=k then (kv.1,y) else kv) (xs.map (putAt k u)):=by
 induction r with
 | nil=>exact .nil
 | @cons p q ps qs h t ih =>
  rw [List.map_cons,List.map_cons]
  refine .cons ?_ ih
  obtain ⟨h1,h2,h3⟩:=h
  unfold putAt
  by_cases e:p.1=k
  ·rw [if_pos e,if_pos (h1.symm.trans e)]; exact ⟨h1,h2,ry⟩
  ·rw [if_neg e,if_neg (fun z=>e (h1.trans z))]; exact ⟨h1,h2,h3⟩
theorem KT.put {H:Hp}{kvs:List (List Key×V)}{xs:List (List Key×Addr×Value)}(r:KT H kvs xs) (k:List Key) {b:Addr}{y:V}{u:Value}(hb:H b=some (.tup (k.map kV))) (ry:RelV y u) :
  KT H (putK kvs k y) (storedH xs k b u):=by
 have e:(kvs.any fun kv=>decide (kv.1=k))=(atKey xs k).isSome:=by
  rw [zgZ_,(r.val k).isSome_eq,Option.isSome_map]
 unfold putK storedH
 rw [e]
 by_cases q:(atKey xs k).isSome=true
 ·rw [if_pos q,if_pos q]; exact r.repl k ry
 ·rw [if_neg q,if_neg q]; exact Paired.snoc r ⟨rfl,hb,ry⟩
theorem KT.keeps {H H':Hp}{kvs:List (List Key×V)}{xs:List (List Key×Addr×Value)}(r:KT H kvs xs) (ht:∀ b ys,H b=some (.tup ys)→H' b=some (.tup ys)):KT H' kvs xs :=
 Paired.mapP r fun _ _ z=>⟨z.1,ht _ _ z.2.1,z.2.2⟩
section
variable {P:Program}{w:World}{H:Hp}{h:Heap}{a:Addr}
theorem rd_of {u:HO}(ok:HOk P w H h) (e:Rd H a u):ObjOk P w H h a u:=e.ok ok
theorem zlu_ {kvs:List (Key×V)}(ok:HOk P w H h) (e:Rd H a (.dK kvs)):kvs.length≤sizeLine∧(a == sysModules)=false∧∃ vs,KV kvs vs∧h.DictOf (mixKind P w) a vs :=
 show ObjOk P w H h a (.dK kvs) from rd_of ok e
theorem dk_of {kvs:List (Key×V)}(ok:HOk P w H h) (e:H a=some (.dK kvs)):kvs.length≤sizeLine∧(a == sysModules)=false∧∃ vs,KV kvs vs∧h.DictOf (mixKind P w) a vs:=zlu_ ok (.inl e)
theorem zhx_ {ks:List Key}(ok:HOk P w H h) (e:H a=some (.tup (ks.map kV))):(tupleKind (mixKind P w)).is h ks a:=by
 obtain ⟨_,its,r,o,h1,h2,n,h3⟩:=(show ObjOk P w H h a (.tup (ks.map kV)) from ok a _ e)
 exact ⟨o,its.toArray,n,h1,h2,h3,by simpa using zfa_ r⟩
theorem zme_ {kvs:List (List Key×V)}(ok:HOk P w H h) (e:Rd H a (.dT kvs)):kvs.length≤sizeLine∧(a == sysModules)=false ∧
  ∃ xs,KT H kvs xs∧h.DictOfH (tupleKind (mixKind P w)) a xs:=by
 obtain ⟨z,y,xs,r,o,es,ep,h1,h2,h3,h4,h5⟩:=(show ObjOk P w H h a (.dT kvs) from rd_of ok e)
 refine ⟨z,y,xs,r,o,es,ep,h1,h2,h3,h4,fun x hx=>?_,h5⟩
 have all:∀ {l:List (List Key×V)}{m:List (List Key×Addr×Value)},KT H l m→∀ x∈m,(tupleKind (mixKind P w)).is h x.1 x.2.1:=by
  intro l m q
  induction q with
  | nil=>intro x hx; exact nomatch hx
  | @cons p q ps qs hq t ih =>
   intro x hx
   rcases List.mem_cons.mp hx with e | hx
   ·subst e
    exact zhx_ ok (by rw [← hq.1]; exact hq.2.1)
   ·exact ih x hx
 exact all r x hx
theorem dt_of {kvs:List (List Key×V)}(ok:HOk P w H h) (e:H a=some (.dT kvs)):kvs.length≤sizeLine∧(a == sysModules)=false ∧
  ∃ xs,KT H kvs xs∧h.DictOfH (tupleKind (mixKind P w)) a xs:=zme_ ok (.inl e)
end
def DGet (H:Hp) (a:Addr) (y:V) (r:Option V):Prop :=
 (∃ kvs k,Rd H a (.dK kvs)∧y=kV k∧r=valV kvs k)∨∃ kvs k b,Rd H a (.dT kvs)∧y=.ref b∧H b=some (.tup (k.map kV))∧r=valV kvs k
def DPut (H:Hp) (a:Addr) (y v:V) (H':Hp):Prop :=
 (∃ kvs k,H a=some (.dK kvs)∧y=kV k∧kvs.length<sizeLine∧H'=upd H a (.dK (putK kvs k v))) ∨
 ∃ kvs k b,H a=some (.dT kvs)∧y=.ref b∧H b=some (.tup (k.map kV))∧kvs.length<sizeLine∧H'=upd H a (.dT (putK kvs k v))
theorem DGet.k {H:Hp}{a:Addr}{kvs:List (Key×V)}{k:Key}(e:H a=some (.dK kvs)):DGet H a (kV k) (valV kvs k):=.inl ⟨kvs,k,.inl e,rfl,rfl⟩
theorem DPut.k {H:Hp}{a:Addr}{kvs:List (Key×V)}{k:Key}{v:V}(e:H a=some (.dK kvs)) (hl:kvs.length<sizeLine):DPut H a (kV k) v (upd H a (.dK (putK kvs k v))):=.inl ⟨kvs,k,e,rfl,hl,rfl⟩
section
variable {X:Cx}{pins:Pnn}{σ:St}{H:Hp}{s:Shared}{a:Addr}{y v:V}{u r:Value}{o:Option V}{A:Around}{E:Value→Shared→Prop}
theorem Inv.big (I:Inv X pins σ H s):sysModules<s.heap.objs.size:=by
 have h:mainGlobals<s.heap.objs.size:=(I.mod.glob.keeps I.bk).lt
 exact Nat.lt_trans (by decide) h
theorem zh3_ {Q:Value→Shared→Prop}(hu:A.units+1<cLine) (I:Inv X pins σ H s) (g:DGet H a y (some v)) (ry:RelV y u) (h:∀ w' s',Inv X pins σ H s'→RelV v w'→Q w' s') :
  wpAny (model X.prog X.w) A (getItem (.ref a) u) Q E s:=by
 rcases g with ⟨kvs,k,e,ey,l⟩ | ⟨kvs,k,b,e,ey,eb,l⟩
 ·subst ey
  obtain ⟨z,hd,vs,rel,dd⟩:=zlu_ I.hok e
  obtain ⟨w',hw,rw'⟩:=RelO.some_of (v:=v) (o:=valueAt vs k) (by rw [l]; exact rel.val k)
  exact wpAny_getItem_of (zmh_ ry) dd.mapOf hw (h w' _ (I.tok _) rw')
 ·subst ey
  cases (show u=Value.ref b from ry)
  obtain ⟨z,hd,xs,rel,dd⟩:=zme_ I.hok e
  obtain ⟨w',hw,rw'⟩:=RelO.some_of (v:=v) (o:=(atKey xs k).map (·.2)) (by rw [l]; exact rel.val k)
  obtain ⟨p,hp,hp2⟩:=Option.map_eq_some_iff.mp hw
  refine wpAny_getItem_heap (tupleKind_room_in1 hu) (zhx_ I.hok eb) dd hp ?_
  rw [hp2]
  exact h w' _ (I.tok _) rw'
theorem d_in {Q:Value→Shared→Prop}(hu:A.units+1<cLine) (I:Inv X pins σ H s) (g:DGet H a y o) (ry:RelV y u) (h:∀ s',Inv X pins σ H s'→Q (.bool o.isSome) s') :
  wpAny (model X.prog X.w) A (compareOp .In u (.ref a)) Q E s:=by
 rcases g with ⟨kvs,k,e,ey,l⟩ | ⟨kvs,k,b,e,ey,eb,l⟩
 ·subst ey
  obtain ⟨z,hd,vs,rel,dd⟩:=zlu_ I.hok e
  refine wpAny_in_of (zmh_ ry) hd dd.mapOf ?_
  rw [← (rel.val k).isSome_eq,← l]
  exact h _ (I.tok _)
 ·subst ey
  cases (show u=Value.ref b from ry)
  obtain ⟨z,hd,xs,rel,dd⟩:=zme_ I.hok e
  refine wpAny_in_heap (tupleKind_room_in1 hu) (zhx_ I.hok eb) hd dd ?_
  have q:=(rel.val k).isSome_eq
  rw [Option.isSome_map] at q
  rw [← q,← l]
  exact h _ (I.tok _)
theorem ziF_ {h':Heap}{t':Nat}{ob:HO}(I:Inv X pins σ H s) (mu:Mut (H a)) (hs:Heap.SameBut a s.heap h') (he:∃ q,h'.get? a=some q) (new:ObjOk X.prog X.w (upd H a ob) h' a ob) :
  Inv X pins σ (upd H a ob) { s with heap:=h',toks:=t' } :=
 I.write (x:=a) (e:=a) mu (.inl rfl) (fun b q hb z=>(hs.2 b hb).trans z) he new
theorem zni_ {P:Program}{w:World}{H':Hp}{h':Heap}{kvs:List (Key×V)}{vs:List (Key×Value)}(z:kvs.length≤sizeLine) (hd:(a == sysModules)=false) (rel:KV kvs vs) (dd:h'.DictOf (mixKind P w) a vs) :
  ObjOk P w H' h' a (.dK kvs):=⟨z,hd,vs,rel,dd⟩
theorem zh8_ {H':Hp}{Q:Unit→Shared→Prop}(hu:A.units+1<cLine) (I:Inv X pins σ H s) (g:DPut H a y v H') (ry:RelV y u) (rv:RelV v r) (h:∀ s',Inv X pins σ H' s'→Q () s') :
  wpAny (model X.prog X.w) A (setItem (.ref a) u r) Q E s:=by
 rcases g with ⟨kvs,k,e,ey,l,eH⟩ | ⟨kvs,k,b,e,ey,eb,l,eH⟩
 ·subst ey eH
  obtain ⟨z,hd,vs,rel,dd⟩:=dk_of I.hok e
  have hz:vs.length≤sizeLine:=by rw [← rel.length]; exact z
  have hl:(putK kvs k v).length≤sizeLine:=by have:=zcB_ kvs k v; lia
  refine wpAny_setItem_pairs (hsz:=hz) (zmh_ ry) dd fun h' dd' hs=>h _ ?_
  have he:∃ q,h'.get? a=some q:=let ⟨q,_,_,hq,_⟩:=dd'; ⟨q,hq⟩
  exact ziF_ I (by rw [e]; exact True.intro) hs he (zni_ hl hd (rel.put k rv) dd')
 ·subst ey eH
  cases (show u=Value.ref b from ry)
  obtain ⟨z,hd,xs,rel,dd⟩:=dt_of I.hok e
  have hz:xs.length≤sizeLine:=by rw [← Paired.length rel]; exact z
  have hl:(putK kvs k v).length≤sizeLine:=by have:=zcB_ kvs k v; lia
  refine wpAny_setItem_heap (hsz:=hz) (tupleKind_room_in1 hu) (zhx_ I.hok eb) dd fun h' dd' hs=>h _ ?_
  obtain ⟨q,es,ep,hq,h2,h3,h4,_,h5⟩:=dd'
  refine ziF_ I (by rw [e]; exact True.intro) hs ⟨q,hq⟩ ⟨hl,hd,_,(rel.put k eb rv).keeps fun c ys ec=>?_,q,es,ep,hq,h2,h3,h4,h5⟩
  rw [zO_ (ne_of ec e (fun z=>nomatch z))]
  exact ec
end
section
variable {X:Cx}{pins:Pnn}{σ:St}{H:Hp}{s:Shared}{a:Addr}{kvs:List (Key×V)}{k:Key}{u:Value}{A:Around}{E:Value→Shared→Prop}
end
def NoSl (i:Expr):Prop:=∀ ov iv,subscripted i false ov iv=operate [ov,iv] (getItem ov iv)
theorem zkK_ {prog:Program}{w:World}{A:Around}{E:Value→Shared→Prop}{s:Shared}{env:Env}{value slice:Expr}{pos:Pos}{T id:String}{Q:Value→Shared→Prop}
  (hl:typeLookup (.type T) "__getitem__" = pure (some (.builtin id))) (hs:NoSl slice)
  (h:wpAny (model prog w) A (eval value env) (fun o s₁=>wpAny (model prog w) A (eval slice env) (fun i s₂=>s₂.TypeIs o T∧wpAny (model prog w) A (getItem o i) Q E s₂) E s₁) E s) :
  wpAny (model prog w) A (eval (.Subscript value slice pos) env) Q E s:=by
 refine Subscript_ (wpAny_mono h (fun o s₁ h₁=>wpAny_mono h₁ (fun i s₂ h₂=>?_) fun _ _ x=>x) fun _ _ x=>x)
 obtain ⟨hT,h₂⟩:=h₂
 unfold subscriptTail
 refine wpAny_bind ?_
 rw [getitemInPython_of_ne hT.not_modules]
 refine wpAny_bind (wpAny_specialOf hT hl ?_)
 have fin:wpAny (model prog w) A (subscripted slice false o i) (fun r s₃=>wpAny (model prog w) A (letTemporaryGo value o r>>=fun _=>pure r) Q E s₃) E s₂:=by
  rw [hs o i]
  exact wpAny_operating (wpAny_mono h₂ (fun r s₃ h₃=>wpAny_bind (wpAny_letTemporaryGo (wpAny_pure h₃))) fun _ _ x=>x)
 first
  | exact wpAny_pure (wpAny_bind fin)
  | exact wpAny_bind (wpAny_pure (wpAny_bind fin))
  | exact wpAny_bind fin
theorem zfy_ {X:Cx}{pins:Pnn}{σ:St}{H:Hp}{s:Shared}{a:Addr}{y:V}{o:Option V}(I:Inv X pins σ H s) (g:DGet H a y o):s.TypeIs (.ref a) "dict" := by
 rcases g with ⟨kvs,k,e,_,_⟩ | ⟨kvs,k,b,e,_,_,_⟩
 ·obtain ⟨_,_,vs,_,dd⟩:=zlu_ I.hok e
  exact dd.typeIs
 ·obtain ⟨_,_,xs,_,dd⟩:=zme_ I.hok e
  exact dd.typeIs
section
variable {X:Cx}{o i e value:Expr}{pos pos' tpos:Pos}{td ty tv:TE}
end
theorem zjh_ {P:Program}{w:World}{H:Hp}(h:Heap) (hb:sysModules<h.objs.size):ObjOk P w H (h.push { cls:=.type "dict",data:=.dict #[] }) h.objs.size (.dK []) :=
 ⟨Nat.zero_le _,beq_eq_false_iff_ne.mpr (Ne.symm (Nat.ne_of_lt hb)),[],.nil,Heap.DictOf.new h⟩
def tDNewK:TE:=fun _ H Q=>∀ p,H p=none→Q (.ref p) (upd H p (.dK []))
section
variable {X:Cx}{pos:Pos}
theorem zkv_:PE X (.Dict [] [] pos) tDNewK:=fun pins s σ H Q I h =>
 wpAny_Dict_empty ⟨.ref s.heap.objs.size,_,I.laid (a:=s.heap.objs.size) (o:=.dK []) (t':=s.toks) (fun _ _ q=>Heap.get?_push_of_some _ q) (Nat.le_refl _) (zjh_ s.heap I.big),rfl,h _ (I.hok.fresh (Nat.le_refl _))⟩
end
section
variable {X:Cx}{pins:Pnn}{σ:St}{H:Hp}{s:Shared}{a:Addr}{y d:V}{u r:Value}{o:Option V}{A:Around}{E:Value→Shared→Prop}
end
section
variable {X:Cx}{o e f:Expr}{apos cpos:Pos}{td ty tx:TE}
end
section
variable {X:Cx}{pins:Pnn}{σ:St}{H:Hp}{s:Shared}{a:Addr}{kvs:List (Key×V)}{A:Around}{E:Value→Shared→Prop}
end
section
variable {X:Cx}{pins:Pnn}{σ:St}{H:Hp}{s:Shared}{a:Addr}{y:V}{u:Value}{A:Around}{E:Value→Shared→Prop}
namespace L2
open PySem PySem.Spec PyProof.Rows
section
variable {X:Cx}
end
section
variable {κ:Type} [DecidableEq κ]
end
end L2
end
end L2
namespace L2
open PySem PySem.Spec PyProof.Rows
section
variable {X:Cx}
end
section
variable {X:Cx}{elts:List Expr}{kk:Nat}{tpos:Pos}
end
section
variable {X:Cx}{e st:Expr}{te:TE}{ts:TO}{pos p2:Pos}
end
end L2
namespace L2
open PySem PySem.Spec PyProof.Rows
def keyV:V→Option Key
 | .int i=>some (.inl i)
 | .str z=>some (.inr z)
 | _=>none
theorem zk1_ {y:V}{k:Key}(h:keyV y=some k):y=kV k:=by
 cases y<;>first | (cases h; rfl) | cases h
def atD (x y:V) (H:Hp) (R:Addr→List (Key×V)→Key→Prop):Prop:=match x with
 | .ref a=>(match keyV y with | some k=>∃ kvs,H a=some (.dK kvs)∧R a kvs k | none=>False)
 | _=>False
theorem zjo_ {x y:V}{H:Hp}{R:Addr→List (Key×V)→Key→Prop}(h:atD x y H R):∃ a kvs k,x=.ref a∧y=kV k∧H a=some (.dK kvs)∧R a kvs k:=by
 unfold atD at h
 cases x with
 | ref a =>
  cases e:keyV y with
  | none=>rw [e] at h; exact h.elim
  | some k =>
   rw [e] at h
   obtain ⟨kvs,h1,h2⟩:=h
   exact ⟨a,kvs,k,rfl,zk1_ e,h1,h2⟩
 | _=>exact h.elim
def mDGet (td ty:TE):TE:=fun σ H Q=>td σ H fun x H1=>ty σ H1 fun y H2=>atD x y H2 fun _ kvs k=>∃ v,valV kvs k=some v∧Q v H2
def mDIn (neg:Bool) (ty td:TE):TE:=fun σ H Q=>ty σ H fun y H1=>td σ H1 fun x H2=>atD x y H2 fun _ kvs k=>Q (.bl (if neg then !(valV kvs k).isSome else (valV kvs k).isSome)) H2
def mDPut (td ty tv:TE):TS:=fun D σ H=>tv σ H fun v H1=>td σ H1 fun x H2=>ty σ H2 fun y H3=>atD x y H3 fun a kvs k=>kvs.length<sizeLine∧D.nx σ (upd H3 a (.dK (putK kvs k v)))
section
variable {X:Cx}{o i e value:Expr}{pos pos' tpos:Pos}{td ty tv:TE}
theorem zgY_ (hu:X.A.units+60<cLine) (ho:PE X o td) (hi:PE X i ty) (hs:NoSl i:=by exact fun _ _=>rfl):PE X (.Subscript o i pos) (mDGet td ty):=by
 intro pins s σ H Q I h
 refine zkK_ PySem.F.slot_dict_getitem.lookup hs (thn (ho pins s σ H _ I h) fun u s1 ⟨x,H1,I1,rx,q1⟩=>thn (hi pins s1 σ H1 _ I1 q1) fun iv s2 hq_=>?_)
 obtain ⟨y,H2,I2,ry,q2⟩:=hq_
 obtain ⟨a,kvs,k,rfl,rfl,hd,v,hv,q⟩:=zjo_ q2
 obtain rfl:u=Value.ref a:=rx
 have g:DGet H2 a (kV k) (some v):=by rw [← hv]; exact DGet.k hd
 exact ⟨zfy_ I2 g,zh3_ (by lia) I2 g ry fun w' s3 I3 rw'=>⟨v,H2,I3,rw',q⟩⟩
theorem zlK_ (hu:X.A.units+60<cLine) (hi:PE X i ty) (ho:PE X o td):PC X .In i o (mDIn false ty td):=by
 intro pins s σ H Q I h
 refine thn (hi pins s σ H _ I h) fun iv s1 ⟨y,H1,I1,ry,q1⟩=>thn (ho pins s1 σ H1 _ I1 q1) fun u s2 hq_=>?_
 obtain ⟨x,H2,I2,rx,q2⟩:=hq_
 obtain ⟨a,kvs,k,rfl,rfl,hd,q⟩:=zjo_ q2
 obtain rfl:u=Value.ref a:=rx
 exact d_in (by lia) I2 (DGet.k (k:=k) hd) ry fun s3 I3=>⟨.bl (valV kvs k).isSome,H2,I3,rfl,q⟩
theorem zkg_ (hu:X.A.units+60<cLine) (ho:PE X o td) (hi:PE X i ty) (hv:PE X value tv) (hs:swapsWith value (some (.Subscript o i pos')) pos.line X.env=pure false:=by rfl) :
  PS X (.Assign [.Subscript o i pos'] value pos) (mDPut td ty tv):=by
 intro pins s σ H D I h
 refine wpAny_Assign_Subscript (thn (hv pins s σ H _ I h) fun r s1 ⟨v,H1,I1,rv,q1⟩=>thn (ho pins s1 σ H1 _ I1 q1) fun u s2 ⟨x,H2,I2,rx,q2⟩=>thn (hi pins s2 σ H2 _ I2 q2) fun iv s3 hq_=>?_) hs
 obtain ⟨y,H3,I3,ry,q3⟩:=hq_
 obtain ⟨a,kvs,k,rfl,rfl,hd,hl,q⟩:=zjo_ q3
 obtain rfl:u=Value.ref a:=rx
 exact zh8_ (by lia) I3 (DPut.k hd hl) ry rv fun s4 I4=>⟨σ,_,I4,q⟩
end
section
variable {X:Cx}{o e f:Expr}{apos cpos:Pos}{td ty tx':TE}
end
section
variable {X:Cx}{o i:Expr}{pos:Pos}{td ty:TE}
theorem zjn_ {op:CmpOp}{a b:Expr}{t:TE}(h:PC X op a b t) (h1:behindInMarks op b=false):PT X (.Compare a [op] [b] pos) (mTest t):=by
 intro pins s σ H Q I hw
 refine wpAny_isTrue_Compare1 (thn (h pins s σ H _ I hw) fun v s1 q=>thn q fun u s2 q=>thn q fun c s3 hq_=>?_) h1
 obtain ⟨x,H1,I1,r,q⟩:=hq_
 cases x with
 | bl k=>cases r; exact wpAny_truthy_bool ⟨H1,I1,q⟩
 | _=>exact q.elim
theorem zlp_ (hu:X.A.units+60<cLine) (hi:PE X i ty) (ho:PE X o td) (h1:behindInMarks .In o=false:=by rfl):PT X (.Compare i [.In] [o] pos) (mTest (mDIn false ty td)):=zjn_ (zlK_ hu hi ho) h1
end
end L2
namespace L2
open PySem PySem.Spec PyProof.Rows
inductive Av where
 | i (n:Int) | p (a b:Int)
inductive Xc where
 | pl (c:String) | at (c:String) (as:List (Str×Av))
instance:Coe String Xc:=⟨Xc.pl⟩
inductive Mo (α:Type) where
 | ok (a:α) | ex (c:Xc) | no
namespace Mo
variable {α β γ:Type}
def bind (x:Mo α) (f:α→Mo β):Mo β:=match x with | .ok a=>f a | .ex c=>.ex c | .no=>.no
theorem ok_bind (a:α) (f:α→Mo β):(Mo.ok a).bind f=f a:=rfl
def noex (x:Mo α):Mo α:=match x with | .ok a=>.ok a | _=>.no
def lim (n:Nat) (k:Mo α):Mo α:=if n≤sizeLine then k else .no
theorem lim_ok {n:Nat}{k:Mo α}(h:n≤100000):lim n k=k:=if_pos (zb5_ h)
def grd (p:Prop) [Decidable p] (k:Mo α):Mo α:=if p then k else .no
theorem grd_ok {p:Prop} [Decidable p] {k:Mo α}(h:p):grd p k=k:=if_pos h
def opt (x:Option α):Mo α:=match x with | some a=>.ok a | none=>.no
end Mo
def un (F h:Hp):Hp:=fun p=>match F p with | some o=>some o | none=>h p
def Dj (F h:Hp):Prop:=∀ p,F p=none∨h p=none
def Jn (h1 h2 h:Hp):Prop:=∀ p,(h1 p=none∧h p=h2 p)∨(h2 p=none∧h p=h1 p)
def Ext (F H F' H':Hp):Prop:=Same F F'∧Same F' H'∧Same H H'∧∀ p,F p=none→F' p≠none→H p=none
theorem Ext.refl {F H:Hp}(h:Same F H):Ext F H F H:=⟨Same.refl _,h,Same.refl _,fun p a b=>absurd a b⟩
theorem Ext.trans {F H F1 H1 F2 H2:Hp}(a:Ext F H F1 H1) (b:Ext F1 H1 F2 H2):Ext F H F2 H2:=by
 obtain ⟨a1,a2,a3,a4⟩:=a
 obtain ⟨b1,b2,b3,b4⟩:=b
 refine ⟨a1.trans b1,b2,a3.trans b3,fun p hp hq=>?_⟩
 cases e:F1 p with
 | none=>exact a3.free (b4 p e hq)
 | some o=>exact a4 p hp (by rw [e]; exact Option.some_ne_none _)
theorem Ext.heap {F H H':Hp}(h:Same F H) (g:Same H H'):Ext F H F H':=⟨Same.refl _,h.trans g,g,fun p a b=>absurd a b⟩
theorem Ext.new {F H:Hp}(h:Same F H) {p:Addr}{o:HO}(hp:H p=none):Ext F H (upd F p o) (upd H p o):=by
 refine ⟨zas_ (h.free hp) _,fun b u e=>?_,zas_ hp _,fun q a b=>?_⟩
 ·unfold upd at e ⊢
  split
  ·rename_i z; rw [if_pos z] at e; exact e
  ·rename_i z; rw [if_neg z] at e; exact h _ _ e
 ·unfold upd at b
  split at b
  ·rename_i z; rw [z]; exact hp
  ·exact absurd a b
structure Ty (α:Type) where
 R:α→V→Hp→Prop
 mono:∀ {a v H H'},Same H H'→R a v H→R a v H'
def Tups (H H':Hp):Prop:=∀ p xs,H p=some (.tup xs)→H' p=some (.tup xs)
theorem Same.tups {H H':Hp}(h:Same H H'):Tups H H':=fun p xs e=>h _ _ e
def Imm {α:Type}(T:Ty α):Prop:=∀ {a v H H'},Tups H H'→T.R a v H→T.R a v H'
abbrev tyInt:Ty Int:=⟨fun a v _=>v=.int a,fun _ h=>h⟩
abbrev tyStr:Ty (List Nat):=⟨fun a v _=>v=tx a,fun _ h=>h⟩
abbrev tyBl:Ty Bool:=⟨fun a v _=>v=.bl a,fun _ h=>h⟩
abbrev tyNon:Ty Unit:=⟨fun _ v _=>v=.non,fun _ h=>h⟩
theorem zh_:Imm tyInt:=fun _ h=>h
theorem zy_:Imm tyStr:=fun _ h=>h
theorem zcz_:Imm tyBl:=fun _ h=>h
abbrev tyOpt {α:Type}(T:Ty α):Ty (Option α):=⟨fun a v H=>match a with | none=>v=.non | some x=>T.R x v H∧v≠.non,fun {a v H H'} g h=>by cases a with | none=>exact h | some x=>exact ⟨T.mono g h.1,h.2⟩⟩
theorem zaU_ {α:Type}{T:Ty α}(i:Imm T):Imm (tyOpt T):=fun {a v H H'} g h=>by cases a with | none=>exact h | some x=>exact ⟨i g h.1,h.2⟩
structure Cs (γ:Type) where
 R:γ→List V→Hp→Prop
 mono:∀ {c vs H H'},Same H H'→R c vs H→R c vs H'
def ImmC {γ:Type}(C:Cs γ):Prop:=∀ {c vs H H'},Tups H H'→C.R c vs H→C.R c vs H'
abbrev csLast {α:Type}(T:Ty α):Cs α:=⟨fun a vs H=>∃ v,vs=[v]∧T.R a v H,fun g ⟨v,e,h⟩=>⟨v,e,T.mono g h⟩⟩
abbrev csCons {α γ:Type}(T:Ty α) (C:Cs γ):Cs (α×γ):=⟨fun a vs H=>∃ v us,vs=v::us∧T.R a.1 v H∧C.R a.2 us H,fun g ⟨v,us,e,h,q⟩=>⟨v,us,e,T.mono g h,C.mono g q⟩⟩
theorem zo_ {α:Type}{T:Ty α}(i:Imm T):ImmC (csLast T):=fun g ⟨v,e,h⟩=>⟨v,e,i g h⟩
theorem zp_ {α γ:Type}{T:Ty α}{C:Cs γ}(i:Imm T) (j:ImmC C):ImmC (csCons T C):=fun g ⟨v,us,e,h,q⟩=>⟨v,us,e,i g h,j g q⟩
abbrev tyTup {γ:Type}(C:Cs γ):Ty γ:=⟨fun c v H=>∃ p us,v=.ref p∧H p=some (.tup us)∧C.R c us H,fun g ⟨p,us,e,h,q⟩=>⟨p,us,e,g _ _ h,C.mono g q⟩⟩
theorem zG_ {γ:Type}{C:Cs γ}(i:ImmC C):Imm (tyTup C):=fun g ⟨p,us,e,h,q⟩=>⟨p,us,e,g _ _ h,i g q⟩
abbrev Prs {α:Type}(T:Ty α) (H:Hp) (xs:List α) (vs:List V):Prop:=Paired (fun x v=>T.R x v H) xs vs
theorem zam_ {α β:Type}{R R':α→β→Prop}(h:∀ a b,R a b→R' a b):∀ {xs:List α}{ys:List β},Paired R xs ys→Paired R' xs ys
 | _,_,.nil=>.nil
 | _,_,.cons a t=>.cons (h _ _ a) (zam_ h t)
theorem Prs.mono {α:Type}{T:Ty α}{H H':Hp}{xs:List α}{vs:List V}(g:Same H H') (h:Prs T H xs vs):Prs T H' xs vs:=zam_ (fun _ _ r=>T.mono g r) h
theorem Prs.imm {α:Type}{T:Ty α}(i:Imm T) {H H':Hp}{xs:List α}{vs:List V}(g:Tups H H') (h:Prs T H xs vs):Prs T H' xs vs:=zam_ (fun _ _ r=>i g r) h
abbrev tyL {α:Type}(T:Ty α):Ty (List α):=⟨fun xs v H=>∃ p vs,v=.ref p∧H p=some (.lst vs)∧Prs T H xs vs,fun g ⟨p,vs,e,h,q⟩=>⟨p,vs,e,g _ _ h,q.mono g⟩⟩
abbrev tySc (K:Fgg):Ty (List Int):=⟨fun xs v H=>∃ p,v=.ref p∧SqL K H p (xs.map V.int),fun g ⟨p,e,h⟩=>⟨p,e,g.seq h⟩⟩
structure Own (α:Type) where
 O:α→V→Hp→Hp→Prop
 fr:Ty α
 mono:∀ {a v F F' h},Same F F'→O a v F h→O a v F' h
 frz:∀ {a v F h},Dj F h→O a v F h→fr.R a v (un F h)
 notup:∀ {a v F h},O a v F h→∀ p xs,h p≠some (.tup xs)
def ImmO {α:Type}(O:Own α):Prop:=∀ {a v F F' h},Tups F F'→O.O a v F h→O.O a v F' h
theorem zbI_ {F h:Hp}:Same F (un F h):=fun p o e=>by unfold un; rw [e]
theorem zig_ {F h:Hp}(d:Dj F h):Same h (un F h):=fun p o e=>by
 unfold un
 rcases d p with z | z
 ·rw [z]; exact e
 ·rw [z] at e; cases e
abbrev owF {α:Type}(T:Ty α):Own α:=⟨fun a v F h=>(∀ p,h p=none)∧T.R a v F,T,fun g ⟨e,h⟩=>⟨e,T.mono g h⟩,fun _ ⟨_,h⟩=>T.mono zbI_ h,fun ⟨e,_⟩ p xs z=>by rw [e] at z; cases z⟩
theorem zU_ {α:Type}{T:Ty α}(i:Imm T):ImmO (owF T):=fun g ⟨e,h⟩=>⟨e,i g h⟩
def one (p:Addr) (o:HO):Hp:=fun q=>if q=p then some o else none
theorem zby_ {p:Addr}{o:HO}:one p o p=some o:=if_pos rfl
abbrev owL {α:Type}(T:Ty α):Own (List α):=⟨fun xs v F h=>∃ p vs,v=.ref p∧h=one p (.lst vs)∧Prs T F xs vs,tyL T,fun g ⟨p,vs,e,z,q⟩=>⟨p,vs,e,z,q.mono g⟩,
 fun d ⟨p,vs,e,z,q⟩=>⟨p,vs,e,zig_ d _ _ (by rw [z]; exact zby_),q.mono zbI_⟩,
 fun ⟨p,vs,e,z,q⟩ b xs y=>by rw [z] at y; unfold one at y; split at y<;>cases y⟩
theorem zL_ {α:Type}{T:Ty α}(i:Imm T):ImmO (owL T):=fun g ⟨p,vs,e,z,q⟩=>⟨p,vs,e,z,q.imm i g⟩
inductive Sl:Type 1 where
 | dead
 | fz {α:Type}(T:Ty α) (a:α)
 | ow {α:Type}(O:Own α) (a:α)
def Sl.P:Sl→Option V→Hp→Hp→Prop
 | .dead,_,_,_=>True
 | .fz T a,o,F,_=>∃ v,o=some v∧T.R a v F
 | .ow O a,o,F,h=>∃ v,o=some v∧O.O a v F h
def Sl.Z:Sl→Option V→Hp→Prop
 | .dead,_,_=>True
 | .fz T a,o,F=>∃ v,o=some v∧T.R a v F
 | .ow O a,o,F=>∃ v,o=some v∧O.fr.R a v F
def Sl.cold:Sl→Sl
 | .ow _ _=>.dead
 | s=>s
def Hold:List Sl→St→Hp→Hp→Prop
 | [],[],_,_=>True
 | s::L,o::σ,F,h=>∃ h1 h2,Jn h1 h2 h∧s.P o F h1∧Hold L σ F h2
 | _,_,_,_=>False
def HoldF (L:List Sl) (σ:St) (F:Hp):Prop:=∀ (i:Nat) (s:Sl),L[i]?=some s→s.Z (σ[i]?.join) F
theorem Sl.P.mono {s:Sl}{o:Option V}{F F' h:Hp}(g:Same F F') (q:s.P o F h):s.P o F' h:=by
 cases s with
 | dead=>exact q
 | fz T a=>obtain ⟨v,e,r⟩:=q; exact ⟨v,e,T.mono g r⟩
 | ow O a=>obtain ⟨v,e,r⟩:=q; exact ⟨v,e,O.mono g r⟩
theorem Sl.Z.mono {s:Sl}{o:Option V}{F F':Hp}(g:Same F F') (q:s.Z o F):s.Z o F':=by
 cases s with
 | dead=>exact q
 | fz T a=>obtain ⟨v,e,r⟩:=q; exact ⟨v,e,T.mono g r⟩
 | ow O a=>obtain ⟨v,e,r⟩:=q; exact ⟨v,e,O.fr.mono g r⟩
theorem HoldF.mono {L:List Sl}{σ:St}{F F':Hp}(g:Same F F') (q:HoldF L σ F):HoldF L σ F':=fun i s e=>(q i s e).mono g
theorem Hold.mono:∀ {L:List Sl}{σ:St}{F F' h:Hp},Same F F'→Hold L σ F h→Hold L σ F' h
 | [],[],_,_,_,_,q=>q
 | s::L,o::σ,F,F',h,g,⟨h1,h2,j,p,r⟩=>⟨h1,h2,j,p.mono g,r.mono g⟩
 | [],_::_,_,_,_,_,q=>q.elim
 | _::_,[],_,_,_,_,q=>q.elim
theorem Hold.len:∀ {L:List Sl}{σ:St}{F h:Hp},Hold L σ F h→L.length=σ.length
 | [],[],_,_,_=>rfl
 | s::L,o::σ,F,h,⟨h1,h2,j,p,r⟩=>by rw [List.length_cons,List.length_cons,r.len]
 | [],_::_,_,_,q=>q.elim
 | _::_,[],_,_,q=>q.elim
theorem Jn.l {h1 h2 h:Hp}(j:Jn h1 h2 h):Same h1 h:=fun p o e=>by
 rcases j p with ⟨a,b⟩ | ⟨a,b⟩
 ·rw [a] at e; cases e
 ·rw [b]; exact e
theorem Jn.r {h1 h2 h:Hp}(j:Jn h1 h2 h):Same h2 h:=fun p o e=>by
 rcases j p with ⟨a,b⟩ | ⟨a,b⟩
 ·rw [b]; exact e
 ·rw [a] at e; cases e
theorem Jn.dj {h1 h2 h:Hp}(j:Jn h1 h2 h):Dj h1 h2:=fun p=>by
 rcases j p with ⟨a,b⟩ | ⟨a,b⟩
 ·exact .inl a
 ·exact .inr a
theorem zmc_ {h1 h2:Hp}(d:Dj h1 h2):Jn h1 h2 (un h1 h2):=fun p=>by
 unfold un
 rcases d p with a | a
 ·rw [a]; exact .inl ⟨rfl,rfl⟩
 ·refine .inr ⟨a,?_⟩
  cases h1 p with
  | none=>exact a
  | some o=>rfl
theorem Hold.at:∀ {L:List Sl}{σ:St}{F h:Hp}(i:Nat) {s:Sl},Hold L σ F h→L[i]?=some s →
  ∃ o h1 h2,σ[i]?=some o∧Jn h1 h2 h∧s.P o F h1∧∀ s' o' h1' h',Jn h1' h2 h'→s'.P o' F h1'→Hold (L.set i s') (σ.set i o') F h'
 | [],_,_,_,_,_,_,e=>by cases e
 | s::L,[],_,_,_,_,q,_=>q.elim
 | s::L,o::σ,F,h,0,t,⟨h1,h2,j,p,r⟩,e=>by
  cases e
  exact ⟨o,h1,h2,rfl,j,p,fun s' o' h1' h' j' p'=>⟨h1',h2,j',p',r⟩⟩
 | s::L,o::σ,F,h,i+1,t,⟨h1,h2,j,p,r⟩,e=>by
  obtain ⟨o1,k1,k2,e1,j1,p1,f⟩:=Hold.at i r (by simpa using e)
  have d1:Dj h1 k1:=fun p=>by
   rcases j.dj p with a | a
   ·exact .inl a
   ·exact .inr (j1.l.free a)
  have d2:Dj h1 k2:=fun p=>by
   rcases j.dj p with a | a
   ·exact .inl a
   ·exact .inr (j1.r.free a)
  refine ⟨o1,k1,un h1 k2,by simpa using e1,fun p=>?_,p1,fun s' o' k1' h' j' p'=>?_⟩
  ·rcases j p with ⟨a,b⟩ | ⟨a,b⟩
   ·rcases j1 p with ⟨c,d⟩ | ⟨c,d⟩
    ·refine .inl ⟨c,?_⟩; unfold un; rw [a,b,d]
    ·refine .inr ⟨?_,by rw [b,d]⟩; unfold un; rw [a,c]
   ·refine .inl ⟨j1.l.free a,?_⟩
    have:k2 p=none:=j1.r.free a
    unfold un; rw [b]
    cases h1 p with
    | none=>rw [this]
    | some u=>rfl
  ·have dd:Dj k1' k2:=fun p=>by
    rcases j' p with ⟨a,b⟩ | ⟨a,b⟩
    ·exact .inl a
    ·right; unfold un at a
     cases z:h1 p with
     | none=>rw [z] at a; exact a
     | some u=>rw [z] at a; cases a
   refine ⟨h1,un k1' k2,fun p=>?_,p,f s' o' k1' _ (zmc_ dd) p'⟩
   rcases j' p with ⟨a,b⟩ | ⟨a,b⟩
   ·unfold un at b ⊢
    cases z:h1 p with
    | none=>rw [z] at b; exact .inl ⟨rfl,by rw [b,a]⟩
    | some u =>
     rw [z] at b
     refine .inr ⟨?_,b⟩
     rw [a]
     rcases d2 p with y | y
     ·rw [y] at z; cases z
     ·exact y
   ·unfold un at a
    cases z:h1 p with
    | some u=>rw [z] at a; cases a
    | none =>
     rw [z] at a
     refine .inl ⟨rfl,?_⟩
     unfold un; rw [b]
     cases k1' p with
     | none=>exact a.symm
     | some u=>rfl
theorem Hold.froz {L:List Sl}{σ:St}{F h:Hp}(d:Dj F h) (q:Hold L σ F h):HoldF L σ (un F h):=by
 intro i s e
 obtain ⟨o,h1,h2,e1,j,p,_⟩:=q.at i e
 rw [e1]
 have d1:Dj F h1:=fun p=>by
  rcases d p with a | a
  ·exact .inl a
  ·exact .inr (j.l.free a)
 cases s with
 | dead=>trivial
 | fz T a=>obtain ⟨v,e2,r⟩:=p; exact ⟨v,e2,T.mono zbI_ r⟩
 | ow O a =>
  obtain ⟨v,e2,r⟩:=p
  refine ⟨v,e2,O.fr.mono (fun p u z=>?_) (O.frz d1 r)⟩
  unfold un at z ⊢
  cases y:F p with
  | some w=>rw [y] at z; exact z
  | none=>rw [y] at z; exact j.l _ _ z
theorem Hold.coldF {L:List Sl}{σ:St}{F h:Hp}(q:Hold L σ F h):HoldF (L.map Sl.cold) σ F:=by
 intro i s e
 rw [List.getElem?_map] at e
 cases e1:L[i]? with
 | none=>rw [e1] at e; cases e
 | some t =>
  rw [e1] at e
  cases e
  obtain ⟨o,h1,h2,e2,j,p,_⟩:=q.at i e1
  rw [e2]
  cases t with
  | dead=>trivial
  | fz T a=>obtain ⟨v,e2,r⟩:=p; exact ⟨v,e2,r⟩
  | ow O a=>trivial
end L2
namespace L2
open PySem PySem.Spec PyProof.Rows
def Av.R:Av→V→Hp→Prop
 | .i n,v,_=>v=.int n
 | .p a b,v,H=>∃ q,v=.ref q∧H q=some (.tup [.int a,.int b])
theorem Av.imm {x:Av}{v:V}{H H':Hp}(g:Tups H H') (h:x.R v H):x.R v H':=by
 cases x with
 | i n=>exact h
 | p a b=>obtain ⟨q,e,z⟩:=h; exact ⟨q,e,g _ _ z⟩
def AtR (as:List (Str×Av)) (fs:List (Str×V)) (F:Hp):Prop:=Paired (fun a f=>a.1=f.1∧a.2.R f.2 F) as fs
theorem AtR.imm {as:List (Str×Av)}{fs:List (Str×V)}{H H':Hp}(g:Tups H H') (h:AtR as fs H):AtR as fs H':=zam_ (fun _ _ r=>⟨r.1,Av.imm g r.2⟩) h
def Tell (K:Fgg) (E:XK) (x:Xc) (H0 F H:Hp):Prop:=match x with
 | .pl c=>E (.ref (gA K c)) none H
 | .at c as=>∀ dx fs,H0 dx=none→F dx=some (XDO dx fs)→AtR as fs F→E (.ref (gA K c)) (some dx) H
theorem Tell.up {K:Fgg}{E:XK}{x:Xc}{H0 H1 F H:Hp}(s:Same H0 H1) (h:Tell K E x H0 F H):Tell K E x H1 F H:=by
 cases x with
 | pl c=>exact h
 | «at» c as=>exact fun dx fs e=>h dx fs (s.free e)
def After {α:Type}(K:Fgg) (r:Mo α) (E:XK) (F H:Hp) (k:α→Hp→Hp→Prop):Prop:=match r with
 | .ok a=>∀ F' H',Ext F H F' H'→k a F' H'
 | .ex c=>∀ F' H',Ext F H F' H'→Tell K E c H F' H'
 | .no=>False
section
variable {K:Fgg}{E:XK}{α β γ ρ:Type}{F H:Hp}
theorem After.bind {r:Mo α}{f:α→Mo β}{k:β→Hp→Hp→Prop}(h:After K (r.bind f) E F H k):After K r E F H fun a F1 H1=>After K (f a) E F1 H1 k:=by
 cases r with
 | ok a =>
  intro F1 H1 x
  have h':After K (f a) E F H k:=h
  cases e:f a with
  | ok b=>rw [e] at h'; exact fun F2 H2 y=>h' F2 H2 (x.trans y)
  | ex c=>rw [e] at h'; exact fun F2 H2 y=>(h' F2 H2 (x.trans y)).up x.2.2.1
  | no=>rw [e] at h'; exact h'
 | ex c=>exact h
 | no=>exact h
theorem After.imp {r:Mo α}{k k':α→Hp→Hp→Prop}(h:After K r E F H k) (g:∀ a F' H',Ext F H F' H'→k a F' H'→k' a F' H'):After K r E F H k':=by
 cases r with
 | ok a=>exact fun F' H' x=>g a F' H' x (h F' H' x)
 | ex c=>exact h
 | no=>exact h
theorem After.ok {a:α}{k:α→Hp→Hp→Prop}(hs:Same F H) (h:After K (.ok a) E F H k):k a F H:=h F H (.refl hs)
theorem After.noex {r:Mo α}{k:α→Hp→Hp→Prop}(h:After K r.noex E F H k):After K r E0 F H k:=by
 cases r with
 | ok a=>exact h
 | ex c=>exact h.elim
 | no=>exact h
theorem After.lim {n:Nat}{r:Mo α}{k:α→Hp→Hp→Prop}(h:After K (Mo.lim n r) E F H k):n≤sizeLine∧After K r E F H k:=by
 unfold Mo.lim at h
 split at h
 ·exact ⟨by assumption,h⟩
 ·exact h.elim
theorem After.grd {p:Prop} [Decidable p] {r:Mo α}{k:α→Hp→Hp→Prop}(h:After K (Mo.grd p r) E F H k):p∧After K r E F H k:=by
 unfold Mo.grd at h
 split at h
 ·exact ⟨by assumption,h⟩
 ·exact h.elim
theorem After.opt {x:Option α}{k:α→Hp→Hp→Prop}(h:After K (Mo.opt x) E F H k):∃ a,x=some a∧After K (.ok a) E F H k:=by
 cases x with
 | none=>exact h.elim
 | some a=>exact ⟨a,rfl,h⟩
def EvF (K:Fgg) (e:TE) (E:XK) (L:List Sl) (r:Mo α) (T:Ty α):Prop :=
 ∀ σ F H (Q:VK),HoldF L σ F→Same F H→After K r E F H (fun a F' H'=>∀ v,T.R a v F'→Q v H')→e σ H Q
def OwnK (O:Own α) (H:Hp) (Q:VK) (a:α) (F' H':Hp):Prop:=∀ v h,(∀ p,h p≠none→H p=none)→Dj F' h→Same h H'→O.O a v F' h→Q v H'
def EvO (K:Fgg) (e:TE) (E:XK) (L:List Sl) (r:Mo α) (O:Own α):Prop :=
 ∀ σ F H (Q:VK),HoldF L σ F→Same F H→After K r E F H (OwnK O H Q)→e σ H Q
def EvT (K:Fgg) (t:TT) (E:XK) (L:List Sl) (r:Mo Bool):Prop :=
 ∀ σ F H (Q:Bool→Hp→Prop),HoldF L σ F→Same F H→After K r E F H (fun b _ H'=>Q b H')→t σ H Q
def EvA (K:Fgg) (t:TA) (E:XK) (L:List Sl) (r:Mo γ) (C:Cs γ):Prop :=
 ∀ σ F H (Q:List V→Hp→Prop),HoldF L σ F→Same F H→After K r E F H (fun c F' H'=>∀ vs,C.R c vs F'→Q vs H')→t σ H Q
variable {L:List Sl}{e e1 e2:TE}{T:Ty α}{r:Mo α}
theorem EvO.fr {O:Own α}(h:EvO K e E L r O):EvF K e E L r O.fr:=by
 intro σ F H Q hL hs q
 refine h σ F H Q hL hs ?_
 cases r with
 | ok a =>
  intro F' H' x v h' fresh d s o
  refine q (un F' h') H' ⟨x.1.trans zbI_,fun p o e=>?_,x.2.2.1,fun p a b=>?_⟩ v (O.frz d o)
  ·unfold un at e
   cases z:F' p with
   | some w=>rw [z] at e; cases e; exact x.2.1 _ _ z
   | none=>rw [z] at e; exact s _ _ e
  ·unfold un at b
   cases z:F' p with
   | some w=>exact x.2.2.2 p a (by rw [z]; exact Option.some_ne_none _)
   | none=>rw [z] at b; exact fresh p b
 | ex c=>exact q
 | no=>exact q
theorem EvF.ow (h:EvF K e E L r T):EvO K e E L r (owF T):=by
 intro σ F H Q hL hs q
 refine h σ F H Q hL hs (q.imp fun a F' H' x k v hv=>?_)
 exact k v (fun _=>none) (fun p z=>absurd rfl z) (fun p=>.inr rfl) (fun p o z=>by cases z) ⟨fun _=>rfl,hv⟩
theorem ev_c {v:V}{a:α}(h:∀ F,T.R a v F):EvF K (tC v) E L (.ok a) T:=fun σ F H Q hL hs q=>q.ok hs v (h F)
theorem zj_ (i:Int):EvF K (tC (.int i)) E L (.ok i) tyInt:=ev_c fun _=>rfl
theorem zA_ (l:List Nat):EvF K (tC (tx l)) E L (.ok l) tyStr:=ev_c fun _=>rfl
theorem ev_bl (b:Bool):EvF K (tC (.bl b)) E L (.ok b) tyBl:=ev_c fun _=>rfl
theorem zmS_:EvF K (tC .non) E L (.ok ()) tyNon:=ev_c fun _=>rfl
theorem zd8_ {β:Type}{T:Ty β}:EvF K (tC .non) E L (.ok (none:Option β)) (tyOpt T):=ev_c fun _=>rfl
theorem zgd_ (hn:∀ a v F,T.R a v F→v≠.non) (h:EvF K e E L r T):EvF K e E L (r.bind fun a=>.ok (some a)) (tyOpt T):=by
 intro σ F H Q hL hs q
 exact h σ F H Q hL hs (q.bind.imp fun a F1 H1 x k v hv=>k.ok x.2.1 v ⟨hv,hn _ _ _ hv⟩)
theorem zc_ (i:Nat) {a:α}(h:L[i]?=some (.fz T a)):EvF K (mVar i) E L (.ok a) T:=by
 intro σ F H Q hL hs q
 obtain ⟨v,e,r⟩:=hL i _ h
 unfold mVar
 cases z:σ[i]? with
 | none=>rw [z] at e; cases e
 | some o =>
  rw [z] at e
  cases (show o=some v from e)
  exact q.ok hs v r
theorem ziu_ (i:Nat) {O:Own α}{a:α}(h:L[i]?=some (.ow O a)):EvF K (mVar i) E L (.ok a) O.fr:=by
 intro σ F H Q hL hs q
 obtain ⟨v,e,r⟩:=hL i _ h
 unfold mVar
 cases z:σ[i]? with
 | none=>rw [z] at e; cases e
 | some o =>
  rw [z] at e
  cases (show o=some v from e)
  exact q.ok hs v r
def Op2 (K:Fgg) (m:R2) (E:XK) (T1:Ty α) (T2:Ty β) (g:α→β→Mo γ) (T:Ty γ):Prop :=
 ∀ a b x y F H (Q:VK),Same F H→T1.R a x F→T2.R b y F→After K (g a b) E F H (fun c F' H'=>∀ v,T.R c v F'→Q v H')→m x y H Q
def Op2O (K:Fgg) (m:R2) (E:XK) (T1:Ty α) (T2:Ty β) (g:α→β→Mo γ) (O:Own γ):Prop :=
 ∀ a b x y F H (Q:VK),Same F H→T1.R a x F→T2.R b y F→After K (g a b) E F H (OwnK O H Q)→m x y H Q
theorem OwnK.back {O:Own α}{H H1:Hp}{Q:VK}{a:α}{F' H':Hp}(g:Same H H1) (h:OwnK O H Q a F' H'):OwnK O H1 Q a F' H' :=
 fun v k fresh d s o=>h v k (fun p z=>g.free (fresh p z)) d s o
theorem zm_ {m:R2}{T1:Ty α}{T2:Ty β}{T:Ty γ}{g:α→β→Mo γ}{r1:Mo α}{r2:Mo β}(hop:Op2 K m E T1 T2 g T) (h1:EvF K e1 E L r1 T1) (h2:EvF K e2 E L r2 T2) :
  EvF K (tOp m e1 e2) E L (r1.bind fun a=>r2.bind fun b=>g a b) T:=by
 intro σ F H Q hL hs q
 refine h1 σ F H _ hL hs (q.bind.imp fun a F1 H1 x1 k1 v1 hv1=>?_)
 refine h2 σ F1 H1 _ (hL.mono x1.1) x1.2.1 (k1.bind.imp fun b F2 H2 x2 k2 v2 hv2=>?_)
 exact hop a b v1 v2 F2 H2 Q x2.2.1 (T1.mono x2.1 hv1) hv2 k2
theorem zfC_ {m:R2}{T1:Ty α}{T2:Ty β}{O:Own γ}{g:α→β→Mo γ}{r1:Mo α}{r2:Mo β}(hop:Op2O K m E T1 T2 g O) (h1:EvF K e1 E L r1 T1) (h2:EvF K e2 E L r2 T2) :
  EvO K (tOp m e1 e2) E L (r1.bind fun a=>r2.bind fun b=>g a b) O:=by
 intro σ F H Q hL hs q
 refine h1 σ F H _ hL hs (q.bind.imp fun a F1 H1 x1 k1 v1 hv1=>?_)
 refine h2 σ F1 H1 _ (hL.mono x1.1) x1.2.1 (k1.bind.imp fun b F2 H2 x2 k2 v2 hv2=>?_)
 exact hop a b v1 v2 F2 H2 Q x2.2.1 (T1.mono x2.1 hv1) hv2 (k2.imp fun c F3 H3 x3 k3=>k3.back (x1.2.2.1.trans x2.2.2.1))
theorem zl6_ {g:Int→Int→V}{f:Int→Int→α}(h:∀ i j F,T.R (f i j) (g i j) F):Op2 K (mI0 g) E tyInt tyInt (fun i j=>.ok (f i j)) T:=by
 intro a b x y F H Q hs hx hy q
 cases hx; cases hy
 exact q.ok hs _ (h a b F)
theorem op_i {C:Int→Int→Prop} [∀ i j,Decidable (C i j)] {g:Int→Int→V}{f:Int→Int→α}(h:∀ i j F,T.R (f i j) (g i j) F):Op2 K (mI C g) E tyInt tyInt (fun i j=>.grd (C i j) (.ok (f i j))) T:=by
 intro a b x y F H Q hs hx hy q
 cases hx; cases hy
 obtain ⟨c,q⟩:=q.grd
 exact ⟨c,q.ok hs _ (h a b F)⟩
instance (i j:Int):Decidable (CMul i j):=inferInstanceAs (Decidable (_∨_))
instance (i j:Int):Decidable (CDiv i j):=inferInstanceAs (Decidable (_∧_))
instance (i j:Int):Decidable (CPow i j):=inferInstanceAs (Decidable (_∧_∧_))
theorem zQ_:Op2 K mAdd E tyInt tyInt (fun i j=>.ok (i+j)) tyInt:=by
 intro a b x y F H Q hs hx hy q
 cases hx; cases hy
 exact q.ok hs _ rfl
theorem zcF_:Op2 K mSub E tyInt tyInt (fun i j=>.ok (i-j)) tyInt:=zl6_ fun _ _ _=>rfl
theorem zar_:Op2 K mMod E tyInt tyInt (fun i j=>.grd (0<j) (.ok (i % j))) tyInt:=op_i (C:=fun _ j=>0<j) fun _ _ _=>rfl
theorem zjg_:Op2 K mLt E tyInt tyInt (fun i j=>.ok (decide (i<j))) tyBl:=zl6_ fun _ _ _=>rfl
theorem zhU_:Op2 K mLe E tyInt tyInt (fun i j=>.ok (decide (i≤j))) tyBl:=zl6_ fun _ _ _=>rfl
theorem zgj_:Op2 K mGt E tyInt tyInt (fun i j=>.ok (decide (j<i))) tyBl:=zl6_ fun _ _ _=>rfl
theorem zlk_:Op2 K mGe E tyInt tyInt (fun i j=>.ok (decide (j≤i))) tyBl:=zl6_ fun _ _ _=>rfl
theorem zaf_:Op2 K mAdd E tyStr tyStr (fun i j=>.lim (i.length+j.length) (.ok (i++j))) tyStr:=by
 intro a b x y F H Q hs hx hy q
 cases hx; cases hy
 obtain ⟨c,q⟩:=q.lim
 exact ⟨c,q.ok hs _ rfl⟩
theorem Prs.append {xs ys:List α}{vs us:List V}(a:Prs T H xs vs) (b:Prs T H ys us):Prs T H (xs++ys) (vs++us):=by
 induction a with
 | nil=>exact b
 | cons r t ih=>exact .cons r ih
theorem Prs.len {xs:List α}{vs:List V}(a:Prs T H xs vs):xs.length=vs.length:=Paired.length a
theorem Prs.get {xs:List α}{vs:List V}(a:Prs T H xs vs) (i:Nat):(xs[i]?=none∧vs[i]?=none)∨∃ x v,xs[i]?=some x∧vs[i]?=some v∧T.R x v H:=by
 induction a generalizing i with
 | nil=>exact .inl ⟨rfl,rfl⟩
 | cons r t ih =>
  cases i with
  | zero=>exact .inr ⟨_,_,rfl,rfl,r⟩
  | succ i=>simpa using ih i
theorem Prs.take {xs:List α}{vs:List V}(a:Prs T H xs vs) (n:Nat):Prs T H (xs.take n) (vs.take n):=by
 induction a generalizing n with
 | nil=>rw [List.take_nil,List.take_nil]; exact .nil
 | cons r t ih =>
  cases n with
  | zero=>exact .nil
  | succ n=>exact .cons r (ih n)
theorem Prs.drop {xs:List α}{vs:List V}(a:Prs T H xs vs) (n:Nat):Prs T H (xs.drop n) (vs.drop n):=by
 induction a generalizing n with
 | nil=>rw [List.drop_nil,List.drop_nil]; exact .nil
 | cons r t ih =>
  cases n with
  | zero=>exact .cons r t
  | succ n=>exact ih n
theorem Prs.set {xs:List α}{vs:List V}(a:Prs T H xs vs) (i:Nat) {x:α}{v:V}(q:T.R x v H):Prs T H (xs.set i x) (vs.set i v):=by
 induction a generalizing i with
 | nil=>exact .nil
 | cons r t ih =>
  cases i with
  | zero=>exact .cons q t
  | succ i=>exact .cons r (ih i)
theorem zi0_ {vs:List V}{xs:List α}{p:Addr}{F' H':Hp}{Q:VK}(hp:H p=none) (h2:H' p=some (.lst vs)) (hf:F' p=none) (hr:Prs T F' xs vs) (q:OwnK (owL T) H Q xs F' H'):Q (.ref p) H':=by
 refine q (.ref p) (one p (.lst vs)) (fun b z=>?_) (fun b=>?_) (fun b o z=>?_) ⟨p,vs,rfl,rfl,hr⟩
 ·unfold one at z; split at z
  ·rename_i e; rw [e]; exact hp
  ·exact absurd rfl z
 ·unfold one; split
  ·rename_i e; rw [e]; exact .inl hf
  ·exact .inr rfl
 ·unfold one at z; split at z
  ·rename_i e; rw [e]; cases z; exact h2
  ·cases z
theorem zaE_ {vs:List V}{xs:List α}{p:Addr}{Q:VK}(hs:Same F H) (hp:H p=none) (hr:Prs T F xs vs) (q:After K (.ok xs) E F H (OwnK (owL T) H Q)):Q (.ref p) (upd H p (.lst vs)) :=
 zi0_ hp zC_ (hs.free hp) hr (q F _ (.heap hs (zas_ hp _)))
theorem zcO_:Op2O K mAdd E (tyL T) (tyL T) (fun i j=>.lim (i.length+j.length) (.ok (i++j))) (owL T):=by
 rintro a b x y F H Q hs ⟨p,vs,rfl,h1,r1⟩ ⟨p2,us,rfl,h2,r2⟩ q
 obtain ⟨c,q⟩:=q.lim
 exact ⟨vs,us,hs _ _ h1,hs _ _ h2,by rw [← r1.len,← r2.len]; exact c,fun p hp=>zaE_ hs hp (r1.append r2) q⟩
theorem ze_ (h:EvF K e E L r T):EvA K (tCons e tNil) E L r (csLast T):=by
 intro σ F H Q hL hs q
 exact h σ F H _ hL hs (q.imp fun a F1 H1 x k v hv=>k [v] ⟨v,rfl,hv⟩)
theorem zq_ {ta:TA}{r2:Mo γ}{C:Cs γ}(h:EvF K e E L r T) (h2:EvA K ta E L r2 C):EvA K (tCons e ta) E L (r.bind fun a=>r2.bind fun c=>.ok (a,c)) (csCons T C):=by
 intro σ F H Q hL hs q
 refine h σ F H _ hL hs (q.bind.imp fun a F1 H1 x1 k1 v1 hv1=>?_)
 refine h2 σ F1 H1 _ (hL.mono x1.1) x1.2.1 (k1.bind.imp fun c F2 H2 x2 k2 vs hvs=>?_)
 exact k2.ok x2.2.1 (v1::vs) ⟨v1,vs,rfl,T.mono x2.1 hv1,hvs⟩
def Ct (K:Fgg) (C:Cs γ) (f:γ→Mo ρ) (O:Own ρ):Sp:=fun vs H Q E=>∃ F c,Same F H∧C.R c vs F∧After K (f c) E F H (OwnK O H Q)
theorem zgr_ {C:Cs γ}{f:γ→Mo ρ}{O:Own ρ}{ta:TA}{r:Mo γ}(h:EvA K ta E L r C):EvO K (tCall (Ct K C f O) [] E ta) E L (r.bind f) O:=by
 intro σ F H Q hL hs q
 refine h σ F H _ hL hs (q.bind.imp fun c F1 H1 x1 k1 vs hvs=>?_)
 rw [List.append_nil]
 exact ⟨F1,c,x1.2.1,hvs,k1.imp fun r F2 H2 x2 k2=>k2.back x1.2.2.1⟩
theorem zct_ {C:Cs γ}{f:γ→Mo ρ}{O:Own ρ}{ta:TA}{r:Mo γ}(h:EvA K ta E L r C):EvO K (tCall (Ct K C f O) [] E0 ta) E L (r.bind fun c=>(f c).noex) O:=by
 intro σ F H Q hL hs q
 refine h σ F H _ hL hs (q.bind.imp fun c F1 H1 x1 k1 vs hvs=>?_)
 rw [List.append_nil]
 exact ⟨F1,c,x1.2.1,hvs,k1.noex.imp fun r F2 H2 x2 k2=>k2.back x1.2.2.1⟩
def Bl (K:Fgg) (m:List V→Hp→VK→Prop) (E:XK) (C:Cs γ) (g:γ→Mo α) (T:Ty α):Prop :=
 ∀ c vs F H (Q:VK),Same F H→C.R c vs F→After K (g c) E F H (fun c F' H'=>∀ v,T.R c v F'→Q v H')→m vs H Q
def BlO (K:Fgg) (m:List V→Hp→VK→Prop) (E:XK) (C:Cs γ) (g:γ→Mo α) (O:Own α):Prop :=
 ∀ c vs F H (Q:VK),Same F H→C.R c vs F→After K (g c) E F H (OwnK O H Q)→m vs H Q
theorem zdG_ {m:List V→Hp→VK→Prop}{C:Cs γ}{g:γ→Mo α}{ta:TA}{r:Mo γ}(hb:Bl K m E C g T) (h:EvA K ta E L r C):EvF K (tCB m ta) E L (r.bind g) T:=by
 intro σ F H Q hL hs q
 exact h σ F H _ hL hs (q.bind.imp fun c F1 H1 x1 k1 vs hvs=>hb c vs F1 H1 Q x1.2.1 hvs k1)
theorem zkz_ {m:List V→Hp→VK→Prop}{C:Cs γ}{g:γ→Mo α}{O:Own α}{ta:TA}{r:Mo γ}(hb:BlO K m E C g O) (h:EvA K ta E L r C):EvO K (tCB m ta) E L (r.bind g) O:=by
 intro σ F H Q hL hs q
 exact h σ F H _ hL hs (q.bind.imp fun c F1 H1 x1 k1 vs hvs=>hb c vs F1 H1 Q x1.2.1 hvs (k1.imp fun a F2 H2 x2 k2=>k2.back x1.2.2.1))
theorem ziI_:Bl K (mLen K) E (csLast tyStr) (fun l=>.lim l.length (.ok (l.length:Int))) tyInt:=by
 rintro c vs F H Q hs ⟨v,rfl,rfl⟩ q
 obtain ⟨z,q⟩:=q.lim
 exact ⟨z,q.ok hs _ rfl⟩
theorem zcR_:Bl K (mLen K) E (csLast (tyL T)) (fun l=>.ok (l.length:Int)) tyInt:=by
 rintro c vs F H Q hs ⟨v,rfl,p,us,rfl,h,r⟩ q
 exact ⟨us,.inl (.of (hs _ _ h)),q.ok hs _ (by rw [r.len])⟩
theorem zkk_:Bl K (mLen K) E (csLast (tySc K)) (fun l=>.ok (l.length:Int)) tyInt:=by
 rintro c vs F H Q hs ⟨v,rfl,p,rfl,h⟩ q
 exact ⟨_,.inl (hs.seq h),q.ok hs _ (by rw [List.length_map])⟩
theorem zhC_:Bl K mStr E (csLast tyInt) (fun i=>.grd (i.natAbs.log2<1920) (.ok (strI i))) tyStr:=by
 rintro c vs F H Q hs ⟨v,rfl,rfl⟩ q
 obtain ⟨z,q⟩:=q.grd
 exact ⟨z,q.ok hs _ rfl⟩
theorem ziS_ {xs:List Int}:Prs tyInt H xs (xs.map V.int):=by
 induction xs with
 | nil=>exact .nil
 | cons x xs ih=>exact .cons rfl ih
theorem zhP_:Op2 K (mIx K) E tyStr tyInt (fun l i=>.lim l.length (.opt ((atI l i).map fun c=>[c]))) tyStr:=by
 rintro a b x y F H Q hs rfl rfl q
 obtain ⟨z,q⟩:=q.lim
 obtain ⟨l,e,q⟩:=q.opt
 refine ⟨z,?_⟩
 show (match atI a b with | some c=>Q (tx [c]) H | none=>False)
 cases e1:atI a b with
 | none=>rw [e1] at e; cases e
 | some c=>rw [e1] at e; cases e; exact q.ok hs _ rfl
theorem ziL_ {xs:List α}{vs:List V}(r:Prs T H xs vs) {i:Int}{x:α}(e:atI xs i=some x):∃ v,atI vs i=some v∧T.R x v H:=by
 unfold atI at e ⊢
 rw [← r.len]
 cases e1:ixN xs.length i with
 | none=>rw [e1] at e; cases e
 | some j =>
  rw [e1] at e
  rcases r.get j with ⟨a,b⟩ | ⟨y,v,a,b,c⟩
  ·have:xs[j]?=some x:=e
   rw [a] at this; cases this
  ·have:xs[j]?=some x:=e
   rw [a] at this; cases this
   exact ⟨v,b,c⟩
theorem zS_:Op2 K (mIx K) E (tyL T) tyInt (fun l i=>.opt (atI l i)) T:=by
 rintro a b x y F H Q hs ⟨p,vs,rfl,h,r⟩ rfl q
 obtain ⟨l,e,q⟩:=q.opt
 refine ⟨vs,.inl (.of (hs _ _ h)),?_⟩
 obtain ⟨v,e2,rv⟩:=ziL_ r e
 rw [e2]
 exact q.ok hs v rv
theorem zlP_:Op2 K (mIx K) E (tySc K) tyInt (fun l i=>.opt (atI l i)) tyInt:=by
 rintro a b x y F H Q hs ⟨p,rfl,h⟩ rfl q
 obtain ⟨l,e,q⟩:=q.opt
 refine ⟨_,.inl (hs.seq h),?_⟩
 obtain ⟨v,e2,rv⟩:=ziL_ (H:=F) ziS_ e
 rw [e2]
 exact q.ok hs v rv
def CsAt (C:Cs γ) (i:Nat) (T:Ty α) (pr:γ→α):Prop:=∀ {c vs H},C.R c vs H→∃ v,vs[i]?=some v∧T.R (pr c) v H
theorem zaA_:CsAt (csLast T) 0 T id:=fun ⟨v,e,h⟩=>⟨v,by rw [e]; rfl,h⟩
theorem at_0 {C:Cs γ}:CsAt (csCons T C) 0 T Prod.fst:=fun ⟨v,us,e,h,q⟩=>⟨v,by rw [e]; rfl,h⟩
theorem at_s {C:Cs γ}{i:Nat}{pr:γ→α}{T':Ty β}(h:CsAt C i T pr):CsAt (csCons T' C) (i+1) T (fun c=>pr c.2):=fun ⟨v,us,e,_,q⟩=>by
 obtain ⟨w,e2,r⟩:=h q
 exact ⟨w,by rw [e]; exact e2,r⟩
theorem zah_ {C:Cs γ}{i:Nat}{pr:γ→α}{r:Mo γ}(ha:CsAt C i T pr) (h:EvF K e E L r (tyTup C)):EvF K (tOp (mIx K) e (tC (.int i))) E L (r.bind fun c=>.ok (pr c)) T:=by
 intro σ F H Q hL hs q
 refine h σ F H _ hL hs (q.bind.imp fun c F1 H1 x1 k1 v1 hq_=>?_)
 obtain ⟨p,us,ev,hp,hc⟩:=hq_
 subst ev
 obtain ⟨w,e2,rw'⟩:=ha hc
 refine ⟨us,.inr (.of (x1.2.1 _ _ hp)),?_⟩
 have e3:atI us (i:Int)=some w:=by
  unfold atI
  rw [zlU_ (by lia) (by have:=(List.getElem?_eq_some_iff.mp e2).1; lia)]
  simpa using e2
 rw [e3]
 exact k1.ok x1.2.1 w rw'
end
end L2
namespace L2
open PySem PySem.Spec PyProof.Rows
section
variable {K:Fgg}{E:XK}{α β γ ρ:Type}{F H:Hp}{L:List Sl}{e e1 e2:TE}{T:Ty α}{r:Mo α}
variable {t t1 t2:TT}{b b1 b2:Mo Bool}
theorem zx_ (h:EvF K e E L b tyBl):EvT K (mTest e) E L b:=by
 intro σ F H Q hL hs q
 refine h σ F H _ hL hs (q.imp fun a F1 H1 x k v hv=>?_)
 cases hv
 exact k
theorem zdt_ (h:EvT K t E L b):EvT K (tNot t) E L (b.bind fun c=>.ok (!c)):=by
 intro σ F H Q hL hs q
 exact h σ F H _ hL hs (q.bind.imp fun a F1 H1 x k=>k.ok x.2.1)
theorem zgw_ (h1:EvT K t1 E L b1) (h2:EvT K t2 E L b2):EvT K (mAnd t1 t2) E L (b1.bind fun c=>if c then b2 else .ok false):=by
 intro σ F H Q hL hs q
 refine h1 σ F H _ hL hs (q.bind.imp fun a F1 H1 x k=>⟨fun c=>?_,fun c=>?_⟩)
 ·rw [if_pos c] at k; exact h2 σ F1 H1 _ (hL.mono x.1) x.2.1 k
 ·rw [if_neg (by rw [c]; decide)] at k; exact k.ok x.2.1
theorem zf1_ (h1:EvT K t1 E L b1) (h2:EvT K t2 E L b2):EvT K (mOr t1 t2) E L (b1.bind fun c=>if c then .ok true else b2):=by
 intro σ F H Q hL hs q
 refine h1 σ F H _ hL hs (q.bind.imp fun a F1 H1 x k=>⟨fun c=>?_,fun c=>?_⟩)
 ·rw [if_pos c] at k; exact k.ok x.2.1
 ·rw [if_neg (by rw [c]; decide)] at k; exact h2 σ F1 H1 _ (hL.mono x.1) x.2.1 k
theorem zfv_ (h1:EvF K e1 E L b1 tyBl) (h2:EvF K e2 E L b2 tyBl):EvF K (mAndV e1 e2) E L (b1.bind fun c=>if c then b2 else .ok false) tyBl:=by
 intro σ F H Q hL hs q
 refine h1 σ F H _ hL hs (q.bind.imp fun a F1 H1 x k v hv=>?_)
 cases hv
 refine ⟨fun c=>?_,fun c=>?_⟩
 ·rw [if_pos c] at k; exact h2 σ F1 H1 _ (hL.mono x.1) x.2.1 k
 ·rw [if_neg (by rw [c]; decide)] at k; exact k.ok x.2.1 _ rfl
theorem zj0_ (h1:EvF K e1 E L b1 tyBl):EvF K (mNotV e1) E L (b1.bind fun c=>.ok (!c)) tyBl:=by
 intro σ F H Q hL hs q
 refine h1 σ F H _ hL hs (q.bind.imp fun a F1 H1 x k v hv=>?_)
 cases hv
 exact k.ok x.2.1 _ rfl
theorem zjL_ {r:Mo Int}(h1:EvF K e1 E L r tyInt):EvF K (mNeg e1) E L (r.bind fun c=>.ok (-c)) tyInt:=by
 intro σ F H Q hL hs q
 refine h1 σ F H _ hL hs (q.bind.imp fun a F1 H1 x k v hv=>?_)
 cases hv
 exact k.ok x.2.1 _ rfl
theorem zjp_ {m m':R2}{e3:TE}{T1:Ty α}{T2:Ty β}{T3:Ty γ}{g:α→β→Mo Bool}{g':β→γ→Mo Bool}{r1:Mo α}{r2:Mo β}{r3:Mo γ}(hop:Op2 K m E T1 T2 g tyBl) (hop':Op2 K m' E T2 T3 g' tyBl)
  (h1:EvF K e1 E L r1 T1) (h2:EvF K e2 E L r2 T2) (h3:EvF K e3 E L r3 T3) :
  EvF K (mChain m m' e1 e2 e3) E L (r1.bind fun a=>r2.bind fun b=>(g a b).bind fun c=>if c then r3.bind fun d=>g' b d else .ok false) tyBl:=by
 intro σ F H Q hL hs q
 refine h1 σ F H _ hL hs (q.bind.imp fun a F1 H1 x1 k1 v1 hv1=>?_)
 refine h2 σ F1 H1 _ (hL.mono x1.1) x1.2.1 (k1.bind.imp fun b F2 H2 x2 k2 v2 hv2=>?_)
 refine hop a b v1 v2 F2 H2 _ x2.2.1 (T1.mono x2.1 hv1) hv2 (k2.bind.imp fun c F3 H3 x3 k3 v3 hv3=>?_)
 cases hv3
 refine ⟨fun z=>?_,fun z=>?_⟩
 ·rw [if_pos z] at k3
  refine h3 σ F3 H3 _ (hL.mono ((x1.1.trans x2.1).trans x3.1)) x3.2.1 (k3.bind.imp fun d F4 H4 x4 k4 v4 hv4=>?_)
  exact hop' b d v2 v4 F4 H4 Q x4.2.1 (T2.mono (x3.1.trans x4.1) hv2) hv4 k4
 ·rw [if_neg (by rw [z]; decide)] at k3; exact k3.ok x3.2.1 _ rfl
theorem After.more {k:α→Hp→Hp→Prop}(h:After K r E F H k):After K r E F H fun a F1 H1=>∀ F2 H2,Ext F1 H1 F2 H2→k a F2 H2:=by
 cases r with
 | ok a=>exact fun F1 H1 x F2 H2 y=>h F2 H2 (x.trans y)
 | ex c=>exact h
 | no=>exact h
def CsN (C:Cs γ) (n:Nat):Prop:=∀ {c vs H},C.R c vs H→vs.length=n
theorem zn_:CsN (csLast T) 1:=fun ⟨v,e,_⟩=>by rw [e]; rfl
theorem zu_ {C:Cs γ}{n:Nat}(h:CsN C n):CsN (csCons T C) (n+1):=fun ⟨v,us,e,_,q⟩=>by rw [e,List.length_cons,h q]
theorem zfA_ {ta:TA}{C:Cs γ}{r:Mo γ}{n:Nat}(hl:CsN C n) (h:EvA K ta E L r C) (hn:n≤100:=by decide):EvF K (tTup ta) E L r (tyTup C):=by
 intro σ F H Q hL hs q
 refine h σ F H _ hL hs (q.more.imp fun c F1 H1 x1 k1 vs hvs=>⟨zb5_ (by rw [hl hvs]; lia),fun p hp=>?_⟩)
 have x:=Ext.new (o:=.tup vs) x1.2.1 hp
 exact k1 _ _ x _ ⟨p,vs,rfl,zC_,C.mono x.1 hvs⟩
def CsL (C:Cs γ) (T:Ty α) (f:γ→List α):Prop:=∀ {c vs H},C.R c vs H→Prs T H (f c) vs
theorem z1_:CsL (csLast T) T fun a=>[a]:=fun ⟨v,e,h⟩=>by rw [e]; exact .cons h .nil
theorem zN_ {C:Cs γ}{f:γ→List α}(h:CsL C T f):CsL (csCons T C) T fun c=>c.1::f c.2:=fun ⟨v,us,e,q,z⟩=>by rw [e]; exact .cons q (h z)
theorem zbQ_ {ta:TA}{C:Cs γ}{r:Mo γ}{n:Nat}{f:γ→List α}(hl:CsN C n) (hf:CsL C T f) (h:EvA K ta E L r C) (hn:n≤100:=by decide):EvO K (tLst ta) E L (r.bind fun c=>.ok (f c)) (owL T):=by
 intro σ F H Q hL hs q
 refine h σ F H _ hL hs (q.bind.imp fun c F1 H1 x1 k1 vs hvs=>⟨zb5_ (by rw [hl hvs]; omega),fun p hp=>?_⟩)
 exact zaE_ x1.2.1 hp (hf hvs) (k1.imp fun a F2 H2 x2 k2=>k2.back x1.2.2.1)
theorem zbG_ (T:Ty α):EvO K (tLst tNil) E L (.ok []) (owL T):=by
 intro σ F H Q hL hs q
 exact ⟨Nat.zero_le _,fun p hp=>zaE_ hs hp (T:=T) .nil q⟩
def EvP (K:Fgg) (t:TO) (E:XK) (L:List Sl) (r:Mo (Option Int)):Prop :=
 ∀ σ F H (Q:Option Int→Hp→Prop),HoldF L σ F→Same F H→After K r E F H (fun b _ H'=>Q b H')→t σ H Q
theorem zhV_:EvP K tNoPart E L (.ok none):=fun σ F H Q hL hs q=>q.ok hs
theorem zgV_ {r:Mo Int}(h:EvF K e E L r tyInt):EvP K (mPart e) E L (r.bind fun i=>.ok (some i)):=by
 intro σ F H Q hL hs q
 refine h σ F H _ hL hs (q.bind.imp fun a F1 H1 x k v hv=>?_)
 cases hv
 exact k.ok x.2.1
def cutG (xs:List α) (lo hi:Option Int):List α:=(xs.drop (HT.sIx xs.length 0 lo)).take (HT.sIx xs.length xs.length hi-HT.sIx xs.length 0 lo)
theorem zi2_ {xs:List α}{vs:List V}(q:Prs T H xs vs) (lo hi:Option Int):Prs T H (cutG xs lo hi) (cutV vs lo hi):=by
 unfold cutG cutV
 rw [← q.len]
 exact (q.drop _).take _
variable {tl th:TO}{rl rh:Mo (Option Int)}
theorem zdZ_ {r:Mo (List Nat)}(h:EvF K e E L r tyStr) (hl:EvP K tl E L rl) (hh:EvP K th E L rh):EvF K (tSl (mSl K) e tl th) E L (r.bind fun l=>rl.bind fun a=>rh.bind fun b=>.lim l.length (.ok (cutG l a b))) tyStr:=by
 intro σ F H Q hL hs q
 refine h σ F H _ hL hs (q.bind.imp fun l F1 H1 x1 k1 v hv=>?_)
 refine hl σ F1 H1 _ (hL.mono x1.1) x1.2.1 (k1.bind.imp fun a F2 H2 x2 k2=>?_)
 refine hh σ F2 H2 _ (hL.mono (x1.1.trans x2.1)) x2.2.1 (k2.bind.imp fun b F3 H3 x3 k3=>?_)
 cases hv
 obtain ⟨z,k3⟩:=k3.lim
 exact ⟨z,k3.ok x3.2.1 _ rfl⟩
theorem zmT_ {r:Mo (List α)}(h:EvF K e E L r (tyL T)) (hl:EvP K tl E L rl) (hh:EvP K th E L rh):EvO K (tSl (mSl K) e tl th) E L (r.bind fun l=>rl.bind fun a=>rh.bind fun b=>.ok (cutG l a b)) (owL T):=by
 intro σ F H Q hL hs q
 refine h σ F H _ hL hs (q.bind.imp fun l F1 H1 x1 k1 v hv=>?_)
 refine hl σ F1 H1 _ (hL.mono x1.1) x1.2.1 (k1.bind.imp fun a F2 H2 x2 k2=>?_)
 refine hh σ F2 H2 _ (hL.mono (x1.1.trans x2.1)) x2.2.1 (k2.bind.imp fun b F3 H3 x3 k3=>?_)
 obtain ⟨p,vs,rfl,hp,hr⟩:=hv
 have x:=x2.1.trans x3.1
 exact ⟨vs,.of (x3.2.1 _ _ (x _ _ hp)),fun q hq=>zaE_ x3.2.1 hq (zi2_ (hr.mono x) a b) (k3.imp fun _ _ _ _ z=>z.back ((x1.2.2.1.trans x2.2.2.1).trans x3.2.2.1))⟩
theorem zk4_ {r:Mo (List Int)}(h:EvF K e E L r (tySc K)) (hl:EvP K tl E L rl) (hh:EvP K th E L rh):EvO K (tSl (mSl K) e tl th) E L (r.bind fun l=>rl.bind fun a=>rh.bind fun b=>.ok (cutG l a b)) (owL tyInt):=by
 intro σ F H Q hL hs q
 refine h σ F H _ hL hs (q.bind.imp fun l F1 H1 x1 k1 v hv=>?_)
 refine hl σ F1 H1 _ (hL.mono x1.1) x1.2.1 (k1.bind.imp fun a F2 H2 x2 k2=>?_)
 refine hh σ F2 H2 _ (hL.mono (x1.1.trans x2.1)) x2.2.1 (k2.bind.imp fun b F3 H3 x3 k3=>?_)
 obtain ⟨p,rfl,hp⟩:=hv
 have x:=x2.1.trans x3.1
 exact ⟨_,x3.2.1.seq (x.seq hp),fun q hq=>zaE_ x3.2.1 hq (zi2_ ziS_ a b) (k3.imp fun _ _ _ _ z=>z.back ((x1.2.2.1.trans x2.2.2.1).trans x3.2.2.1))⟩
structure EqT (K:Fgg) (T:Ty α) (n:Nat) (q:α→α→Bool):Prop where
 eq:∀ {a b x y H},T.R a x H→T.R b y H→EqD K H n x y (q a b)
theorem zi8_:EqT K tyInt 0 (fun a b=>decide (a=b)):=⟨by
 rintro a b x y H rfl rfl
 have:eqV (.int a) (.int b)=decide (a=b):=by unfold eqV; exact rfl
 rw [← this]; exact .flat rfl rfl⟩
theorem zll_:EqT K tyStr 0 (fun a b=>decide (a=b)):=⟨by
 rintro a b x y H rfl rfl
 have:eqV (tx a) (tx b)=decide (a=b):=by
  unfold eqV
  rw [Bool.eq_iff_iff,decide_eq_true_iff]
  constructor
  ·intro h
   have h:=eq_of_beq h
   injection h with h
   have:=congrArg Array.toList h
   simpa using this
  ·rintro rfl; exact beq_self_eq_true _
 rw [← this]; exact .flat rfl rfl⟩
def eqL (q:α→α→Bool):List α→List α→Bool
 | [],[]=>true
 | x::xs,y::ys=>q x y && eqL q xs ys
 | _,_=>false
theorem ziY_ {q:α→α→Bool}:∀ {xs ys:List α},xs.length≠ys.length→eqL q xs ys=false
 | [],[],h=>absurd rfl h
 | [],_::_,_=>rfl
 | _::_,[],_=>rfl
 | x::xs,y::ys,h=>by unfold eqL; rw [ziY_ (by simpa using h),Bool.and_false]
theorem ziK_ {q:α→α→Bool}:∀ {xs ys:List α},xs.length=ys.length→eqL q xs ys=(List.range xs.length).all fun i=>match xs[i]?,ys[i]? with | some x,some y=>q x y | _,_=>true
 | [],[],_=>rfl
 | x::xs,y::ys,h=>by
  unfold eqL
  rw [List.length_cons,List.range_succ_eq_map,List.all_cons,List.all_map,ziK_ (by simpa using h)]
  rfl
theorem eqt_l {n:Nat}{q:α→α→Bool}(h:EqT K T n q):EqT K (tyL T) (n+1) (eqL q):=⟨by
 rintro a b x y H ⟨p,vs,rfl,hp,hr⟩ ⟨p2,us,rfl,hp2,hr2⟩
 by_cases hl:a.length=b.length
 ·rw [ziK_ hl,hr.len]
  refine .lst _ (.of hp) (.of hp2) (by rw [← hr.len,← hr2.len,hl]) fun i x y hx hy=>?_
  rcases hr.get i with ⟨_,z⟩ | ⟨x1,v1,e1,e2,r1⟩
  ·rw [z] at hx; cases hx
  rcases hr2.get i with ⟨_,z⟩ | ⟨x2,v2,e3,e4,r2⟩
  ·rw [z] at hy; cases hy
  rw [e2] at hx; cases hx
  rw [e4] at hy; cases hy
  simp only [e1,e3]
  exact h.eq r1 r2
 ·rw [ziY_ hl]
  exact .lstN (.of hp) (.of hp2) (by rw [← hr.len,← hr2.len]; exact hl)⟩
structure EqC (K:Fgg) (C:Cs γ) (n m:Nat) (q:γ→γ→Bool):Prop where
 eq:∀ {a b xs ys H},C.R a xs H→C.R b ys H→xs.length=m∧ys.length=m∧∃ e:Nat→Bool,(∀ i x y,xs[i]?=some x→ys[i]?=some y→EqD K H n x y (e i))∧(List.range m).all e=q a b
theorem EqD.le {H:Hp}{n m:Nat}{x y:V}{b:Bool}(h:EqD K H n x y b) (g:n≤m):EqD K H m x y b:=by
 induction g with
 | refl=>exact h
 | step _ ih=>exact .up ih
theorem zjq_ {n:Nat}{q:α→α→Bool}(h:EqT K T n q):EqC K (csLast T) n 1 q:=⟨by
 rintro a b xs ys H ⟨v,rfl,hv⟩ ⟨u,rfl,hu⟩
 refine ⟨rfl,rfl,fun _=>q a b,fun i x y hx hy=>?_,by simp [List.range_succ]⟩
 cases i with
 | zero=>cases hx; cases hy; exact h.eq hv hu
 | succ i=>cases hx⟩
theorem zkm_ {C:Cs γ}{n m k:Nat}{q:α→α→Bool}{q':γ→γ→Bool}(h:EqT K T n q) (h':EqC K C k m q'):EqC K (csCons T C) (max n k) (m+1) (fun a b=>q a.1 b.1 && q' a.2 b.2):=⟨by
 rintro a b xs ys H ⟨v,us,rfl,hv,hc⟩ ⟨u,ws,rfl,hu,hc'⟩
 obtain ⟨l1,l2,e,he,ea⟩:=h'.eq hc hc'
 refine ⟨by rw [List.length_cons,l1],by rw [List.length_cons,l2],fun i=>match i with | 0=>q a.1 b.1 | j+1=>e j,fun i x y hx hy=>?_,?_⟩
 ·cases i with
  | zero=>cases hx; cases hy; exact (h.eq hv hu).le (Nat.le_max_left _ _)
  | succ i=>exact (he i x y (by simpa using hx) (by simpa using hy)).le (Nat.le_max_right _ _)
 ·rw [List.range_succ_eq_map,List.all_cons,List.all_map,← ea]; rfl⟩
theorem zkD_ {C:Cs γ}{n m:Nat}{q:γ→γ→Bool}(h:EqC K C n m q):EqT K (tyTup C) (n+1) q:=⟨by
 rintro a b x y H ⟨p,us,rfl,hp,hc⟩ ⟨p2,ws,rfl,hp2,hc2⟩
 obtain ⟨l1,l2,e,he,ea⟩:=h.eq hc hc2
 have:=EqD.tup e (.of hp) (.of hp2) he (K:=K)
 rw [l1,l2,Nat.min_self,ea,beq_self_eq_true,Bool.and_true] at this
 exact this⟩
theorem zmD_ {n:Nat}{q:α→α→Bool}(h:EqT K T n q) (hn:n≤50:=by decide) (hr:∀ {a x H},T.R a x H→∃ p,x=.ref p):Op2 K (mEqK K) E T T (fun a b=>.ok (q a b)) tyBl:=by
 intro a b x y F H Q hs hx hy k
 have hd:=h.eq (T.mono hs hx) (T.mono hs hy)
 obtain ⟨p,rfl⟩:=hr hx
 obtain ⟨p2,rfl⟩:=hr hy
 exact ⟨n,_,hn,hd,k.ok hs _ rfl⟩
theorem ref_l {a:List α}{x:V}{H:Hp}(h:(tyL T).R a x H):∃ p,x=.ref p:=by obtain ⟨p,_,e,_⟩:=h; exact ⟨p,e⟩
theorem zng_ {n:Nat}{q:α→α→Bool}(h:EqT K (tyL T) n (eqL q)) (hn:n≤50:=by decide):Op2 K (mEqK K) E (tyL T) (tyL T) (fun a b=>.ok (eqL q a b)) tyBl:=zmD_ h hn ref_l
theorem zbA_:Op2 K (mEqK K) E tyInt tyInt (fun a b=>.ok (decide (a=b))) tyBl:=by
 rintro a b x y F H Q hs rfl rfl k
 exact k.ok hs _ rfl
theorem zgi_:Op2 K (mNeK K) E tyInt tyInt (fun a b=>.ok (!decide (a=b))) tyBl:=by
 rintro a b x y F H Q hs rfl rfl k
 exact k.ok hs _ rfl
theorem zfS_:Op2 K (mEqK K) E tyStr tyStr (fun a b=>.ok (decide (a=b))) tyBl:=by
 rintro a b x y F H Q hs rfl rfl k
 exact k.ok hs _ rfl
theorem zmV_:Op2 K (mNeK K) E tyStr tyStr (fun a b=>.ok (!decide (a=b))) tyBl:=by
 rintro a b x y F H Q hs rfl rfl k
 exact k.ok hs _ rfl
theorem zk7_:Op2 K mIs E (tyOpt T) tyNon (fun a _=>.ok a.isNone) tyBl:=by
 rintro a b x y F H Q hs hx rfl k
 have:decide (x=.non)=a.isNone:=by
  cases a with
  | none=>cases hx; rfl
  | some a=>exact decide_eq_false hx.2
 show (match mIsB x .non with | some b=>Q (.bl b) H | none=>False)
 have e:mIsB x .non=some (decide (x=.non)):=rfl
 rw [e,this]
 exact k.ok hs _ rfl
theorem zmo_:Op2 K (mIn K false) E tyStr tyStr (fun a b=>.ok (inS a b)) tyBl:=by
 rintro a b x y F H Q hs rfl rfl k
 exact k.ok hs _ rfl
theorem zlE_:Op2 K (mIn K true) E tyStr tyStr (fun a b=>.ok (!inS a b)) tyBl:=by
 rintro a b x y F H Q hs rfl rfl k
 exact k.ok hs _ rfl
structure Flt (T:Ty α) (q:α→α→Bool):Prop where
 flat:∀ {a x H},T.R a x H→flatV x=true
 eq:∀ {a b x y H},T.R a x H→T.R b y H→eqV x y=q a b
theorem zmb_:Flt tyInt (fun a b=>decide (a=b)):=⟨fun h=>by cases h; rfl,fun h h'=>by cases h; cases h'; unfold eqV; exact rfl⟩
theorem ziV_ {q:α→α→Bool}(f:Flt T q) {H:Hp}{a:α}{x:V}(ha:T.R a x H) {xs:List α}{vs:List V}(r:Prs T H xs vs):vs.all flatV=true∧inV x vs=xs.any fun y=>q y a:=by
 induction r with
 | nil=>exact ⟨rfl,rfl⟩
 | cons r t ih =>
  refine ⟨by rw [List.all_cons,f.flat r,ih.1]; rfl,?_⟩
  unfold inV at ih ⊢
  rw [List.any_cons,List.any_cons,f.eq r ha,ih.2]
theorem zmQ_ {q:α→α→Bool}(f:Flt T q):Op2 K (mIn K false) E T (tyL T) (fun a b=>.ok (b.any fun y=>q y a)) tyBl:=by
 rintro a b x y F H Q hs hx ⟨p,vs,rfl,hp,hr⟩ k
 obtain ⟨h1,h2⟩:=ziV_ f hx hr
 refine ⟨vs,.inl (.of (hs _ _ hp)),f.flat hx,h1,?_⟩
 rw [h2]
 exact k.ok hs _ rfl
theorem zi3_ {q:α→α→Bool}(f:Flt T q):Op2 K (mIn K true) E T (tyL T) (fun a b=>.ok (!(b.any fun y=>q y a))) tyBl:=by
 rintro a b x y F H Q hs hx ⟨p,vs,rfl,hp,hr⟩ k
 obtain ⟨h1,h2⟩:=ziV_ f hx hr
 refine ⟨vs,.inl (.of (hs _ _ hp)),f.flat hx,h1,?_⟩
 rw [h2]
 exact k.ok hs _ rfl
def TyN (K:Fgg) (T:Ty α) (n:String):Prop:=∀ {a x H},T.R a x H→tyS K H x n
theorem zie_:TyN K tyInt "int" := fun h=>by cases h; rfl
theorem zmR_:TyN K tyStr "str" := fun h=>by cases h; rfl
theorem tn_l:TyN K (tyL T) "list" := fun ⟨p,vs,e,h,_⟩=>by subst e; exact .inl ⟨rfl,vs,h⟩
theorem zmr_ {C:Cs γ}:TyN K (tyTup C) "tuple" := fun ⟨p,vs,e,h,_⟩=>by subst e; exact .inr ⟨rfl,vs,h⟩
theorem zhq_ {x:V}{n c:String}{bb:Bool}{Q:VK}(h:tyS K H x n) (hb:isaB n c=some bb) (q:Q (.bl bb) H):mIsa K [x,.ty c] H Q:=by
 cases x with
 | non=>cases (show n=_ from h); show (match isaB "NoneType" c with | some b=>Q (.bl b) H | none=>False); rw [hb]; exact q
 | bl _=>cases (show n=_ from h); show (match isaB "bool" c with | some b=>Q (.bl b) H | none=>False); rw [hb]; exact q
 | int _=>cases (show n=_ from h); show (match isaB "int" c with | some b=>Q (.bl b) H | none=>False); rw [hb]; exact q
 | str _=>cases (show n=_ from h); show (match isaB "str" c with | some b=>Q (.bl b) H | none=>False); rw [hb]; exact q
 | ref p=>exact ⟨n,h,by rw [hb]; exact q⟩
 | _=>exact h.elim
theorem zgk_ {n c:String}{bb:Bool}(hn:TyN K T n) (h:EvF K e E L r T) (hb:isaB n c=some bb:=by decide):EvF K (tCB (mIsa K) (tCons e (tCons (tC (.ty c)) tNil))) E L (r.bind fun _=>.ok bb) tyBl:=by
 intro σ F H Q hL hs q
 refine h σ F H _ hL hs (q.bind.imp fun l F1 H1 x1 k1 v hv=>?_)
 exact zhq_ (hn (T.mono x1.2.1 hv)) hb (k1.ok x1.2.1 _ rfl)
def Me (K:Fgg) (m:V→List V→Hp→VK→Prop) (E:XK) (C:Cs γ) (g:List Nat→γ→Mo α) (T:Ty α):Prop :=
 ∀ l c vs F H (Q:VK),Same F H→C.R c vs F→After K (g l c) E F H (fun c F' H'=>∀ v,T.R c v F'→Q v H')→m (tx l) vs H Q
def MeO (K:Fgg) (m:V→List V→Hp→VK→Prop) (E:XK) (C:Cs γ) (g:List Nat→γ→Mo α) (O:Own α):Prop :=
 ∀ l c vs F H (Q:VK),Same F H→C.R c vs F→After K (g l c) E F H (OwnK O H Q)→m (tx l) vs H Q
theorem zmm_ {m:V→List V→Hp→VK→Prop}{C:Cs γ}{g:List Nat→γ→Mo α}{ta:TA}{r0:Mo (List Nat)}{r:Mo γ}(hb:Me K m E C g T) (h0:EvF K e E L r0 tyStr) (h:EvA K ta E L r C):EvF K (tBM K "str" m e ta) E L (r0.bind fun l=>r.bind fun c=>g l c) T:=by
 intro σ F H Q hL hs q
 refine h0 σ F H _ hL hs (q.bind.imp fun l F1 H1 x1 k1 v hv=>?_)
 cases hv
 refine ⟨rfl,h σ F1 H1 _ (hL.mono x1.1) x1.2.1 (k1.bind.imp fun c F2 H2 x2 k2 vs hvs=>hb l c vs F2 H2 Q x2.2.1 hvs k2)⟩
theorem zg6_ {m:V→List V→Hp→VK→Prop}{C:Cs γ}{g:List Nat→γ→Mo α}{O:Own α}{ta:TA}{r0:Mo (List Nat)}{r:Mo γ}(hb:MeO K m E C g O) (h0:EvF K e E L r0 tyStr) (h:EvA K ta E L r C):EvO K (tBM K "str" m e ta) E L (r0.bind fun l=>r.bind fun c=>g l c) O:=by
 intro σ F H Q hL hs q
 refine h0 σ F H _ hL hs (q.bind.imp fun l F1 H1 x1 k1 v hv=>?_)
 cases hv
 refine ⟨rfl,h σ F1 H1 _ (hL.mono x1.1) x1.2.1 (k1.bind.imp fun c F2 H2 x2 k2 vs hvs=>hb l c vs F2 H2 Q x2.2.1 hvs (k2.imp fun _ _ _ _ z=>z.back (x1.2.2.1.trans x2.2.2.1)))⟩
theorem zlw_:Me K mFind E (csLast tyStr) (fun l c=>.ok (findS l c)) tyInt:=by
 rintro l c vs F H Q hs ⟨v,rfl,rfl⟩ k
 exact k.ok hs _ rfl
theorem zj2_:Me K mIndex E (csLast tyStr) (fun l c=>.grd (findS l c ≠ -1) (.ok (findS l c))) tyInt:=by
 rintro l c vs F H Q hs ⟨v,rfl,rfl⟩ k
 obtain ⟨z,k⟩:=k.grd
 exact ⟨z,k.ok hs _ rfl⟩
end
end L2
namespace L2
open PySem PySem.Spec PyProof.Rows
section
variable {K:Fgg}{E:XK}{α β γ ρ S S' B:Type}{F H:Hp}{L:List Sl}{e e1 e2:TE}{T:Ty α}{r:Mo α}
def setL (L:List Sl) (ss:List (Nat×Sl)):List Sl:=ss.foldl (fun L q=>L.set q.1 q.2) L
def setS (σ:St) (ss:List (Nat×Option V)):St:=ss.foldl (fun L q=>L.set q.1 q.2) σ
inductive Plain (F:Hp):List (Nat×Sl)→List (Nat×Option V)→Prop
 | nil:Plain F [] []
 | cons {α:Type}{T:Ty α}{a:α}{i:Nat}{v:V}{ss vs} (h:T.R a v F) (t:Plain F ss vs):Plain F ((i,.fz T a)::ss) ((i,some v)::vs)
def TgR (K:Fgg) (g:TG) (T:Ty α) (ss:α→List (Nat×Sl)):Prop :=
 ∀ a v σ F H (Q:St→Hp→Prop),Same F H→T.R a v F→(∀ vs,Plain F (ss a) vs→Q (setS σ vs) H)→g v σ H Q
theorem zR_ (i:Nat):TgR K (gName i) T fun a=>[(i,.fz T a)]:=by
 intro a v σ F H Q hs hv q
 exact q [(i,some v)] (.cons hv .nil)
def TgC (K:Fgg) (g:TGs) (C:Cs γ) (ss:γ→List (Nat×Sl)):Prop :=
 ∀ a vs σ F H (Q:St→Hp→Prop),Same F H→C.R a vs F→(∀ us,Plain F (ss a) us→Q (setS σ us) H)→g vs σ H Q
theorem ziv_ {g:TG}{ss:α→List (Nat×Sl)}(h:TgR K g T ss):TgC K (gConsM g gNilM) (csLast T) ss:=by
 rintro a vs σ F H Q hs ⟨v,rfl,hv⟩ q
 exact h a v σ F H _ hs hv fun us hu=>q us hu
theorem ziC_ (i:Nat) {g:TGs}{C:Cs γ}{ss:γ→List (Nat×Sl)}(h:TgC K g C ss):TgC K (gConsM (gName i) g) (csCons T C) fun c=>(i,.fz T c.1)::ss c.2:=by
 rintro a vs σ F H Q hs ⟨v,us,rfl,hv,hc⟩ q
 exact h a.2 us _ F H _ hs hc fun ws hw=>q ((i,some v)::ws) (.cons hv hw)
theorem zlR_ {n:Nat}{g:TGs}{C:Cs γ}{ss:γ→List (Nat×Sl)}(hn:CsN C n) (h:TgC K g C ss):TgR K (gTupM K n g) (tyTup C) ss:=by
 rintro a v σ F H Q hs ⟨p,us,rfl,hp,hc⟩ q
 exact ⟨us,.of (hs _ _ hp),hn hc,h a us σ F H Q hs hc q⟩
theorem zea_ {σ:St}{i j:Nat}{o:Option V}(h:i<σ.length):((σ.set i o)[j]?).join=if i=j then o else (σ[j]?).join:=by
 rw [List.getElem?_set]
 split
 ·rename_i e; subst e; first | rfl | (rw [if_pos h]; rfl)
 ·rfl
theorem zhS_ {σ:St}{i:Nat}{s:Sl}{o:Option V}(hl:L.length=σ.length) (h:HoldF L σ F) (hs:s.Z o F):HoldF (L.set i s) (σ.set i o) F:=by
 intro j t e
 rw [List.getElem?_set] at e
 split at e
 ·rename_i z; subst z
  split at e
  ·rename_i y; cases e
   rw [zea_ (by rw [← hl]; exact y),if_pos rfl]; exact hs
  ·cases e
 ·rename_i z
  by_cases y:i<σ.length
  ·rw [zea_ y,if_neg z]; exact h j t e
  ·rw [List.set_eq_of_length_le (by lia)]; exact h j t e
theorem zfp_ {ss:List (Nat×Sl)}{vs:List (Nat×Option V)}(p:Plain F ss vs):∀ {L:List Sl}{σ:St},L.length=σ.length→HoldF L σ F→HoldF (setL L ss) (setS σ vs) F∧(setS σ vs).length=σ.length∧(setL L ss).length=L.length:=by
 induction p with
 | nil=>exact fun hl h=>⟨h,rfl,rfl⟩
 | cons hv t ih =>
  rename_i T a i v ss vs
  intro L σ hl h
  obtain ⟨a1,b,c⟩:=ih (L:=L.set i (.fz T a)) (σ:=σ.set i (some v)) (by rw [List.length_set,List.length_set]; exact hl) (zhS_ (s:=.fz T a) hl h ⟨v,rfl,hv⟩)
  exact ⟨a1,b.trans (by rw [List.length_set]),c.trans (by rw [List.length_set])⟩
def DeadAt (L:List Sl) (is:List Nat):Prop:=∀ i∈is,∀ s,L[i]?=some s→s=.dead
theorem zg5_ {ss:List (Nat×Sl)}{vs:List (Nat×Option V)}(p:Plain F ss vs):∀ {L:List Sl}{σ:St},L.length=σ.length→DeadAt L (ss.map (·.1))→HoldF L σ F→HoldF L (setS σ vs) F:=by
 induction p with
 | nil=>exact fun hl d h=>h
 | cons hv t ih =>
  rename_i i v ss vs
  intro L σ hl d h
  refine ih (σ:=σ.set i (some v)) (by rw [List.length_set]; exact hl) (fun j hj=>d j (List.mem_cons_of_mem _ hj)) fun j s e=>?_
  by_cases y:i<σ.length
  ·rw [zea_ y]
   split
   ·rename_i z; subst z
    rw [d i List.mem_cons_self s e]; trivial
   ·exact h j s e
  ·rw [List.set_eq_of_length_le (by lia)]; exact h j s e
theorem zjF_ {ss:List (Nat×Sl)}{vs:List (Nat×Option V)}(p:Plain F ss vs) {j:Nat}:∀ {σ:St},j∉ss.map (·.1)→(setS σ vs)[j]?=σ[j]?:=by
 induction p with
 | nil=>exact fun _=>rfl
 | cons hv t ih =>
  rename_i i v ss vs
  intro σ hj
  have h1:i≠j:=fun z=>hj (by rw [← z]; exact List.mem_cons_self)
  have h2:=ih (σ:=σ.set i (some v)) fun z=>hj (List.mem_cons_of_mem _ z)
  exact h2.trans (List.getElem?_set_ne h1)
structure Yl (K:Fgg) (J:It) (xs:List α) (T:Ty α) (F1:Hp):Prop where
 go:∀ i H x,Same F1 H→xs[i]?=some x→J.go i H∧∀ v H',J.yld i H v H'→∀ F,Same F1 F→Same F H→∃ F',Ext F H F' H'∧T.R x v F'
 stop:∀ H,Same F1 H→J.stop xs.length H
def EvI (K:Fgg) (wi:TI) (E:XK) (L:List Sl) (r:Mo (List α)) (T:Ty α):Prop :=
 ∀ σ F H (R:It→Hp→Prop),HoldF L σ F→Same F H→After K r E F H (fun xs F' H'=>∀ J,Yl K J xs T F'→R J H')→wi σ H R
theorem zjs_ {r:Mo (List Nat)}(h:EvF K e E L r tyStr):EvI K (iAny K e) E L (r.bind fun l=>.ok (l.map fun c=>[c])) tyStr:=by
 intro σ F H R hL hs q
 refine h σ F H _ hL hs (q.bind.imp fun l F1 H1 x1 k1 v hv=>?_)
 cases hv
 refine k1.ok x1.2.1 _ ⟨fun i H x hH hx=>?_,fun H hH=>?_⟩
 ·rw [List.getElem?_map] at hx
  cases e:l[i]? with
  | none=>rw [e] at hx; cases hx
  | some c =>
   rw [e] at hx; cases hx
   have hi:=(List.getElem?_eq_some_iff.mp e).1
   refine ⟨hi,?_⟩
   rintro v H' ⟨rfl,rfl⟩ F _ hF
   refine ⟨F,.refl hF,?_⟩
   show tx [l.getD i 0]=tx [c]
   rw [List.getD_eq_getElem?_getD,e]; rfl
 ·show l.length≤(l.map fun c=>[c]).length
  rw [List.length_map]; exact Nat.le_refl _
theorem ei_l {r:Mo (List α)}(h:EvF K e E L r (tyL T)):EvI K (iAny K e) E L r T:=by
 intro σ F H R hL hs q
 refine h σ F H _ hL hs (q.imp fun l F1 H1 x1 k1 v hv=>?_)
 obtain ⟨p,vs,rfl,hp,hr⟩:=hv
 refine .inl ⟨⟨vs,.of (x1.2.1 _ _ hp)⟩,k1 _ ⟨fun i H x hH hx=>?_,fun H hH=>⟨vs,.of (hH _ _ hp),by rw [hr.len]; exact Nat.le_refl _⟩⟩⟩
 rcases hr.get i with ⟨a,_⟩ | ⟨y,u,a,b,c⟩
 ·rw [a] at hx; cases hx
 ·rw [a] at hx; cases hx
  refine ⟨⟨vs,u,.of (hH _ _ hp),b⟩,?_⟩
  rintro v H' ⟨rfl,z⟩ F hF hF'
  have e:=z vs (.of (hH _ _ hp))
  rw [b] at e; cases e
  exact ⟨F,.refl hF',T.mono hF c⟩
def rngI (lo:Int) (n:Nat):List Int:=(List.range n).map fun (i:Nat)=>lo+i
theorem zmM_ {lo:Int}{n:Nat}{F1:Hp}:Yl K (Itr lo n) (rngI lo n) tyInt F1:=by
 refine ⟨fun i H x hH hx=>?_,fun H hH=>?_⟩
 ·unfold rngI at hx
  rw [List.getElem?_map] at hx
  cases e:(List.range n)[i]? with
  | none=>rw [e] at hx; cases hx
  | some c =>
   rw [e] at hx; cases hx
   obtain ⟨hi,e⟩:=List.getElem?_eq_some_iff.mp e
   rw [List.getElem_range] at e; subst e
   rw [List.length_range] at hi
   refine ⟨hi,?_⟩
   rintro v H' ⟨rfl,rfl⟩ F _ hF
   exact ⟨F,.refl hF,rfl⟩
 ·show n≤_
  unfold rngI; rw [List.length_map,List.length_range]; exact Nat.le_refl _
theorem zdz_ {r:Mo Int}{ta:TA}(h:EvA K ta E L r (csLast tyInt)):EvI K (mRng1 ta) E L (r.bind fun j=>.grd (-(2 ^ 62)≤j∧j<2 ^ 62) (.ok (rngI 0 j.toNat))) tyInt:=by
 intro σ F H R hL hs q
 refine h σ F H _ hL hs (q.bind.imp fun l F1 H1 x1 k1 v hv=>?_)
 obtain ⟨u,rfl,rfl⟩:=hv
 obtain ⟨z,k1⟩:=k1.grd
 exact ⟨z.1,z.2,k1.ok x1.2.1 _ zmM_⟩
def compM (f:α→Mo (Option β)):List α→List β→Mo (List β)
 | [],acc=>.ok acc
 | x::xs,acc=>(f x).bind fun o=>match o with | none=>compM f xs acc | some y=>.lim (acc.length+1) (compM f xs (acc++[y]))
theorem zae_ {f:α→Mo (Option β)}{g:α→β}:∀ {xs:List α}{acc:List β},(∀ x∈xs,f x=.ok (some (g x)))→acc.length+xs.length≤100000→compM f xs acc=.ok (acc++xs.map g)
 | [],acc,_,_=>by unfold compM; rw [List.map_nil,List.append_nil]
 | x::xs,acc,h,hl=>by
  rw [List.length_cons] at hl
  unfold compM
  rw [h x List.mem_cons_self,Mo.ok_bind]
  show Mo.lim _ _=_
  rw [Mo.lim_ok (by lia),zae_ (fun y hy=>h y (List.mem_cons_of_mem _ hy)) (by rw [List.length_append,List.length_singleton]; lia)]
  simp
def cL (lv:List Str) (fr:List (Str×Nat)) (L:List Sl):List Sl:=lv.map (fun _=>Sl.dead)++fr.map fun q=>(L[q.2]?).getD .dead
theorem zf3_ {lv:List Str}{fr:List (Str×Nat)}{σ:St}(h:HoldF L σ F):HoldF (cL lv fr L) (cS lv fr σ) F:=by
 intro i s e
 unfold cL at e
 unfold cS
 by_cases hi:i<lv.length
 ·rw [List.getElem?_append_left (by rw [List.length_map]; exact hi),List.getElem?_map,List.getElem?_eq_getElem hi] at e
  cases e; trivial
 ·rw [List.getElem?_append_right (by rw [List.length_map]; lia),List.length_map,List.getElem?_map] at e
  rw [List.getElem?_append_right (by rw [List.length_map]; lia),List.length_map,List.getElem?_map]
  cases z:fr[i-lv.length]? with
  | none=>rw [z] at e; cases e
  | some q =>
   rw [z] at e
   have e:(L[q.2]?).getD .dead=s:=by simpa using e
   show Sl.Z s (σ[q.2]?).join F
   cases y:L[q.2]? with
   | none=>rw [y] at e; rw [← e]; trivial
   | some t=>rw [y] at e; cases e; exact h _ _ y
theorem zkb_ {lv:List Str}{fr:List (Str×Nat)}{σ:St}:(cL lv fr L).length=(cS lv fr σ).length:=by unfold cL cS; simp
def cond1 (c:Mo Bool) (f:Mo β):Mo (Option β):=(c.bind fun b=>if b then f.bind fun y=>.ok (some y) else .ok none).noex
theorem zcl_ {lv:List Str}{fr:List (Str×Nat)}{wi:TI}{g:TG}{tt:TT}{te:TE}{r:Mo (List α)}{ss:α→List (Nat×Sl)}{c:α→Mo Bool}{f:α→Mo β}{T':Ty β}
  (hi:EvI K wi E L r T) (hg:TgR K g T ss) (hd:∀ a,DeadAt (cL lv fr L) ((ss a).map (·.1))) (ht:∀ a,EvT K tt E0 (setL (cL lv fr L) (ss a)) (c a)) (he:∀ a,EvF K te E0 (setL (cL lv fr L) (ss a)) (f a) T') :
  EvO K (tComp lv fr wi g tt te) E L (r.bind fun xs=>compM (fun x=>cond1 (c x) (f x)) xs []) (owL T'):=by
 intro σ F0 H0 Q hL hs q
 refine hi σ F0 H0 _ hL hs (q.bind.imp fun xs F1 H1 x1 k1 J Y D hD=>?_)
 have hL1:=hL.mono x1.1
 refine ⟨fun i m ys σ' H'=>m=xs.length-i∧i≤xs.length∧∃ acc Fi,Ext F1 H1 Fi H'∧Fi D=none∧H' D=some (.lst ys)∧Prs T' Fi acc ys∧HoldF (cL lv fr L) σ' F1∧σ'.length=(cL lv fr L).length∧After K (compM (fun x=>cond1 (c x) (f x)) (xs.drop i) acc) E F1 H1 (OwnK (owL T') H0 Q),
  ⟨_,rfl,Nat.zero_le _,[],F1,.heap x1.2.1 (zas_ hD _),x1.2.1.free hD,zC_,.nil,zf3_ hL1,zkb_.symm,k1⟩,?_⟩
 rintro i m ys σ' H' ⟨rfl,hi,acc,Fi,xi,hDi,hy,hp,hσ,hln,A⟩
 by_cases hlt:i<xs.length
 ·right
  have ex:xs[i]?=some xs[i]:=List.getElem?_eq_getElem hlt
  obtain ⟨g1,g2⟩:=Y.go i H' xs[i] (xi.1.trans xi.2.1) ex
  refine ⟨g1,fun ys' σ'' H''=>i+1≤xs.length∧∃ acc Fi,Ext F1 H1 Fi H''∧Fi D=none∧H'' D=some (.lst ys')∧Prs T' Fi acc ys'∧HoldF (cL lv fr L) σ'' F1∧σ''.length=(cL lv fr L).length∧After K (compM (fun x=>cond1 (c x) (f x)) (xs.drop (i+1)) acc) E F1 H1 (OwnK (owL T') H0 Q),fun ys' σ'' H'' z=>⟨xs.length-(i+1),by omega,rfl,z⟩,fun v H2 hyl=>?_⟩
  obtain ⟨F2,x2,hv⟩:=g2 v H2 hyl Fi xi.1 xi.2.1
  have keep:∀ {Fa Ha Fb Hb:Hp},Ext Fa Ha Fb Hb→Fa D=none→Ha D=some (.lst ys)→Fb D=none∧Hb D=some (.lst ys):=by
   intro Fa Ha Fb Hb x h1 h2
   refine ⟨?_,x.2.2.1 _ _ h2⟩
   cases z:Fb D with
   | none=>rfl
   | some o=>have:=x.2.2.2 D h1 (by rw [z]; exact Option.some_ne_none _); rw [h2] at this; cases this
  obtain ⟨hD2,hy2⟩:=keep x2 hDi hy
  refine hg xs[i] v σ' F2 H2 _ x2.2.1 hv fun vs hpl=>?_
  have hσ2:HoldF (cL lv fr L) σ' F2:=hσ.mono (xi.1.trans x2.1)
  obtain ⟨a1,a2,a3⟩:=zfp_ hpl hln.symm hσ2
  have hσd:HoldF (cL lv fr L) (setS σ' vs) F1:=by
   have hdead:=hd xs[i]
   refine fun j s e=>?_
   have h1:=zg5_ hpl hln.symm hdead hσ2
   by_cases hj:∃ q∈(ss xs[i]).map (·.1),q=j
   ·obtain ⟨q,hq,rfl⟩:=hj
    rw [hdead q hq s e]; trivial
   ·have:((setS σ' vs)[j]?)=σ'[j]?:=by
     exact zjF_ hpl (fun hq=>hj ⟨j,hq,rfl⟩)
    rw [this]; exact hσ j s e
  have hdrop:xs.drop i=xs[i]::xs.drop (i+1):=List.drop_eq_getElem_cons hlt
  rw [hdrop] at A
  unfold compM at A
  cases ec:c xs[i] with
  | no=>unfold cond1 at A; rw [ec] at A; exact A.elim
  | ex cc=>unfold cond1 at A; rw [ec] at A; exact A.elim
  | ok bb =>
   refine ht xs[i] _ F2 H2 _ a1 x2.2.1 ?_
   rw [ec]
   intro F3 H3 x3
   obtain ⟨hD3,hy3⟩:=keep x3 hD2 hy2
   have x13:=(xi.trans x2).trans x3
   cases bb with
   | false =>
    rw [if_neg (by decide)]
    refine ⟨hlt,acc,F3,x13,hD3,hy3,hp.mono (x2.1.trans x3.1),hσd,by rw [a2]; exact hln,?_⟩
    unfold cond1 at A; rw [ec] at A
    exact A
   | true =>
    rw [if_pos rfl]
    cases ef:f xs[i] with
    | no=>unfold cond1 at A; rw [ec,ef] at A; exact A.elim
    | ex cc=>unfold cond1 at A; rw [ec,ef] at A; exact A.elim
    | ok y =>
     unfold cond1 at A; rw [ec,ef] at A
     have A':After K (Mo.lim (acc.length+1) (compM (fun x=>cond1 (c x) (f x)) (xs.drop (i+1)) (acc++[y]))) E F1 H1 (OwnK (owL T') H0 Q):=A
     obtain ⟨hz,A'⟩:=A'.lim
     refine he xs[i] _ F3 H3 _ (a1.mono x3.1) x3.2.1 ?_
     rw [ef]
     intro F4 H4 x4 v4 hv4
     obtain ⟨hD4,hy4⟩:=keep x4 hD3 hy3
     have hlen:=hp.len
     refine ⟨hy4,by omega,hlt,acc++[y],F4,?_,hD4,zC_,(hp.mono ((x2.1.trans x3.1).trans x4.1)).append (.cons hv4 .nil),hσd,by rw [a2]; exact hln,A'⟩
     have x14:=x13.trans x4
     refine ⟨x14.1,fun b o z=>?_,fun b o z=>?_,x14.2.2.2⟩
     ·unfold upd; split
      ·rename_i w; rw [w,hD4] at z; cases z
      ·exact x14.2.1 _ _ z
     ·unfold upd; split
      ·rename_i w; rw [w,hD] at z; cases z
      ·exact x14.2.2.1 _ _ z
 ·left
  have e:i=xs.length:=by omega
  subst e
  refine ⟨Y.stop H' (xi.1.trans xi.2.1),?_⟩
  rw [List.drop_length] at A
  have A':OwnK (owL T') H0 Q acc Fi H':=A Fi H' xi
  exact zi0_ (x1.2.2.1.free hD) hy hDi hp A'
end
end L2
namespace L2
open PySem PySem.Spec PyProof.Rows
inductive Out (ρ B S:Type) where
 | nx (s:S) | rt (r:ρ) | bk (b:B) | ct (b:B)
def Okk (F0 H0 F h H:Hp):Prop:=Ext F0 H0 F H∧Dj F h∧Same h H∧(∀ p,h p≠none→H0 p=none)∧∀ p xs,h p≠some (.tup xs)
section
variable {K:Fgg}{E:XK}{α β γ ρ S S' B B':Type}{F0 H0 F h H:Hp}{L:List Sl}{e e1 e2:TE}{T:Ty α}{r:Mo α}{O:Own ρ}
def Fin (K:Fgg) (r:Mo (Out ρ B S)) (E:XK) (LS:S→List Sl) (LB:B→List Sl) (O:Own ρ) (F0 H0:Hp) (D:Ends):Prop:=match r with
 | .ok (.nx s)=>∀ σ F h H,Hold (LS s) σ F h→Okk F0 H0 F h H→D.nx σ H
 | .ok (.bk b)=>∀ σ F h H,Hold (LB b) σ F h→Okk F0 H0 F h H→D.bk σ H
 | .ok (.ct b)=>∀ σ F h H,Hold (LB b) σ F h→Okk F0 H0 F h H→D.ct σ H
 | .ok (.rt a)=>∀ v F h H,Okk F0 H0 F h H→O.O a v F h→D.rt v H
 | .ex c=>∀ F h H,Okk F0 H0 F h H→Tell K E c H0 F H
 | .no=>False
def EvS (K:Fgg) (t:TS) (E:XK) (L:List Sl) (r:Mo (Out ρ B S)) (LS:S→List Sl) (LB:B→List Sl) (O:Own ρ):Prop :=
 ∀ F0 H0 σ F h H (D:Ends),Hold L σ F h→Okk F0 H0 F h H→Fin K r E LS LB O F0 H0 D→t D σ H
variable {t u:TS}{LS:S→List Sl}{LS':S'→List Sl}{LB:B→List Sl}
def thenO (r:Mo (Out ρ B S)) (k:S→Mo (Out ρ B S')):Mo (Out ρ B S'):=r.bind fun o=>match o with | .nx s=>k s | .rt a=>.ok (.rt a) | .bk b=>.ok (.bk b) | .ct b=>.ok (.ct b)
theorem zaj_ {r:Mo (Out ρ B S)}{k:S→Mo (Out ρ B S')}(h1:EvS K t E L r LS LB O) (h2:∀ s,EvS K u E (LS s) (k s) LS' LB O):EvS K (tSeq t u) E L (thenO r k) LS' LB O:=by
 intro F0 H0 σ F h H D hL ok fin
 refine h1 F0 H0 σ F h H { D with nx:=u D } hL ok ?_
 cases r with
 | no=>exact fin
 | ex c=>exact fin
 | ok o =>
  cases o with
  | nx s=>exact fun σ F h H hL ok=>h2 s F0 H0 σ F h H D hL ok fin
  | rt a=>exact fin
  | bk b=>exact fin
  | ct b=>exact fin
theorem Okk.thaw (ok:Okk F0 H0 F h H):Same (un F h) H:=fun p o e=>by
 unfold un at e
 cases z:F p with
 | some w=>rw [z] at e; cases e; exact ok.1.2.1 _ _ z
 | none=>rw [z] at e; exact ok.2.2.1 _ _ e
def less (G h:Hp):Hp:=fun p=>match h p with | none=>G p | some _=>none
theorem zbV_ {G h:Hp}{p:Addr}(e:h p=none):less G h p=G p:=by unfold less; rw [e]
theorem Okk.back (ok:Okk F0 H0 F h H) {G' H':Hp}(x:Ext (un F h) H G' H'):Okk F0 H0 (less G' h) h H'∧Same F (less G' h)∧Tups G' (less G' h):=by
 obtain ⟨o1,o2,o3,o4,o5⟩:=ok
 have hs:Same F (less G' h):=fun p o e=>by
  have hp:h p=none:=by
   rcases o2 p with z | z
   ·rw [z] at e; cases e
   ·exact z
  rw [zbV_ hp]; exact x.1 _ _ (zbI_ _ _ e)
 refine ⟨⟨⟨o1.1.trans hs,fun p o e=>?_,o1.2.2.1.trans x.2.2.1,fun p a b=>?_⟩,fun p=>?_,fun p o e=>?_,o4,o5⟩,hs,fun p xs e=>?_⟩
 ·unfold less at e
  split at e
  ·exact x.2.1 _ _ e
  ·cases e
 ·unfold less at b
  split at b
  ·rename_i z
   cases y:un F h p with
   | none=>exact o1.2.2.1.free (x.2.2.2 p y b)
   | some o =>
    unfold un at y
    cases w:F p with
    | some _=>exact o1.2.2.2 p a (by rw [w]; exact Option.some_ne_none _)
    | none=>rw [w,z] at y; cases y
  ·exact absurd rfl b
 ·unfold less
  cases z:h p with
  | none=>exact .inr rfl
  | some o=>exact .inl rfl
 ·exact x.2.1 _ _ (x.1 _ _ (zig_ o2 _ _ e))
 ·unfold less
  cases z:h p with
  | none=>exact e
  | some o =>
   have:=x.1 _ _ (zig_ o2 _ _ z)
   rw [e] at this; cases this
   exact absurd z (o5 p xs)
theorem Tell.back {x:Xc}(ok:Okk F0 H0 F h H) {G' H':Hp}(y:Ext (un F h) H G' H') (t:Tell K E x H0 (less G' h) H'):Tell K E x H G' H':=by
 cases x with
 | pl c=>exact t
 | «at» c as =>
  refine fun dx fs e q r=>t dx fs (ok.1.2.2.1.free e) ?_ (r.imm (ok.back y).2.2)
  rw [zbV_ (ok.2.2.1.free e)]; exact q
theorem zaS_ {r:Mo α}{k:α→Mo (Out ρ B S)}{G:Hp}{D:Ends}{kk:α→Hp→Hp→Prop}(ok:Okk F0 H0 F h H) (G1:Hp) (hG:G1=un F h∨G1=F) (fin:Fin K (r.bind k) E LS LB O F0 H0 D)
  (hk:∀ a F' H',r=.ok a→Ext G1 H F' H'→kk a F' H'):After K r E G1 H kk:=by
 cases r with
 | ok a=>exact fun F' H' x=>hk a F' H' rfl x
 | no=>exact fin
 | ex c =>
  intro F' H' x
  rcases hG with rfl | rfl
  ·exact (fin _ _ _ (ok.back x).1).back ok x
  ·refine Tell.up ok.1.2.2.1 (fin F' h H' ⟨ok.1.trans x,fun p=>?_,ok.2.2.1.trans x.2.2.1,ok.2.2.2.1,ok.2.2.2.2⟩)
   cases z:h p with
   | none=>exact .inr rfl
   | some o =>
    left
    rcases ok.2.1 p with y | y
    ·cases w:F' p with
     | none=>rfl
     | some o'=>have:=x.2.2.2 p y (by rw [w]; exact Option.some_ne_none _); rw [ok.2.2.1 _ _ z] at this; cases this
    ·rw [y] at z; cases z
theorem Okk.cold (ok:Okk F0 H0 F h H) {F' H':Hp}(x:Ext F H F' H'):Okk F0 H0 F' h H':=by
 refine ⟨ok.1.trans x,fun p=>?_,ok.2.2.1.trans x.2.2.1,ok.2.2.2.1,ok.2.2.2.2⟩
 cases z:h p with
 | none=>exact .inr rfl
 | some o =>
  left
  rcases ok.2.1 p with y | y
  ·cases w:F' p with
   | none=>rfl
   | some o'=>have:=x.2.2.2 p y (by rw [w]; exact Option.some_ne_none _); rw [ok.2.2.1 _ _ z] at this; cases this
  ·rw [y] at z; cases z
theorem zbl_ {i:Nat}{s:Sl}{σ:St}{a:α}{v:V}(hi:L[i]?=some s) (hL:Hold L σ F h) (hv:T.R a v F):Hold (L.set i (.fz T a)) (σ.set i (some v)) F h:=by
 obtain ⟨o,h1,h2,_,j,_,f⟩:=hL.at i hi
 exact f (.fz T a) (some v) h1 h j ⟨v,rfl,hv⟩
theorem ze6_ {i:Nat}{s:Sl}{σ:St}{a:α}{v:V}{O1:Own α}{hn:Hp}(ok:Okk F0 H0 F h H) (hi:L[i]?=some s) (hL:Hold L σ F h) (fresh:∀ p,hn p≠none→H0 p=none) (dj:Dj F hn) (dh:Dj hn h) (hs:Same hn H) (hv:O1.O a v F hn) :
  ∃ h',Hold (L.set i (.ow O1 a)) (σ.set i (some v)) F h'∧Okk F0 H0 F h' H:=by
 obtain ⟨o,h1,h2,_,j,_,f⟩:=hL.at i hi
 have d2:Dj hn h2:=fun p=>by
  rcases dh p with z | z
  ·exact .inl z
  ·exact .inr (j.r.free z)
 refine ⟨un hn h2,f (.ow O1 a) (some v) hn _ (zmc_ d2) ⟨v,rfl,hv⟩,ok.1,fun p=>?_,fun p o e=>?_,fun p e=>?_,fun p xs e=>?_⟩
 ·unfold un
  cases z:hn p with
  | some w =>
   rcases dj p with y | y
   ·exact .inl y
   ·rw [y] at z; cases z
  | none =>
   rcases ok.2.1 p with y | y
   ·exact .inl y
   ·exact .inr (j.r.free y)
 ·unfold un at e
  cases z:hn p with
  | some w=>rw [z] at e; cases e; exact hs _ _ z
  | none=>rw [z] at e; exact ok.2.2.1 _ _ (j.r _ _ e)
 ·unfold un at e
  cases z:hn p with
  | some w=>exact fresh p (by rw [z]; exact Option.some_ne_none _)
  | none =>
   rw [z] at e
   cases y:h2 p with
   | none=>exact absurd y e
   | some w=>exact ok.2.2.2.1 p (by rw [j.r _ _ y]; exact Option.some_ne_none _)
 ·unfold un at e
  cases z:hn p with
  | some w=>rw [z] at e; cases e; exact O1.notup hv p xs z
  | none=>rw [z] at e; exact ok.2.2.2.2 p xs (j.r _ _ e)
theorem zc3_ {i:Nat}{s:Sl}{k:α→Mo (Out ρ B S)}(hi:L[i]?=some s) (hT:Imm T) (he:EvF K e E L r T) (hk:∀ a,EvS K u E (L.set i (.fz T a)) (k a) LS LB O):EvS K (tSeq (tAsg e (gName i)) u) E L (r.bind k) LS LB O:=by
 intro F0 H0 σ F h H D hL ok fin
 refine he σ (un F h) H _ (hL.froz ok.2.1) ok.thaw (zaS_ (G:=F) ok _ (.inl rfl) fin fun a F' H' hr x v hv=>?_)
 obtain ⟨o,hs,ht⟩:=ok.back x
 rw [hr] at fin
 exact hk a F0 H0 _ _ h H' D (zbl_ hi (hL.mono hs) (hT ht hv)) o fin
theorem zmZ_ {i:Nat}{s:Sl}{k:α→Mo (Out ρ B S)}(hi:L[i]?=some s) (he:EvF K e E (L.map Sl.cold) r T) (hk:∀ a,EvS K u E (L.set i (.fz T a)) (k a) LS LB O):EvS K (tSeq (tAsg e (gName i)) u) E L (r.bind k) LS LB O:=by
 intro F0 H0 σ F h H D hL ok fin
 refine he σ F H _ hL.coldF ok.1.2.1 (zaS_ (G:=F) ok _ (.inr rfl) fin fun a F' H' hr x v hv=>?_)
 rw [hr] at fin
 exact hk a F0 H0 _ _ h H' D (zbl_ hi (hL.mono x.1) hv) (ok.cold x) fin
theorem zk3_ {hn h:Hp}(hh:Same h H) (fresh:∀ p,hn p≠none→H p=none):Dj hn h:=fun p=>by
 cases z:hn p with
 | none=>exact .inl rfl
 | some w =>
  have:=fresh p (by rw [z]; exact Option.some_ne_none _)
  exact .inr (hh.free this)
theorem z9_ {i:Nat}{s:Sl}{O1:Own α}{k:α→Mo (Out ρ B S)}(hi:L[i]?=some s) (hO:ImmO O1) (he:EvO K e E L r O1) (hk:∀ a,EvS K u E (L.set i (.ow O1 a)) (k a) LS LB O):EvS K (tSeq (tAsg e (gName i)) u) E L (r.bind k) LS LB O:=by
 intro F0 H0 σ F h H D hL ok fin
 refine he σ (un F h) H _ (hL.froz ok.2.1) ok.thaw (zaS_ (G:=F) ok _ (.inl rfl) fin fun a F' H' hr x v hn fresh dj hsn hv=>?_)
 obtain ⟨o,hs,ht⟩:=ok.back x
 rw [hr] at fin
 have dj':Dj (less F' h) hn:=fun p=>by
  unfold less
  cases z:h p with
  | none=>exact dj p
  | some w=>exact .inl rfl
 obtain ⟨h',a1,a2⟩:=ze6_ o hi (hL.mono hs) (fun p z=>ok.1.2.2.1.free (fresh p z)) dj' (zk3_ ok.2.2.1 fresh) hsn (hO ht hv)
 exact hk a F0 H0 _ _ h' H' D a1 a2 fin
theorem zcp_ {α:Type}{l:List α}{i:Nat}{o:α}(h:l[i]?=some o):l.set i o=l:=by
 obtain ⟨hi,e⟩:=List.getElem?_eq_some_iff.mp h
 rw [← e]; exact List.set_getElem_self hi
theorem zdp_ {i:Nat}{O1:Own α}{a:α}{r:Mo (Out ρ B S)}(hi:L[i]?=some (.ow O1 a)) (hk:EvS K u E (L.set i (.fz O1.fr a)) r LS LB O):EvS K u E L r LS LB O:=by
 intro F0 H0 σ F h H D hL ok fin
 obtain ⟨o,h1,h2,e1,j,⟨v,e2,hv⟩,f⟩:=hL.at i hi
 obtain ⟨o1,o2,o3,o4,o5⟩:=ok
 have dj1:Dj F h1:=fun p=>by
  rcases o2 p with z | z
  ·exact .inl z
  ·exact .inr (j.l.free z)
 have dj2:Dj F h2:=fun p=>by
  rcases o2 p with z | z
  ·exact .inl z
  ·exact .inr (j.r.free z)
 have g1:Hold (L.set i (.dead)) σ F h2:=by
  have:=f .dead o (fun _=>none) h2 (fun p=>.inl ⟨rfl,rfl⟩) trivial
  rwa [zcp_ e1] at this
 have g2:Hold (L.set i (.fz O1.fr a)) σ (un F h1) h2:=by
  have g3:=g1.mono (zbI_ (h:=h1))
  have hi':(L.set i Sl.dead)[i]?=some .dead:=by
   rw [List.getElem?_set_self]
   exact (List.getElem?_eq_some_iff.mp hi).1
  have:=zbl_ (T:=O1.fr) hi' g3 (O1.frz dj1 hv)
  rw [List.set_set] at this
  subst e2
  rwa [zcp_ e1] at this
 refine hk F0 H0 σ _ h2 H D g2 ⟨⟨o1.1.trans zbI_,fun p o e=>?_,o1.2.2.1,fun p a b=>?_⟩,fun p=>?_,j.r.trans o3,fun p z=>?_,fun p xs e=>o5 p xs (j.r _ _ e)⟩ fin
 ·unfold un at e
  cases z:F p with
  | some w=>rw [z] at e; cases e; exact o1.2.1 _ _ z
  | none=>rw [z] at e; exact o3 _ _ (j.l _ _ e)
 ·unfold un at b
  cases z:F p with
  | some w=>exact o1.2.2.2 p a (by rw [z]; exact Option.some_ne_none _)
  | none =>
   rw [z] at b
   cases y:h1 p with
   | none=>exact absurd y b
   | some w=>exact o4 p (by rw [j.l _ _ y]; exact Option.some_ne_none _)
 ·unfold un
  cases z:F p with
  | some w =>
   rcases dj2 p with y | y
   ·rw [y] at z; cases z
   ·exact .inr y
  | none=>exact j.dj p
 ·cases y:h2 p with
  | none=>exact absurd y z
  | some w=>exact o4 p (by rw [j.r _ _ y]; exact Option.some_ne_none _)
theorem zaB_ {r:Mo ρ}(hO:ImmO O) (he:EvO K e E L r O):EvS K (tRet e) E L (r.bind fun a=>.ok (.rt a)) LS LB O:=by
 intro F0 H0 σ F h H D hL ok fin
 refine he σ (un F h) H _ (hL.froz ok.2.1) ok.thaw (zaS_ (G:=F) ok _ (.inl rfl) fin fun a F' H' hr x v hn fresh dj hsn hv=>?_)
 obtain ⟨o,hs,ht⟩:=ok.back x
 rw [hr] at fin
 refine fin v _ hn H' ⟨o.1,fun p=>?_,hsn,fun p z=>ok.1.2.2.1.free (fresh p z),O.notup hv⟩ (hO ht hv)
 unfold less
 cases z:h p with
 | none=>exact dj p
 | some w=>exact .inl rfl
theorem zgb_ {r:Mo ρ}(he:EvO K e E (L.map Sl.cold) r O):EvS K (tRet e) E L (r.bind fun a=>.ok (.rt a)) LS LB O:=by
 intro F0 H0 σ F h H D hL ok fin
 refine he σ F H _ hL.coldF ok.1.2.1 (zaS_ (G:=F) ok _ (.inr rfl) fin fun a F' H' hr x v hn fresh dj hsn hv=>?_)
 rw [hr] at fin
 exact fin v _ hn H' ⟨ok.1.trans x,dj,hsn,fun p z=>ok.1.2.2.1.free (fresh p z),O.notup hv⟩ hv
theorem zlJ_ {i:Nat}{a:ρ}(hi:L[i]?=some (.ow O a)):EvS K (tRet (mVar i)) E L (.ok (.rt a)) LS LB O:=by
 intro F0 H0 σ F h H D hL ok fin
 obtain ⟨o,h1,h2,e1,j,⟨v,e2,hv⟩,f⟩:=hL.at i hi
 subst e2
 show mVar i σ H D.rt
 unfold mVar
 rw [e1]
 obtain ⟨o1,o2,o3,o4,o5⟩:=ok
 refine fin v F h1 H ⟨o1,fun p=>?_,j.l.trans o3,fun p z=>?_,O.notup hv⟩ hv
 ·rcases o2 p with z | z
  ·exact .inl z
  ·exact .inr (j.l.free z)
 ·cases y:h1 p with
  | none=>exact absurd y z
  | some w=>exact o4 p (by rw [j.l _ _ y]; exact Option.some_ne_none _)
theorem s_if {c:TT}{b:Mo Bool}{r1 r2:Mo (Out ρ B S)}(hc:EvT K c E L b) (h1:EvS K t E L r1 LS LB O) (h2:EvS K u E L r2 LS LB O):EvS K (mIfS c t u) E L (b.bind fun c=>if c then r1 else r2) LS LB O:=by
 intro F0 H0 σ F h H D hL ok fin
 refine hc σ (un F h) H _ (hL.froz ok.2.1) ok.thaw (zaS_ (G:=F) ok _ (.inl rfl) fin fun a F' H' hr x=>?_)
 obtain ⟨o,hs,ht⟩:=ok.back x
 rw [hr] at fin
 have fin':Fin K (if a then r1 else r2) E LS LB O F0 H0 D:=fin
 refine ⟨fun z=>?_,fun z=>?_⟩
 ·rw [if_pos z] at fin'; exact h1 F0 H0 σ _ h H' D (hL.mono hs) o fin'
 ·rw [if_neg (by rw [z]; decide)] at fin'; exact h2 F0 H0 σ _ h H' D (hL.mono hs) o fin'
inductive Sub:List Sl→List Sl→Prop
 | nil:Sub [] []
 | same {s:Sl}{L L':List Sl}(h:Sub L L'):Sub (s::L) (s::L')
 | dead {s:Sl}{L L':List Sl}(h:Sub L L'):Sub (s::L) (.dead::L')
theorem Sub.hold {L L':List Sl}(w:Sub L L'):∀ {σ:St}{F h:Hp},Hold L σ F h→Hold L' σ F h:=by
 induction w with
 | nil=>exact fun h=>h
 | same _ ih =>
  intro σ F h q
  cases σ with
  | nil=>exact q.elim
  | cons o σ=>obtain ⟨h1,h2,j,p,r⟩:=q; exact ⟨h1,h2,j,p,ih r⟩
 | dead _ ih =>
  intro σ F h q
  cases σ with
  | nil=>exact q.elim
  | cons o σ=>obtain ⟨h1,h2,j,p,r⟩:=q; exact ⟨h1,h2,j,trivial,ih r⟩
theorem zk_ {s:S}(w:Sub L (LS s)):EvS K tNext E L (.ok (.nx s)) LS LB O:=fun F0 H0 σ F h H D hL ok fin=>fin σ F h H (w.hold hL) ok
theorem zfD_ {r:Mo (Out ρ B S)}(h:EvS K (tSeq t tNext) E L r LS LB O):EvS K t E L r LS LB O:=h
def forO (step:S→α→Mo (Out ρ S S)):List α→S→Mo (Out ρ B S)
 | [],s=>.ok (.nx s)
 | x::xs,s=>(step s x).bind fun o=>match o with | .nx s'=>forO step xs s' | .ct s'=>forO step xs s' | .bk s'=>.ok (.nx s') | .rt a=>.ok (.rt a)
theorem zgC_ {ss:List (Nat×Sl)}{vs:List (Nat×Option V)}(p:Plain F ss vs):∀ {L:List Sl}{σ:St},Hold L σ F h→Hold (setL L ss) (setS σ vs) F h:=by
 induction p with
 | nil=>exact fun h=>h
 | cons hv t ih =>
  rename_i T a i v ss vs
  intro L σ q
  refine ih (L:=L.set i (.fz T a)) (σ:=σ.set i (some v)) ?_
  by_cases hi:i<L.length
  ·exact zbl_ (List.getElem?_eq_getElem hi) q hv
  ·rw [List.set_eq_of_length_le (by lia),List.set_eq_of_length_le (by have:=q.len; lia)]; exact q
theorem Okk.rebase {F1 H1:Hp}(x:Ext F0 H0 F1 H1) (ok:Okk F0 H0 F h H) (s:Same F1 F):Okk F1 H0 F h H:=by
 obtain ⟨o1,o2,o3,o4,o5⟩:=ok
 refine ⟨⟨s,o1.2.1,o1.2.2.1,fun p a b=>o1.2.2.2 p (x.1.free a) b⟩,o2,o3,o4,o5⟩
theorem Okk.unbase {F1 H1:Hp}(x:Ext F0 H0 F1 H1) (ok:Okk F1 H0 F h H):Okk F0 H0 F h H:=by
 obtain ⟨o1,o2,o3,o4,o5⟩:=ok
 refine ⟨⟨x.1.trans o1.1,o1.2.1,o1.2.2.1,fun p a b=>?_⟩,o2,o3,o4,o5⟩
 cases z:F1 p with
 | none=>exact o1.2.2.2 p z b
 | some w=>exact x.2.2.2 p a (by rw [z]; exact Option.some_ne_none _)
theorem zf2_ {wi:TI}{g:TG}{tb:TS}{s0:S}{r:Mo (List α)}{ss:α→List (Nat×Sl)}{step:S→α→Mo (Out ρ S S)}(hi:EvI K wi E ((LS s0).map Sl.cold) r T) (hg:TgR K g T ss)
  (hb:∀ s a,EvS K tb E (setL (LS s) (ss a)) (step s a) LS LS O):EvS K (tFor wi g tb) E (LS s0) (r.bind fun xs=>forO step xs s0) LS LB O:=by
 intro F0 H0 σ F h H D hL ok fin
 refine hi σ F H _ hL.coldF ok.1.2.1 (zaS_ (G:=F) ok _ (.inr rfl) fin fun xs F1 H1 hr x1 J Y=>?_)
 rw [hr] at fin
 have xx:=ok.1.trans x1
 refine ⟨fun i m σ H=>m=xs.length-i∧i≤xs.length∧∃ s F h,Hold (LS s) σ F h∧Okk F1 H0 F h H∧Fin K (forO (B:=B) step (xs.drop i) s) E LS LB O F0 H0 D,
  ⟨_,rfl,Nat.zero_le _,s0,F1,h,hL.mono x1.1,(ok.cold x1).rebase xx (Same.refl _),fin⟩,?_⟩
 rintro i m σ H ⟨rfl,hi,s,F,h,hL,ok,fin⟩
 have s1:Same F1 H:=ok.1.1.trans ok.1.2.1
 by_cases hlt:i<xs.length
 ·right
  obtain ⟨g1,g2⟩:=Y.go i H xs[i] s1 (List.getElem?_eq_getElem hlt)
  refine ⟨g1,fun σ' H'=>i+1≤xs.length∧∃ s F h,Hold (LS s) σ' F h∧Okk F1 H0 F h H'∧Fin K (forO (B:=B) step (xs.drop (i+1)) s) E LS LB O F0 H0 D,fun σ' H' z=>⟨xs.length-(i+1),by omega,rfl,z⟩,fun v H2 hy=>?_⟩
  obtain ⟨F2,x2,hv⟩:=g2 v H2 hy F ok.1.1 ok.1.2.1
  refine hg xs[i] v σ F2 H2 _ x2.2.1 hv fun vs hp=>?_
  refine hb s xs[i] F1 H0 _ F2 h H2 _ (zgC_ hp (hL.mono x2.1)) (ok.cold x2) ?_
  rw [List.drop_eq_getElem_cons hlt] at fin
  unfold forO at fin
  cases e:step s xs[i] with
  | no=>rw [e] at fin; exact fin
  | ex c=>rw [e] at fin; exact fun F h H ok=>fin F h H (ok.unbase xx)
  | ok o =>
   rw [e] at fin
   cases o with
   | nx s'=>exact fun σ' F' h' H' hL' ok'=>⟨hlt,s',F',h',hL',ok',fin⟩
   | ct s'=>exact fun σ' F' h' H' hL' ok'=>⟨hlt,s',F',h',hL',ok',fin⟩
   | bk s'=>exact fun σ' F' h' H' hL' ok'=>fin σ' F' h' H' hL' (ok'.unbase xx)
   | rt a=>exact fun v F h H ok=>fin v F h H (ok.unbase xx)
 ·left
  have e:i=xs.length:=by omega
  subst e
  rw [List.drop_length] at fin
  exact ⟨Y.stop H s1,fin σ F h H hL (ok.unbase xx)⟩
theorem zbC_ {i:Nat}{σ:St}{xs:List α}(hL:Hold L σ F h) (hi:L[i]?=some (.ow (owL T) xs)) (ok:Okk F0 H0 F h H) :
  ∃ p vs,σ[i]?=some (some (.ref p))∧H p=some (.lst vs)∧Prs T F xs vs∧∀ xs' vs',Prs T F xs' vs'→∃ h',Hold (L.set i (.ow (owL T) xs')) σ F h'∧Okk F0 H0 F h' (upd H p (.lst vs')):=by
 obtain ⟨o,h1,h2,e1,j,⟨v,e2,p,vs,rfl,rfl,hr⟩,f⟩:=hL.at i hi
 subst e2
 obtain ⟨o1,o2,o3,o4,o5⟩:=ok
 have hp:h p=some (.lst vs):=j.l _ _ zby_
 have h2p:h2 p=none:=by
  rcases j.dj p with z | z
  ·rw [zby_] at z; cases z
  ·exact z
 have Fp:F p=none:=by
  rcases o2 p with z | z
  ·exact z
  ·rw [hp] at z; cases z
 have H0p:H0 p=none:=o4 p (by rw [hp]; exact Option.some_ne_none _)
 refine ⟨p,vs,e1,o3 _ _ hp,hr,fun xs' vs' hr'=>?_⟩
 have d2:Dj (one p (.lst vs')) h2:=fun q=>by
  unfold one; split
  ·rename_i z; rw [z]; exact .inr h2p
  ·exact .inl rfl
 have g:=f (.ow (owL T) xs') (some (.ref p)) (one p (.lst vs')) _ (zmc_ d2) ⟨_,rfl,p,vs',rfl,rfl,hr'⟩
 rw [zcp_ e1] at g
 refine ⟨_,g,⟨o1.1,fun q o z=>?_,fun q o z=>?_,o1.2.2.2⟩,fun q=>?_,fun q o z=>?_,fun q z=>?_,fun q ys z=>?_⟩
 ·unfold upd; split
  ·rename_i w; rw [w,Fp] at z; cases z
  ·exact o1.2.1 _ _ z
 ·unfold upd; split
  ·rename_i w; rw [w,H0p] at z; cases z
  ·exact o1.2.2.1 _ _ z
 ·by_cases w:q=p
  ·rw [w]; exact .inl Fp
  ·unfold un one; simp only [if_neg w]
   rcases o2 q with z | z
   ·exact .inl z
   ·exact .inr (j.r.free z)
 ·unfold un one at z
  unfold upd
  by_cases w:q=p
  ·rw [if_pos w]; simp only [if_pos w] at z; exact z
  ·rw [if_neg w]; simp only [if_neg w] at z; exact o3 _ _ (j.r _ _ z)
 ·unfold un one at z
  by_cases w:q=p
  ·rw [w]; exact H0p
  ·simp only [if_neg w] at z
   cases y:h2 q with
   | none=>exact absurd y z
   | some u=>exact o4 q (by rw [j.r _ _ y]; exact Option.some_ne_none _)
 ·unfold un one at z
  by_cases w:q=p
  ·simp only [if_pos w] at z; cases z
  ·simp only [if_neg w] at z; exact o5 q ys (j.r _ _ z)
theorem zfe_ {i:Nat}{σ:St}{v:V}{Q:VK}(e:σ[i]?=some (some v)) (q:Q v H):mVar i σ H Q:=by unfold mVar; rw [e]; exact q
theorem zhk_ {n:Nat}{r:Mo (Out ρ B S)}{D:Ends}(h:Fin K (Mo.lim n r) E LS LB O F0 H0 D):n≤sizeLine∧Fin K r E LS LB O F0 H0 D:=by
 unfold Mo.lim at h
 split at h
 ·exact ⟨by assumption,h⟩
 ·exact h.elim
theorem zlr_ {x:Option α}{k:α→Mo (Out ρ B S)}{D:Ends}(h:Fin K ((Mo.opt x).bind k) E LS LB O F0 H0 D):∃ a,x=some a∧Fin K (k a) E LS LB O F0 H0 D:=by
 cases x with
 | none=>exact h.elim
 | some a=>exact ⟨a,rfl,h⟩
theorem zeD_ {i:Nat}{xs:List α}{k:α→Mo (Out ρ B S)}(hi:L[i]?=some (.ow (owL T) xs)) (hT:Imm T) (he:EvF K e E L r T) (hk:∀ a,EvS K u E (L.set i (.ow (owL T) (xs++[a]))) (k a) LS LB O) :
  EvS K (tSeq (tDrop (tBM K "list" rAppend (mVar i) (tCons e tNil))) u) E L (r.bind fun a=>.lim (xs.length+1) (k a)) LS LB O:=by
 intro F0 H0 σ F h H D hL ok fin
 obtain ⟨p,vs,e1,hp,hr,_⟩:=zbC_ hL hi ok
 show mVar i σ H fun x H1=>tyV K "list" x H1∧tCons e tNil σ H1 fun xs H2=>rAppend x xs H2 (fun _ H3=>u D σ H3)
 refine zfe_ e1 ⟨.inl ⟨rfl,vs,.of hp⟩,?_⟩
 refine he σ (un F h) H _ (hL.froz ok.2.1) ok.thaw (zaS_ (G:=F) ok _ (.inl rfl) fin fun a F' H' hra x v hv=>?_)
 obtain ⟨o,hs,ht⟩:=ok.back x
 rw [hra] at fin
 obtain ⟨hz,fin⟩:=zhk_ (show Fin K (Mo.lim (xs.length+1) (k a)) E LS LB O F0 H0 D from fin)
 obtain ⟨p',vs',e1',hp',hr',mm⟩:=zbC_ (hL.mono hs) hi o
 rw [e1] at e1'; cases e1'
 obtain ⟨h',a1,a2⟩:=mm (xs++[a]) (vs'++[v]) (hr'.append (.cons (hT ht hv) .nil))
 exact ⟨p,vs',v,rfl,rfl,hp',by rw [← hr'.len]; lia,hk a F0 H0 σ _ h' _ D a1 a2 fin⟩
theorem zjE_ {i:Nat}{xs:List α}{r:Mo (List α)}{k:List α→Mo (Out ρ B S)}(hi:L[i]?=some (.ow (owL T) xs)) (hT:Imm T) (he:EvF K e E L r (tyL T)) (hk:∀ a,EvS K u E (L.set i (.ow (owL T) (xs++a))) (k a) LS LB O) :
  EvS K (tSeq (tDrop (tBM K "list" rExtend (mVar i) (tCons e tNil))) u) E L (r.bind fun a=>.lim (xs.length+a.length) (k a)) LS LB O:=by
 intro F0 H0 σ F h H D hL ok fin
 obtain ⟨p,vs,e1,hp,hr,_⟩:=zbC_ hL hi ok
 show mVar i σ H fun x H1=>tyV K "list" x H1∧tCons e tNil σ H1 fun xs H2=>rExtend x xs H2 (fun _ H3=>u D σ H3)
 refine zfe_ e1 ⟨.inl ⟨rfl,vs,.of hp⟩,?_⟩
 refine he σ (un F h) H _ (hL.froz ok.2.1) ok.thaw (zaS_ (G:=F) ok _ (.inl rfl) fin fun a F' H' hra x v hq_=>?_)
 obtain ⟨p2,us,ev,hp2,hr2⟩:=hq_
 obtain ⟨o,hs,ht⟩:=ok.back x
 rw [hra] at fin
 subst ev
 obtain ⟨hz,fin⟩:=zhk_ (show Fin K (Mo.lim (xs.length+a.length) (k a)) E LS LB O F0 H0 D from fin)
 obtain ⟨p',vs',e1',hp',hr',mm⟩:=zbC_ (hL.mono hs) hi o
 rw [e1] at e1'; cases e1'
 obtain ⟨h',a1,a2⟩:=mm (xs++a) (vs'++us) (hr'.append (hr2.imm hT ht))
 exact ⟨p,p2,vs',us,rfl,rfl,hp',x.2.1 _ _ hp2,by rw [← hr'.len,← hr2.len]; exact hz,hk a F0 H0 σ _ h' _ D a1 a2 fin⟩
theorem zl0_ {i:Nat}{xs:List α}{ei:TE}{ri:Mo Int}{k:List α→Mo (Out ρ B S)}(hi:L[i]?=some (.ow (owL T) xs)) (hT:Imm T) (he:EvF K e E L r T) (hei:EvF K ei E L ri tyInt) (hk:∀ a,EvS K u E (L.set i (.ow (owL T) a)) (k a) LS LB O) :
  EvS K (tSeq (tAsg e (gSub (mVar i) ei mSet)) u) E L (r.bind fun a=>ri.bind fun j=>(Mo.opt ((ixN xs.length j).map fun n=>xs.set n a)).bind k) LS LB O:=by
 intro F0 H0 σ F h H D hL ok fin
 refine he σ (un F h) H _ (hL.froz ok.2.1) ok.thaw (zaS_ (G:=F) ok _ (.inl rfl) fin fun a F' H' hra x v hv=>?_)
 obtain ⟨o,hs,ht⟩:=ok.back x
 rw [hra] at fin
 have hL':=hL.mono hs
 obtain ⟨p,vs,e1,hp,hr,_⟩:=zbC_ hL' hi o
 refine zfe_ e1 ?_
 have hv':=hT ht hv
 refine hei σ (un _ h) H' _ (hL'.froz o.2.1) o.thaw (zaS_ (G:=F) o _ (.inl rfl) fin fun j F2 H2 hrj x2 v2 hv2=>?_)
 cases hv2
 obtain ⟨o',hs',ht'⟩:=o.back x2
 rw [hrj] at fin
 obtain ⟨ys,ey,fin⟩:=zlr_ fin
 obtain ⟨p',vs',e1',hp',hr',mm⟩:=zbC_ (hL'.mono hs') hi o'
 rw [e1] at e1'; cases e1'
 cases ej:ixN xs.length j with
 | none=>rw [ej] at ey; cases ey
 | some n =>
  rw [ej] at ey; cases ey
  obtain ⟨h',a1,a2⟩:=mm (xs.set n a) (vs'.set n v) (hr'.set n (T.mono hs' hv'))
  refine ⟨vs',hp',?_⟩
  rw [← hr'.len,ej]
  exact hk _ F0 H0 σ _ h' _ D a1 a2 fin
theorem zcT_ {c:String}{ta:TA}{C:Cs γ}{n:Nat}{r:Mo γ}(hl:CsN C n) (h:EvA K ta E L r C) (hn:n≤100:=by decide):EvS K (tRaise (gA K c) E ta) E L (r.bind fun _=>.ex c) LS LB O:=by
 intro F0 H0 σ F hh H D hL ok fin
 refine h σ (un F hh) H _ (hL.froz ok.2.1) ok.thaw (zaS_ (G:=F) ok _ (.inl rfl) fin fun a F' H' hr x vs hv=>?_)
 obtain ⟨o,hs,ht⟩:=ok.back x
 rw [hr] at fin
 exact ⟨by rw [hl hv]; exact hn,fin _ hh H' o⟩
def fnO (r:Mo (Out ρ Unit Unit)):Mo ρ:=r.bind fun o=>match o with | .rt a=>.ok a | _=>.no
inductive Args (F:Hp):List V→List Sl→Prop
 | nil:Args F [] []
 | cons {α:Type}{T:Ty α}{a:α}{v:V}{vs ss} (h:T.R a v F) (t:Args F vs ss):Args F (v::vs) (.fz T a::ss)
theorem Args.hold {vs:List V}{ss:List Sl}(a:Args F vs ss) (n:Nat):Hold (ss++List.replicate n .dead) (vs.map some++List.replicate n none) F (fun _=>none):=by
 induction a with
 | nil =>
  induction n with
  | zero=>trivial
  | succ n ih=>exact ⟨fun _=>none,fun _=>none,fun p=>.inl ⟨rfl,rfl⟩,trivial,ih⟩
 | cons hv t ih=>exact ⟨fun _=>none,fun _=>none,fun p=>.inl ⟨rfl,rfl⟩,⟨_,rfl,hv⟩,ih⟩
def CsS (C:Cs γ) (ss:γ→List Sl):Prop:=∀ {c vs F},C.R c vs F→Args F vs (ss c)
theorem zz_:CsS (csLast T) fun a=>[.fz T a]:=fun ⟨v,e,h⟩=>by rw [e]; exact .cons h .nil
theorem zaK_ {C:Cs γ}{ss:γ→List Sl}(h:CsS C ss):CsS (csCons T C) fun c=>.fz T c.1::ss c.2:=fun ⟨v,us,e,q,z⟩=>by rw [e]; exact .cons q (h z)
theorem zhH_ (hs:Same F H):Okk F H F (fun _=>none) H:=by
 refine ⟨.refl hs,fun p=>.inr rfl,fun p o e=>?_,fun p e=>absurd rfl e,fun p xs e=>?_⟩
 ·cases e
 ·cases e
theorem zmg_ {t:XK→TS}{C:Cs γ}{ss:γ→List Sl}{f:γ→Mo (Out ρ Unit Unit)}{N:List Str}(n m:Nat) (hn:CsN C n) (hm:N.length-n=m) (hC:CsS C ss) (h:∀ c E,EvS K (t E) E (ss c++List.replicate m .dead) (f c) (fun _:Unit=>[]) (fun _:Unit=>[]) O) :
  ∀ vs H Q E,Ct K C (fun c=>fnO (f c)) O vs H Q E→t E { nx:=fun _ H'=>Q .non H',rt:=Q } (start N vs) H:=by
 rintro vs H Q E ⟨F,c,hs,hc,q⟩
 have hstart:start N vs=vs.map some++List.replicate m none:=by unfold start; rw [hn hc,hm]
 rw [hstart]
 refine h c E F H _ F (fun _=>none) H _ ((hC hc).hold m) (zhH_ hs) ?_
 have q:After K (fnO (f c)) E F H (OwnK O H Q):=q
 cases e:f c with
 | no=>rw [e] at q; exact q
 | ex cc=>rw [e] at q; exact fun F h H ok=>q F H ok.1
 | ok o =>
  rw [e] at q
  cases o with
  | nx s=>exact q.elim
  | bk s=>exact q.elim
  | ct s=>exact q.elim
  | rt a=>exact fun v F' h' H' ok hv=>q F' H' ok.1 v h' (fun p z=>ok.2.2.2.1 p z) ok.2.1 ok.2.2.1 hv
end
end L2
namespace L2
open PySem PySem.Spec PyProof.Rows
section
variable {K:Fgg}{E:XK}{α β γ ρ S S' B B':Type}{F0 H0 F h H:Hp}{L L':List Sl}{e e1 e2:TE}{T:Ty α}{r:Mo α}{O:Own ρ}{t u:TS}{LS:S→List Sl}{LS':S'→List Sl}{LB:B→List Sl}
def CDivG (i j:Int):Prop:=0<j∧Builtin.divisionGoesByPylong i j=false
instance (i j:Int):Decidable (CDivG i j):=inferInstanceAs (Decidable (_∧_))
instance (i j:Int):Decidable (IntMulOk i j):=inferInstanceAs (Decidable (¬ _))
abbrev mMulG:R2:=mI IntMulOk fun i j=>.int (i*j)
abbrev mDivG:R2:=mI CDivG fun i j=>.int (i / j)
theorem zk8_ {X:Cx}:OpR X (binaryOp .Mult) mMulG:=opM (opI fun _ _ _ _ _ _ _ hc q=>mul_int q hc)
theorem zcX_ {X:Cx}:OpR X (binaryOp .FloorDiv) mDivG:=opM (opI fun i j _ _ _ _ _ hc q=>by
 have h1:(0:Int)<j:=hc.1
 exact floordiv_int (by lia) (by rw [Int.fdiv_eq_ediv_of_nonneg i (by lia)]; exact q) (.inl hc.2))
theorem zbx_:Op2 K mDivG E tyInt tyInt (fun i j=>.grd (CDivG i j) (.ok (i / j))) tyInt:=op_i fun _ _ _=>rfl
theorem zld_ {Pq:α→Prop}{a:α}{l:List α}(h:Pq a) (t:∀ q∈l,Pq q):∀ q∈a::l,Pq q:=List.forall_mem_cons.mpr ⟨h,t⟩
theorem zgI_:EvS K t E L (.no:Mo (Out ρ B S)) LS LB O:=fun _ _ _ _ _ _ _ _ _ fin=>fin.elim
theorem zbN_ {r:Mo (Out ρ B S)}(w:Sub L L') (hk:EvS K t E L' r LS LB O):EvS K t E L r LS LB O:=fun F0 H0 σ F h H D hL ok fin=>hk F0 H0 σ F h H D (w.hold hL) ok fin
theorem at_ {r:Mo (Out ρ B S)}(L:List Sl) (hk:EvS K t E L r LS LB O):EvS K t E L r LS LB O:=hk
theorem zdD_ (i:Nat) {xs:List α}(h:L[i]?=some (.ow (owL T) xs)):EvF K (mVar i) E L (.ok xs) (tyL T):=ziu_ i h
theorem zck_:EvT K tTrue E L (.ok true):=fun σ F H Q hL hs q=>q.ok hs
theorem dead1 {L:List Sl}:DeadAt (.dead::L) [0]:=fun i hi s e=>by
 cases (List.mem_singleton.mp hi); cases e; rfl
theorem dead2 {L:List Sl}:DeadAt (.dead::.dead::L) [0,1]:=fun i hi s e=>by
 rcases List.mem_cons.mp hi with rfl | hi
 ·cases e; rfl
 ·cases (List.mem_singleton.mp hi); cases e; rfl
theorem zmW_ {a:Int}{v:V}{F:Hp}(h:tyInt.R a v F):v≠.non:=by cases h; exact fun z=>V.noConfusion z
theorem nn_l {a:List α}{v:V}{F:Hp}(h:(tyL T).R a v F):v≠.non:=by obtain ⟨p,vs,rfl,_⟩:=h; exact fun z=>V.noConfusion z
end
end L2
namespace L2
open PySem PySem.Spec PyProof.Rows
section
variable {α β γ ρ S S' B:Type}
@[simp] theorem Mo.okB (a:α) (f:α→Mo β):(Mo.ok a).bind f=f a:=of_eq_true (eq_self _)
@[simp] theorem Mo.exB (c:Xc) (f:α→Mo β):(Mo.ex c:Mo α).bind f=.ex c:=of_eq_true (eq_self _)
@[simp] theorem Mo.noB (f:α→Mo β):(Mo.no:Mo α).bind f=.no:=of_eq_true (eq_self _)
@[simp] theorem Mo.noexO (a:α):(Mo.ok a).noex=.ok a:=of_eq_true (eq_self _)
@[simp] theorem Mo.optS (a:α):Mo.opt (some a)=.ok a:=of_eq_true (eq_self _)
@[simp] theorem zeo_ (s:S) (k:S→Mo (Out ρ B S')):thenO (.ok (.nx s)) k=k s:=of_eq_true (eq_self _)
@[simp] theorem zjZ_ (a:ρ) (k:S→Mo (Out ρ B S')):thenO (.ok (.rt a)) k=.ok (.rt a):=of_eq_true (eq_self _)
@[simp] theorem zje_ (b:B) (k:S→Mo (Out ρ B S')):thenO (.ok (.bk b)) k=.ok (.bk b):=of_eq_true (eq_self _)
@[simp] theorem zjk_ (b:B) (k:S→Mo (Out ρ B S')):thenO (.ok (.ct b)) k=.ok (.ct b):=of_eq_true (eq_self _)
@[simp] theorem zne_ (a:ρ):fnO (.ok (.rt a))=.ok a:=of_eq_true (eq_self _)
@[simp] theorem zgM_ (step:S→α→Mo (Out ρ S S)) (s:S):forO (B:=B) step [] s=.ok (.nx s):=of_eq_true (eq_self _)
theorem zbm_ (step:S→α→Mo (Out ρ S S)) (x:α) (xs:List α) (s:S):forO (B:=B) step (x::xs) s=(step s x).bind fun o=>match o with | .nx s'=>forO step xs s' | .ct s'=>forO step xs s' | .bk s'=>.ok (.nx s') | .rt a=>.ok (.rt a):=rfl
theorem zbL_ {step:S→α→Mo (Out ρ S S)}{x:α}{xs:List α}{s s':S}(h:step s x=.ok (.nx s')):forO (B:=B) step (x::xs) s=forO step xs s':=by rw [zbm_,h]; rfl
theorem zg0_ {step:S→α→Mo (Out ρ S S)}{x:α}{xs:List α}{s:S}{a:ρ}(h:step s x=.ok (.rt a)):forO (B:=B) step (x::xs) s=.ok (.rt a):=by rw [zbm_,h]; rfl
theorem zdN_ {step:S→α→Mo (Out ρ S S)}(g:S→α→S):∀ {xs:List α}{s:S},(∀ s x,x∈xs→step s x=.ok (.nx (g s x)))→forO (B:=B) step xs s=.ok (.nx (xs.foldl g s))
 | [],s,_=>rfl
 | x::xs,s,h=>by rw [zbL_ (h s x List.mem_cons_self),zdN_ g fun s y hy=>h s y (List.mem_cons_of_mem _ hy)]; rfl
theorem zgh_ {step:S→α→Mo (Out ρ S S)}(P:List α→S→Prop):∀ {xs:List α}(done:List α) {s:S},P done s→(∀ d x s,(∃ r,done++xs=d++x::r)→P d s→∃ s',step s x=.ok (.nx s')∧P (d++[x]) s')→∃ s',forO (B:=B) step xs s=.ok (.nx s')∧P (done++xs) s'
 | [],done,s,h0,_=>⟨s,rfl,by rw [List.append_nil]; exact h0⟩
 | x::xs,done,s,h0,h=>by
  obtain ⟨s1,e1,p1⟩:=h done x s ⟨xs,rfl⟩ h0
  obtain ⟨s2,e2,p2⟩:=zgh_ P (xs:=xs) (done++[x]) p1 fun d y s ⟨r,hr⟩ hp=>h d y s ⟨r,by rw [← hr]; simp⟩ hp
  exact ⟨s2,by rw [zbL_ e1,e2],by simpa using p2⟩
theorem zb9_ {step:Unit→α→Mo (Out ρ Unit Unit)}:∀ {xs:List α},(∀ x∈xs,step () x=.ok (.nx ()))→forO (B:=B) step xs ()=.ok (.nx ())
 | [],_=>rfl
 | x::xs,h=>by rw [zbL_ (h x List.mem_cons_self),zb9_ fun y hy=>h y (List.mem_cons_of_mem _ hy)]
theorem zdm_ {step:Unit→α→Mo (Out ρ Unit Unit)}{p:α→Bool}{a:α→ρ}:∀ {xs:List α},(∀ x∈xs,step () x=if p x then .ok (.rt (a x)) else .ok (.nx ()))→forO (B:=B) step xs ()=match xs.find? p with | some x=>.ok (.rt (a x)) | none=>.ok (.nx ())
 | [],_=>rfl
 | x::xs,h=>by
  have h1:=h x List.mem_cons_self
  rw [List.find?_cons]
  cases e:p x with
  | true=>rw [e,if_pos rfl] at h1; rw [zg0_ h1]
  | false=>rw [e,if_neg (by decide)] at h1; rw [zbL_ h1,zdm_ fun y hy=>h y (List.mem_cons_of_mem _ hy)]
open PySem PySem.Spec PyProof.Rows in
theorem zl7_ {a j:Int}(h0:0<j) (h:j.natAbs.log2<9000):CDivG a j:=by
 refine ⟨h0,?_⟩
 unfold Builtin.divisionGoesByPylong
 simp only
 rw [Bool.and_eq_false_iff]
 left
 rw [decide_eq_false_iff_not]
 split<;>lia
theorem log2_lt {n k:Nat}(h:n<2 ^ k):n.log2<k∨n=0:=by
 by_cases hz:n=0
 ·exact .inr hz
 ·exact .inl ((Nat.log2_lt hz).mpr h)
theorem zkY_ {a j:Int}(h0:0<j) (h:j<2 ^ 1000):CDivG a j:=by
 refine zl7_ h0 ?_
 have h1:j.natAbs<2 ^ 1000:=by
  have:((2:Int) ^ 1000)=((2 ^ 1000:Nat):Int):=by rw [Int.natCast_pow]; rfl
  rw [this] at h
  lia
 rcases log2_lt h1 with h | h
 ·lia
 ·rw [h]; decide
open PySem PySem.Spec PyProof.Rows in
theorem zdx_ {i j:Int}(h : -(2 ^ 64)<i∧i<2 ^ 64 ∨ -(2 ^ 64)<j∧j<2 ^ 64):IntMulOk i j:=CMul.ok h
@[simp] theorem zkM_ {a j:Int}{k:Mo α}(h0:0<j) (h1:j<1073741824):Mo.grd (CDivG a j) k=k:=Mo.grd_ok (zkY_ h0 (by lia))
@[simp] theorem zmO_ {k:Mo α} [Decidable True]:Mo.grd True k=k:=Mo.grd_ok trivial
@[simp] theorem zlz_ {j:Int}{k:Mo α}(h0:0<j):Mo.grd (0<j) k=k:=Mo.grd_ok h0
open PySem PySem.Spec PyProof.Rows in
@[simp] theorem zef_ {i j:Int}{k:Mo α}(h0 : -18446744073709551616<i) (h1:i<18446744073709551616):Mo.grd (IntMulOk i j) k=k:=Mo.grd_ok (zdx_ (.inl ⟨by lia,by lia⟩))
open PySem PySem.Spec PyProof.Rows in
theorem zkc_ {i j:Int}{k:Mo α}(h0 : -18446744073709551616<j) (h1:j<18446744073709551616):Mo.grd (IntMulOk i j) k=k:=Mo.grd_ok (zdx_ (.inr ⟨by lia,by lia⟩))
theorem zaI_ (lo:Int) (n:Nat):(rngI lo n).length=n:=by unfold rngI; rw [List.length_map,List.length_range]
theorem zb7_ {lo x:Int}{n:Nat}:x∈rngI lo n↔lo≤x∧x<lo+n:=by
 unfold rngI
 simp only [List.mem_map,List.mem_range]
 constructor
 ·rintro ⟨a,h,rfl⟩; lia
 ·rintro ⟨h1,h2⟩; exact ⟨(x-lo).toNat,by lia,by lia⟩
theorem ziq_ {xs:List α}{k:Int}(h0:0≤k):atI xs k=xs[k.toNat]?:=by
 unfold atI ixN
 rw [if_pos h0]
 split
 ·rfl
 ·rename_i h
  rw [List.getElem?_eq_none (by omega)]; rfl
theorem zcj_ {xs:List α}{k:Int}(h0:0≤k) (h1:k<xs.length):∃ x,atI xs k=some x∧x∈xs:=by
 rw [ziq_ h0,List.getElem?_eq_getElem (show k.toNat<xs.length by lia)]
 exact ⟨_,rfl,List.getElem_mem _⟩
theorem zeu_ {q:α→α→Bool}(hq:∀ a,q a a=true):∀ xs:List α,eqL q xs xs=true
 | []=>rfl
 | x::xs=>by unfold eqL; rw [hq,zeu_ hq xs]; rfl
theorem zf8_ (xs:List α) (lo hi:Option Int):(cutG xs lo hi).length≤xs.length:=by
 unfold cutG; rw [List.length_take,List.length_drop]; lia
theorem zjf_ {xs:List α}{lo hi:Option Int}{x:α}(h:x∈cutG xs lo hi):x∈xs:=List.mem_of_mem_drop (List.mem_of_mem_take h)
end
end L2
namespace L2
open PySem PySem.Spec PyProof.Rows
section
variable {K:Fgg}{E:XK}{α β γ ρ S S' B B':Type}{F0 H0 F h H:Hp}{L L':List Sl}{e e1 e2:TE}{T:Ty α}{r:Mo α}{O:Own ρ}{t u:TS}{LS:S→List Sl}{LS':S'→List Sl}{LB:B→List Sl}
theorem zl1_ {p:Addr}{o':HO}{h1' hr h':Hp}(ok:Okk F0 H0 F h H) (hp:h p≠none) (nt:∀ xs,o'≠.tup xs) (h':Hp) (hh:∀ q,h' q=if q=p then some o' else h q):Okk F0 H0 F h' (upd H p o'):=by
 obtain ⟨o1,o2,o3,o4,o5⟩:=ok
 have Fp:F p=none:=by
  rcases o2 p with z | z
  ·exact z
  ·exact absurd z hp
 have H0p:H0 p=none:=o4 p hp
 refine ⟨⟨o1.1,fun q o z=>?_,fun q o z=>?_,o1.2.2.2⟩,fun q=>?_,fun q o z=>?_,fun q z=>?_,fun q ys z=>?_⟩
 ·unfold upd; split
  ·rename_i w; rw [w,Fp] at z; cases z
  ·exact o1.2.1 _ _ z
 ·unfold upd; split
  ·rename_i w; rw [w,H0p] at z; cases z
  ·exact o1.2.2.1 _ _ z
 ·rw [hh]; split
  ·rename_i w; rw [w]; exact .inl Fp
  ·exact o2 q
 ·rw [hh] at z; unfold upd
  split at z
  ·rename_i w; rw [if_pos w]; exact z
  ·rename_i w; rw [if_neg w]; exact o3 _ _ z
 ·rw [hh] at z; split at z
  ·rename_i w; rw [w]; exact H0p
  ·exact o4 q z
 ·rw [hh] at z; split at z
  ·exact nt ys (by injection z)
  ·exact o5 q ys z
end
end L2
namespace L2
open PySem PySem.Spec PyProof.Rows
section
variable {K:Fgg}{E:XK}{α β γ ρ S S' B B':Type}{F0 H0 F h H:Hp}{L L':List Sl}{e e1 e2:TE}{T:Ty α}{r:Mo α}{O:Own ρ}{t u:TS}{LS:S→List Sl}{LS':S'→List Sl}{LB:B→List Sl}
@[irreducible] def fuelW:Nat:=100000
end
end L2
namespace L2
open PySem PySem.Spec PyProof.Rows
section
variable {α:Type}
theorem zaR_ {S B ρ:Type}{step:S→α→Mo (Out ρ S S)}{xs:List α}{s:S}{G:Mo (Out ρ B S)→Prop}(P:List α→S→Prop) (h0:P [] s) (hs:∀ d x s,(∃ r,xs=d++x::r)→P d s→∃ s',step s x=.ok (.nx s')∧P (d++[x]) s') (hk:∀ s',P xs s'→G (.ok (.nx s'))):G (forO step xs s):=by
 obtain ⟨s',e,p⟩:=zgh_ (B:=B) P (xs:=xs) [] h0 (fun d x s hr hp=>hs d x s hr hp)
 rw [e]
 exact hk s' p
end
abbrev Crd:=List Nat
def sg (c:Crd) (col:Int):Nat:=c.getD (col-1).toNat 0
def rk1 (x:Nat):Nat:=(SG.findIdx? (· == x)).getD 0 % 37
def rnk (c:Crd) (col:Int):Nat:=rk1 (sg c col)
def kv:List Int→Crd→Nat
 | [],_=>0
 | c::L,a=>rnk a c*37 ^ L.length+kv L a
end L2
namespace L2
open PySem PySem.Spec PyProof.Rows
end L2
namespace L2
open PySem PySem.Spec PyProof.Rows
open PySem.SeqAt
open PySem.AutoSeq1 (wpAny_loadPart')
open PySem.MeetsSeq PySem.MeetsSeq2 PySem.MeetsSeq3
end L2
namespace L2
open PySem PySem.Spec PyProof.Rows
section
variable {K:Fgg}{E:XK}{H:Hp}
end
end L2
namespace L2
open PySem PySem.Spec PyProof.Rows
section
variable {α:Type}
theorem zlM_ {n d:Nat}{i:Int}(h:0≤i):HT.sIx n d (some i)=min i.toNat n:=by
 unfold HT.sIx
 simp only
 split<;>lia
theorem zix_ {xs:List α}{i:Int}(h:0≤i):cutG xs none (some i)=xs.take i.toNat:=by
 unfold cutG
 rw [zlM_ h,show HT.sIx xs.length 0 none=0 from rfl,List.drop_zero,Nat.sub_zero,← List.take_take,List.take_length]
theorem zbU_ {xs:List α}{i:Int}(h:0≤i):cutG xs (some i) none=xs.drop i.toNat:=by
 unfold cutG
 rw [zlM_ h,show HT.sIx xs.length xs.length none=xs.length from rfl]
 by_cases hl:i.toNat≤xs.length
 ·rw [Nat.min_eq_left hl,List.take_of_length_le (by rw [List.length_drop]; exact Nat.le_refl _)]
 ·rw [Nat.min_eq_right (by lia),List.drop_length,List.drop_eq_nil_of_le (by lia),List.take_nil]
end
end L2
namespace L2
open PySem PySem.Spec PyProof.Rows
section
variable {K:Fgg}{E:XK}{α β γ ρ S S' B B':Type}{F0 H0 F h H:Hp}{L L':List Sl}{e e1 e2:TE}{T:Ty α}{r:Mo α}{O:Own ρ}{t u:TS}{LS:S→List Sl}{LS':S'→List Sl}{LB:B→List Sl}
theorem zgJ_ {C:Cs γ}{f:γ→Mo α}{ta:TA}{r:Mo γ}(h:EvA K ta E L r C):EvF K (tCall (Ct K C f (owF T)) [] E ta) E L (r.bind f) T:=(zgr_ h).fr
theorem zl_ {C:Cs γ}{f:γ→Mo α}{ta:TA}{r:Mo γ}(h:EvA K ta E L r C):EvF K (tCall (Ct K C f (owF T)) [] E0 ta) E L (r.bind fun c=>(f c).noex) T:=(zct_ h).fr
end
end L2
namespace L2
open PySem PySem.Spec PyProof.Rows
def repL {α:Type}(xs:List α) (n:Int):List α:=(List.replicate n.toNat xs).flatten
def CRep (m:Nat) (n:Int):Prop:=0≤n∧n≤100000∧m≤100000∧m*n.toNat≤100000
instance (m:Nat) (n:Int):Decidable (CRep m n):=inferInstanceAs (Decidable (_∧_))
def mMulX:R2:=fun x y H Q=>match x,y with
 | .int i,.int j=>IntMulOk i j∧Q (.int (i*j)) H
 | .str z,.int n=>CRep z.cps.toList.length n∧Q (tx (repL z.cps.toList n)) H
 | .ref l,.int k=>∃ xs,H l=some (.lst xs)∧CRep xs.length k∧∀ p,H p=none→Q (.ref p) (upd H p (.lst (repL xs k)))
 | _,_=>False
theorem ziD_ (z:Array Nat) (n:Nat):(List.foldl (fun x1 x2=>x1++x2) #[] (List.replicate n z)).toList=(List.replicate n z.toList).flatten:=by
 have:∀ (l:List (Array Nat)) (acc:Array Nat),(l.foldl (fun x1 x2=>x1++x2) acc).toList=acc.toList++(l.map Array.toList).flatten:=by
  intro l
  induction l with
  | nil=>intro acc; simp
  | cons a l ih=>intro acc; rw [List.foldl_cons,ih]; simp
 rw [this]
 simp
theorem ziw_ {X:Cx}:OpR X (binaryOp .Mult) mMulX:=by
 intro pins s σ H x y v u Q I rx ry h
 cases x<;>cases y<;>first
  | exact h.elim
  | exact zk8_ pins s σ H _ _ v u Q I rx ry h
  | (obtain ⟨xs,hl,⟨c1,c2,c3,c4⟩,q⟩:=h
     exact znc_ pins s σ H _ _ v u Q I rx ry ⟨_,_,xs,rfl,rfl,hl,by lia,by lia,zb5_ c4,q⟩)
  | (rename_i z n
     obtain ⟨⟨c1,c2,c3,c4⟩,q⟩:=h
     obtain ⟨t,rfl⟩:=rx
     obtain ⟨t',rfl⟩:=ry
     have hz:z.length=z.cps.toList.length:=by simp [Str.length]
     refine PySem.P.mul_str (by simp; lia) (fun h1 h2=>?_) (fun h1 h2=>?_) ?_
     ·rw [hz]
      have hn:0<n:=by lia
      have:(z.cps.toList.length:Int)*n≤2 ^ 63-1:=by
       have e:n=(n.toNat:Int):=by lia
       rw [e,← Int.natCast_mul]; lia
      have:=Int.le_ediv_of_mul_le hn this
      lia
     ·unfold Builtin.Str.tooLong
      rw [hz]
      have:=zb5_ c4
      exact decide_eq_false (by lia)
     ·by_cases h1:n<1
      ·rw [if_pos h1]
       have:n=0:=by lia
       subst this
       exact ⟨Nat.zero_le _,tx [],H,I.tok _,⟨_,rfl⟩,q⟩
      ·rw [if_neg h1]
       by_cases h2:(n == 1 || z.length == 0)=true
       ·rw [if_pos h2]
        have e:repL z.cps.toList n=z.cps.toList:=by
         unfold repL
         rw [Bool.or_eq_true] at h2
         rcases h2 with h2 | h2
         ·have:n=1:=by simpa using h2
          subst this; simp
         ·have:z.cps.toList=[]:=List.length_eq_zero_iff.mp (by rw [← hz]; simpa using h2)
          rw [this]; simp
        rw [e] at q
        refine ⟨tx z.cps.toList,H,I,⟨t,?_⟩,q⟩
        show Value.str z t=Value.str ⟨z.cps.toList.toArray⟩ t
        rw [← zM_]
       ·rw [if_neg h2]
        refine ⟨?_,tx (repL z.cps.toList n),H,I.tok _,⟨s.toks,?_⟩,q⟩
        ·have e:(⟨List.foldl (fun x1 x2=>x1++x2) #[] (List.replicate n.toNat z.cps)⟩:Str).length=(List.replicate n.toNat z.cps.toList).flatten.length:=by
          rw [← ziD_]; simp [Str.length]
         rw [e,ziA_]
         exact zb5_ (by rw [Nat.mul_comm]; exact c4)
        show Value.str _ _=Value.str _ _
        congr 1
        unfold repL
        rw [← ziD_])
section
variable {K:Fgg}{E:XK}{α β γ ρ S S' B B':Type}{F0 H0 F h H:Hp}{L L':List Sl}{e e1 e2:TE}{T:Ty α}{r:Mo α}{O:Own ρ}{t u:TS}{LS:S→List Sl}{LB:B→List Sl}
theorem zha_:Op2 K mMulX E tyInt tyInt (fun i j=>.grd (IntMulOk i j) (.ok (i*j))) tyInt:=by
 rintro a b x y F H Q hs rfl rfl k
 obtain ⟨c,k⟩:=k.grd
 exact ⟨c,k.ok hs _ rfl⟩
def strsL (l:List (List Nat)):List Str:=l.map fun z=>⟨z.toArray⟩
theorem zkq_ {l:List (List Nat)}{vs:List V}(h:Prs tyStr H l vs):strsOf vs=some (strsL l):=by
 induction h with
 | nil=>rfl
 | cons r t ih=>cases r; show (strsOf _).map _=_; rw [ih]; rfl
theorem zl9_:Me K (mJoin K) E (csLast (tyL tyStr)) (fun l c=>.grd (JoinOk ⟨l.toArray⟩ (strsL c)=true) (.ok (joinS l (strsL c)))) tyStr:=by
 rintro l c vs F H Q hs ⟨v,rfl,p,us,rfl,hp,hr⟩ k
 obtain ⟨z,k⟩:=k.grd
 refine ⟨us,.of (hs _ _ hp),?_⟩
 rw [zkq_ hr]
 exact ⟨z,k.ok hs _ rfl⟩
end
end L2
namespace L2
open PySem PySem.Spec PyProof.Rows
structure KyT (κ:Type) where
 T:Ty κ
 key:κ→Key
 inj:∀ {a b},key a=key b→a=b
 of:∀ {a v H},T.R a v H→keyV v=some (key a)
abbrev kInt:KyT Int:=⟨tyInt,Sum.inl,fun h=>by injection h,fun h=>by cases h; rfl⟩
section
variable {K:Fgg}{E:XK}{α β γ ρ κ S S' B B':Type}{F0 H0 F h H:Hp}{L L':List Sl}{e e1 e2:TE}{T:Ty α}{r:Mo α}{O:Own ρ}{t u:TS}{LS:S→List Sl}{LB:B→List Sl}{KY:KyT κ}
abbrev DPr (KY:KyT κ) (T:Ty α) (H:Hp) (m:List (κ×α)) (kvs:List (Key×V)):Prop:=Paired (fun (q:κ×α) (w:Key×V)=>w.1=KY.key q.1∧T.R q.2 w.2 H) m kvs
theorem DPr.mono {m:List (κ×α)}{kvs:List (Key×V)}{H H':Hp}(g:Same H H') (h:DPr KY T H m kvs):DPr KY T H' m kvs:=zam_ (fun _ _ r=>⟨r.1,T.mono g r.2⟩) h
theorem DPr.imm (i:Imm T) {m:List (κ×α)}{kvs:List (Key×V)}{H H':Hp}(g:Tups H H') (h:DPr KY T H m kvs):DPr KY T H' m kvs:=zam_ (fun _ _ r=>⟨r.1,i g r.2⟩) h
abbrev tyD (KY:KyT κ) (T:Ty α):Ty (List (κ×α)):=⟨fun m v H=>∃ p kvs,v=.ref p∧H p=some (.dK kvs)∧DPr KY T H m kvs,fun g ⟨p,kvs,e,h,q⟩=>⟨p,kvs,e,g _ _ h,q.mono g⟩⟩
abbrev owD (KY:KyT κ) (T:Ty α):Own (List (κ×α)):=⟨fun m v F h=>∃ p kvs,v=.ref p∧h=one p (.dK kvs)∧DPr KY T F m kvs,tyD KY T,fun g ⟨p,vs,e,z,q⟩=>⟨p,vs,e,z,q.mono g⟩,
 fun d ⟨p,vs,e,z,q⟩=>⟨p,vs,e,zig_ d _ _ (by rw [z]; exact zby_),q.mono zbI_⟩,
 fun ⟨p,vs,e,z,q⟩ b xs y=>by rw [z] at y; unfold one at y; split at y<;>cases y⟩
theorem znh_ (i:Imm T):ImmO (owD KY T):=fun g ⟨p,vs,e,z,q⟩=>⟨p,vs,e,z,q.imm i g⟩
variable [DecidableEq κ]
def getA (m:List (κ×α)) (k:κ):Option α:=(m.find? fun q=>decide (q.1=k)).map (·.2)
def putA (m:List (κ×α)) (k:κ) (v:α):List (κ×α):=if (m.any fun q=>decide (q.1=k))=true then m.map (fun q=>if q.1=k then (q.1,v) else q) else m++[(k,v)]
theorem zi7_ (a b:κ):decide (KY.key a=KY.key b)=decide (a=b):=by rw [decide_eq_decide]; exact ⟨KY.inj,fun h=>by rw [h]⟩
theorem ziR_ {m:List (κ×α)}{kvs:List (Key×V)}(h:DPr KY T H m kvs) (k:κ):(getA m k=none∧valV kvs (KY.key k)=none)∨∃ a v,getA m k=some a∧valV kvs (KY.key k)=some v∧T.R a v H:=by
 induction h with
 | nil=>exact .inl ⟨rfl,rfl⟩
 | cons r t ih =>
  rename_i q w m kvs
  unfold getA valV at ih ⊢
  rw [List.find?_cons,List.find?_cons,r.1,zi7_]
  by_cases e:q.1=k
  ·rw [decide_eq_true e]; exact .inr ⟨_,_,rfl,rfl,r.2⟩
  ·rw [decide_eq_false e]; exact ih
theorem zkG_ {m:List (κ×α)}{kvs:List (Key×V)}(h:DPr KY T H m kvs) (k:κ):(kvs.any fun w=>decide (w.1=KY.key k))=m.any fun q=>decide (q.1=k):=by
 induction h with
 | nil=>rfl
 | cons r t ih=>rw [List.any_cons,List.any_cons,ih,r.1,zi7_]
theorem zlO_ {m m':List (κ×α)}{kvs kvs':List (Key×V)}(h:DPr KY T H m kvs) (h':DPr KY T H m' kvs'):DPr KY T H (m++m') (kvs++kvs'):=by
 induction h with
 | nil=>exact h'
 | cons r t ih=>exact .cons r ih
theorem zkJ_ {m:List (κ×α)}{kvs:List (Key×V)}(h:DPr KY T H m kvs) (k:κ) {a:α}{v:V}(hv:T.R a v H):DPr KY T H (m.map fun q=>if q.1=k then (q.1,a) else q) (kvs.map fun w=>if w.1=KY.key k then (w.1,v) else w):=by
 induction h with
 | nil=>exact .nil
 | cons r t ih =>
  rename_i q w m kvs
  rw [List.map_cons,List.map_cons]
  refine .cons ?_ ih
  by_cases e:q.1=k
  ·rw [if_pos e,if_pos (by rw [r.1,e])]; exact ⟨r.1,hv⟩
  ·rw [if_neg e,if_neg (fun z=>e (KY.inj (by rw [← r.1,z])))]; exact r
theorem zlx_ {m:List (κ×α)}{kvs:List (Key×V)}(h:DPr KY T H m kvs) (k:κ) {a:α}{v:V}(hv:T.R a v H):DPr KY T H (putA m k a) (putK kvs (KY.key k) v):=by
 unfold putA putK
 rw [zkG_ h]
 split
 ·exact zkJ_ h k hv
 ·exact zlO_ h (.cons ⟨rfl,hv⟩ .nil)
theorem zlf_ (KY:KyT κ) (T:Ty α):EvO K tDNewK E L (.ok []) (owD KY T):=by
 intro σ F H Q hL hs q p hp
 have q':OwnK (owD KY T) H Q [] F (upd H p (.dK [])):=q F _ (.heap hs (zas_ hp _))
 refine q' (.ref p) (one p (.dK [])) (fun b z=>?_) (fun b=>?_) (fun b o z=>?_) ⟨p,[],rfl,rfl,.nil⟩
 ·unfold one at z; split at z
  ·rename_i e; rw [e]; exact hp
  ·exact absurd rfl z
 ·unfold one; split
  ·rename_i e; rw [e]; exact .inl (hs.free hp)
  ·exact .inr rfl
 ·unfold one at z; split at z
  ·rename_i e; rw [e]; cases z; exact zC_
  ·cases z
theorem ze3_ (i:Nat) {m:List (κ×α)}(h:L[i]?=some (.ow (owD KY T) m)):EvF K (mVar i) E L (.ok m) (tyD KY T):=ziu_ i h
theorem at_d {x y:V}{R:Addr→List (Key×V)→Key→Prop}{m:List (κ×α)}{k:κ}(hx:(tyD KY T).R m x F) (hy:KY.T.R k y F) (hs:Same F H) (hr:∀ p kvs,H p=some (.dK kvs)→DPr KY T F m kvs→R p kvs (KY.key k)):atD x y H R:=by
 obtain ⟨p,kvs,rfl,hp,hd⟩:=hx
 unfold atD
 simp only
 rw [KY.of hy]
 exact ⟨kvs,hs _ _ hp,hr p kvs (hs _ _ hp) hd⟩
theorem ziQ_ {r1:Mo (List (κ×α))}{r2:Mo κ}(h1:EvF K e1 E L r1 (tyD KY T)) (h2:EvF K e2 E L r2 KY.T):EvF K (mDGet e1 e2) E L (r1.bind fun m=>r2.bind fun k=>.opt (getA m k)) T:=by
 intro σ F H Q hL hs q
 refine h1 σ F H _ hL hs (q.bind.imp fun m F1 H1 x1 k1 v1 hv1=>?_)
 refine h2 σ F1 H1 _ (hL.mono x1.1) x1.2.1 (k1.bind.imp fun k F2 H2 x2 k2 v2 hv2=>?_)
 refine at_d ((tyD KY T).mono x2.1 hv1) hv2 x2.2.1 fun p kvs hp hd=>?_
 obtain ⟨a,ea,k3⟩:=k2.opt
 rcases ziR_ hd k with ⟨z,_⟩ | ⟨a',v,z1,z2,z3⟩
 ·rw [z] at ea; cases ea
 ·rw [z1] at ea; cases ea
  exact ⟨v,z2,k3.ok x2.2.1 v z3⟩
theorem zm8_ (neg:Bool) {r1:Mo (List (κ×α))}{r2:Mo κ}(h2:EvF K e2 E L r2 KY.T) (h1:EvF K e1 E L r1 (tyD KY T)):EvF K (mDIn neg e2 e1) E L (r2.bind fun k=>r1.bind fun m=>.ok (if neg then !(getA m k).isSome else (getA m k).isSome)) tyBl:=by
 intro σ F H Q hL hs q
 refine h2 σ F H _ hL hs (q.bind.imp fun k F1 H1 x1 k1 v1 hv1=>?_)
 refine h1 σ F1 H1 _ (hL.mono x1.1) x1.2.1 (k1.bind.imp fun m F2 H2 x2 k2 v2 hv2=>?_)
 refine at_d hv2 (KY.T.mono x2.1 hv1) x2.2.1 fun p kvs hp hd=>?_
 have e:(valV kvs (KY.key k)).isSome=(getA m k).isSome:=by
  rcases ziR_ hd k with ⟨z1,z2⟩ | ⟨a',v,z1,z2,z3⟩
  ·rw [z1,z2]; rfl
  ·rw [z1,z2]; rfl
 rw [e]
 exact k2.ok x2.2.1 _ rfl
theorem zeW_ {i:Nat}{σ:St}{m:List (κ×α)}(hL:Hold L σ F h) (hi:L[i]?=some (.ow (owD KY T) m)) (ok:Okk F0 H0 F h H) :
  ∃ p kvs,σ[i]?=some (some (.ref p))∧H p=some (.dK kvs)∧DPr KY T F m kvs∧∀ m' kvs',DPr KY T F m' kvs'→∃ h',Hold (L.set i (.ow (owD KY T) m')) σ F h'∧Okk F0 H0 F h' (upd H p (.dK kvs')):=by
 obtain ⟨o,h1,h2,e1,j,⟨v,e2,p,kvs,rfl,rfl,hr⟩,f⟩:=hL.at i hi
 subst e2
 have hp:h p=some (.dK kvs):=j.l _ _ zby_
 have h2p:h2 p=none:=by
  rcases j.dj p with z | z
  ·rw [zby_] at z; cases z
  ·exact z
 refine ⟨p,kvs,e1,ok.2.2.1 _ _ hp,hr,fun m' kvs' hr'=>?_⟩
 have d2:Dj (one p (.dK kvs')) h2:=fun q=>by
  unfold one; split
  ·rename_i z; rw [z]; exact .inr h2p
  ·exact .inl rfl
 have g:=f (.ow (owD KY T) m') (some (.ref p)) (one p (.dK kvs')) _ (zmc_ d2) ⟨_,rfl,p,kvs',rfl,rfl,hr'⟩
 rw [zcp_ e1] at g
 refine ⟨_,g,zl1_ (h1':=h) (hr:=h) (h':=h) ok (by rw [hp]; exact Option.some_ne_none _) (fun xs z=>by cases z) _ fun b=>?_⟩
 unfold un one
 by_cases z:b=p
 ·simp only [if_pos z]
 ·simp only [if_neg z]
  rcases j b with ⟨_,c⟩ | ⟨a,c⟩
  ·exact c.symm
  ·rw [c,a]; unfold one; rw [if_neg z]
theorem zmk_ {i:Nat}{m:List (κ×α)}{r2:Mo κ}{k:α→κ→Mo (Out ρ B S)}(hi:L[i]?=some (.ow (owD KY T) m)) (hT:Imm T) (hKT:Imm KY.T) (he:EvF K e E L r T) (he2:EvF K e2 E L r2 KY.T) (hk:∀ a y,EvS K u E (L.set i (.ow (owD KY T) (putA m y a))) (k a y) LS LB O) :
  EvS K (tSeq (mDPut (mVar i) e2 e) u) E L (r.bind fun a=>r2.bind fun y=>.lim (m.length+1) (k a y)) LS LB O:=by
 intro F0 H0 σ F h H D hL ok fin
 show e σ H fun v H1=>mVar i σ H1 fun x H2=>e2 σ H2 fun y H3=>atD x y H3 fun a kvs k=>kvs.length<sizeLine∧u D σ (upd H3 a (.dK (putK kvs k v)))
 refine he σ (un F h) H _ (hL.froz ok.2.1) ok.thaw (zaS_ (G:=F) ok _ (.inl rfl) fin fun a F1 H1 hra x1 v hv=>?_)
 obtain ⟨o,hs,ht⟩:=ok.back x1
 rw [hra] at fin
 have hL':=hL.mono hs
 have hv':=hT ht hv
 obtain ⟨p,kvs,e1,hp,hr,_⟩:=zeW_ hL' hi o
 refine zfe_ e1 ?_
 refine he2 σ (un _ h) H1 _ (hL'.froz o.2.1) o.thaw (zaS_ (G:=F) o _ (.inl rfl) fin fun y F2 H2 hry x2 v2 hv2=>?_)
 obtain ⟨o',hs',ht'⟩:=o.back x2
 rw [hry] at fin
 obtain ⟨hz,fin⟩:=zhk_ (show Fin K (Mo.lim (m.length+1) (k a y)) E LS LB O F0 H0 D from fin)
 obtain ⟨p',kvs',e1',hp',hr',mm⟩:=zeW_ (hL'.mono hs') hi o'
 rw [e1] at e1'; cases e1'
 obtain ⟨h',a1,a2⟩:=mm (putA m y a) (putK kvs' (KY.key y) v) (zlx_ hr' y (T.mono hs' hv'))
 unfold atD
 simp only
 rw [KY.of hv2]
 refine ⟨kvs',hp',?_,hk a y F0 H0 σ _ h' _ D a1 a2 fin⟩
 have:=Paired.length hr'
 lia
end
end L2
namespace L2
open PySem PySem.Spec PyProof.Rows
section
variable {α κ:Type} [DecidableEq κ]
end
section
variable {α:Type}
end
end L2
namespace L2
open PySem PySem.Spec PyProof.Rows
theorem zl2_:isSubtype (Value.type "int") (Value.type "int")=pure true:=by first | rfl | exact AutoSeq1.sub_int_int
theorem zlX_:typeLookup (Value.type "str") (Str.ofString "__int__")=pure none:=by kernel_rfl!
theorem zk5_:typeLookup (Value.type "str") (Str.ofString "__index__")=pure none:=by kernel_rfl!
theorem zkE_:typeLookup (Value.type "str") (Str.ofString "__trunc__")=pure none:=by kernel_rfl!
theorem zlN_ {t:Tok}{c:Nat}(h0:48≤c) (h1:c≤57):Meets (Builtin.«int.__new__» ⟨[.type "int",.str ⟨#[c]⟩ t],[]⟩) (fun _ R s=>R (.ok (.ret (.int ((c:Int)-48) s.toks))) { s with toks:=s.toks+1 }):=by
 intro prog w A R s h
 have f2:=zl2_
 have f3:=PySem.F.madeHere_int
 have f4:=zlX_
 have f5:=zk5_
 have f6:=zkE_
 wp_walk
 refine Eq.mp (congrArg (fun t=>wpAny (model prog w) A.in1 t _ _ _) (?e:mkInt ((c:Int)-48)=_)) ?_
 case e =>
  have:c=48∨c=49∨c=50∨c=51∨c=52∨c=53∨c=54∨c=55∨c=56∨c=57:=by lia
  clear h f2 f3 f4 f5 f6 h0 h1
  rcases this with rfl | rfl | rfl | rfl | rfl | rfl | rfl | rfl | rfl | rfl<;>kernel_rfl!
 wp_walk
 exact h
section
variable {K:Fgg}{E:XK}
end
end L2
namespace Att
open PySem PySem.W PySem.Calls PyProof.Rows
theorem zkf_ {ns:List Int}(h:WData.layableAll [WData.list (ns.map WData.int)]=true):∀ x∈ns,Builtin.Int.intBits x≤1048576:=by
 intro x hx
 have h1:=layableW_arg h _ (List.mem_singleton.mpr rfl)
 have h2:=layableW_item h1 (.int x) (List.mem_map.mpr ⟨x,hx,rfl⟩)
 exact PyData.bits_of_layable (layable_int h2)
theorem attach_callB {l:OpenLaw}{n:Nat}{q:Program}{loose:List Str}{XP:(Str→Option Value)→Heap→Prop}{YP:World→Heap→Prop}{d:DefRec}
  (hn:l.most=some n) (hdf:d.params.defaults=[])
  (call:∀ (w:World) (s₀ s₁:Shared) (mg mb:Str→Option Value) (fa:Addr) (o:Obj) (pm cd doc:Value) (a:Addr) (vs:List Value) (ns:List Int),
   (∀ x∈ns,Builtin.Int.intBits x≤1048576) →
   Ground q loose [] XP w s₀ mg mb s₁.heap→YP w s₁.heap →
   s₁.heap.get? fa=some o→o.data=.func (docDef d.name d.params d.body d.scope pm cd doc)→s₁.heap.CodeRec cd d.name→mg d.name=some (.ref fa) →
   s₁.heap.get? a=some { cls:=.type "list",data:=.seq vs.toArray }→IntsAre vs ns→ns.length≤n→s₁.gens=#[] →
   codeAny (model l.prog w) callerA (.call (.ref fa) ⟨[.ref a],[]⟩) (fun r s'=>r=.ok (.ret (.bool true))∧OldK s₁.heap s'.heap∧s'.os=s₁.os∧AllBare s'.gens) s₁) :
  WalkO q loose XP YP l.row.toRowW d [] (fun f vs=>PySem.call f vs):=by
 intro w s₀ s₁ mg mb G Y fa o pm cd doc dV kV ho hd hcd hD hmg hg args vals as hpre hlay hrd hwl hlo
 obtain rfl:dV=.none:=Dflts.none hD hdf
 obtain rfl:kV=.none:=Dflts.noKw hD
 obtain ⟨a,vs,ns,rfl,rfl,hobj,hints,hlen⟩:=zhM_ hn hpre hwl
 refine enter_call (codeAny_mono (call w s₀ s₁ mg mb fa o pm cd doc a vs ns (zkf_ hlay) G Y ho (fd_plain hd) hcd hmg hobj hints hlen hg) fun r s' hq=>?_)
 obtain ⟨rfl,h2,h3,h4⟩:=hq
 exact ⟨.inl ⟨.bool true,.bool true,[],rfl,fun _=>rfl,.bool true,zh6_ l _,fun _=>⟨List.Pairwise.nil,fun _ hm=>(nomatch hm)⟩⟩,h2,h3,h4⟩
end Att
namespace L2
open PySem PySem.Spec PyProof.Rows
theorem zjP_ {l:PySem.W.OpenLaw}{n k:Nat}{q:Program}{loose:List Str}{XP:(Str→Option Value)→Heap→Prop}{YP:World→Heap→Prop}{d:DefRec}{K:Params→Fgg}{CX:World→CXT}{sp:World→Sp}{x:Str}
  (hn:l.most=some n) (hn2:n≤sizeLine) (hdf:d.params.defaults=[]) (hr:Room k callerA)
  (hY:∀ (w:World) (h:Heap),YP w h→(K w.params).In h)
  (F:∀ (w:World) (mg:Str→Option Value) (fa:Addr) (h:Heap),(K w.params).In h→h.Ns mainGlobals mg→mg d.name=some (.ref fa) →
   ∃ fd:FuncData,(∀ (s:Shared) (u:Value),BindsTo s fd ⟨[u],[]⟩ [(x,u)]) ∧
    ∀ base:Heap,(K w.params).In base→base.Ns mainGlobals mg→FnOk l.prog w (K w.params) mg base (CX w) k fa fd [x] (sp w))
  (hsp:∀ (w:World) (H:Hp) (a:Addr) (ns:List Int),ns.length≤n→(∀ x∈ns,Builtin.Int.intBits x≤1048576)→Only H→SqL (K w.params) H a (ns.map V.int)→sp w [.ref a] H (fun v _=>v=.bl true) fun _ _ _=>False)
  (hCX:∀ (w:World) (H:Hp) (s:Shared) (e:Value) (s':Shared),CX w [] H s (fun _ _ _=>False) e s'→False) :
  PySem.W.WalkO q loose XP YP l.row.toRowW d [] (fun f vs=>PySem.call f vs):=by
 refine Att.attach_callB hn hdf fun w s₀ s₁ mg mb fa o pm cd doc a vs ns hbits G Y ho hd hcd hmg hobj hints hlen hg=>?_
 have KX:=hY w _ Y
 obtain ⟨fd,hb,hF⟩:=F w mg fa _ KX G.T.g hmg
 exact zjI_ KX G.T.g G.T.b G.T.builtins G.T.nolimit hg hobj hints (Nat.le_trans hlen hn2) hr hF hb (fun H hO hS=>hsp w H a ns hlen hbits hO hS) fun H e s'=>hCX w H s₁ e s'
abbrev BitsOk (ns:List Int):Prop:=∀ x∈ns,Builtin.Int.intBits x≤1048576
end L2
namespace L2
open PySem PySem.Spec PyProof.Rows PySem.W
section
variable {α β:Type}
def okT (lt:Nat→Nat→Bool) (n:Nat):KasT α→(α→Prop)→Prop
 | .ret a,P=>P a
 | .ask i j k,P=>i<n∧j<n∧okT lt n (k (lt i j)) P
variable {lt:Nat→Nat→Bool}{n:Nat}
theorem zbr_ {f:α→KasT β}{P:β→Prop}:∀ (t:KasT α),okT lt n t (fun a=>okT lt n (f a) P)→okT lt n (t.bind f) P
 | .ret _,h=>h
 | .ask i j k,h=>⟨h.1,h.2.1,zbr_ (k (lt i j)) h.2.2⟩
theorem zat_ {P Q:α→Prop}(hq:∀ a,P a→Q a):∀ (t:KasT α),okT lt n t P→okT lt n t Q
 | .ret _,h=>hq _ h
 | .ask i j k,h=>⟨h.1,h.2.1,zat_ hq (k (lt i j)) h.2.2⟩
theorem zlq_ {prog:Program}{w:World}{A:Around}{κ:SortKind}{vs:List Value}{s:Shared}{P:α→Prop}{Q:α→Shared→Prop}
  (cm:∀ i j (C:Bool→Shared→Prop),i<n→j<n→C (lt i j) s→kas_ask prog w A κ vs i j C s) (hq:∀ a,P a→Q a s):∀ t:KasT α,okT lt n t P→t.kasWp (kas_ask prog w A κ vs) Q s
 | .ret a,h=>hq a h
 | .ask i j k,h=>cm i j (fun b s'=>(k b).kasWp (kas_ask prog w A κ vs) Q s') h.1 h.2.1 (zlq_ cm hq (k (lt i j)) h.2.2)
structure WOr (lt:Nat→Nat→Bool):Prop where
 asym:∀ {a b},lt a b=true→lt b a=false
 tr:∀ {a b c},lt b a=false→lt c b=false→lt c a=false
abbrev le (lt:Nat→Nat→Bool) (a b:Nat):Prop:=lt b a=false
theorem WOr.refl (w:WOr lt) (a:Nat):le lt a a:=by
 cases h:lt a a with
 | false=>exact h
 | true=>exact w.asym h
abbrev Pm (p:Array Nat) (n:Nat):Prop:=p.toList.Perm (List.range n)
theorem zcd_ {p:Array Nat}(h:Pm p n):p.size=n:=by have:=h.length_eq; rwa [List.length_range,Array.length_toList] at this
theorem zhw_ {p:Array Nat}(h:Pm p n) {i:Nat}(hi:i<n):p.getD i 0<n:=by
 have hs:=zcd_ h
 have:p.getD i 0=p[i]'(by lia):=by simp [Array.getD,hs,hi]
 rw [this]
 exact List.mem_range.mp (h.mem_iff.mp (by simp))
theorem zaC_ {p q:Array Nat}{i j:Nat}(h:p[i]?=q[j]?):p.getD i 0=q.getD j 0:=by
 rw [Array.getD_eq_getD_getElem?,Array.getD_eq_getD_getElem?,h]
theorem zhh_ {p:Array Nat}(h:Pm p n) (i j:Nat):Pm (kas_rev p i j) n:=(Array.perm_iff_toList_perm.mp (mirror_perm p i j _)).trans h
theorem zdE_ {p:Array Nat}{i j:Nat}(hj:j≤p.size) (k:Nat):(kas_rev p i j).getD k 0=if i≤k∧k<j then p.getD (i+j-1-k) 0 else p.getD k 0:=by
 have:=getElem?_mirror_all (xs:=p) (i:=i) hj k
 split
 ·rename_i q; rw [if_pos q] at this; exact zaC_ this
 ·rename_i q; rw [if_neg q] at this; exact zaC_ this
def Asc (lt:Nat→Nat→Bool) (p:Array Nat) (k:Nat):Prop:=∀ i j,i≤j→j<k→le lt (p.getD i 0) (p.getD j 0)
def Dsc (lt:Nat→Nat→Bool) (p:Array Nat) (k:Nat):Prop:=∀ i j,i≤j→j<k→le lt (p.getD j 0) (p.getD i 0)
theorem Asc.one (w:WOr lt) (p:Array Nat):Asc lt p 1:=fun i j a b=>by
 obtain rfl:i=j:=by lia
 exact w.refl _
theorem zjM_ (w:WOr lt) {p:Array Nat}(hp:Pm p n):∀ (f m:Nat),1≤m→m+f≤n→Asc lt p m→okT lt n (kas_asc p f m) (fun r=>m≤r∧r≤m+f∧Asc lt p r∧(r<m+f→lt (p.getD r 0) (p.getD (r-1) 0)=true))
 | 0,m,h1,hm,ha=>⟨Nat.le_refl _,Nat.le_refl _,ha,fun h=>absurd h (Nat.lt_irrefl _)⟩
 | f+1,m,h1,hm,ha=>by
  refine ⟨zhw_ hp (by lia),zhw_ hp (by lia),?_⟩
  show okT lt n (if lt (p.getD m 0) (p.getD (m-1) 0)=true then KasT.ret m else kas_asc p f (m+1)) _
  cases h:lt (p.getD m 0) (p.getD (m-1) 0) with
  | true=>rw [if_pos rfl]; exact ⟨Nat.le_refl _,by lia,ha,fun _=>h⟩
  | false =>
   rw [if_neg (by decide)]
   refine zat_ (fun r q=>⟨by lia,by lia,q.2.2.1,fun z=>q.2.2.2 (by lia)⟩) _ (zjM_ w hp f (m+1) (by lia) (by lia) fun i j hij hj=>?_)
   by_cases e:j<m
   ·exact ha i j hij e
   ·obtain rfl:j=m:=by lia
    by_cases e2:i=j
    ·subst e2; exact w.refl _
    ·exact w.tr (ha i (j-1) (by lia) (by lia)) h
theorem zlW_ (w:WOr lt) {p:Array Nat}{m q:Nat}(hm:m≤p.size) (hq:q+1≤m) (hd:Dsc lt p m) (he:∀ i,m-(q+1)≤i→i<m→le lt (p.getD i 0) (p.getD (m-1) 0)):Dsc lt (kas_rev p (m-(q+1)) m) m:=by
 intro i j hij hj
 have r1:=zdE_ (p:=p) (i:=m-(q+1)) hm i
 have r2:=zdE_ (p:=p) (i:=m-(q+1)) hm j
 show lt _ _=false
 rw [r1,r2]
 by_cases a:m-(q+1)≤i
 ·rw [if_pos ⟨a,by omega⟩,if_pos ⟨by omega,hj⟩]
  exact w.tr (he _ (by omega) (by omega)) (hd _ (m-1) (by omega) (by omega))
 ·rw [if_neg (fun z=>a z.1)]
  by_cases b:m-(q+1)≤j
  ·rw [if_pos ⟨b,hj⟩]; exact hd _ _ (by omega) (by omega)
  ·rw [if_neg (fun z=>b z.1)]; exact hd _ _ hij hj
theorem zgl_ (w:WOr lt):∀ (f:Nat) (p:Array Nat) (m q:Nat),Pm p n→q+1≤m→m+f≤n→Dsc lt p m→(∀ i,m-(q+1)≤i→i<m→le lt (p.getD i 0) (p.getD (m-1) 0)) →
  okT lt n (kas_desc f p m q) (fun r=>Pm r.1 n∧r.2.2+1≤r.2.1∧r.2.1≤m+f∧Dsc lt r.1 r.2.1∧∀ i,r.2.1-(r.2.2+1)≤i→i<r.2.1→le lt (r.1.getD i 0) (r.1.getD (r.2.1-1) 0))
 | 0,p,m,q,hp,h1,hm,hd,he=>⟨hp,h1,Nat.le_refl _,hd,he⟩
 | f+1,p,m,q,hp,h1,hm,hd,he=>by
  have hsz:=zcd_ hp
  refine ⟨zhw_ hp (by lia),zhw_ hp (by lia),?_⟩
  cases h:lt (p.getD m 0) (p.getD (m-1) 0) with
  | true =>
   dsimp only
   rw [if_pos rfl]
   have fin:∀ p1:Array Nat,Pm p1 n→Dsc lt p1 m→p1.getD m 0=p.getD m 0→(∀ i,i<m→le lt (p.getD (m-1) 0) (p1.getD i 0))→okT lt n (kas_desc f p1 (m+1) 0) (fun r=>Pm r.1 n∧r.2.2+1≤r.2.1∧r.2.1≤m+(f+1)∧Dsc lt r.1 r.2.1∧∀ i,r.2.1-(r.2.2+1)≤i→i<r.2.1→le lt (r.1.getD i 0) (r.1.getD (r.2.1-1) 0)):=by
    intro p1 hp1 hd1 e1 hb
    refine zat_ (fun r q=>⟨q.1,q.2.1,by lia,q.2.2.2⟩) _ (zgl_ w f p1 (m+1) 0 hp1 (by lia) (by lia) (fun i j hij hj=>?_) fun i a b=>?_)
    ·by_cases e:j<m
     ·exact hd1 i j hij e
     ·obtain rfl:j=m:=by lia
      by_cases e2:i=j
      ·subst e2; exact w.refl _
      ·rw [e1]; exact w.tr (w.asym h) (hb i (by lia))
    ·obtain rfl:i=m:=by lia
     exact w.refl _
   by_cases hq:q > 0
   ·rw [if_pos hq]
    refine fin _ (zhh_ hp _ _) (zlW_ w (by lia) h1 hd he) ?_ fun i hi=>?_
    ·rw [zdE_ (by lia),if_neg (by lia)]
    ·rw [zdE_ (by lia)]
     split
     ·exact hd _ _ (by lia) (by lia)
     ·exact hd _ _ (by lia) (by lia)
   ·rw [if_neg hq]
    exact fin p hp hd rfl fun i hi=>hd _ _ (by lia) (by lia)
  | false =>
   dsimp only
   rw [if_neg (by decide)]
   refine ⟨zhw_ hp (by lia),zhw_ hp (by lia),?_⟩
   cases h2:lt (p.getD (m-1) 0) (p.getD m 0) with
   | true=>dsimp only; rw [if_pos rfl]; exact ⟨hp,h1,by show m≤m+(f+1); lia,hd,he⟩
   | false =>
    dsimp only
    rw [if_neg (by decide)]
    refine zat_ (fun r q=>⟨q.1,q.2.1,by lia,q.2.2.2⟩) _ (zgl_ w f p (m+1) (q+1) hp (by lia) (by lia) (fun i j hij hj=>?_) fun i a b=>?_)
    ·by_cases e:j<m
     ·exact hd i j hij e
     ·obtain rfl:j=m:=by lia
      by_cases e2:i=j
      ·subst e2; exact w.refl _
      ·exact w.tr h2 (hd i (j-1) (by lia) (by lia))
    ·show le lt (p.getD i 0) (p.getD m 0)
     by_cases e:i=m
     ·subst e; exact w.refl _
     ·exact w.tr (he i (by lia) (by lia)) h
abbrev Got (lt:Nat→Nat→Bool) (n:Nat) (r:Nat×Array Nat):Prop:=Pm r.2 n∧r.1≤n∧Asc lt r.2 r.1
theorem zho_ (w:WOr lt) {p:Array Nat}{m:Nat}(hp:Pm p n) (h1:1≤m) (hm:m≤n) (hd:Dsc lt p m):okT lt n (kas_tail3 m n p) (Got lt n):=by
 have hsz:=zcd_ hp
 refine zbr_ _ (zat_ (fun r q=>?_) _ (zjM_ w (zhh_ hp 0 m) (n-m) m h1 (by omega) fun i j hij hj=>?_))
 ·exact ⟨zhh_ hp 0 m,by show r≤n; omega,q.2.2.1⟩
 ·rw [zdE_ (by omega),zdE_ (by omega),if_pos (by omega),if_pos (by omega)]
  exact hd _ _ (by omega) (by omega)
theorem zcJ_ (w:WOr lt) {p:Array Nat}{m:Nat}(hp:Pm p n) (hm:m+1≤n) (hd:Dsc lt p (m+1)):okT lt n (kas_descPart m n p) (Got lt n):=by
 refine zbr_ _ (zat_ (fun r q=>?_) _ (zgl_ w (n-(m+1)) p (m+1) 0 hp (by lia) (by lia) hd fun i a b=>?_))
 ·obtain ⟨q1,q2,q3,q4,q5⟩:=q
  have hsz:=zcd_ q1
  by_cases z:r.2.2 > 0
  ·rw [if_pos z]
   exact zho_ w (zhh_ q1 _ _) (by lia) (by lia) (zlW_ w (by lia) q2 q4 q5)
  ·rw [if_neg z]
   exact zho_ w q1 (by lia) (by lia) q4
 ·obtain rfl:i=m:=by lia
  exact w.refl _
theorem zju_ (w:WOr lt) {p:Array Nat}(hp:Pm p n) (hn:1≤n):okT lt n (kas_count n p) (Got lt n):=by
 have hsz:=zcd_ hp
 refine zbr_ _ (zat_ (fun m q=>?_) _ (zjM_ w hp (n-1) 1 (Nat.le_refl _) (by lia) (Asc.one w p)))
 obtain ⟨q1,q2,q3,q4⟩:=q
 by_cases e:m=n
 ·rw [if_pos (by simp [e])]; exact ⟨hp,by show m≤n; lia,q3⟩
 ·rw [if_neg (by simp [e])]
  have hl:=q4 (by lia)
  by_cases z:m > 1
  ·rw [if_pos z]
   refine ⟨zhw_ hp (by lia),zhw_ hp (by lia),?_⟩
   cases c:lt (p.getD 0 0) (p.getD (m-1) 0) with
   | true=>dsimp only; rw [if_pos rfl]; exact ⟨hp,by show m≤n; lia,q3⟩
   | false =>
    dsimp only
    rw [if_neg (by decide)]
    have hall:∀ a b,a<m→b<m→le lt (p.getD a 0) (p.getD b 0):=fun a b ha hb=>w.tr (w.tr (q3 a (m-1) (by lia) (by lia)) c) (q3 0 b (by lia) hb)
    refine zcJ_ w (zhh_ hp 0 m) (by lia) fun i j hij hj=>?_
    rw [zdE_ (by lia),zdE_ (by lia)]
    by_cases a:j<m
    ·rw [if_pos (by lia),if_pos (by lia)]; exact hall _ _ (by lia) (by lia)
    ·obtain rfl:j=m:=by lia
     rw [if_neg (by lia)]
     by_cases b:i<j
     ·rw [if_pos (by lia)]; exact w.tr (w.asym hl) (hall _ _ (by lia) (by lia))
     ·obtain rfl:i=j:=by lia
      rw [if_neg (by lia)]; exact w.refl _
  ·rw [if_neg z]
   obtain rfl:m=1:=by lia
   refine zcJ_ w hp (by lia) fun i j hij hj=>?_
   by_cases a:i=j
   ·subst a; exact w.refl _
   ·obtain rfl:i=0:=by lia
    obtain rfl:j=1:=by lia
    exact w.asym hl
theorem zeG_ (w:WOr lt) {p:Array Nat}{k:Nat}(hp:Pm p n) (hk:k<n) (ha:Asc lt p k):∀ (f l r:Nat),l≤r→r≤k→r-l≤f→(∀ i,i<l→le lt (p.getD i 0) (p.getD k 0))→(∀ i,r≤i→i<k→le lt (p.getD k 0) (p.getD i 0)) →
  okT lt n (kas_place p k f l r) (fun m=>m≤k∧(∀ i,i<m→le lt (p.getD i 0) (p.getD k 0))∧∀ i,m≤i→i<k→le lt (p.getD k 0) (p.getD i 0))
 | 0,l,r,h1,h2,h3,h4,h5=>⟨by show l≤k; omega,h4,fun i a b=>h5 i (by omega) b⟩
 | f+1,l,r,h1,h2,h3,h4,h5=>by
  unfold kas_place
  by_cases e:l ≥ r
  ·rw [if_pos e]; exact ⟨by show l≤k; omega,h4,fun i a b=>h5 i (by omega) b⟩
  ·rw [if_neg e]
   refine ⟨zhw_ hp hk,zhw_ hp (by omega),?_⟩
   cases c:lt (p.getD k 0) (p.getD ((l+r) / 2) 0) with
   | true =>
    dsimp only
    rw [if_pos rfl]
    refine zeG_ w hp hk ha f l ((l+r) / 2) (by omega) (by omega) (by omega) h4 fun i a b=>?_
    exact w.tr (w.asym c) (ha _ _ a b)
   | false =>
    dsimp only
    rw [if_neg (by decide)]
    refine zeG_ w hp hk ha f ((l+r) / 2+1) r (by omega) h2 (by omega) (fun i hi=>?_) h5
    exact w.tr (ha i ((l+r) / 2) (by omega) (by omega)) c
theorem zkI_ (w:WOr lt):∀ (f:Nat) (p:Array Nat) (k:Nat),Pm p n→k+f=n→Asc lt p k→okT lt n (kas_bin f p k) (fun r=>Pm r n∧Asc lt r n)
 | 0,p,k,hp,hk,ha=>⟨hp,(show k=n by lia) ▸ ha⟩
 | f+1,p,k,hp,hk,ha=>by
  have hsz:=zcd_ hp
  refine zbr_ _ (zat_ (fun l q=>?_) _ (zeG_ w hp (by lia) ha k 0 k (by lia) (Nat.le_refl _) (by lia) (fun i hi=>absurd hi (by lia)) fun i a b=>absurd b (by lia)))
  obtain ⟨q1,q2,q3⟩:=q
  have hb:∀ i,(bubble p k (k-l)).getD i 0=if i=l then p.getD k 0 else if l<i∧i≤k then p.getD (i-1) 0 else p.getD i 0:=fun i=>by
   have:=getElem?_bubble (xs:=p) (src:=k) (by lia) (k-l) (by lia) i
   rw [show k-(k-l)=l by lia] at this
   split
   ·rename_i z; rw [if_pos z] at this; exact zaC_ this
   ·rename_i z
    rw [if_neg z] at this
    split
    ·rename_i y; rw [if_pos y] at this; exact zaC_ this
    ·rename_i y; rw [if_neg y] at this; exact zaC_ this
  refine zkI_ w f _ (k+1) ((Array.perm_iff_toList_perm.mp (bubble_perm p k _)).trans hp) (by lia) fun i j hij hj=>?_
  rw [hb,hb]
  by_cases e1:i=l
  ·rw [if_pos e1]
   by_cases e2:j=l
   ·rw [if_pos e2]; exact w.refl _
   ·rw [if_neg e2,if_pos (by lia)]; exact q3 _ (by lia) (by lia)
  ·rw [if_neg e1]
   by_cases e2:j=l
   ·rw [if_pos e2,if_neg (by lia)]; exact q2 _ (by lia)
   ·rw [if_neg e2]
    by_cases e3:l<i
    ·rw [if_pos (by lia),if_pos (by lia)]; exact ha _ _ (by lia) (by lia)
    ·rw [if_neg (by lia)]
     by_cases e4:l<j
     ·rw [if_pos (by lia)]; exact ha _ _ (by lia) (by lia)
     ·rw [if_neg (by lia)]; exact ha _ _ hij (by lia)
theorem zle_ (w:WOr lt) (hn:1≤n):okT lt n (kas_sort n) (fun r=>Pm r n∧Asc lt r n):=by
 have h0:Pm (List.toArray (List.range n)) n:=by simp [Pm]
 refine zbr_ _ (zat_ (fun r q=>?_) _ (zju_ w h0 hn))
 obtain ⟨q1,q2,q3⟩:=q
 by_cases e:r.1<n
 ·rw [if_pos e]
  refine zkI_ w _ _ _ q1 (by lia) ?_
  by_cases e1:r.1=0
  ·rw [e1]; exact Asc.one w _
  ·rw [Nat.max_eq_left (by lia)]; exact q3
 ·rw [if_neg e]
  obtain e:r.1=n:=by lia
  rw [e] at q3
  exact ⟨q1,q3⟩
end
section
variable {prog:Program}{w:World}{A:Around}{E:Value→Shared→Prop}{s:Shared}{vs:List Value}{lt:Nat→Nat→Bool}
def CmpAt (prog:Program) (w:World) (vs:List Value) (lt:Nat→Nat→Bool) (s:Shared):Prop :=
 ∃ κ,(∀ (A:Around) (C:SortKind→Shared→Prop),C κ s→wpAny (model prog w) A (keyKind' vs.toArray) C (fun _ _=>False) s) ∧
  ∀ (A:Around) i j (C:Bool→Shared→Prop),i<vs.length→j<vs.length→C (lt i j) s→kas_ask prog w A κ vs i j C s
def Srtd (lt:Nat→Nat→Bool) (n:Nat) (p:List Nat):Prop:=p.Perm (List.range n)∧p.Pairwise (le lt)
theorem zky_ {n:Nat}{p:Array Nat}(h:Pm p n∧Asc lt p n):Srtd lt n p.toList:=by
 refine ⟨h.1,List.pairwise_iff_getElem.mpr fun i j hi hj hij=>?_⟩
 have hs:=zcd_ h.1
 rw [Array.length_toList] at hi hj
 have:=h.2 i j (by lia) (by lia)
 have e:∀ k (hk:k<p.size),p.getD k 0=p.toList[k]'(by simpa using hk):=fun k hk=>by simp [Array.getD,hk]
 rwa [e i hi,e j hj] at this
def RunB (b:Nat):Prop:=b≤1000∧∀ {prog:Program}{w:World}{A:Around}{E:Value→Shared→Prop}{s:Shared}{vs:List Value}{lt:Nat→Nat→Bool}{κ:SortKind},2≤vs.length→vs.length<b→WOr lt →
 (∀ (A:Around) i j (C:Bool→Shared→Prop),i<vs.length→j<vs.length→C (lt i j) s→kas_ask prog w A κ vs i j C s) →
 wpAny (model prog w) A ((sortRuns').run (SortSt.mk' κ (vs.toArray.zip vs.toArray) #[] 7 none)) (fun r s'=>s'=s∧∃ p:List Nat,(arrOf r.2).map (·.2)=(p.map fun i=>vs.getD i Value.none).toArray∧failedOf r.2=none∧Srtd lt vs.length p) E s
theorem runB64:RunB 64:=by
 refine ⟨by decide,fun {prog w A E s vs lt κ} hn2 h64 wo k2=>?_⟩
 refine wpAny_mono (kat_run (Q:=fun st' s'=>s'=s∧∃ p:Array Nat,p.size=vs.length∧arrOf st'=p.map (kas_item (vs.toArray.zip vs.toArray))∧failedOf st'=none∧(Pm p vs.length∧Asc lt p vs.length)) (G:=fun p s'=>s'=s∧(Pm p vs.length∧Asc lt p vs.length))
   rfl hn2 h64 (fun p' st' s' a1 a2 a3 a4=>⟨a4.1,p',a1,a2,a3,a4.2⟩) (zlq_ (P:=fun r=>Pm r vs.length∧Asc lt r vs.length) (fun i j C hi hj hc=>k2 A i j C hi hj hc) (fun p hp=>⟨rfl,hp⟩) _ (zle_ wo (by lia)))) ?_ fun _ _ e=>e
 rintro ⟨⟨⟩,st'⟩ s' ⟨rfl,p,hp,har,hf,hpp⟩
 exact ⟨rfl,p.toList,kat_snds rfl har,hf,zky_ hpp⟩
theorem zhf_ {b:Nat}(hB:RunB b) {a:Addr}{n:Nat}{P:PySem.Fin→Shared→Prop}(ho:s.heap.get? a=some (seqObj "list" vs.toArray n)) (h64:vs.length<b) (wo:WOr lt)
  (kk:2≤vs.length→∀ h':Heap,(∀ b o,b≠a→s.heap.get? b=some o→h'.get? b=some o)→CmpAt prog w vs lt { s with heap:=h' })
  (q:∀ (h':Heap) c (p:List Nat),(∀ b o,b≠a→s.heap.get? b=some o→h'.get? b=some o)→Srtd lt vs.length p→h'.get? a=some (seqObj "list" (p.map fun i=>vs.getD i Value.none).toArray c)→P (.done (.ret .none)) { s with heap:=h' }) :
  wpAny (model prog w) A (Builtin.«list.sort» ⟨[.ref a],[]⟩) P E s:=by
 have hB1:=hB.1
 have ha:a<s.heap.objs.size:=Heap.lt_size ho
 have s1:=Heap.SameBut.update s.heap a (Obj.mapSeq fun _=>(#[]:Array Value))
 obtain ⟨e1,ho1⟩:∃ e1,(s.heap.update a (Obj.mapSeq fun _=>(#[]:Array Value))).get? a=some (seqObj "list" #[] e1):=⟨_,get?_update_seq ho fun _=>#[]⟩
 have kp:∀ b o,b≠a→s.heap.get? b=some o→(((s.heap.update a (Obj.mapSeq fun _=>(#[]:Array Value))).push (seqObj "tuple" vs.toArray 0)).push (seqObj "list" #[] 0)).get? b=some o:=fun b o hb e =>
  Heap.get?_push_of_some _ (Heap.get?_push_of_some _ ((s1.2 b hb).trans e))
 have na:(((s.heap.update a (Obj.mapSeq fun _=>(#[]:Array Value))).push (seqObj "tuple" vs.toArray 0)).push (seqObj "list" #[] 0)).get? a=some (seqObj "list" #[] e1):=Heap.get?_push_of_some _ (Heap.get?_push_of_some _ ho1)
 rw [list_sort_plain]
 refine wpAny_bind (listItems_at ho rfl ?_)
 refine wpAny_bind (listUpdate_at ho rfl ?_ (by rw [List.size_toArray,sizeLine_eq]; lia) (Nat.zero_le _))
 refine wpAny_bind (seqEpoch_at ho1 rfl ?_)
 refine wpAny_bind (wpAny_newTuple ?_ (by show vs.length≤_; rw [sizeLine_eq]; lia))
 refine wpAny_bind (wpAny_newList ?_ (Nat.zero_le _))
 refine wpAny_holding ?_
 show wpAny (model prog w) A _ P E { s with heap:=((s.heap.update a (Obj.mapSeq fun _=>(#[]:Array Value))).push (seqObj "tuple" vs.toArray 0)).push (seqObj "list" #[] 0) }
 generalize hh:((s.heap.update a (Obj.mapSeq fun _=>(#[]:Array Value))).push (seqObj "tuple" vs.toArray 0)).push (seqObj "list" #[] 0)=h2 at kp na
 dsimp only
 have fin:∀ (st':SortSt) (p:List Nat),(arrOf st').map (·.2)=(p.map fun i=>vs.getD i Value.none).toArray→failedOf st'=none→Srtd lt vs.length p→wpAny (model prog w) A (do
   let touched:=(← seqEpoch a) != e1
   Builtin.List.listUpdate (.ref a) fun _=>(arrOf st').map (·.2)
   if let some e:=failedOf st' then rule "list.sort.comparison-raised"; throw e
   if touched then rule "list.sort.modified"; raiseError "ValueError" "list modified during sort"
   ret .none) P E { s with heap:=h2 }:=by
  intro st' p hout hf hp
  rw [hout,hf]
  have hsz:(List.toArray (p.map fun i=>vs.getD i Value.none)).size=vs.length:=by rw [List.size_toArray,List.length_map,hp.1.length_eq,List.length_range]
  have s2:=Heap.SameBut.update h2 a (Obj.mapSeq fun _=>List.toArray (p.map fun i=>vs.getD i Value.none))
  obtain ⟨c2,hc2⟩:∃ c2,(h2.update a (Obj.mapSeq fun _=>List.toArray (p.map fun i=>vs.getD i Value.none))).get? a=some (seqObj "list" (List.toArray (p.map fun i=>vs.getD i Value.none)) c2):=⟨_,get?_update_seq na fun _=>List.toArray (p.map fun i=>vs.getD i Value.none)⟩
  refine wpAny_bind (seqEpoch_at (s:={ s with heap:=h2 }) na rfl ?_)
  refine wpAny_bind (listUpdate_at (s:={ s with heap:=h2 }) na rfl ?_ (Nat.zero_le _) (Nat.le_trans (Nat.le_of_eq hsz) (by rw [sizeLine_eq]; lia)))
  simp only [bne_self_eq_false,Bool.false_eq_true,if_false]
  exact wpAny_pure (q _ c2 p (fun b o hb e=>(s2.2 b hb).trans (kp b o hb e)) hp hc2)
 by_cases hn2:2≤vs.length
 ·have hn2':¬ vs.toArray.size<2:=by rw [List.size_toArray]; lia
  rw [if_neg hn2',if_neg hn2']
  obtain ⟨κ,k1,k2⟩:=kk hn2 h2 kp
  refine wpAny_bind (wpAny_mono (k1 A (fun κ' s'=>κ'=κ∧s'={ s with heap:=h2 }) ⟨rfl,rfl⟩) (fun κ' s0 hk=>?_) fun _ _ x=>x.elim)
  obtain ⟨rfl,rfl⟩:=hk
  refine wpAny_bind (wpAny_mono (hB.2 hn2 h64 wo k2) ?_ fun _ _ e=>e)
  rintro ⟨⟨⟩,st'⟩ s' ⟨rfl,p,hout,hf,hpp⟩
  exact fin st' p hout hf hpp
 ·have hn2':vs.toArray.size<2:=by rw [List.size_toArray]; lia
  rw [if_pos hn2',if_pos hn2']
  refine wpAny_bind (wpAny_pure ?_)
  refine wpAny_bind (wpAny_pure ?_)
  refine fin _ (List.range vs.length) ?_ rfl ⟨List.Perm.refl _,?_⟩
  ·show ((vs.toArray.zip vs.toArray).map (·.2))=_
   apply Array.toList_inj.mp
   rw [Array.toList_map,Array.toList_zip]
   have e:∀ l:List Value,(l.zip l).map (·.2)=l:=fun l=>by
    induction l with
    | nil=>rfl
    | cons x l ih=>rw [List.zip_cons_cons,List.map_cons,ih]
   show (vs.zip vs).map (·.2)=(List.range vs.length).map fun i=>vs.getD i Value.none
   rw [e]
   apply List.ext_getElem?
   intro i
   by_cases hi:i<vs.length
   ·simp [hi]
   ·simp [List.getElem?_eq_none,hi,Nat.le_of_not_lt hi]
  ·rcases (show vs.length=0∨vs.length=1 by lia) with e | e
   ·rw [e]; exact .nil
   ·rw [e]; exact List.pairwise_singleton _ _
theorem zjN_ {b:Nat}(hB:RunB b) {l:Addr}{Q:Value→Shared→Prop}(hl:s.heap.IsList l vs.toArray) (h64:vs.length<b) (wo:WOr lt)
  (kk:2≤vs.length→∀ h':Heap,(∀ b o,s.heap.get? b=some o→h'.get? b=some o)→CmpAt prog w vs lt { s with heap:=h' })
  (q:∀ (h':Heap) c (p:List Nat),(∀ b o,s.heap.get? b=some o→h'.get? b=some o)→Srtd lt vs.length p→h'.get? (s.heap.objs.size+1)=some (seqObj "list" (p.map fun i=>vs.getD i Value.none).toArray c)→Q (.ref (s.heap.objs.size+1)) { s with heap:=h' }) :
  wpAny (model prog w) A (call (.builtin "sorted") [.ref l]) Q E s:=by
 have hB1:=hB.1
 refine Calls.call_function_entry kind_sorted plain_sorted entry_sorted (args_sorted1 _) ?_
 unfold Builtin.«sorted»
 refine wpAny_bind (m:=checkCount "sorted" 1 1 _) (wpAny_pure ?_)
 refine wpAny_bind (collect_list hl ?_ (by rw [sizeLine_eq]; lia))
 refine wpAny_bind (wpAny_newList ?_ (by rw [sizeLine_eq]; lia))
 have hsz:((s.heap.push (seqObj "list" #[] 0)).update s.heap.objs.size (Obj.mapSeq (·++vs.toArray))).objs.size=s.heap.objs.size+1:=by
  rw [Heap.size_update,size_push']
 have hoL:(((s.heap.push (seqObj "list" #[] 0)).update s.heap.objs.size (Obj.mapSeq (·++vs.toArray))).push (seqObj "list" vs.toArray 0)).get? (s.heap.objs.size+1)=some (seqObj "list" vs.toArray 0):=by
  rw [← hsz]; exact Heap.get?_push_size _ rfl
 have keep:∀ b o,s.heap.get? b=some o→(((s.heap.push (seqObj "list" #[] 0)).update s.heap.objs.size (Obj.mapSeq (·++vs.toArray))).push (seqObj "list" vs.toArray 0)).get? b=some o:=fun b o q=>by
  have hlt:b<s.heap.objs.size:=Heap.lt_size q
  rw [Heap.get?_push_ne _ _ _ (by rw [hsz]; exact Nat.ne_of_lt (Nat.lt_succ_of_lt hlt)),Heap.get?_update_ne _ _ _ _ (Nat.ne_of_lt hlt),Heap.get?_push_ne _ _ _ (Nat.ne_of_lt hlt)]
  exact q
 show wpAny _ _ _ _ _ { s with heap:=((s.heap.push (seqObj "list" #[] 0)).update s.heap.objs.size (Obj.mapSeq (·++vs.toArray))).push (seqObj "list" vs.toArray 0) }
 rw [hsz]
 have keep2:∀ (h':Heap),(∀ b o,b≠s.heap.objs.size+1→(((s.heap.push (seqObj "list" #[] 0)).update s.heap.objs.size (Obj.mapSeq (·++vs.toArray))).push (seqObj "list" vs.toArray 0)).get? b=some o→h'.get? b=some o)→∀ b o,s.heap.get? b=some o→h'.get? b=some o:=fun h' hk b o e =>
  hk b o (Nat.ne_of_lt (Nat.lt_succ_of_lt (Heap.lt_size e))) (keep b o e)
 refine wpAny_bind (wpAny_holding (wpAny_call_entry slot_list_sort ⟨_,hoL,rfl⟩ entry_list_sort ?body (args_list_sort _)))
 case body =>
  refine zhf_ hB (s:={ s with heap:=((s.heap.push (seqObj "list" #[] 0)).update s.heap.objs.size (Obj.mapSeq (·++vs.toArray))).push (seqObj "list" vs.toArray 0) }) hoL h64 wo (fun h2 h' hk=>kk h2 h' (keep2 h' hk)) fun h' c p hk hp ho'=>?_
  exact ⟨_,rfl,wpAny_pure ⟨_,rfl,q h' c p (keep2 h' hk) hp ho'⟩⟩
end
end L2
namespace L2
open PySem PySem.Spec PyProof.Rows PySem.W
def knd:V→Nat | .int _=>1 | .str _=>2 | _=>0
def ltF:V→V→Bool | .int a,.int b=>decide (a<b) | .str a,.str b=>decide (a.cps.toList<b.cps.toList) | _,_=>false
def eqF:V→V→Bool | .int a,.int b=>a == b | .str a,.str b=>decide (a=b) | _,_=>false
def lexV:List V→List V→Bool
 | x::xs,y::ys=>if eqF x y then lexV xs ys else ltF x y
 | _,_=>false
section
variable {prog:Program}{w:World}{A:Around}{E:Value→Shared→Prop}{s:Shared}{Q:Bool→Shared→Prop}
theorem zau_ {x:V}(h:knd x≠0):(∃ i,x=.int i)∨∃ z,x=.str z:=by
 cases x<;>first | exact .inl ⟨_,rfl⟩ | exact .inr ⟨_,rfl⟩ | exact absurd rfl h
theorem zg3_ {x y:V}{u v:Value}{b:Bool}(hx:RelV x u) (hy:RelV y v) (hk:knd x=knd y) (h0:knd x≠0) (q:Q (ltF x y) s):wpAny (model prog w) A (oneLt' b u v) Q E s:=by
 rcases zau_ h0 with ⟨i,rfl⟩ | ⟨z,rfl⟩
 ·rcases zau_ (x:=y) (fun e=>h0 (hk.trans e)) with ⟨j,rfl⟩ | ⟨z,rfl⟩
  ·obtain ⟨t,rfl⟩:=hx
   obtain ⟨t',rfl⟩:=hy
   cases b with
   | true=>exact oneLt_int q
   | false=>exact kat_one _ _ (PyProof.Rows.lt_int q)
  ·cases hk
 ·rcases zau_ (x:=y) (fun e=>h0 (hk.trans e)) with ⟨j,rfl⟩ | ⟨z',rfl⟩
  ·cases hk
  ·obtain ⟨t,rfl⟩:=hx
   obtain ⟨t',rfl⟩:=hy
   cases b with
   | true=>exact oneLt_str q
   | false=>exact kat_one _ _ (PyProof.Rows.lt_str q)
theorem eq_F {x y:V}{u v:Value}(hx:RelV x u) (hy:RelV y v) (hk:knd x=knd y) (h0:knd x≠0) (q:Q (eqF x y) s):wpAny (model prog w) A (eqBool u v) Q E s:=by
 rcases zau_ h0 with ⟨i,rfl⟩ | ⟨z,rfl⟩
 ·rcases zau_ (x:=y) (fun e=>h0 (hk.trans e)) with ⟨j,rfl⟩ | ⟨z,rfl⟩
  ·obtain ⟨t,rfl⟩:=hx
   obtain ⟨t',rfl⟩:=hy
   exact wpAny_eqBool_int q
  ·cases hk
 ·rcases zau_ (x:=y) (fun e=>h0 (hk.trans e)) with ⟨j,rfl⟩ | ⟨z',rfl⟩
  ·cases hk
  ·obtain ⟨t,rfl⟩:=hx
   obtain ⟨t',rfl⟩:=hy
   exact wpAny_eqBool_str q
theorem zgG_ {b:Bool}:∀ {xs ys:List V}{us vs:List Value}(i:Nat),Vals xs us→Vals ys vs→xs.map knd=ys.map knd→(0:Nat)∉xs.map knd→Q (lexV xs ys) s→KatLex prog w A b false Q (us.zip vs) i s
 | [],[],_,_,i,.nil,.nil,_,_,q=>q
 | x::xs,[],_,_,i,_,_,hk,_,_=>by simp at hk
 | [],x::xs,_,_,i,_,_,hk,_,_=>by simp at hk
 | x::xs,y::ys,_,_,i,.cons hx r,.cons hy r',hk,h0,q=>by
  rw [List.map_cons,List.map_cons] at hk
  injection hk with k1 k2
  rw [List.map_cons] at h0
  have z1:knd x≠0:=fun e=>h0 (by rw [e]; exact List.mem_cons_self ..)
  have z2:(0:Nat)∉xs.map knd:=fun e=>h0 (List.mem_cons_of_mem _ e)
  rw [List.zip_cons_cons]
  refine kat_cons (eq_F hx hy k1 z1 (kat_go (fun e=>kat_yes ?_) fun e=>kat_no ?_))
  ·refine zgG_ (i+1) r r' k2 z2 ?_
   unfold lexV at q
   rw [e,if_pos rfl] at q
   exact q
  ·refine zg3_ hx hy k1 z1 ?_
   unfold lexV at q
   rw [e,if_neg (by decide)] at q
   exact q
end
def SrtV (K:Fgg) (H:Hp) (ys:List V) (lt:Nat→Nat→Bool):Prop :=
 (∃ k,k≠0∧(∀ y∈ys,knd y=k)∧∀ i j x y,ys[i]?=some x→ys[j]?=some y→lt i j=ltF x y) ∨
 (∃ (rows:Nat→List V) (ks:List Nat),ks≠[]∧0∉ks∧(∀ i y,ys[i]?=some y→∃ a,y=.ref a∧SqT K H a (rows i)∧(rows i).map knd=ks)∧∀ i j,i<ys.length→j<ys.length→lt i j=lexV (rows i) (rows j))
def mSorted (b:Nat) (K:Fgg):List V→Hp→VK→Prop:=fun xs H Q=>match xs with
 | [.ref p]=>∃ ys lt,SqL K H p ys∧ys.length<b∧WOr lt∧SrtV K H ys lt∧∀ idx,Srtd lt ys.length idx→∀ l,H l=none→Q (.ref l) (upd H l (.lst (idx.map fun i=>ys.getD i .non)))
 | _=>False
def tyK (k:Nat):Value:=if k=1 then .type "int" else .type "str"
theorem zgK_ {M:Model}{h:Heap}{x:V}{u:Value}{k:Nat}(r:RelV x u) (hk:knd x=k) (h0:k≠0):Looks M h (typeOf u) (tyK k):=by
 subst hk
 rcases zau_ h0 with ⟨i,rfl⟩ | ⟨z,rfl⟩
 ·obtain ⟨t,rfl⟩:=r
  exact .now
 ·obtain ⟨t,rfl⟩:=r
  exact .now
theorem zj9_ (k:Nat):(tyK k != Value.type "tuple")=true:=by unfold tyK; split<;>decide +kernel
theorem zjR_ (k:Nat):(tyK k == tyK k)=true:=by unfold tyK; split<;>decide +kernel
theorem zab_ {ys:List V}{us:List Value}(r:Vals ys us) {i:Nat}(h:i<us.length):∃ y,ys[i]?=some y∧RelV y (us.getD i Value.none)∧y∈ys:=by
 have hl:=Vals.length r
 have e:ys[i]?=some ys[i]:=List.getElem?_eq_getElem (by omega)
 obtain ⟨u,eu,ru⟩:=Vals.get r e
 refine ⟨_,e,?_,List.getElem_mem _⟩
 rw [List.getD_eq_getElem?_getD,eu]
 exact ru
theorem zeJ_ {ys:List V}{us:List Value}(r:Vals ys us):∀ (idx:List Nat),(∀ i∈idx,i<us.length)→Vals (idx.map fun i=>ys.getD i .non) (idx.map fun i=>us.getD i Value.none)
 | [],_=>.nil
 | i::idx,h=>by
  obtain ⟨y,e,ry,_⟩:=zab_ r (h i (List.mem_cons_self ..))
  refine .cons ?_ (zeJ_ r idx fun j hj=>h j (List.mem_cons_of_mem _ hj))
  show RelV (ys.getD i V.non) _
  rw [List.getD_eq_getElem?_getD,e]
  exact ry
section
variable {X:Cx}
theorem zew_ {b:Nat}(hB:RunB b):CallR X (.builtin "sorted") (mSorted b X.K):=by
 have hB1:=hB.1
 intro pins s σ H xs us Q I r h
 unfold mSorted at h
 split at h
 ·rename_i p
  obtain ⟨ys,lt,hp,h64,wo,sv,q⟩:=h
  obtain ⟨u,rfl,rx⟩:=vals1 r
  cases rx
  obtain ⟨its,r',pl,hz⟩:=I.list hp
  have hlen:=Vals.length r'
  refine zjN_ hB pl.isList (by lia) wo (fun h2 h' kp=>?_) fun h' c idx kp hi ho=>?_
  ·rcases sv with ⟨k,hk,hall,hlt⟩ | ⟨rows,ks,hne,h0,hrow,hlt⟩
   ·refine ⟨oneType',fun A C hC=>?_,fun A i j C hi hj hC=>?_⟩
    ·refine kas_kind h2 (T:=tyK k) (fun v hv=>?_) (zj9_ k) (zjR_ k) hC
     obtain ⟨i,hi⟩:=List.mem_iff_getElem?.mp hv
     obtain ⟨hi',_⟩:=List.getElem?_eq_some_iff.mp hi
     obtain ⟨y,_,ry,hy⟩:=zab_ r' hi'
     rw [List.getD_eq_getElem?_getD,hi] at ry
     exact zgK_ ry (hall y hy) hk
    ·obtain ⟨x,ex,rx,hx⟩:=zab_ r' hi
     obtain ⟨y,ey,ry,hy⟩:=zab_ r' hj
     rw [hlt i j x y ex ey] at hC
     unfold kas_ask
     rw [keyLt'_oneType]
     exact zg3_ rx ry (by rw [hall x hx,hall y hy]) (by rw [hall x hx]; exact hk) hC
   ·have tup:∀ i,i<its.length→∃ (a:Addr) (o:Obj) (ts:List Value) (n:Nat),its[i]?=some (.ref a)∧h'.get? a=some o∧o.cls=.type "tuple" ∧ o.data=.seq ts.toArray n∧Vals (rows i) ts∧(rows i).map knd=ks:=fun i hi=>by
     obtain ⟨y,e,ry,_⟩:=zab_ r' hi
     obtain ⟨a,rfl,ht,hk⟩:=hrow i y e
     obtain ⟨ts,rt,⟨o,ho,hc,n,hd⟩,_⟩:=I.tuple ht
     refine ⟨a,o,ts,n,?_,kp _ _ ho,hc,hd,rt,hk⟩
     have:its.getD i Value.none=.ref a:=ry
     rw [List.getD_eq_getElem?_getD,List.getElem?_eq_getElem hi] at this
     rw [List.getElem?_eq_getElem hi]
     exact congrArg some this
    obtain ⟨k,ks',rfl⟩:∃ k ks',ks=k::ks':=by
     cases ks with
     | nil=>exact absurd rfl hne
     | cons k ks'=>exact ⟨k,ks',rfl⟩
    have hk0:k≠0:=fun e=>h0 (by rw [e]; exact List.mem_cons_self ..)
    refine ⟨tuples' true,fun A C hC=>?_,fun A i j C hi hj hC=>?_⟩
    ·have kt:∀ (l:List Value) (d:Nat),its.drop d=l→∃ fs,KatTups h' l fs∧fs.length=l.length∧∀ v∈fs,Looks (model X.prog X.w) h' (typeOf v) (tyK k):=by
      intro l
      induction l with
      | nil=>intro d _; exact ⟨[],.nil,rfl,fun v hv=>by cases hv⟩
      | cons v l ih =>
       intro d hd
       have hdl:d<its.length:=by
        have:=congrArg List.length hd
        rw [List.length_drop,List.length_cons] at this
        lia
       obtain ⟨a,o,ts,n,e,ho,hc,hdd,rt,hk⟩:=tup d hdl
       have e2:its.drop d=its[d]::its.drop (d+1):=List.drop_eq_getElem_cons hdl
       rw [hd] at e2
       injection e2 with e3 e4
       obtain ⟨fs,k1,k2,k3⟩:=ih (d+1) e4.symm
       rw [List.getElem?_eq_getElem hdl] at e
       injection e with e
       rw [e3,e]
       cases hr:rows d with
       | nil=>rw [hr] at hk; simp at hk
       | cons x xr =>
        rw [hr] at rt hk
        cases rt with
        | @cons _ f _ tr rf rr =>
         rw [List.map_cons] at hk
         injection hk with hk1 hk2
         refine ⟨f::fs,.cons ho hc hdd (by simp) k1,by simp [k2],fun v hv=>?_⟩
         rcases List.mem_cons.mp hv with rfl | hv
         ·exact zgK_ rf hk1 hk0
         ·exact k3 v hv
     obtain ⟨fs,k1,k2,k3⟩:=kt its 0 rfl
     have:=kat_kind (M:=model X.prog X.w) (A:=A) (E:=fun _ _=>False) (s:={ s with heap:=h' }) (Q:=C) k1 (by lia) k3 (zjR_ k) (by rw [zj9_]; exact hC)
     exact this
    ·obtain ⟨a,o,ts,n,e,ho,hc,hd,rt,hk⟩:=tup i hi
     obtain ⟨a2,o2,ts2,n2,e2,ho2,hc2,hd2,rt2,hk2⟩:=tup j hj
     unfold kas_ask
     rw [List.getD_eq_getElem?_getD,List.getD_eq_getElem?_getD,e,e2]
     have hl:ts.length=ts2.length:=by
      have a1:=Vals.length rt
      have a2:=Vals.length rt2
      have:=congrArg List.length (hk.trans hk2.symm)
      rw [List.length_map,List.length_map] at this
      lia
     refine kat_lt (s:={ s with heap:=h' }) ho hd ho2 hd2 ?_
     rw [show decide (ts.toArray.size<ts2.toArray.size)=false from decide_eq_false (by simp [hl])]
     refine zgG_ 0 rt rt2 (hk.trans hk2.symm) (by rw [hk]; exact h0) ?_
     rw [← hlt i j (by lia) (by lia)]
     exact hC
  ·refine ⟨.ref (s.heap.objs.size+1),_,I.laid (o:=.lst (idx.map fun i=>ys.getD i .non)) (t':=s.toks) kp (Nat.le_succ _) ?_,rfl,q idx (by rwa [hlen]) _ (I.hok.fresh (Nat.le_succ _))⟩
   have hi1:∀ i∈idx,i<its.length:=fun i hi'=>List.mem_range.mp (hi.1.mem_iff.mp hi')
   refine ⟨?_,_,c,zeJ_ r' idx hi1,ho⟩
   rw [List.length_map,hi.1.length_eq,List.length_range,sizeLine_eq]
   lia
 ·exact h.elim
end
end L2
namespace L2
open PySem PySem.Spec PyProof.Rows PySem.W
section
variable {α β:Type}
structure LOr (lt:α→α→Bool):Prop where
 asym:∀ {a b},lt a b=true→lt b a=false
 tr:∀ {a b c},lt b a=false→lt c b=false→lt c a=false
 anti:∀ {a b},lt a b=false→lt b a=false→a=b
def srtL (lt:α→α→Bool) (xs:List α):List α:=xs.mergeSort (fun a b=>!lt b a)
theorem zad_ (lt:α→α→Bool) (xs:List α):(srtL lt xs).Perm xs:=List.mergeSort_perm _ _
theorem LOr.irr {lt:α→α→Bool}(o:LOr lt) (a:α):lt a a=false:=by
 cases h:lt a a with
 | false=>rfl
 | true=>rw [← h]; exact o.asym h
theorem zbq_ {lt:α→α→Bool}(o:LOr lt) (xs:List α):(srtL lt xs).Pairwise fun a b=>lt b a=false:=by
 have:=List.pairwise_mergeSort (le:=fun a b=>!lt b a) (fun a b c h1 h2=>by simp only [Bool.not_eq_true'] at *; exact o.tr h1 h2) (fun a b=>by
  cases h:lt b a with
  | false=>simp
  | true=>simp [o.asym h]) xs
 exact this.imp (fun h=>by simpa using h)
theorem zg9_ {lt:α→α→Bool}(o:LOr lt):∀ {ws ys:List α},ws.Perm ys→ws.Pairwise (fun a b=>lt b a=false)→ys.Pairwise (fun a b=>lt b a=false)→ws=ys
 | [],ys,hp,_,_=>by rw [List.Perm.nil_eq hp]
 | w::ws,[],hp,_,_=>by have:=hp.length_eq; simp at this
 | w::ws,y::ys,hp,h1,h2=>by
  obtain ⟨a1,a2⟩:=List.pairwise_cons.mp h1
  obtain ⟨b1,b2⟩:=List.pairwise_cons.mp h2
  have e:w=y:=by
   have m1:w∈y::ys:=hp.mem_iff.mp (List.mem_cons_self ..)
   have m2:y∈w::ws:=hp.mem_iff.mpr (List.mem_cons_self ..)
   rcases List.mem_cons.mp m1 with e | m1
   ·exact e
   ·rcases List.mem_cons.mp m2 with e | m2
    ·exact e.symm
    ·exact o.anti (b1 w m1) (a1 y m2)
  subst e
  rw [zg9_ o (List.Perm.cons_inv hp) a2 b2]
theorem zc6_ {lt:α→α→Bool}(o:LOr lt) {ws xs:List α}(hp:ws.Perm xs) (hs:ws.Pairwise fun a b=>lt b a=false):ws=srtL lt xs :=
 zg9_ o (hp.trans (zad_ lt xs).symm) hs (zbq_ o xs)
def ltI (a b:Int):Bool:=decide (a<b)
def lxP [DecidableEq α] (l:α→α→Bool) (m:β→β→Bool) (x y:α×β):Bool:=if x.1=y.1 then m x.2 y.2 else l x.1 y.1
theorem zbR_:LOr ltI:=by
 unfold ltI
 refine ⟨fun h=>?_,fun h h'=>?_,fun h h'=>?_⟩<;>simp only [decide_eq_true_eq,decide_eq_false_iff_not] at*<;> lia
theorem zeZ_ [DecidableEq α] {l:α→α→Bool}{m:β→β→Bool}(ol:LOr l) (om:LOr m):LOr (lxP l m):=by
 unfold lxP
 refine ⟨fun {a b} h=>?_,fun {a b c} h h'=>?_,fun {a b} h h'=>?_⟩
 ·by_cases e:a.1=b.1
  ·rw [if_pos e] at h; rw [if_pos e.symm]; exact om.asym h
  ·rw [if_neg e] at h; rw [if_neg (fun z=>e z.symm)]; exact ol.asym h
 ·by_cases e:b.1=a.1
  ·rw [if_pos e] at h
   by_cases e2:c.1=b.1
   ·rw [if_pos e2] at h'; rw [if_pos (e2.trans e)]; exact om.tr h h'
   ·rw [if_neg e2] at h'; rw [if_neg (fun z=>e2 (z.trans e.symm)),← e]; exact h'
  ·rw [if_neg e] at h
   by_cases e2:c.1=b.1
   ·rw [if_neg (fun z=>e (e2.symm.trans z)),e2]; exact h
   ·rw [if_neg e2] at h'
    by_cases e3:c.1=a.1
    ·exfalso
     rw [e3] at h'
     exact e (ol.anti h h')
    ·rw [if_neg e3]; exact ol.tr h h'
 ·by_cases e:a.1=b.1
  ·rw [if_pos e] at h; rw [if_pos e.symm] at h'
   exact Prod.ext e (om.anti h h')
  ·rw [if_neg e] at h; rw [if_neg (fun z=>e z.symm)] at h'
   exact absurd (ol.anti h h') e
end
end L2
namespace L2
open PySem PySem.Spec PyProof.Rows PySem.W
section
variable {α β γ:Type}{K:Fgg}{E:XK}
def FlT (T:Ty α) (k:Nat) (lt:α→α→Bool):Prop:=k≠0∧∀ a v F,T.R a v F→knd v=k∧∀ b u F',T.R b u F'→ltF v u=lt a b∧(eqF v u=true↔a=b)
theorem zjJ_:FlT tyInt 1 ltI:=by
 refine ⟨by decide,fun a v F h=>?_⟩
 subst h
 refine ⟨rfl,fun b u F' h'=>?_⟩
 subst h'
 exact ⟨rfl,by simp [eqF]⟩
def LxC (C:Cs γ) (ks:List Nat) (lt:γ→γ→Bool):Prop:=ks≠[]∧0∉ks∧∀ c vs F,C.R c vs F→vs.map knd=ks∧∀ d us F',C.R d us F'→lexV vs us=lt c d
theorem zlh_ {T:Ty α}{k:Nat}{lt:α→α→Bool}(f:FlT T k lt) (o:LOr lt):LxC (csLast T) [k] lt:=by
 refine ⟨by simp,fun h=>f.1 (List.mem_singleton.mp h).symm,?_⟩
 rintro c vs F ⟨v,rfl,hv⟩
 obtain ⟨e,g⟩:=f.2 c v F hv
 refine ⟨by rw [List.map_singleton,e],?_⟩
 rintro d us F' ⟨u,rfl,hu⟩
 obtain ⟨g1,g2⟩:=g d u F' hu
 show (if eqF v u=true then false else ltF v u)=_
 by_cases z:eqF v u=true
 ·rw [if_pos z,g2.mp z]; exact (o.irr d).symm
 ·rw [if_neg z,g1]
theorem zlY_ [DecidableEq α] {T:Ty α}{C:Cs γ}{k:Nat}{ks:List Nat}{lt:α→α→Bool}{lt2:γ→γ→Bool}(f:FlT T k lt) (l:LxC C ks lt2):LxC (csCons T C) (k::ks) (lxP lt lt2):=by
 refine ⟨by simp,fun h=>?_,?_⟩
 ·rcases List.mem_cons.mp h with h | h
  ·exact f.1 h.symm
  ·exact l.2.1 h
 ·rintro c vs F ⟨v,us,rfl,hv,hus⟩
  obtain ⟨e,g⟩:=f.2 c.1 v F hv
  obtain ⟨e2,g'⟩:=l.2.2 c.2 us F hus
  refine ⟨by rw [List.map_cons,e,e2],?_⟩
  rintro d ws F' ⟨u,us',rfl,hu,hus'⟩
  obtain ⟨g1,g2⟩:=g d.1 u F' hu
  show (if eqF v u=true then lexV us us' else ltF v u)=lxP lt lt2 c d
  unfold lxP
  by_cases z:eqF v u=true
  ·rw [if_pos z,if_pos (g2.mp z)]; exact g' d.2 us' F' hus'
  ·rw [if_neg z,if_neg (fun q=>z (g2.mpr q)),g1]
theorem zfq_ {T:Ty α}{H:Hp}:∀ {xs:List α}{vs:List V},Prs T H xs vs→∀ (i:Nat) (v:V),vs[i]?=some v→∃ x,xs[i]?=some x∧T.R x v H
 | _,_,.nil,i,v,e=>by simp at e
 | _,_,.cons a t,0,v,e=>by simp at e; subst e; exact ⟨_,rfl,a⟩
 | _,_,.cons a t,i+1,v,e=>zfq_ t i v (by simpa using e)
theorem zgR_ {T:Ty α}{H:Hp}{xs:List α}{vs:List V}(r:Prs T H xs vs) (d:α):∀ (idx:List Nat),(∀ i∈idx,i<vs.length)→Prs T H (idx.map fun i=>xs.getD i d) (idx.map fun i=>vs.getD i .non)
 | [],_=>.nil
 | i::idx,h=>by
  have hi:=h i (List.mem_cons_self ..)
  obtain ⟨x,e,rx⟩:=zfq_ r i vs[i] (List.getElem?_eq_getElem hi)
  refine .cons ?_ (zgR_ r d idx fun j hj=>h j (List.mem_cons_of_mem _ hj))
  show T.R (xs.getD i d) (vs.getD i .non) H
  rw [List.getD_eq_getElem?_getD,List.getD_eq_getElem?_getD,e,List.getElem?_eq_getElem hi]
  exact rx
theorem zds_ {lt:α→α→Bool}(o:LOr lt) {xs:List α}{d:α}{idx:List Nat}(h:Srtd (fun i j=>lt (xs.getD i d) (xs.getD j d)) xs.length idx):(idx.map fun i=>xs.getD i d)=srtL lt xs:=by
 refine zc6_ o ?_ ?_
 ·have e:(List.range xs.length).map (fun i=>xs.getD i d)=xs:=by
   apply List.ext_getElem?
   intro i
   by_cases hi:i<xs.length
   ·simp [hi]
   ·simp [List.getElem?_eq_none,hi,Nat.le_of_not_lt hi]
  have:=h.1.map (fun i=>xs.getD i d)
  rwa [e] at this
 ·exact List.pairwise_map.mpr (h.2.imp fun q=>q)
theorem zkL_ {lt:α→α→Bool}(o:LOr lt) (f:Nat→α):WOr fun i j=>lt (f i) (f j):=⟨fun h=>o.asym h,fun h h'=>o.tr h h'⟩
theorem zee_ {b:Nat}(b0:0<b) {T:Ty α}{lt:α→α→Bool}(o:LOr lt) (sv:∀ (d:α) (xs:List α) (vs:List V) (F:Hp),Prs T F xs vs→SrtV K F vs fun i j=>lt (xs.getD i d) (xs.getD j d)) (mono:∀ {F H:Hp}{vs l},Same F H→SrtV K F vs l→SrtV K H vs l) :
  BlO K (mSorted b K) E (csLast (tyL T)) (fun l=>.grd (l.length<b) (.ok (srtL lt l))) (owL T):=by
 rintro c vs F H Q hs ⟨v,rfl,p,us,rfl,h,r⟩ q
 obtain ⟨h64,q⟩:=q.grd
 have hl:=Paired.length r
 cases c with
 | nil =>
  cases r
  refine ⟨[],fun _ _=>false,.of (hs _ _ h),b0,⟨(fun h=>by cases h),(fun _ _=>rfl)⟩,.inl ⟨1,by decide,(fun y hy=>by cases hy),(fun i j x y e=>by simp at e)⟩,fun idx hi l hl=>?_⟩
  have:idx=[]:=by have:=hi.1.length_eq; simpa using this
  subst this
  rw [show srtL lt ([]:List α)=[] by simp [srtL]] at q
  exact zaE_ hs hl (xs:=[]) .nil q
 | cons x xs =>
  refine ⟨us,fun i j=>lt ((x::xs).getD i x) ((x::xs).getD j x),.of (hs _ _ h),by lia,zkL_ o _,mono hs (sv x _ us F r),fun idx hi l hl2=>?_⟩
  rw [← hl] at hi
  have e:=zds_ o hi
  rw [← e] at q
  refine zaE_ hs hl2 (zgR_ r x idx fun i hi'=>?_) q
  have:=List.mem_range.mp (hi.1.mem_iff.mp hi')
  lia
theorem zhT_ {F H:Hp}{vs:List V}{l:Nat→Nat→Bool}(hs:Same F H) (h:SrtV K F vs l):SrtV K H vs l:=by
 rcases h with h | ⟨rows,ks,a,b,c,d⟩
 ·exact .inl h
 ·refine .inr ⟨rows,ks,a,b,fun i y e=>?_,d⟩
  obtain ⟨p,e1,e2,e3⟩:=c i y e
  exact ⟨p,e1,hs.tup e2,e3⟩
theorem zgQ_ {b:Nat}{C:Cs γ}{ks:List Nat}{lt:γ→γ→Bool}(l:LxC C ks lt) (o:LOr lt) (b0:0<b:=by decide):BlO K (mSorted b K) E (csLast (tyL (tyTup C))) (fun l=>.grd (l.length<b) (.ok (srtL lt l))) (owL (tyTup C)):=by
 refine zee_ b0 o (fun d xs vs F r=>?_) zhT_
 have hl:=Paired.length r
 have row:∀ i:Nat,∃ row:List V,∀ y:V,vs[i]?=some y→∃ (a:Addr) (c:γ),xs[i]?=some c∧y=V.ref a∧SqT K F a row∧C.R c row F:=fun i=>by
  cases e:vs[i]? with
  | none=>exact ⟨[],fun y h=>by cases h⟩
  | some y =>
   obtain ⟨x,ex,p,us,rfl,hp,hc⟩:=zfq_ r i y e
   refine ⟨us,fun y' h=>?_⟩
   injection h with h
   subst h
   exact ⟨p,x,ex,rfl,.of hp,hc⟩
 refine .inr ⟨fun i=>Classical.choose (row i),ks,l.1,l.2.1,fun i y e=>?_,fun i j hi hj=>?_⟩
 ·obtain ⟨a,c,ec,rfl,ht,hc⟩:=Classical.choose_spec (row i) y e
  exact ⟨a,rfl,ht,(l.2.2 c _ F hc).1⟩
 ·obtain ⟨a,c,ec,_,ht,hc⟩:=Classical.choose_spec (row i) _ (List.getElem?_eq_getElem hi)
  obtain ⟨a',c',ec',_,ht',hc'⟩:=Classical.choose_spec (row j) _ (List.getElem?_eq_getElem hj)
  show lt (xs.getD i d) (xs.getD j d)=_
  rw [List.getD_eq_getElem?_getD,List.getD_eq_getElem?_getD,ec,ec']
  exact ((l.2.2 c _ F hc).2 c' _ F hc').symm
end
end L2
universe u
namespace L2
open PySem PySem.Spec PyProof.Rows
section
variable {α γ:Type}{K:Fgg}{E:XK}{L:List Sl}{T:Ty α}{e:TE}
end
section
variable {α:Type}{K:Fgg}{E:XK}{L:List Sl}{T:Ty α}{F h H F0 H0:Hp}{ρ B S:Type}{LS:S→List Sl}{LB:B→List Sl}{O:Own ρ}
end
end L2
namespace L2
open PySem PySem.Spec PyProof.Rows PySem.W
section
variable {prog:Program}{w:World}{A:Around}{E:Value→Shared→Prop}{s:Shared}{T:String}{rr dd:Addr}{n:Nat}{PP:Nat→Value→Prop}{OK:Heap→Prop}
theorem zjQ_ {R:List Value→Shared→Prop}(Kd:KdlSrc prog w T rr dd n PP OK) (hh:A.handled=none) (hok:OK s.heap) (hn:n≤sizeLine)
  (hR:∀ (h':Heap) (tk:Nat) (acc:Array Value),s.heap.objs.size<h'.objs.size→(∀ b o,s.heap.get? b=some o→h'.get? b=some o)→ItemsOf PP acc n→R acc.toList { s with heap:=h',toks:=tk }) :
  wpAny (model prog w) A (collect (.ref rr)) R E s:=by
 obtain ⟨lr,ld⟩:=Kd.there _ hok
 unfold collect; refine wpAny_bind (wpAny_runValue (codeAny_builtin entry_proto_collect' ?_)); rw [Around.under_plainId PySem.F.plain_proto_collect _]
 show wpAny _ A.in1 (newList []>>=fun l=>again (.builtin "list.__iadd__" ⟨[l,.ref rr],[]⟩)) _ _ s; refine wpAny_bind (wpAny_newObj_type ?_)
 refine wpAny_pure ⟨plainId_quiet PySem.F.plain_list_iadd _,codeAny_builtin entry_list_iadd' ?_⟩; rw [Around.under_plainId PySem.F.plain_list_iadd _]
 have h0:(s.heap.push { cls:=.type "list",data:=.seq ([]:List Value).toArray }).get? s.heap.objs.size=some { cls:=.type "list",data:=.seq #[] }:=Heap.get?_push_size _ rfl
 show wpAny _ A.in1 (Builtin.List.listExtendWith (.ref s.heap.objs.size) (.ref rr) (.ref s.heap.objs.size)) _ _ _
 have key:=kdl_extend (A:=A) (s:={ s with heap:=s.heap.push { cls:=.type "list",data:=.seq ([]:List Value).toArray } })
  (R:=fun (q:Result) (s':Shared)=>∃ (h':Heap) (tk:Nat) (acc:Array Value) (c:Nat),q=.ok (.ret (.ref s.heap.objs.size))∧s'={ s with heap:=h',toks:=tk }∧(∀ b o,s.heap.get? b=some o→h'.get? b=some o)∧h'.get? s.heap.objs.size=some { cls:=.type "list",dict:=none,data:=.seq acc c,slots:=#[] }∧ItemsOf PP acc n)
  Kd hh (Kd.keep _ _ hok fun b _ o e=>Heap.get?_push_of_some _ e) s.heap.objs.size (Nat.ne_of_gt lr) (Nat.ne_of_gt ld) (.ref s.heap.objs.size) 0 h0
  (fun h' tk acc c hk hS hacc=>⟨h',tk,acc,c,rfl,rfl,fun b o e=>hk b o (Nat.ne_of_lt (Heap.lt_size e)) (Heap.get?_push_of_some _ e),hS,hacc⟩) hn
 refine wpAny_mono key (fun fin s' x=>?_) fun e s' x=>?_
 ·cases fin with
  | done f =>
   obtain ⟨h',tk,acc,c,e,rfl,hk,hS,hacc⟩:=x
   cases e; show wpAny _ A (load s.heap.objs.size>>=_) _ _ _
   exact wpAny_bind (wpAny_load hS (wpAny_pure (hR h' tk acc (Heap.lt_size hS) hk hacc)))
  | again c1 =>
   refine ⟨x.1,codeAny_mono x.2 fun q s2 y=>?_⟩; obtain ⟨h',tk,acc,c,rfl,rfl,hk,hS,hacc⟩:=y
   show wpAny _ A (load s.heap.objs.size>>=_) _ _ _; exact wpAny_bind (wpAny_load hS (wpAny_pure (hR h' tk acc (Heap.lt_size hS) hk hacc)))
 ·obtain ⟨_,_,_,_,e',_⟩:=x; cases e'
end
section
variable {prog:Program}{w:World}{A:Around}{E:Value→Shared→Prop}{s:Shared}{lt:Nat→Nat→Bool}
theorem zin_ {b:Nat}(hB:RunB b) {v:Value}{n:Nat}{PV:List Value→Prop}{Q:Value→Shared→Prop}(h64:n<b) (wo:WOr lt) (hlen:∀ vs,PV vs→vs.length=n)
  (col:∀ R:List Value→Shared→Prop,(∀ (vs:List Value) (h':Heap) (tk:Nat),PV vs→s.heap.objs.size≤h'.objs.size→(∀ b o,s.heap.get? b=some o→h'.get? b=some o)→R vs { s with heap:=h',toks:=tk })→wpAny (model prog w) A.in1 (collect v) R E s)
  (kk:∀ (vs:List Value),PV vs→2≤vs.length→∀ (h':Heap) (tk:Nat),(∀ b o,s.heap.get? b=some o→h'.get? b=some o)→CmpAt prog w vs lt { s with heap:=h',toks:=tk })
  (q:∀ (vs:List Value) (l:Addr) (h':Heap) (tk:Nat) c (p:List Nat),PV vs→s.heap.objs.size≤l→(∀ b o,s.heap.get? b=some o→h'.get? b=some o)→Srtd lt vs.length p→h'.get? l=some (seqObj "list" (p.map fun i=>vs.getD i Value.none).toArray c)→Q (.ref l) { s with heap:=h',toks:=tk }) :
  wpAny (model prog w) A (call (.builtin "sorted") [v]) Q E s:=by
 have hB1:=hB.1
 refine Calls.call_function_entry kind_sorted plain_sorted entry_sorted (args_sorted1 _) ?_
 unfold Builtin.«sorted»
 refine wpAny_bind (m:=checkCount "sorted" 1 1 _) (wpAny_pure ?_)
 refine wpAny_bind (col _ fun vs h1 tk pv hle k1=>?_)
 have hn:=hlen vs pv
 refine wpAny_bind (wpAny_newList ?_ (by rw [sizeLine_eq]; lia))
 have hoL:(h1.push (seqObj "list" vs.toArray 0)).get? h1.objs.size=some (seqObj "list" vs.toArray 0):=Heap.get?_push_size _ rfl
 have keep:∀ b o,s.heap.get? b=some o→(h1.push (seqObj "list" vs.toArray 0)).get? b=some o:=fun b o e=>Heap.get?_push_of_some _ (k1 b o e)
 show wpAny _ _ _ _ _ { s with heap:=h1.push (seqObj "list" vs.toArray 0),toks:=tk }
 have keep2:∀ (h':Heap),(∀ b o,b≠h1.objs.size→(h1.push (seqObj "list" vs.toArray 0)).get? b=some o→h'.get? b=some o)→∀ b o,s.heap.get? b=some o→h'.get? b=some o:=fun h' hk b o e =>
  hk b o (Nat.ne_of_lt (Heap.lt_size (k1 b o e))) (keep b o e)
 refine wpAny_bind (wpAny_holding (wpAny_call_entry slot_list_sort ⟨_,hoL,rfl⟩ entry_list_sort ?body (args_list_sort _)))
 case body =>
  refine zhf_ hB (s:={ s with heap:=h1.push (seqObj "list" vs.toArray 0),toks:=tk }) hoL (by lia) wo (fun h2 h' hk=>kk vs pv h2 h' tk (keep2 h' hk)) fun h' c p hk hp ho'=>?_
  exact ⟨_,rfl,wpAny_pure ⟨_,rfl,q vs _ h' tk c p pv hle (keep2 h' hk) hp ho'⟩⟩
end
section
variable {X:Cx}
theorem zkw_ {ys:List V}{its:List Value}{lt:Nat→Nat→Bool}{k:Nat}{s:Shared}(r':Vals ys its) (hk:k≠0) (hall:∀ y∈ys,knd y=k) (hlt:∀ i j x y,ys[i]?=some x→ys[j]?=some y→lt i j=ltF x y) (h2:2≤its.length) :
  CmpAt X.prog X.w its lt s:=by
 refine ⟨oneType',fun A C hC=>?_,fun A i j C hi hj hC=>?_⟩
 ·refine kas_kind h2 (T:=tyK k) (fun v hv=>?_) (zj9_ k) (zjR_ k) hC
  obtain ⟨i,hi⟩:=List.mem_iff_getElem?.mp hv
  obtain ⟨hi',_⟩:=List.getElem?_eq_some_iff.mp hi
  obtain ⟨y,_,ry,hy⟩:=zab_ r' hi'
  rw [List.getD_eq_getElem?_getD,hi] at ry
  exact zgK_ ry (hall y hy) hk
 ·obtain ⟨x,ex,rx,hx⟩:=zab_ r' hi
  obtain ⟨y,ey,ry,hy⟩:=zab_ r' hj
  rw [hlt i j x y ex ey] at hC
  unfold kas_ask
  rw [keyLt'_oneType]
  exact zg3_ rx ry (by rw [hall x hx,hall y hy]) (by rw [hall x hx]; exact hk) hC
def mSortD (b:Nat) (K:Fgg):List V→Hp→VK→Prop:=fun xs H Q=>mSorted b K xs H Q∨match xs with
 | [.ref p]=>∃ (kvs:List (Key×V)) (k:Nat) (lt:Nat→Nat→Bool),H p=some (.dK kvs)∧kvs.length<b∧WOr lt∧k≠0∧(∀ q∈kvs,knd (kV q.1)=k)∧(∀ i j x y,(kvs.map fun q:Key×V=>kV q.1)[i]?=some x→(kvs.map fun q=>kV q.1)[j]?=some y→lt i j=ltF x y) ∧
   ∀ idx,Srtd lt kvs.length idx→∀ l,H l=none→Q (.ref l) (upd H l (.lst (idx.map fun i=>(kvs.map fun q=>kV q.1).getD i .non)))
 | _=>False
theorem is_kV {P:Program}{w:World}{k:Key}{u:Value}(h:(mixKind P w).is k u=true):RelV (kV k) u:=by
 rw [zgn_] at h
 rcases zH_ h with ⟨i,t,rfl,rfl⟩ | ⟨x,t,rfl,rfl⟩<;>exact ⟨_,rfl⟩
theorem zco_ {b:Nat}(hB:RunB b) (hc:X.calm=true):CallR X (.builtin "sorted") (mSortD b X.K):=by
 have hB1:=hB.1
 intro pins s σ H xs us Q I r h
 unfold mSortD at h
 rcases h with h | h
 ·exact zew_ hB pins s σ H xs us Q I r h
 ·split at h
  ·rename_i p
   obtain ⟨kvs,k,lt,hp,h64,wo,hk,hall,hlt,q⟩:=h
   obtain ⟨u,rfl,rx⟩:=vals1 r
   cases rx
   obtain ⟨z,hd,vs,rel,dd⟩:=zlu_ I.hok (.inl hp)
   obtain ⟨ep,hat⟩:=dd.dictAt
   have hln:kvs.length=vs.length:=rel.length
   have hpv:∀ us:List Value,Vals (kvs.map fun q=>kV q.1) us→us.length=kvs.length:=fun us hv=>by rw [← Vals.length hv,List.length_map]
   refine zin_ hB (n:=kvs.length) (PV:=fun us=>Vals (kvs.map fun q=>kV q.1) us) h64 wo hpv (fun R hR=>?_) (fun us hv h2 h' tk _=>?_) fun us l h' tk c idx hv hl kp hi ho=>?_
   ·refine zjQ_ (kdl_dict (knd:=mixKind X.prog X.w) (kvs:=vs) (ep:=ep) hd) ?_ hat (by rw [← hln,sizeLine_eq]; lia) fun h' tk acc hsz hkp hacc=>hR _ h' tk ?_ (Nat.le_of_lt hsz) hkp
    ·exact I.ok.hd hc
    ·have hl:acc.toList.length=kvs.length:=by rw [Array.length_toList,hln]; exact hacc.1
     have e:∀ (ks:List (Key×V)) (us:List Value),ks.length=us.length→(∀ (i:Nat) (q:Key×V) (u:Value),ks[i]?=some q→us[i]?=some u→RelV (kV q.1) u)→Vals (ks.map fun q=>kV q.1) us:=by
      intro ks
      induction ks with
      | nil=>intro us hl _; cases us with | nil=>exact .nil | cons _ _=>simp at hl
      | cons q ks ih =>
       intro us hl hh
       cases us with
       | nil=>simp at hl
       | cons u us=>exact .cons (hh 0 q u rfl rfl) (ih us (by simpa using hl) fun i q' u' e1 e2=>hh (i+1) q' u' (by simpa using e1) (by simpa using e2))
     refine e kvs acc.toList hl.symm fun i q u e1 e2=>?_
     obtain ⟨k',x,ek,hk'⟩:=hacc.2 i u (by rw [← Array.getElem?_toList]; exact e2)
     have:∀ (a:List (Key×V)) (b:List (Key×Value)) (i:Nat) q k' x,KV a b→a[i]?=some q→b[i]?=some (k',x)→q.1=k':=by
      intro a b i q k' x hab
      unfold KV at hab
      induction hab generalizing i with
      | nil=>intro e; simp at e
      | cons r t ih =>
       intro e1 e2
       cases i with
       | zero=>simp at e1 e2; subst e1; have:=r.1; rw [e2] at this; exact this
       | succ i=>exact ih i (by simpa using e1) (by simpa using e2)
     rw [this kvs vs i q k' x rel e1 ek]
     exact is_kV hk'
   ·refine zkw_ hv hk (fun y hy=>?_) hlt h2
    obtain ⟨q,hq,rfl⟩:=List.mem_map.mp hy
    exact hall q hq
   ·have hlu:=hpv us hv
    refine ⟨.ref l,_,I.laid (o:=.lst (idx.map fun i=>(kvs.map fun q=>kV q.1).getD i .non)) (t':=tk) kp hl ?_,rfl,q idx (by rwa [← hlu]) _ (I.hok.fresh hl)⟩
    have hi1:∀ i∈idx,i<us.length:=fun i hi'=>List.mem_range.mp (hi.1.mem_iff.mp hi')
    refine ⟨?_,_,c,zeJ_ hv idx hi1,ho⟩
    rw [List.length_map,hi.1.length_eq,List.length_range,sizeLine_eq]
    lia
  ·exact h.elim
end
section
variable {α β γ κ:Type}{K:Fgg}{E:XK}
theorem zlA_ {b:Nat}{C:Cs γ}{f:γ→Mo α}{O:Own α}(h:BlO K (mSorted b K) E C f O):BlO K (mSortD b K) E C f O:=by
 intro c vs F H Q hs hc q
 exact .inl (h c vs F H Q hs hc q)
theorem zf9_ {b:Nat} [DecidableEq κ] {KY:KyT κ}{T:Ty α}{k:Nat}{lt:κ→κ→Bool}(f:FlT KY.T k lt) (o:LOr lt) (hk:∀ x F,KY.T.R x (kV (KY.key x)) F) (b0:0<b:=by decide) :
  BlO K (mSortD b K) E (csLast (tyD KY T)) (fun m=>.grd (m.length<b) (.ok (srtL lt (m.map (·.1))))) (owL KY.T):=by
 rintro m vs F H Q hs ⟨v,rfl,p,kvs,rfl,h,r⟩ q
 have hl:m.length=kvs.length:=Paired.length r
 have pr:Prs KY.T F (m.map (·.1)) (kvs.map fun q=>kV q.1):=by
  clear h hl q
  induction r with
  | nil=>exact .nil
  | cons a t ih=>rename_i q w m kvs; rw [List.map_cons,List.map_cons,a.1]; exact .cons (hk _ _) ih
 obtain ⟨h64,q⟩:=q.grd
 have all:∀ q∈kvs,knd (kV q.1)=k:=fun q hq=>by
  obtain ⟨i,e⟩:=List.mem_iff_getElem?.mp (List.mem_map_of_mem (f:=fun q:Key×V=>kV q.1) hq)
  obtain ⟨x,_,rx⟩:=zfq_ pr i _ e
  exact (f.2 x _ F rx).1
 cases m with
 | nil =>
  cases r
  refine .inr ⟨[],1,fun _ _=>false,hs _ _ h,b0,⟨(fun h=>by cases h),(fun _ _=>rfl)⟩,by decide,(fun y hy=>by cases hy),(fun i j x y e=>by simp at e),fun idx hi l hl=>?_⟩
  have:idx=[]:=by have:=hi.1.length_eq; simpa using this
  subst this
  rw [show srtL lt (([]:List (κ×α)).map (·.1))=[] by simp [srtL]] at q
  exact zaE_ hs hl (xs:=[]) .nil q
 | cons x xs =>
  refine .inr ⟨kvs,k,fun i j=>lt (((x::xs).map (·.1)).getD i x.1) (((x::xs).map (·.1)).getD j x.1),hs _ _ h,by omega,zkL_ o _,f.1,all,fun i j a b ea eb=>?_,fun idx hi l hl2=>?_⟩
  ·obtain ⟨a',ea',ra⟩:=zfq_ pr i a ea
   obtain ⟨b',eb',rb⟩:=zfq_ pr j b eb
   show lt (((x::xs).map (·.1)).getD i x.1) (((x::xs).map (·.1)).getD j x.1)=_
   rw [List.getD_eq_getElem?_getD,List.getD_eq_getElem?_getD,ea',eb']
   exact ((f.2 a' a F ra).2 b' b F rb).1.symm
  ·rw [← hl,← List.length_map (f:=(·.1))] at hi
   have e:=zds_ o hi
   rw [← e] at q
   refine zaE_ hs hl2 (zgR_ pr x.1 idx fun i hi'=>?_) q
   have:=List.mem_range.mp (hi.1.mem_iff.mp hi')
   rw [List.length_map] at this ⊢
   omega
theorem zmG_ (x:Int) (F:Hp):(kInt).T.R x (kV (kInt.key x)) F:=rfl
end
end L2
namespace L2
open PySem PySem.Spec PyProof.Rows PySem.W
section
variable {prog:Program}{w:World}{A:Around}{E:Value→Shared→Prop}{s:Shared}{z ti to i j:Addr}{f g:List Addr}{n1 n2 k:Nat}{P1 P2:Nat→Value→Prop}{S1 S2:Nat→Heap→Prop}{a b:Value}
end
end L2
namespace L2
open PySem PySem.Spec PyProof.Rows PySem.W
section
variable {prog:Program}{w:World}{A:Around}{E:Value→Shared→Prop}{s:Shared}
end
section
variable {X:Cx}{elts:List Expr}{kk:Nat}{tpos:Pos}
end
section
variable {K:Fgg}{E:XK}{α β:Type}{L:List Sl}{T:Ty α}
end
end L2
namespace L2
open PySem PySem.Spec PyProof.Rows
section
variable {K:Fgg}{E:XK}{α β γ ρ S B:Type}{F0 H0 F h H:Hp}{L:List Sl}{e:TE}{T:Ty α}{r:Mo α}{O:Own ρ}{u:TS}{LS:S→List Sl}{LB:B→List Sl}
end
section
variable {K:Fgg}{E:XK}{α β γ ρ S B:Type}{F0 H0 F h H:Hp}{L:List Sl}{e:TE}{T:Ty α}{r:Mo α}{O:Own ρ}{u:TS}{LS:S→List Sl}{LB:B→List Sl}{p:Addr}{vs:List V}
end
end L2
namespace L2
open PySem PySem.Spec PyProof.Rows
section
variable {α β γ:Type}
variable {O:Own α}
end
section
variable {K:Fgg}{E:XK}{α β γ ρ S B:Type}{F0 H0 F h H:Hp}{L:List Sl}{e te ei:TE}{T:Ty α}{r:Mo α}{Or:Own ρ}{u:TS}{LS:S→List Sl}{LB:B→List Sl}{σ:St}
end
end L2
namespace L2
open PySem PySem.Spec PyProof.Rows
section
variable {X:Cx}{e value o:Expr}{es:List Expr}{f m x:Str}{p pos pos' apos:Pos}{ta tv:TE}{t:TA}{C:Addr}{k:Nat}{ps:List Str}{sp:Sp}
end
section
variable {α β γ:Type}
end
section
variable {K:Fgg}{E:XK}{α β γ δ ρ S B:Type}{F0 H0 F h H:Hp}{L:List Sl}{e te ei:TE}{T:Ty α}{r:Mo α}{Or:Own ρ}{u:TS}{LS:S→List Sl}{LB:B→List Sl}{σ:St}{C:Addr}{ns:List Str}{f:Str}{i n:Nat}
end
end L2
namespace L2
open PySem PySem.Spec PyProof.Rows
section
variable {K:Fgg}{E:XK}{α β γ δ ρ ρ' S B:Type}{F0 H0 F h H:Hp}{L:List Sl}{e te ei:TE}{T:Ty α}{r:Mo α}{Or:Own ρ}{t u:TS}{LS:S→List Sl}{LB:B→List Sl}{σ:St}{C:Addr}{ns:List Str}{f m:Str}{i n:Nat}
end
end L2
namespace L2
open PySem PySem.Spec PyProof.Rows
section
variable {K:Fgg}{E:XK}{α β γ δ ρ ρ' S B:Type}{F0 H0 F h H:Hp}{L:List Sl}{e te ei:TE}{T:Ty α}{r:Mo α}{Or:Own ρ}{t u:TS}{LS:S→List Sl}{LB:B→List Sl}{σ:St}{C:Addr}{ns:List Str}{f m:Str}{i n:Nat}
end
end L2
namespace L2
open PySem PySem.Spec PyProof.Rows
section
variable {K:Fgg}{E:XK}{γ:Type}{L:List Sl}{C:Addr}{ns:List Str}
end
end L2
namespace L2
open PySem PySem.Spec PyProof.Rows
def splitG (sep l:List Nat):List (List Nat):=(Txt.split ⟨l.toArray⟩ ⟨sep.toArray⟩).map fun p=>p.cps.toList
def joinL (sep:List Nat):List (List Nat)→List Nat
 | []=>[]
 | [p]=>p
 | p::q::r=>p++sep++joinL sep (q::r)
theorem zbz_ (y:Str):∀ ps:List Str,(Str.join y ps).cps.toList=joinL y.cps.toList (ps.map fun p=>p.cps.toList)
 | []=>rfl
 | [p]=>rfl
 | p::q::r=>by
  show (p++y++Str.join y (q::r)).cps.toList=_
  rw [zd6_,zd6_,zbz_ y (q::r)]
  rfl
theorem zfH_ (sep:List Nat) (ps:List (List Nat)):joinS sep (strsL ps)=joinL sep ps:=by
 have:=zbz_ ⟨sep.toArray⟩ (strsL ps)
 unfold joinS
 refine Eq.trans ?_ (this.trans ?_)
 ·rw [eq_of_beq (PyProof.Rows.join_closes (sep:=⟨sep.toArray⟩) (ys:=strsL ps) rfl)]
 ·unfold strsL
  rw [List.map_map]
  congr 1
  exact (List.map_congr_left fun p _=>rfl).trans (List.map_id _)
end L2
namespace L2
open PySem PySem.Spec PyProof.Rows
section
variable {X:Cx}
def mSplitG:V→List V→Hp→VK→Prop:=fun x xs H Q=>match x,xs with
 | .str l,[.str y]=>l.cps.toList.length≤100000∧y.cps.toList≠[]∧∀ p,H p=none→Q (.ref p) (upd H p (.lst ((splitG y.cps.toList l.cps.toList).map tx)))
 | _,_=>False
theorem zbe_:MtR X "str.split" mSplitG:=by
 intro pins s σ H x xs v us Q I rx rv h
 unfold mSplitG at h
 split at h
 ·rename_i l y
  obtain ⟨k,rfl⟩:=rx
  obtain ⟨u,rfl,ru⟩:=rv.one
  obtain ⟨k',rfl⟩:=ru
  obtain ⟨hl,hy,q⟩:=h
  have hll:l.length=l.cps.toList.length:=by simp [Str.length]
  have hyl:(y.length == 0)=false:=by
   have:y.length≠0:=fun e=>hy (by
    have e2:y.cps.toList.length=0:=by simpa [Str.length] using e
    exact List.length_eq_zero_iff.mp e2)
   simpa using this
  have hsl:=split_le l y
  refine LX.split_push hyl (fun lz k2 e=>?_) (by rw [hll]; exact zb5_ hl) (by
   rw [len_partsBetween]
   have:=StrLaws.occ_length_le l y 0 l.length (l.length+1)
   rw [sizeLine_eq]; lia)
  have e1:splitG y.cps.toList l.cps.toList=(Txt.split l y).map fun p=>p.cps.toList:=by
   unfold splitG; rw [← zM_ l,← zM_ y]
  have e2:(splitG y.cps.toList l.cps.toList).map tx=lz.map fun p=>tx p.1.cps.toList:=by
   rw [e1,← e,List.map_map,List.map_map]
   rfl
  have e3:(splitG y.cps.toList l.cps.toList).length≤100002:=by
   rw [e1,List.length_map]; lia
  refine ⟨.ref s.heap.objs.size,_,I.laid (o:=.lst ((splitG y.cps.toList l.cps.toList).map tx)) (t':=k2) (fun b ob q=>Heap.get?_push_of_some _ q) (Nat.le_refl _) ?_,rfl,q _ (I.hok.fresh (Nat.le_refl _))⟩
  refine ⟨by rw [List.length_map,sizeLine_eq]; lia,strValues lz,0,?_,Heap.get?_push_size _ rfl⟩
  rw [e2]
  exact zdJ_ lz
 ·exact h.elim
def mTrL (K:Fgg) (t:TE):TT:=fun σ H Q=>t σ H fun x H'=>match x with
 | .bl k=>Q k H'
 | .ref a=>∃ xs,SqL K H' a xs∧Q (!xs.isEmpty) H'
 | _=>False
theorem zlB_ {e:Expr}{t:TE}(h:PE X e t) (he:∀ whole,isTrue e X.env whole=(do let v ← whole; standAt e.pos; holding [v] (truthy v)):=by intro _; rfl):PT X e (mTrL X.K t):=by
 intro pins s σ H Q I hw
 refine isTrue_plain (thn (h pins s σ H _ I hw) fun v s1 hq_=>?_) (he _)
 obtain ⟨x,H1,I1,r1,q1⟩:=hq_
 cases x with
 | bl c=>cases r1; exact wpAny_truthy_bool ⟨H1,I1,q1⟩
 | ref a =>
  cases r1
  obtain ⟨xs,hq,q⟩:=q1
  obtain ⟨its,rv,p,hz⟩:=I1.list hq
  have hl:=rv.length
  refine wpAny_truthy_list p.isList (by rw [List.size_toArray,← hl]; rw [sizeLine_eq] at hz; lia) ?_
  have e:its.isEmpty=xs.isEmpty:=by cases rv<;>rfl
  refine ⟨H1,I1.tok _,?_⟩
  simpa [e] using q
 | _=>exact q1.elim
end
section
variable {K:Fgg}{E:XK}{α β:Type}{L:List Sl}{e:TE}{T:Ty α}
theorem zbb_:MeO K mSplitG E (csLast tyStr) (fun l c=>.grd (l.length≤100000∧c≠[]) (.ok (splitG c l))) (owL tyStr):=by
 rintro l c vs F H Q hs ⟨v,rfl,rfl⟩ q
 obtain ⟨⟨z1,z2⟩,q⟩:=q.grd
 refine ⟨by simpa using z1,by simpa using z2,fun p hp=>?_⟩
 have pr:∀ ls:List (List Nat),Prs tyStr F ls (ls.map tx):=fun ls=>by
  induction ls with
  | nil=>exact .nil
  | cons x xs ih=>exact .cons rfl ih
 exact zaE_ hs hp (pr _) q
theorem zma_ {b:Mo Bool}(h:EvF K e E L b tyBl):EvT K (mTrL K e) E L b:=by
 intro σ F H Q hL hs q
 refine h σ F H _ hL hs (q.imp fun a F1 H1 x k v hv=>?_)
 cases hv
 exact k
theorem zmH_:Bl K (mAll K) E (csLast (tyL tyBl)) (fun l=>.ok (l.all id)) tyBl:=by
 rintro c vs F H Q hs ⟨v,rfl,p,us,rfl,h,r⟩ q
 refine ⟨c,?_,q.ok hs _ rfl⟩
 have e:us=c.map V.bl:=by
  clear h q
  induction r with
  | nil=>rfl
  | cons a t ih=>rw [List.map_cons,← ih]; exact congrArg (·::_) a
 rw [← e]
 exact .of (hs _ _ h)
theorem z0_ {r:Mo (Option α)}(h:EvF K e E L r (tyOpt T)):EvF K e E L (r.bind fun o=>Mo.opt o) T:=by
 intro σ F H Q hL hs q
 refine h σ F H _ hL hs (q.bind.imp fun o F1 H1 x k v hv=>?_)
 cases o with
 | none=>exact k.elim
 | some a=>exact k.ok x.2.1 v hv.1
theorem zke_:Flt (tyOpt tyInt) (fun a b=>decide (a=b)):=⟨fun {a x H} h=>by
  cases a with
  | none=>cases h; rfl
  | some i=>cases h.1; rfl,
 fun {a b x y H} h h'=>by
  cases a with
  | none =>
   cases h
   cases b with
   | none=>cases h'; unfold eqV; simp
   | some j=>cases h'.1; unfold eqV; simp
  | some i =>
   cases h.1
   cases b with
   | none=>cases h'; unfold eqV; simp
   | some j=>cases h'.1; unfold eqV; simp; rfl⟩
end
end L2
namespace L2
open PySem PySem.Spec PyProof.Rows
end L2
namespace L2
open PySem PySem.Spec PyProof.Rows
section
variable {prog:Program}{w:World}{A:Around}{E:Value→Shared→Prop}{s:Shared}
end
section
variable {X:Cx}
end
section
variable {K:Fgg}{E:XK}{α β γ ρ S B:Type}{F H:Hp}{L:List Sl}{e:TE}{T:Ty α}
end
end L2
namespace L2
open PySem PySem.Spec PyProof.Rows
section
variable {α β γ:Type}
end
section
variable {K:Fgg}{E:XK}{α β γ δ ρ ρ' S B:Type}{F0 H0 F h H:Hp}{L:List Sl}{e te ei:TE}{T:Ty α}{r:Mo α}{Or:Own ρ}{t u:TS}{LS:S→List Sl}{LB:B→List Sl}{σ:St}{C:Addr}{ns:List Str}{f m:Str}{i n w:Nat}
end
end L2
namespace L2
open PySem PySem.Spec PyProof.Rows
section
variable {K:Fgg}{E:XK}{α β γ δ ρ ρ' S B:Type}{F0 H0 F h H:Hp}{L:List Sl}{e te ei tc:TE}{T:Ty α}{r:Mo α}{Or:Own ρ}{Or':Own ρ'}{t u:TS}{LS:S→List Sl}{LB:B→List Sl}{σ:St}{C:Addr}{ns:List Str}{f m:Str}{i n w j:Nat}
end
end L2
namespace L2
open PySem PySem.Spec PyProof.Rows
section
variable {K:Fgg}{E:XK}{α β γ δ ρ ρ' S B:Type}{F0 H0 F h H:Hp}{L:List Sl}{e te ei tc:TE}{T:Ty α}{r:Mo α}{Or:Own ρ}{Or':Own ρ'}{t u:TS}{LS:S→List Sl}{LB:B→List Sl}{σ:St}{C:Addr}{ns:List Str}{f m:Str}{i n w j:Nat}
section
open PySem PySem.Spec PyProof.Rows PySem.W
variable {κ:Type}
end
theorem zbs_ {α:Type}{us:List α}{n:Nat}(h:us.length=n+1):∃ a t,us=a::t∧t.length=n:=by
 cases us with
 | nil=>cases h
 | cons a t=>exact ⟨a,t,rfl,Nat.succ.inj h⟩
theorem Fun.binds1 {x qual:Str}{st:Stmt}{f:Addr}{fd:FuncData}{ps:List Str}(hp:ps.length=1) (F:Fun K x qual st f fd) (h:∀ (kV doc pm:Value) (an:Option Addr) (cdv ct:Value) (ua:Value),bindArgs (PySem.W.fnOf x qual (defArgs st) (defBody st) (defScope st) .none kV doc pm an cdv ct) ⟨[ua],[]⟩=pure (ps.zip [ua])):Binds K fd ps []:=by
 refine F.binds fun kV doc pm an cdv ct us hl=>?_
 have h0:=hl.trans hp
 obtain ⟨ua,t1,rfl,h1⟩:=zbs_ h0
 cases List.length_eq_zero_iff.mp h1
 exact h kV doc pm an cdv ct ua
theorem Fun.binds2 {x qual:Str}{st:Stmt}{f:Addr}{fd:FuncData}{ps:List Str}(hp:ps.length=2) (F:Fun K x qual st f fd) (h:∀ (kV doc pm:Value) (an:Option Addr) (cdv ct:Value) (ua ub:Value),bindArgs (PySem.W.fnOf x qual (defArgs st) (defBody st) (defScope st) .none kV doc pm an cdv ct) ⟨[ua,ub],[]⟩=pure (ps.zip [ua,ub])):Binds K fd ps []:=by
 refine F.binds fun kV doc pm an cdv ct us hl=>?_
 have h0:=hl.trans hp
 obtain ⟨ua,t1,rfl,h1⟩:=zbs_ h0
 obtain ⟨ub,t2,rfl,h2⟩:=zbs_ h1
 cases List.length_eq_zero_iff.mp h2
 exact h kV doc pm an cdv ct ua ub
theorem Fun.binds3 {x qual:Str}{st:Stmt}{f:Addr}{fd:FuncData}{ps:List Str}(hp:ps.length=3) (F:Fun K x qual st f fd) (h:∀ (kV doc pm:Value) (an:Option Addr) (cdv ct:Value) (ua ub uc:Value),bindArgs (PySem.W.fnOf x qual (defArgs st) (defBody st) (defScope st) .none kV doc pm an cdv ct) ⟨[ua,ub,uc],[]⟩=pure (ps.zip [ua,ub,uc])):Binds K fd ps []:=by
 refine F.binds fun kV doc pm an cdv ct us hl=>?_
 have h0:=hl.trans hp
 obtain ⟨ua,t1,rfl,h1⟩:=zbs_ h0
 obtain ⟨ub,t2,rfl,h2⟩:=zbs_ h1
 obtain ⟨uc,t3,rfl,h3⟩:=zbs_ h2
 cases List.length_eq_zero_iff.mp h3
 exact h kV doc pm an cdv ct ua ub uc
end
end L2
namespace L2
open PySem PySem.Spec PyProof.Rows
section
variable {K:Fgg}{E:XK}{L:List Sl}
end
section
variable {K:Fgg}{E:XK}{α β ρ B:Type}{F0 H0 F h H:Hp}{L:List Sl}{te:TE}{Or:Own ρ}{tb:TS}{LB:B→List Sl}{i w:Nat}
end
end L2
namespace L2
open PySem PySem.Spec PyProof.Rows
section
variable {K:Fgg}{E:XK}{α β γ δ ρ ρ' S B:Type}{F0 H0 F h H:Hp}{L:List Sl}{e te ei tc:TE}{ta:TA}{T:Ty α}{r:Mo α}{Or:Own ρ}{Or':Own ρ'}{t u:TS}{LS:S→List Sl}{LB:B→List Sl}{σ:St}{C:Addr}{ns:List Str}{f m:Str}{i n w j:Nat}
end
end L2
namespace L2
open PySem PySem.Spec PyProof.Rows
section
variable {K:Fgg}{E:XK}{α κ:Type} [DecidableEq κ] {KY:KyT κ}{L:List Sl}{e1 e2 e3:TE}{T:Ty α}
end
section
variable {K:Fgg}{E:XK}{α β ρ ρ' B:Type}{L:List Sl}{te:TE}{Or:Own ρ}{Or':Own ρ'}{LB:B→List Sl}{C:Addr}{ns:List Str}{m:Str}{i w:Nat}
end
end L2
namespace L2
open PySem PySem.Spec PyProof.Rows
section
variable {K:Fgg}{E:XK}{α β γ δ ρ ρ' S B:Type}{F0 H0 F h H:Hp}{L:List Sl}{e te te2 tc:TE}{ta:TA}{T:Ty α}{r:Mo α}{Or:Own ρ}{Or':Own ρ'}{t u:TS}{LS:S→List Sl}{LB:B→List Sl}{σ:St}{C:Addr}{ns:List Str}{f m:Str}{i n w j:Nat}
end
theorem atF {K:Fgg}{E:XK}{α:Type}{e:TE}{r:Mo α}{T:Ty α}(L:List Sl) (h:EvF K e E L r T):EvF K e E L r T:=h
end L2
namespace L2
open PySem PySem.Spec PyProof.Rows
section
variable {X:Cx}{tg:Expr}
end
section
variable {K:Fgg}{E:XK}{α β:Type}{L:List Sl}{T:Ty α}
end
section
variable {X:Cx}{o e f:Expr}{apos cpos:Pos}{td ty tz:TE}
end
section
variable {K:Fgg}{E:XK}{α β γ ρ κ S B:Type}{F0 H0 F h H:Hp}{L:List Sl}{T:Ty α}{O:Own ρ}{t u:TS}{LS:S→List Sl}{LB:B→List Sl}{KY:KyT κ} [DecidableEq κ]
end
end L2
namespace L2
open PySem PySem.Spec PyProof.Rows
section
variable {X:Cx}{pins:Pnn}{σ:St}{H:Hp}{s:Shared}{d:Addr}{o:Obj}{kvs:List (Key×V)}
end
section
variable {X:Cx}{e:Expr}{te:TE}{apos cpos pos tpos:Pos}{elts:List Expr}{kk:Nat}
end
section
variable {F0 H0 F1 H1 F h H:Hp}{d:Addr}{o:Obj}{u:HO}
end
section
variable {K:Fgg}{E:XK}{α β γ ρ κ S B:Type}{L Li:List Sl}{T:Ty α}{O:Own ρ}{LB:B→List Sl}{KY:KyT κ}
end
end L2
namespace L2
open PySem PySem.Spec PyProof.Rows
section
variable {K:Fgg}{E:XK}{α β γ ρ κ S B:Type}{F0 H0 F h H:Hp}{L:List Sl}{T:Ty α}{O:Own ρ}{t u:TS}{e e1 e2:TE}{LS:S→List Sl}{LB:B→List Sl}{KY:KyT κ}
theorem zlt_ {i:Nat}{o:Option α}{k:α→Mo (Out ρ B S)}(hi:L[i]?=some (.fz (tyOpt T) o)) (hk:∀ a,EvS K u E (L.set i (.fz T a)) (k a) LS LB O):EvS K u E L ((Mo.opt o).bind k) LS LB O:=by
 cases o with
 | none=>exact fun F0 H0 σ F h H D hL ok fin=>fin.elim
 | some a =>
  intro F0 H0 σ F h H D hL ok fin
  refine hk a F0 H0 σ F h H D ?_ ok fin
  obtain ⟨o,h1,h2,e1,j,⟨v,e2,r,_⟩,f⟩:=hL.at i hi
  subst e2
  have g:=f (.fz T a) (some v) h1 h j ⟨v,rfl,r⟩
  rw [zcp_ e1] at g
  exact g
variable [DecidableEq κ]
end
section
variable {K:Fgg}{E:XK}{α κ:Type}{T:Ty α}{KY:KyT κ} [DecidableEq κ]
end
end L2
namespace L2
open PySem PySem.Spec PyProof.Rows
section
variable {X:Cx}{pins:Pnn}{σ:St}{H:Hp}{s:Shared}{A:Around}{p q:Addr}{ka kb:List (Key×V)}
end
section
variable {K:Fgg}{E:XK}
end
end L2
namespace L2
open PySem PySem.Spec PyProof.Rows
section
variable {K:Fgg}{E:XK}{L:List Sl}{e:TE}
end
end L2
namespace L2
open PySem PySem.Spec PyProof.Rows
section
variable {K:Fgg}{E:XK}{α β γ ρ ρ' S B:Type}{F0 H0 F h H:Hp}{L:List Sl}{T:Ty α}{Or:Own ρ}{t u:TS}{e e1 e2 te:TE}{LS:S→List Sl}{LB:B→List Sl}{i j:Nat}{σ:St}
end
section
variable {K:Fgg}{E:XK}{α β γ ρ κ S B:Type}{T:Ty α}{O:Own ρ}{LB:B→List Sl}{KY:KyT κ}
theorem zkO_ {C:Cs γ}{n:Nat}(hn:CsN C n):Bl K (mLen K) E (csLast (tyTup C)) (fun _=>.ok (n:Int)) tyInt:=by
 rintro c vs F H Q hs ⟨v,rfl,p,us,rfl,h,r⟩ q
 exact ⟨us,.inr (.of (hs _ _ h)),q.ok hs _ (by rw [hn r])⟩
end
end L2
namespace L2
open PySem PySem.Spec PyProof.Rows
section
variable {K:Fgg}{E E0:XK}{α β γ ρ ρ' S B:Type}{F0 H0 F h H:Hp}{L:List Sl}{T:Ty α}{Or:Own ρ}{t u:TS}{e te:TE}{LS:S→List Sl}{LB:B→List Sl}{i j n:Nat}{σ:St}
variable {tc te2:TE}{w:Nat}
end
end L2
namespace L2
open PySem PySem.Spec PyProof.Rows
def Fi (K:Fgg) (x q:Str) (st:Stmt) (f:Addr):Prop:=∃ (oc:Value) (od:Option Addr) (kV doc pm:Value) (an:Option Addr) (cdv ct:Value) (osl:Array (Option Value)),
 K.lookup f=some ⟨oc,od,.func (PySem.W.fnOf x q (defArgs st) (defBody st) (defScope st) .none kV doc pm an cdv ct),osl⟩∧PySem.W.codeIn K cdv q=true∧PySem.W.keepIn K (.ref f)=true
def Fg (K:Fgg) (x:Str) (st:Stmt):Prop:=∃ f,PySem.W.nsIn K mainGlobals x=some (some (.ref f))∧Fi K x x st f
def Fm (K:Fgg) (c m q:Str) (st:Stmt):Prop:=∃ cw f,PySem.W.nsIn K mainGlobals c=some (some (.ref cw))∧PySem.W.findIn K (.ref cw) m=some (some (.ref f))∧PySem.W.isFn K (.ref f)=true∧Fi K m q st f
def Fc (K:Fgg) (c:Str):Prop:=∃ cw,PySem.W.nsIn K mainGlobals c=some (some (.ref cw))∧PySem.W.plainGet K cw Str.empty=true∧PySem.W.hasDictIn K cw=true∧PySem.W.plainOver K cw=true ∧
 PySem.W.findIn K (.ref cw) "__setattr__" = some (some (.builtin "object.__setattr__"))∧PySem.W.makesIn K cw=true∧PySem.W.keepIn K (.ref cw)=true
def Fa (K:Fgg) (c a:Str):Prop:=∃ cw,PySem.W.nsIn K mainGlobals c=some (some (.ref cw))∧PySem.W.findIn K (.ref cw) a=some none
def Fb (K:Fgg) (x:Str):Prop:=PySem.W.nsIn K mainGlobals x=some none
def Fv (K:Fgg) (x:Str) (v:V):Prop:=∃ u,PySem.W.nsIn K mainGlobals x=some (some u)∧RelV v u
def Fk (K:Fgg) (x:Str):Prop:=∃ c,PySem.W.nsIn K mainGlobals x=some (some (.ref c))
def Mgo (K:Fgg) (mg:Str→Option Value):Prop:=∃ h:Heap,K.In h∧h.Ns mainGlobals mg
section
variable {P:Program}{w:World}{K:Fgg}{mg:Str→Option Value}{base:Heap}{CX:CXT}{x q c m a:Str}{st:Stmt}{f:Addr}{fd:FuncData}{N ps:List Str}{k j:Nat}{sp:Sp}{A:Around}{v:V}
theorem Fg.mk_ {oc:Value}{od:Option Addr}{kV doc pm:Value}{an:Option Addr}{cdv ct:Value}{osl:Array (Option Value)}(h:PySem.W.nsIn K mainGlobals x=some (some (.ref f))) (l:K.lookup f=some ⟨oc,od,.func (PySem.W.fnOf x x (defArgs st) (defBody st) (defScope st) .none kV doc pm an cdv ct),osl⟩) (c:PySem.W.codeIn K cdv x=true) (k:PySem.W.keepIn K (.ref f)=true):Fg K x st:=⟨f,h,oc,od,kV,doc,pm,an,cdv,ct,osl,l,c,k⟩
theorem Fm.mk_ {cw:Addr}{oc:Value}{od:Option Addr}{kV doc pm:Value}{an:Option Addr}{cdv ct:Value}{osl:Array (Option Value)}(h:PySem.W.nsIn K mainGlobals c=some (some (.ref cw))) (h1:PySem.W.findIn K (.ref cw) m=some (some (.ref f))) (h2:PySem.W.isFn K (.ref f)=true) (l:K.lookup f=some ⟨oc,od,.func (PySem.W.fnOf m q (defArgs st) (defBody st) (defScope st) .none kV doc pm an cdv ct),osl⟩) (h3:PySem.W.codeIn K cdv q=true) (k:PySem.W.keepIn K (.ref f)=true):Fm K c m q st:=⟨cw,f,h,h1,h2,oc,od,kV,doc,pm,an,cdv,ct,osl,l,h3,k⟩
theorem Fc.mk_ {cw:Addr}(h:PySem.W.nsIn K mainGlobals c=some (some (.ref cw))) (h1:PySem.W.plainGet K cw Str.empty=true) (h2:PySem.W.hasDictIn K cw=true) (h3:PySem.W.plainOver K cw=true) (h4:PySem.W.findIn K (.ref cw) "__setattr__" = some (some (.builtin "object.__setattr__"))) (h5:PySem.W.makesIn K cw=true) (h6:PySem.W.keepIn K (.ref cw)=true):Fc K c:=⟨cw,h,h1,h2,h3,h4,h5,h6⟩
theorem Fa.mk_ {cw:Addr}(h:PySem.W.nsIn K mainGlobals c=some (some (.ref cw))) (h1:PySem.W.findIn K (.ref cw) a=some none):Fa K c a:=⟨cw,h,h1⟩
theorem Fv.mk_ {u:Value}(h:PySem.W.nsIn K mainGlobals x=some (some u)) (h1:RelV v u):Fv K x v:=⟨u,h,h1⟩
theorem Fk.mk_ {cw:Addr}(h:PySem.W.nsIn K mainGlobals x=some (some (.ref cw))):Fk K x:=⟨cw,h⟩
theorem Fi.fun_ (h:Fi K x q st f):∃ fd,Fun K x q st f fd:=by
 obtain ⟨oc,od,kV,doc,pm,an,cdv,ct,osl,l,c,k⟩:=h
 exact ⟨_,zlL_ l c k⟩
theorem Mgo.gb (M:Mgo K mg) (h:Fb K x):Gb mg x:=by
 obtain ⟨_,X,G⟩:=M
 exact PySem.W.mg_none_of X G h
theorem Mgo.gv (M:Mgo K mg) (h:Fv K x v):Gc mg x v:=by
 obtain ⟨_,X,G⟩:=M; obtain ⟨u,e,r⟩:=h
 exact ⟨u,PySem.W.mg_of X G e,r⟩
theorem Mgo.gk (M:Mgo K mg) (h:Fk K x):mg x=some (.ref (gA K x)):=by
 obtain ⟨_,X,G⟩:=M; obtain ⟨u,e⟩:=h
 rw [zlV_ e]; exact PySem.W.mg_of X G e
theorem Mgo.gkc (M:Mgo K mg) (h:Fk K x):Gc mg x (.ref (gA K x)):=⟨_,M.gk h,rfl⟩
abbrev OkF (P:Program) (w:World) (K:Fgg) (mg:Str→Option Value) (base:Heap) (CX:CXT) (k:Nat) (x q:Str) (st:Stmt) (ps:List Str) (sp:Sp):Prop:=∀ f fd,Fun K x q st f fd→FnOk P w K mg base CX k f fd ps sp∧Binds K fd ps []
theorem zc0_ (M:Mgo K mg) (F:Fg K x st) (h:OkF P w K mg base CX k x x st ps sp):Gd P w K mg base CX k x ps sp:=by
 obtain ⟨_,X,G⟩:=M; obtain ⟨f,e,i⟩:=F; obtain ⟨fd,F⟩:=i.fun_
 exact ⟨f,fd,(h f fd F).1,PySem.W.mg_of X G e,F.kp,(h f fd F).2⟩
theorem gn_of (M:Mgo K mg) (F:Fg K x st) (h:∀ f fd,Fun K x x st f fd→FnOkN P w K mg base k f fd ps sp∧Binds K fd ps []):GdN P w K mg base k x ps sp:=by
 obtain ⟨_,X,G⟩:=M; obtain ⟨f,e,i⟩:=F; obtain ⟨fd,F⟩:=i.fun_
 exact ⟨f,fd,(h f fd F).1,PySem.W.mg_of X G e,F.kp,(h f fd F).2⟩
theorem hm (hr:Room k A) (h:j≤k:=by decide):Room j A:=hr.mono h
theorem hmN (hr:RoomN k A) (h:j≤k:=by decide):RoomN j A:=hr.mono h
end
section
variable {P:Program}{w:World}{K:Fgg}{mg:Str→Option Value}{base:Heap}{x q:Str}{st:Stmt}{N ps:List Str}{k:Nat}{α β γ ρ:Type}
abbrev Tm (P:Program) (w:World) (K:Fgg) (mg:Str→Option Value) (base:Heap) (k:Nat) (N:List Str) (q:Str) (st:Stmt) (t:XK→TS):Prop :=
 ∀ (cdv:Value) (A:Around) (outer:List Env) (s:Shared) (H:Hp) (f:Addr) (E:XK),N.Nodup→Room k (A.deeper (envOfC q (defScope st) s.heap.objs.size f cdv))→PSs (cxOf CX0 P w K mg base N q (defScope st) f cdv A outer s H E).nox (defBody st) (t E)
abbrev TmX (P:Program) (w:World) (K:Fgg) (mg:Str→Option Value) (base:Heap) (k:Nat) (N:List Str) (q:Str) (st:Stmt) (t:XK→TS):Prop :=
 ∀ (cdv:Value) (A:Around) (outer:List Env) (s:Shared) (H:Hp) (f:Addr) (E:XK),N.Nodup→Room k (A.deeper (envOfC q (defScope st) s.heap.objs.size f cdv))→PSs (cxOf (CXx P w) P w K mg base N q (defScope st) f cdv A outer s H E) (defBody st) (t E)
abbrev TmN (P:Program) (w:World) (K:Fgg) (mg:Str→Option Value) (base:Heap) (k:Nat) (N:List Str) (q:Str) (st:Stmt) (t:XK→TS):Prop :=
 ∀ (cdv:Value) (A:Around) (outer:List Env) (s:Shared) (H:Hp) (f:Addr) (E:XK),N.Nodup→RoomN k (A.deeper (envOfC q (defScope st) s.heap.objs.size f cdv))→PSs (cxN P w K mg base N q (defScope st) f cdv A outer s H) (defBody st) (t E)
abbrev Bnd (K:Fgg) (x q:Str) (st:Stmt) (ps:List Str):Prop:=∀ f fd,Fun K x q st f fd→Binds K fd ps []
theorem okC {C:Cs γ}{O:Own ρ}{ss:γ→List Sl}{g:γ→Mo (Out ρ Unit Unit)}{t:XK→TS}(n m:Nat) (hC:CsS C ss) (tm:Tm P w K mg base k N q st t)
  (ev:∀ c E,EvS K (t E) E (ss c++List.replicate m .dead) (g c) (fun _:Unit=>[]) (fun _:Unit=>[]) O) (hn:CsN C n:=by repeat first | exact zn_ | exact csn_nil | refine zu_ ?_) (S:FnScope N ps (defScope st):=by exact ⟨rfl,rfl,rfl,by decide +kernel,rfl,by decide +kernel,by decide +kernel⟩) (b:Bnd K x q st ps:=by first | exact fun _ _ F=>Fun.binds1 rfl F fun _ _ _ _ _ _ _=>rfl | exact fun _ _ F=>Fun.binds2 rfl F fun _ _ _ _ _ _ _ _=>rfl | exact fun _ _ F=>Fun.binds3 rfl F fun _ _ _ _ _ _ _ _ _=>rfl | exact fun _ _ F=>Fun.binds4 rfl F fun _ _ _ _ _ _ _ _ _ _=>rfl | exact fun _ _ F=>Fun.binds5 rfl F fun _ _ _ _ _ _ _ _ _ _ _=>rfl | exact fun _ _ F=>Fun.binds6 rfl F fun _ _ _ _ _ _ _ _ _ _ _ _=>rfl | exact fun _ _ F=>Fun.binds7 rfl F fun _ _ _ _ _ _ _ _ _ _ _ _ _=>rfl) (hp:ps.length=n:=by rfl) (hm:N.length-n=m:=by rfl):OkF P w K mg base CX0 (k+1) x q st ps (Ct K C (fun c=>fnO (g c)) O):=fun f fd F =>
 ⟨F.ok S (fun vs H Q E h=>by obtain ⟨F,c,_,hc,_⟩:=h; exact (hn hc).trans hp.symm) fun cdv A outer s H vs Q E hr h=>⟨t E,tm cdv A outer s H f E S.nd hr,zmg_ (N:=N) (t:=t) n m hn hm hC ev vs H Q E h⟩,b f fd F⟩
theorem okX {C:Cs γ}{O:Own ρ}{ss:γ→List Sl}{g:γ→Mo (Out ρ Unit Unit)}{t:XK→TS}(n m:Nat) (hC:CsS C ss) (tm:TmX P w K mg base k N q st t)
  (ev:∀ c E,EvS K (t E) E (ss c++List.replicate m .dead) (g c) (fun _:Unit=>[]) (fun _:Unit=>[]) O) (hn:CsN C n:=by repeat first | exact zn_ | exact csn_nil | refine zu_ ?_) (S:FnScope N ps (defScope st):=by exact ⟨rfl,rfl,rfl,by decide +kernel,rfl,by decide +kernel,by decide +kernel⟩) (b:Bnd K x q st ps:=by first | exact fun _ _ F=>Fun.binds1 rfl F fun _ _ _ _ _ _ _=>rfl | exact fun _ _ F=>Fun.binds2 rfl F fun _ _ _ _ _ _ _ _=>rfl | exact fun _ _ F=>Fun.binds3 rfl F fun _ _ _ _ _ _ _ _ _=>rfl | exact fun _ _ F=>Fun.binds4 rfl F fun _ _ _ _ _ _ _ _ _ _=>rfl | exact fun _ _ F=>Fun.binds5 rfl F fun _ _ _ _ _ _ _ _ _ _ _=>rfl | exact fun _ _ F=>Fun.binds6 rfl F fun _ _ _ _ _ _ _ _ _ _ _ _=>rfl | exact fun _ _ F=>Fun.binds7 rfl F fun _ _ _ _ _ _ _ _ _ _ _ _ _=>rfl) (hp:ps.length=n:=by rfl) (hm:N.length-n=m:=by rfl):OkF P w K mg base (CXx P w) (k+1) x q st ps (Ct K C (fun c=>fnO (g c)) O):=fun f fd F =>
 ⟨F.okX S (fun vs H Q E h=>by obtain ⟨F,c,_,hc,_⟩:=h; exact (hn hc).trans hp.symm) fun cdv A outer s H vs Q E hr h=>⟨t E,tm cdv A outer s H f E S.nd hr,zmg_ (N:=N) (t:=t) n m hn hm hC ev vs H Q E h⟩,b f fd F⟩
theorem okN {C:Cs γ}{O:Own ρ}{ss:γ→List Sl}{g:γ→Mo (Out ρ Unit Unit)}{t:XK→TS}(n m:Nat) (hC:CsS C ss) (tm:TmN P w K mg base k N q st t)
  (ev:∀ c E,EvS K (t E) E (ss c++List.replicate m .dead) (g c) (fun _:Unit=>[]) (fun _:Unit=>[]) O) (hn:CsN C n:=by repeat first | exact zn_ | exact csn_nil | refine zu_ ?_) (S:FnScope N ps (defScope st):=by exact ⟨rfl,rfl,rfl,by decide +kernel,rfl,by decide +kernel,by decide +kernel⟩) (b:Bnd K x q st ps:=by first | exact fun _ _ F=>Fun.binds1 rfl F fun _ _ _ _ _ _ _=>rfl | exact fun _ _ F=>Fun.binds2 rfl F fun _ _ _ _ _ _ _ _=>rfl | exact fun _ _ F=>Fun.binds3 rfl F fun _ _ _ _ _ _ _ _ _=>rfl | exact fun _ _ F=>Fun.binds4 rfl F fun _ _ _ _ _ _ _ _ _ _=>rfl | exact fun _ _ F=>Fun.binds5 rfl F fun _ _ _ _ _ _ _ _ _ _ _=>rfl | exact fun _ _ F=>Fun.binds6 rfl F fun _ _ _ _ _ _ _ _ _ _ _ _=>rfl | exact fun _ _ F=>Fun.binds7 rfl F fun _ _ _ _ _ _ _ _ _ _ _ _ _=>rfl) (hp:ps.length=n:=by rfl) (hm:N.length-n=m:=by rfl):∀ f fd,Fun K x q st f fd→FnOkN P w K mg base (k+1) f fd ps (Ct K C (fun c=>fnO (g c)) O)∧Binds K fd ps []:=fun f fd F =>
 ⟨F.okN S (fun vs H Q E h=>by obtain ⟨F,c,_,hc,_⟩:=h; exact (hn hc).trans hp.symm) fun cdv A outer s H vs Q E hr h=>⟨t E,tm cdv A outer s H f E S.nd hr,zmg_ (N:=N) (t:=t) n m hn hm hC ev vs H Q E h⟩,b f fd F⟩
end
section
variable {l:PySem.W.OpenLaw}{w:World}{K:Fgg}{mg:Str→Option Value}{st:Stmt}{x:Str}{k:Nat}{sp:Sp}{fa:Addr}
theorem okLaw (M:Mgo K mg) (F:Fg K "law" st) (hfa:mg "law" = some (.ref fa)) (hb:∀ (kV doc pm:Value) (an:Option Addr) (cdv ct:Value) (s:Shared) (v:Value),bindArgs (PySem.W.fnOf "law" "law" (defArgs st) (defBody st) (defScope st) .none kV doc pm an cdv ct) ⟨[v],[]⟩=pure [(x,v)])
  (h:∀ (base:Heap) (f:Addr) (fd:FuncData),Fun K "law" "law" st f fd→FnOk l.prog w K mg base CX0 k f fd [x] sp) :
  ∃ fd:FuncData,(∀ (s:Shared) (v:Value),BindsTo s fd ⟨[v],[]⟩ [(x,v)])∧∀ base:Heap,K.In base→base.Ns mainGlobals mg→FnOk l.prog w K mg base CX0 k fa fd [x] sp:=by
 obtain ⟨_,X,G⟩:=M
 obtain ⟨f,e,oc,od,kV,doc,pm,an,cdv,ct,osl,l',c,kk⟩:=F
 cases hfa.symm.trans (PySem.W.mg_of X G e)
 exact ⟨_,fun s v=>.of_eq (hb kV doc pm an cdv ct s v),fun base _ _=>h base _ _ (zlL_ l' c kk)⟩
def spL (K:Fgg):Sp:=fun vs H Q _=>∃ (a:Addr) (ns:List Int),vs=[.ref a]∧SqL K H a (ns.map V.int)∧ns.length≤63∧BitsOk ns∧∀ H',Q (.bl true) H'
theorem okL {base:Heap}{N:List Str}{g:List Int→Mo (Out Bool Unit Unit)}{t:XK→TS}(m:Nat) (tm:Tm l.prog w K mg base k N "law" st t)
  (hf:∀ ns:List Int,ns.length≤63→BitsOk ns→fnO (g ns)=.ok true)
  (ev:∀ c E,EvS K (t E) E (.fz (tySc K) c::List.replicate m .dead) (g c) (fun _:Unit=>[]) (fun _:Unit=>[]) (owF tyBl)) (f:Addr) (fd:FuncData) (F:Fun K "law" "law" st f fd) (S:FnScope N [x] (defScope st):=by exact ⟨rfl,rfl,rfl,by decide +kernel,rfl,by decide +kernel,by decide +kernel⟩) (hm:N.length-1=m:=by rfl):FnOk l.prog w K mg base CX0 (k+1) f fd [x] (spL K) :=
 F.ok S (fun vs H Q E h=>by obtain ⟨a,ns,rfl,_⟩:=h; rfl) fun cdv A outer s H vs Q E hr h=>⟨t E,tm cdv A outer s H f E S.nd hr,by
  obtain ⟨a,ns,rfl,hS,hl,hb,q⟩:=h
  refine zmg_ (K:=K) (N:=N) (C:=csLast (tySc K)) (O:=owF tyBl) (t:=t) (ss:=fun c=>[.fz (tySc K) c]) (f:=g) 1 m zn_ hm zz_ ev _ H Q E ⟨H,ns,Same.refl _,⟨_,rfl,a,rfl,hS⟩,?_⟩
  show After K (fnO (g ns)) E H H _
  rw [hf ns hl hb]
  rintro F' H' x v h _ _ _ ⟨_,rfl⟩
  exact q H'⟩
end
section
variable {X:Cx}{x:Str}{pos pos':Pos}{e:Expr}{te:TE}
abbrev FrP (X:Cx) (scope:Scope) (q:Str×Nat):Prop:=X.N[q.2]?=some q.1∧(q.1,NameKind.free)∈scope.names∧(X.env.kindOf q.1=some .cell∨X.env.kindOf q.1=some .free)∧((relabel scope X.env).names.lookup q.1=some .cell∨(relabel scope X.env).names.lookup q.1=some .free)
theorem pgn (i:Nat) (hN:X.N.Nodup:=by assumption) (hi:X.N[i]?=some x:=by rfl) (hx:Loc X.env.scope x:=by first | exact Or.inl rfl | exact Or.inr rfl) (hf:X.fn x=true∨X.env.scope.names.lookup x=some .local:=by first | exact .inl rfl | exact .inr rfl | assumption):PG X (.Name x pos) (gName i):=ziT_ hN hi hx hf
theorem pst (i:Nat) (he:PE X e te) (hN:X.N.Nodup:=by assumption) (hi:X.N[i]?=some x:=by rfl) (hx:Loc X.env.scope x:=by first | exact Or.inl rfl | exact Or.inr rfl) (hs:swapsWith e (some (.Name x pos')) pos.line X.env=pure false:=by rfl) (hf:X.fn x=true∨X.env.scope.names.lookup x=some .local:=by first | exact .inl rfl | exact .inr rfl | assumption) :
  PS X (.Assign [.Name x pos'] e pos) (tAsg te (gName i)):=zmK_ hN hi hx he hs hf
theorem csm {scope:Scope}{cl:List (Str×Addr)}{lv:List Str}{fr:List (Str×Nat)}(h:closeL X.env.cells scope.names []=some cl) (f:∀ q∈fr,FrP X scope q) (h2:∀ y∈scope.names,y.2≠.cell:=by decide +kernel) (h3:scope.kind=.function:=by rfl) (h4:∀ z∈scope.names,z.2=.local→scope.names.lookup z.1=some .local:=by decide +kernel):CScope X scope cl lv fr:=⟨h,h2,h3,h4,f⟩
theorem frc {scope:Scope}{q:Str×Nat}{fr:List (Str×Nat)}(t:∀ q∈fr,FrP X scope q) (h:FrP X scope q:=by refine ⟨rfl,by decide +kernel,?_,?_⟩<;>first | exact Or.inl rfl | exact Or.inr rfl):∀ z∈q::fr,FrP X scope z:=zld_ h t
theorem fr0 {scope:Scope}:∀ q∈([]:List (Str×Nat)),FrP X scope q:=fun _ h=>by cases h
theorem pgc {scope:Scope}{cl:List (Str×Addr)}{C:Addr}{lv:List Str}{fr:List (Str×Nat)}{fp:List Addr}{s2:Shared}{H2:Hp}(i:Nat) (hN:(cN lv fr).Nodup:=by decide +kernel) (hi:(cN lv fr)[i]?=some x:=by rfl) (hx:Loc (cxComp X scope cl C (cN lv fr) fp s2 H2).env.scope x:=by exact Or.inl rfl) (hf:(cxComp X scope cl C (cN lv fr) fp s2 H2).fn x=true∨(cxComp X scope cl C (cN lv fr) fp s2 H2).env.scope.names.lookup x=some .local:=by first | exact .inl rfl | exact .inr rfl | assumption):PG (cxComp X scope cl C (cN lv fr) fp s2 H2) (.Name x pos) (gName i):=ziT_ hN hi hx hf
end
abbrev zfx_:=@PySem.F.slot_str_find
abbrev zfU_:=@PySem.F.type_str_find
abbrev zem_:=@PySem.F.slot_str_index
abbrev zei_:=@PySem.F.type_str_index
abbrev z7_:=@PySem.F.slot_str_split
abbrev z5_:=@PySem.F.type_str_split
abbrev zfL_:=@PySem.F.slot_str_join
abbrev zfP_:=@PySem.F.type_str_join
abbrev zfi_:=@PySem.F.plainAttrs_list
abbrev zav_:=@PySem.F.slot_list_append
abbrev zay_:=@PySem.F.type_list_append
abbrev zdn_:=@PySem.F.slot_list_extend
abbrev zc7_:=@PySem.F.type_list_extend
end L2
namespace L2
open PySem PySem.Spec PyProof.Rows PySem.W
def gallop':Bool→Keyed→Array Keyed→Nat→Nat→Nat→StateT SortSt Sem (Option Nat):=sortPriv% PySem.Builtin.gallop
section
variable {prog:Program}{w:World}{A:Around}{E:Value→Shared→Prop}{s:Shared}{κ:SortKind}{it:Nat→Keyed}{lt:Nat→Nat→Bool}{n:Nat}{st:SortSt}
end
section
variable {lt:Nat→Nat→Bool}{X Y O:List Nat}{ja jb k:Nat}
end
section
variable {prog:Program}{w:World}{A:Around}{E:Value→Shared→Prop}{s:Shared}{κ:SortKind}{it:Nat→Keyed}{lt:Nat→Nat→Bool}{n:Nat}{st st1 st2:SortSt}{X Y:List Nat}
abbrev T7:Type:=Option (Array Keyed)×Array Keyed×Nat×Nat×Nat×Nat×Nat
abbrev T6:Type:=Option (Array Keyed)×Array Keyed×Nat×Nat×Nat×Nat
abbrev T5:Type:=Option (Array Keyed)×Array Keyed×Nat×Nat×Nat
variable {O:List Nat}{ja jb mg ac bc x:Nat}
end
section
variable {lt:Nat→Nat→Bool}{X Y O R:List Nat}{na nb i k q:Nat}
abbrev op (lt:Nat→Nat→Bool):Nat→Nat→Bool:=fun a b=>lt b a
end
section
variable {prog:Program}{w:World}{A:Around}{E:Value→Shared→Prop}{s:Shared}{κ:SortKind}{it:Nat→Keyed}{lt:Nat→Nat→Bool}{n:Nat}{st st1 st2:SortSt}{X Y:List Nat}
abbrev U7:Type:=Option (Array Keyed)×Nat×Nat×Array Keyed×Nat×Nat×Nat
def hi3 (a b:Array Keyed) (na nb:Nat) (ou:Array Keyed) (mg ac bc:Nat):StateT SortSt Sem (ForInStep U7):=do
 let e ← elem' a (na-1)
 if na-1 == 0 then pure (.done (some (a.extract 0 (na-1)++b.extract 0 nb++(ou.push e).reverse),na-1,nb,ou.push e,mg,ac,bc))
 else if ac<7 && bc<7 then pure (.done (none,na-1,nb,ou.push e,mg,ac,bc)) else pure (.yield (none,na-1,nb,ou.push e,mg,ac,bc))
def hi2b (a b:Array Keyed) (na nb q:Nat) (ou:Array Keyed) (mg ac:Nat):StateT SortSt Sem (ForInStep U7) :=
 if nb-q > 0 then
  if q == 1 then pure (.done (some (b.extract 0 q++a.extract 0 na++(ou++(b.extract q nb).reverse).reverse),na,q,ou++(b.extract q nb).reverse,mg,ac,nb-q))
  else if q == 0 then pure (.done (some (a.extract 0 na++b.extract 0 q++(ou++(b.extract q nb).reverse).reverse),na,q,ou++(b.extract q nb).reverse,mg,ac,nb-q))
  else hi3 a b na q (ou++(b.extract q nb).reverse) mg ac (nb-q)
 else hi3 a b na nb ou mg ac (nb-q)
def hi2 (a b:Array Keyed) (na nb:Nat) (ou:Array Keyed) (mg ac bc:Nat):StateT SortSt Sem (ForInStep U7):=do
 let e ← elem' b (nb-1)
 if nb-1 == 1 then pure (.done (some (b.extract 0 (nb-1)++a.extract 0 na++(ou.push e).reverse),na,nb-1,ou.push e,mg,ac,bc))
 else
  let f ← elem' a (na-1)
  let r ← gallop' true f b 0 (nb-1) (nb-1-1)
  match r with
  | some q=>hi2b a b na (nb-1) q (ou.push e) mg ac
  | _=>pure (.done (some (a.extract 0 na++b.extract 0 (nb-1)++(ou.push e).reverse),na,nb-1,ou.push e,mg,ac,bc))
def hi1 (a b:Array Keyed) (na nb q:Nat) (ou:Array Keyed) (mg bc:Nat):StateT SortSt Sem (ForInStep U7) :=
 if na-q > 0 then
  if q == 0 then pure (.done (some (a.extract 0 q++b.extract 0 nb++(ou++(a.extract q na).reverse).reverse),q,nb,ou++(a.extract q na).reverse,mg,na-q,bc))
  else hi2 a b q nb (ou++(a.extract q na).reverse) mg (na-q) bc
 else hi2 a b na nb ou mg (na-q) bc
variable {O:List Nat}{na nb mg ac bc x:Nat}
end
end L2
namespace L2
open PySem PySem.Spec PyProof.Rows PySem.W
section
variable {prog:Program}{w:World}{A:Around}{E:Value→Shared→Prop}{s:Shared}{κ:SortKind}{it:Nat→Keyed}{lt:Nat→Nat→Bool}{n:Nat}{st st1 st2:SortSt}
end
section
variable {prog:Program}{w:World}{A:Around}{E:Value→Shared→Prop}{s:Shared}{κ:SortKind}{it:Nat→Keyed}{lt:Nat→Nat→Bool}{n lo:Nat}{st st1 st2:SortSt}{p:Array Nat}{pd:Array (Nat×Nat×Nat)}
end
end L2
namespace L2
open PySem PySem.Spec PyProof.Rows PySem.W
section
variable {lt:Nat→Nat→Bool}
end
section
variable {prog:Program}{w:World}{A:Around}{E:Value→Shared→Prop}{s:Shared}{κ:SortKind}{it:Nat→Keyed}{lt:Nat→Nat→Bool}{n lo c:Nat}{st:SortSt}{T:List Nat}
end
section
variable {prog:Program}{w:World}{A:Around}{E:Value→Shared→Prop}{s:Shared}{vs:List Value}{lt:Nat→Nat→Bool}
end
end L2
namespace L2
open PySem PySem.Spec PyProof.Rows
section
variable {K:Fgg}{E:XK}{α β γ ρ S S' B B':Type}{F0 H0 F h H:Hp}{L L':List Sl}{e e1 e2:TE}{T:Ty α}{O:Own ρ}{t u:TS}{LS:S→List Sl}{LS':S'→List Sl}{LB:B→List Sl}
end
section
variable {P:Program}{w:World}{K:Fgg}{mg:Str→Option Value}{base:Heap}{x q:Str}{st:Stmt}{N ps:List Str}{k:Nat}{α β γ ρ:Type}
end
def Fe1 (K:Fgg) (a:Str) (P:Addr→Prop):Prop:=∃ v,PySem.W.nsIn K mainGlobals a=some (some (.ref v))∧P v
theorem Fe1.mk_ {K:Fgg}{a:Str}{P:Addr→Prop}{v:Addr}(h:PySem.W.nsIn K mainGlobals a=some (some (.ref v))) (p:P v):Fe1 K a P:=⟨v,h,p⟩
theorem Fe1.g {K:Fgg}{a:Str}{P:Addr→Prop}(h:Fe1 K a P):P (gA K a):=by
 obtain ⟨v,h,p⟩:=h
 rw [zlV_ h]; exact p
def Fe2 (K:Fgg) (a b:Str) (P:Addr→Addr→Prop):Prop:=∃ v w,PySem.W.nsIn K mainGlobals a=some (some (.ref v))∧PySem.W.nsIn K mainGlobals b=some (some (.ref w))∧P v w
theorem Fe2.mk_ {K:Fgg}{a b:Str}{P:Addr→Addr→Prop}{v w:Addr}(h:PySem.W.nsIn K mainGlobals a=some (some (.ref v))) (h2:PySem.W.nsIn K mainGlobals b=some (some (.ref w))) (p:P v w):Fe2 K a b P:=⟨v,w,h,h2,p⟩
theorem Fe2.g {K:Fgg}{a b:Str}{P:Addr→Addr→Prop}(h:Fe2 K a b P):P (gA K a) (gA K b):=by
 obtain ⟨v,w,h,h2,p⟩:=h
 rw [zlV_ h,zlV_ h2]; exact p
end L2
namespace L2
open PySem PySem.Spec PyProof.Rows
section
variable {K:Fgg}{E:XK}{L:List Sl}{e:TE}{α γ δ:Type}{T:Ty α}{C:Cs γ}{C':Cs δ}{f:γ→δ}{n m:Nat}
end
end L2
namespace L2
open PySem PySem.Spec PyProof.Rows
section
variable {K:Fgg}{E:XK}{α β γ ρ ρ' S B:Type}{F0 H0 F h H:Hp}{L:List Sl}{T:Ty α}{Or:Own ρ}{t u:TS}{e e1 e2 te:TE}{LS:S→List Sl}{LB:B→List Sl}{i j:Nat}{σ:St}
end
end L2
namespace L2
open PySem PySem.Spec PyProof.Rows
section
variable {K:Fgg}{E:XK}{α β γ ρ ρ' S B:Type}{F0 H0 F h H:Hp}{L:List Sl}{T:Ty α}{Or:Own ρ}{t u:TS}{e e1 e2 te:TE}{LS:S→List Sl}{LB:B→List Sl}{i j:Nat}{σ:St}
end
end L2
namespace L2
open PySem PySem.Spec PyProof.Rows
section
variable {K:Fgg}{E:XK}{α β γ ρ ρ' S B:Type}{F0 H0 F h H:Hp}{L:List Sl}{T:Ty α}{Or:Own ρ}{t u:TS}{e e1 e2 te:TE}{LS:S→List Sl}{LB:B→List Sl}{i j:Nat}{σ:St}
end
section
variable {X:Cx}
end
section
variable {K:Fgg}{E:XK}
end
end L2
namespace L2
open PySem PySem.Spec PyProof.Rows
section
variable {K:Fgg}{E:XK}{α β γ δ ρ ρ' S B:Type}{F0 H0 F h H:Hp}{L:List Sl}{e te ei tc:TE}{T:Ty α}{r:Mo α}{Or:Own ρ}{Or':Own ρ'}{t u:TS}{LS:S→List Sl}{LB:B→List Sl}{σ:St}{C:Addr}{ns:List Str}{f m:Str}{i n w j:Nat}
end
end L2
namespace L2
open PySem PySem.Spec PyProof.Rows
open PySem.SeqAt
open PySem.AutoSeq1 (wpAny_loadPart')
open PySem.MeetsSeq PySem.MeetsSeq2 PySem.MeetsSeq3
end L2
namespace L2
open PySem PySem.Spec PyProof.Rows
section
variable {K:Fgg}{E:XK}{H:Hp}
end
end L2
namespace L2
open PySem PySem.Spec PyProof.Rows
section
variable {α:Type}{O:Own α}
end
section
variable {K:Fgg}{E:XK}{α β γ δ ρ ρ' S B:Type}{F0 H0 F h H:Hp}{L:List Sl}{e te ei tc:TE}{T:Ty α}{r:Mo α}{Or:Own ρ}{Or':Own ρ'}{t u:TS}{LS:S→List Sl}{LB:B→List Sl}{σ:St}{C:Addr}{ns:List Str}{f m:Str}{i n w j:Nat}
end
end L2
namespace L2
open PySem PySem.Spec PyProof.Rows
section
variable {X:Cx}
end
section
variable {K:Fgg}{E:XK}{L:List Sl}{ta:TA}
end
end L2
namespace L2
open PySem PySem.Spec PyProof.Rows
section
variable {K:Fgg}{E E0:XK}{α β γ ρ ρ' S B:Type}{F0 H0 F h H:Hp}{L:List Sl}{T:Ty α}{Or:Own ρ}{t u:TS}{e te:TE}{LS:S→List Sl}{LB:B→List Sl}{i j n:Nat}{σ:St}
end
end L2
namespace L2
open PySem PySem.Spec PyProof.Rows
section
variable {K:Fgg}{E:XK}{α β γ δ ρ ρ' S B:Type}{F0 H0 F h H:Hp}{L:List Sl}{e te te2 ei tc:TE}{T:Ty α}{Or:Own ρ}{Or':Own ρ'}{t u:TS}{LS:S→List Sl}{LB:B→List Sl}{σ:St}{i n w j:Nat}
end
end L2
namespace L2
end L2
namespace L2
open PySem PySem.Spec PyProof.Rows
section
variable {X:Cx}{e:Expr}{es:List Expr}{m x:Str}{p pos apos:Pos}{t:TA}{k:Nat}{ps:List Str}{sp:Sp}
end
def Fs (K:Fgg) (c m q:Str) (st:Stmt):Prop:=∃ cw f,PySem.W.nsIn K mainGlobals c=some (some (.ref cw))∧PySem.W.specialIn K (.ref cw) "__getattribute__" = some (some (.builtin "type.__getattribute__"))∧PySem.W.readsIn K cw (.type "type")=true∧PySem.W.findCls K (.ref cw) (.type "type") m=some (.val (.ref f))∧Fi K m q st f
section
variable {P:Program}{w:World}{K:Fgg}{mg:Str→Option Value}{base:Heap}{CX:CXT}{x q c m a:Str}{st:Stmt}{f:Addr}{fd:FuncData}{N ps:List Str}{k j:Nat}{sp:Sp}
theorem Fs.mk_ {cw:Addr}{oc:Value}{od:Option Addr}{kV doc pm:Value}{an:Option Addr}{cdv ct:Value}{osl:Array (Option Value)}(h:PySem.W.nsIn K mainGlobals c=some (some (.ref cw))) (h1:PySem.W.specialIn K (.ref cw) "__getattribute__" = some (some (.builtin "type.__getattribute__"))) (h2:PySem.W.readsIn K cw (.type "type")=true) (h3:PySem.W.findCls K (.ref cw) (.type "type") m=some (.val (.ref f)))
  (l:K.lookup f=some ⟨oc,od,.func (PySem.W.fnOf m q (defArgs st) (defBody st) (defScope st) .none kV doc pm an cdv ct),osl⟩) (hc:PySem.W.codeIn K cdv q=true) (hk:PySem.W.keepIn K (.ref f)=true):Fs K c m q st:=⟨cw,f,h,h1,h2,h3,oc,od,kV,doc,pm,an,cdv,ct,osl,l,hc,hk⟩
end
section
variable {K:Fgg}{E:XK}{α β γ δ ρ ρ' S B κ:Type}{F0 H0 F h H:Hp}{L:List Sl}{e te ei tc:TE}{T:Ty α}{r:Mo α}{Or:Own ρ}{Or':Own ρ'}{t u:TS}{ta:TA}{LS:S→List Sl}{LB:B→List Sl}{σ:St}{C s:Addr}{ns:List Str}{f m:Str}{i n w j:Nat}
section
variable [DecidableEq κ] {KY:KyT κ}
end
variable {te2:TE}
end
end L2
namespace L2
open PySem PySem.Spec PyProof.Rows
section
variable {K:Fgg}{E:XK}{α β γ δ ρ ρ' S B κ:Type}{F0 H0 F h H:Hp}{L:List Sl}{e te te1 tc:TE}{T:Ty α}{r:Mo α}{Or:Own ρ}{Or':Own ρ'}{t u:TS}{ta:TA}{LS:S→List Sl}{LB:B→List Sl}{σ:St}{C s:Addr}{ns:List Str}{f m:Str}{i n w j:Nat}
end
section
variable {prog:Program}{w:World}{A:Around}{E:Value→Shared→Prop}{s:Shared}
end
section
variable {X:Cx}
end
section
variable {K:Fgg}{E:XK}{α:Type}{L:List Sl}{e:TE}{T:Ty α}
end
end L2
namespace L2
open PySem PySem.Spec PyProof.Rows
section
variable {K:Fgg}{E:XK}{α β γ δ ρ ρ' S B κ:Type}{F0 H0 F h H:Hp}{L:List Sl}{e te te1 tc e1 e2:TE}{T:Ty α}{r:Mo α}{Or:Own ρ}{Or':Own ρ'}{t u:TS}{ta:TA}{LS:S→List Sl}{LB:B→List Sl}{σ:St}{C s:Addr}{ns:List Str}{f m:Str}{i n w j:Nat}
end
end L2
namespace L2
open PySem PySem.Spec PyProof.Rows
section
variable {prog:Program}{w:World}{A:Around}{E:Value→Shared→Prop}{h:Heap}{g:Array GenState}{d:Drawn}{t:Nat}{os:OsState}{nm q:Str}{C N:Addr}{bs bm:List Value}{hd:Bool}{sn:List Str}{sub:List Value}{ab:Bool}{col:Option Bool}{dd:Option Addr}{k0 k1 k2 k3 k5:Option Value}
def exH (h:Heap) (C:Addr) (vs:List Value):Heap:=(h.push { cls:=.type "tuple",data:=.seq vs.toArray }).push { cls:=.ref C,data:=.fields #[.ref h.objs.size,.none,.none,.none,.bool false,.none] }
theorem zdS_ {vs:List Value}{b:Addr}{o:Obj}(e:h.get? b=some o):(exH h C vs).get? b=some o:=Heap.get?_push_of_some _ (Heap.get?_push_of_some _ e)
theorem zlF_ {vs:List Value}:(exH h C vs).get? (h.objs.size+1)=some { cls:=.ref C,data:=.fields #[.ref h.objs.size,.none,.none,.none,.bool false,.none] }:=by unfold exH; heap_get
theorem zj5_ {vs:List Value}:Heap.MadeExcOf h (exH h C vs) (h.objs.size+1) (.ref C) vs :=
 ⟨fun _ _ e=>zdS_ e,Heap.get?_none_of_le (Nat.le_succ _),_,zlF_,Heap.get?_none_of_le (Nat.le_refl _),Heap.get?_push_of_some _ (Heap.get?_push_at rfl rfl)⟩
theorem zjj_ (T:OwnTail h bmV bm) {mN:Str→Option Value}{vs:List Value}{f:Addr}{fo:Obj}{Q:PySem.Fin→Shared→Prop}(hC:h.get? C=some (excClassObj nm q C N bs bm hd sn sub ab col dd k0 k1 k2 k3 k5 "ValueError.__new__")) (hn:h.Ns N mN) (hi:mN "__init__" = some (.ref f)) (hf:h.get? f=some fo) (hfc:fo.cls=.type "function")
  (hq:∀ h' e,Heap.MadeExcOf h h' e (.ref C) vs→h.objs.size≤e→wpAny (model prog w) A (call (.ref f) (.ref e::vs)) (fun r s'=>r=.none∧Q (.done (.ret (.ref e))) s') E ⟨h',g,d,t,os⟩) (hl:vs.length≤sizeLine) :
  wpAny (model prog w) A (Builtin.«type.__call__» ⟨.ref C::vs,[]⟩) Q E ⟨h,g,d,t,os⟩:=by
 have F:=PySem.F.excBase_ValueError
 have c1:(Value.ref C::bm).contains (.ref C)=true:=List.contains_iff_mem.mpr List.mem_cons_self
 have hC1:=zdS_ (C:=C) (vs:=vs) hC
 have f1:=zdS_ (C:=C) (vs:=vs) hf
 have T1:=T.keeps (h':=exH h C vs) fun _ _ e=>zdS_ e
 have n1:(exH h C vs).Ns N mN:=by obtain ⟨o,es,ep,e,r⟩:=hn; exact ⟨o,es,ep,zdS_ e,r⟩
 repeat (first | with_reducible refine wpAny_madeBy_exc hC ?_ | with_reducible refine wpAny_loadPart_at hC ?_ | wp_step)
 refine codeAny_call_builtin_code (Code.quiet_builtin _ F.quiet) (wpAny_check_new_subT F T hC (codeAny_exc_new_subT F T hC ?_ hl)); show wpAny _ _ _ _ _ ⟨exH h C vs,_,_,_,_⟩
 unfold isInstance; repeat (first | (with_reducible refine wpAny_isSubtype_exc hC1 ?_; rw [c1]) | with_reducible refine wpAny_loadPart_at zlF_ ?_ | wp_step)
 show wpAny _ _ (typeLookup (.ref C) "__init__") _ _ _; refine wpAny_typeLookup_tail hC1 n1 T1 F.mroIs F.init.lookup ?_
 rw [hi]; refine wpAny_holding (wpAny_bind ?_); unfold bindSpecial; refine wpAny_bind (wpAny_typeOf (T := "function") ⟨_,f1,hfc⟩ ?_); rw [if_pos (by decide)]
 refine wpAny_pure (wpAny_bind (wpAny_mono (hq _ _ zj5_ (Nat.le_succ _)) (fun r s' z=>?_) fun _ _ y=>y))
 obtain ⟨rfl,z⟩:=z; wp_walk; exact z
theorem zjG_ (T:OwnTail h bmV bm) {mN:Str→Option Value}{vs:List Value}{f:Addr}{fo:Obj}{Q:Value→Shared→Prop}(hC:h.get? C=some (excClassObj nm q C N bs bm hd sn sub ab col dd k0 k1 k2 k3 k5 "ValueError.__new__")) (hn:h.Ns N mN) (hi:mN "__init__" = some (.ref f)) (hf:h.get? f=some fo) (hfc:fo.cls=.type "function")
  (hq:∀ h' e,Heap.MadeExcOf h h' e (.ref C) vs→h.objs.size≤e→wpAny (model prog w) (A.under (.builtin "type.__call__" ⟨.ref C::vs,[]⟩)) (call (.ref f) (.ref e::vs)) (fun r s'=>r=.none∧Q (.ref e) s') E ⟨h',g,d,t,os⟩) (hl:vs.length≤sizeLine) :
  wpAny (model prog w) A (call (.ref C) vs) Q E ⟨h,g,d,t,os⟩:=by
 have t1:=tc_lookup; have t2:=tc_bind (.ref C)
 have ty:(⟨h,g,d,t,os⟩:Shared).TypeIs (.ref C) "type" := ⟨_,hC,rfl⟩
 refine wpAny_call (codeAny_of_tree ?_); show wpAny _ _ (callAny (.ref C) _) _ _ _
 repeat (any_goals (first | with_reducible refine wpAny_loadPart_at hC ?_ | assumption | wp_step))
 exact ⟨rfl,codeAny_call_builtin_at (Code.quiet_builtin _ (by decide +kernel)) entry_typeCall (wpAny_check_type_call_sub hC (zjj_ T hC hn hi hf hfc (fun h' e hm hz=>hq h' e hm hz) hl))⟩
end
section
variable {M:Model}{A:Around}{E:Value→Shared→Prop}{env:Env}{nm q:Str}{C N:Addr}{bs bm:List Value}{hd:Bool}{sn:List Str}{sub:List Value}{ab:Bool}{col:Option Bool}{dd:Option Addr}{k0 k1 k2 k3 k5:Option Value}{ni:String}
theorem zhR_ {s:Shared}{x:Sem Value}{Q:Flow→Shared→Prop}(hb:bm.contains (.type "BaseException")=true) (hh:A.handled=none)
  (k:wpAny M A x (fun v s1=>∃ e oe vs,v=.ref e∧s1.heap.get? C=some (excClassObj nm q C N bs bm hd sn sub ab col dd k0 k1 k2 k3 k5 ni)∧s1.heap.get? e=some oe∧oe.cls=.ref C∧oe.data=.fields vs∧vs[1]?=some .none∧E (.ref e) s1) E s) :
  wpAny M A (raiseStmt env (some x) none) Q E s:=by
 have c1:(Value.ref C::bm).contains (.type "BaseException")=true:=by rw [List.contains_cons,hb,Bool.or_true]
 unfold raiseStmt
 refine wpAny_bind (wpAny_mono k (fun v s1 z=>?_) fun _ _ y=>y)
 obtain ⟨e,oe,vs,rfl,hC,he,hc,hdt,h1v,z⟩:=z; obtain ⟨h1,g1,d1,t1,os1⟩:=s1
 repeat (first | (with_reducible refine wpAny_isSubtype_exc hC ?_; rw [c1]) | with_reducible refine wpAny_loadPart_at hC ?_ | (with_reducible refine wpAny_loadPart_at he ?_; try rw [hc]) | wp_step)
 rw [hdt]; refine wpAny_pure ?_; rw [h1v]; refine wpAny_pure ?_; rw [if_neg (by decide)]
 exact wpAny_pure (wpAny_raiseNew_none hh z)
end
section
variable {prog:Program}{w:World}{A:Around}{E:Value→Shared→Prop}{h:Heap}{g:Array GenState}{d:Drawn}{t:Nat}{os:OsState}{nm q:Str}{C N a:Addr}{bs bm:List Value}{sn:List Str}{sub:List Value}{ab:Bool}{col:Option Bool}{dd:Option Addr}{k0 k1 k2 k3 k5:Option Value}{ni:String}{K:Fgg}{mA:Str→Option Value}{name:Str}{v:Value}
theorem zip_ {tk:Tok}{Q:PySem.Fin→Shared→Prop}(kin:K.In h) (hC:h.get? C=some (excClassObj nm q C N bs bm true sn sub ab col dd k0 k1 k2 k3 k5 ni)) (hn:PySem.W.findIn K (.ref C) name=some none) (I:h.Inst a C mA) (hv:mA name=some v) (k:Q (.done (.ret v)) ⟨h,g,d,t,os⟩) :
  wpAny (model prog w) A (Builtin.«object.__getattribute__» ⟨[.ref a,.str name tk],[]⟩) Q E ⟨h,g,d,t,os⟩:=by
 obtain ⟨o,hx,hc,hnc,hdx⟩:=I
 rcases hdx with ⟨_,z⟩ | ⟨dx,hdx,ne,ns⟩
 ·rw [z name] at hv; cases hv
 have l1:=PySem.W.looks_findIn (M:=model prog w) kin hn
 unfold Builtin.«object.__getattribute__»
 repeat (first | (with_reducible refine l1.at ?_) | (with_reducible refine wpAny_loadPart_at hx ?_; try rw [hc]) | wp_step)
 split
 ·rename_i c e; exact absurd e (hnc c)
 unfold instanceDict
 repeat (first | with_reducible refine wpAny_loadPart_at hC ?_ | (with_reducible refine wpAny_loadPart_at hx ?_; try rw [hc]) | wp_step)
 rw [hdx]
 unfold Builtin.ObjectAttr.inDict
 repeat (first | (with_reducible refine wpAny_nsGet ns.ns ?_; rw [hv]) | wp_step)
 exact k
end
def excJ (K:Fgg) (C:Addr):Bool:=(K.lookup C).any fun o=>match o.data,o.slots.toList with
 | .cls cd,[_,_,_,_,some (.builtin n),_]=>o.cls == .type "type" && (n == "ValueError.__new__" && (cd.mro == .ref C::cd.mro.tail && (!cd.hasDel && (cd.hasDict && (PySem.W.tailIn K bmV cd.mro.tail && (PySem.W.nsOkIn K cd.ns && (PySem.W.nsIn K cd.ns "__init__" == PySem.W.findIn K (.ref C) "__init__" && PySem.W.keepIn K (.ref C))))))))
 | _,_=>false
theorem zmF_ {K:Fgg}{h:Heap}{N:Addr}{m:Str→Option Value}{n:Str}{v:Value}(kin:K.In h) (G:h.Ns N m) (e:PySem.W.nsIn K N n=some (some v)):m n=some v:=by
 obtain ⟨o,es,ep,ho,hd,_,hf⟩:=G
 unfold PySem.W.nsIn at e; split at e
 case h_2=>cases e
 case h_1 c d es' n' sl q =>
  have z:=(kin _ _ q).symm.trans ho; cases z; cases hd
  split at e
  case h_2=>split at e<;>cases e
  case h_1 en he=>cases e; rw [← hf]; unfold nsFind findBy; rw [← Array.find?_toList,he]; rfl
theorem zcW_ {K:Fgg}{h:Heap}{C:Addr}(kin:K.In h) (q:excJ K C=true) :
  ∃ nm qn N bs bm sn sub ab col dd k0 k1 k2 k3 k5 mN,h.get? C=some (excClassObj nm qn C N bs bm true sn sub ab col dd k0 k1 k2 k3 k5 "ValueError.__new__")∧h.Ns N mN∧(∀ f,PySem.W.findIn K (.ref C) "__init__" = some (some (.ref f))→mN "__init__" = some (.ref f))∧OwnTail h bmV bm∧PySem.W.keepIn K (.ref C)=true:=by
 unfold excJ at q
 cases e:K.lookup C with
 | none=>rw [e] at q; cases q
 | some o =>
  rw [e] at q
  obtain ⟨oc,od,odt,osl⟩:=o
  simp only [Option.any_some] at q
  split at q
  case h_2=>cases q
  case h_1 _ _ cd y0 y1 y2 y3 n y5 m2 =>
   simp only [Bool.and_eq_true,beq_iff_eq,Bool.not_eq_true'] at q
   obtain ⟨rfl,rfl,q3,q4,q5,q6,q7,q8,q9⟩:=q
   have hs:osl=#[y0,y1,y2,y3,some (.builtin "ValueError.__new__"),y5]:=by rw [← Array.toList_inj]; exact m2
   subst hs
   obtain ⟨nm,bs,mro,ns,qn,hd,sn,sub,ab,col,del⟩:=cd
   dsimp only at q3 q4 q5 q6 q7 q8
   rw [q3] at e
   subst q4 q5
   exact ⟨_,_,_,_,_,_,_,_,_,_,y0,y1,y2,y3,y5,_,kin _ _ e,.of_isNs (PySem.W.isNs_of_in kin q7),fun f z=>zmF_ kin (.of_isNs (PySem.W.isNs_of_in kin q7)) (q8.trans z),PySem.W.tail_of_in kin q6,q9⟩
def exA (K:Fgg) (C:Addr) (a:Str):Bool:=PySem.W.findIn K (.ref C) "__getattribute__" == some (some (.builtin "BaseException.__getattribute__")) && (PySem.W.findIn K (.ref C) "__getattr__" == some none && (PySem.W.mroIn K C (.type "BaseException") == some true &&
 (PySem.W.mroIn K C (.type "object") == some true && (PySem.W.findIn K (.ref C) "__setattr__" == some (some (.builtin "object.__setattr__")) && PySem.W.findIn K (.ref C) a == some none))))
section
variable {prog:Program}{w:World}{A:Around}{E:Value→Shared→Prop}{s:Shared}{K:Fgg}{C a dx:Addr}{name:Str}{v:Value}{mA:Str→Option Value}{o:Obj}{vs:Array Value}
theorem zi6_ (h:exA K C name=true):PySem.W.findIn K (.ref C) "__getattribute__" = some (some (.builtin "BaseException.__getattribute__"))∧PySem.W.findIn K (.ref C) "__getattr__" = some none∧PySem.W.mroIn K C (.type "BaseException")=some true∧PySem.W.mroIn K C (.type "object")=some true∧PySem.W.findIn K (.ref C) "__setattr__" = some (some (.builtin "object.__setattr__"))∧PySem.W.findIn K (.ref C) name=some none:=by
 unfold exA at h; simpa only [Bool.and_eq_true,beq_iff_eq] using h
theorem ty_of {M:Model}{h:Heap}(e:h.get? a=some o) (c:o.cls=.ref C):PySem.W.Looks M h (typeOf (.ref a)) (.ref C):=c ▸ (PySem.W.Looks.ld e).andThen .now
theorem zjY_ {expr:Bool}{Q:Value→Shared→Prop}(kin:K.In s.heap) (hj:excJ K C=true) (ha:exA K C name=true) (I:s.heap.Inst a C mA) (hv:mA name=some v) (hh:PySem.W.handedIn v=true) (k:Q v { s with toks:=s.toks+1 }) :
  wpAny (model prog w) A (getAttr (.ref a) name expr) Q E s:=by
 obtain ⟨g1,g2,g3,g4,g5,g6⟩:=zi6_ ha
 obtain ⟨nm,qn,N,bs,bm,sn,sub,ab,col,dd,k0,k1,k2,k3,k5,mN,hC,_⟩:=zcW_ kin hj
 cases s with
 | mk hp gs dr tk ost =>
 have T0:PySem.W.Looks (model prog w) hp (typeOf (.ref a)) (.ref C):=by obtain ⟨o,e,c,_⟩:=id I; exact ty_of e c
 have T1:=PySem.W.looks_findIn (M:=model prog w) kin g1; have T2:=PySem.W.looks_findIn (M:=model prog w) kin g2; have T8:=PySem.W.looks_mroIn (M:=model prog w) kin g3
 have n0:(expr && onTheHeap (Value.builtin "BaseException.__getattribute__"))=false:=by cases expr<;>rfl
 have n2:(onTheHeap (Value.ref C) && Value.builtin "BaseException.__getattribute__" == Value.builtin "object.__getattribute__")=false:=(show (Value.builtin "BaseException.__getattribute__" == Value.builtin "object.__getattribute__")=false by decide +kernel)
 have b3:=F.excAttr_ValueError.ga.bind (.ref a)
 unfold getAttr getAttrBy; refine wpAny_bind (wpAny_mkText (wpAny_holding (wpAny_bind (T0.at (wpAny_bind (T1.at ?_)))))); simp only [n2]; rw [if_neg (by decide)]
 unfold getAttrByItsOwn hookBefore; refine wpAny_bind ?_; show wpAny _ _ (typeLookup (.ref C) "__getattr__") _ _ _
 refine T2.at (wpAny_bind (wpAny_attempt (wpAny_holding ?_))); unfold callGetattribute; rw [n0,if_neg (by decide)]; unfold boundAndCalled; rw [b3]
 refine wpAny_bind (wpAny_pure (wpAny_call (codeAny_call_builtin F.excAttr_ValueError.ga.plain F.entry_bexc_ga ?_)))
 show wpAny _ _ (checkBuiltinCall "BaseException.__getattribute__" ⟨[.ref a,.str name tk],[]⟩) _ _ _
 refine LX.check_ga T0 T8 (zip_ kin hC g6 I hv ?_)
 show wpAny _ _ (handedOut v) _ _ _; rw [PySem.W.handedOut_of hh]; exact wpAny_pure k
theorem zhl_ {h:Heap}{bm:List Value}(self:Value) (T:OwnTail h bmV bm):refuseLoop self "__setattr__" bm=pure ():=by
 induction T with
 | base=>exact PySem.F.store_ValueError.passes self
 | own _ _ _ _ ih=>rw [refuseLoop_ref]; exact ih
theorem zeP_ {Q:Unit→Shared→Prop}(kin:K.In s.heap) (hj:excJ K C=true) (ha:exA K C name=true) (hx:s.heap.get? a=some o) (hc:o.cls=.ref C)
  (h:wpAny (model prog w) A.in1 (Builtin.ObjectAttr.storeInOwnDict (.ref a) (.ref C) (.str name s.toks) name v false) (fun r s'=>match r with | .done (.ret _)=>Q () s' | _=>False) E { s with toks:=s.toks+1 }):wpAny (model prog w) A (setAttr (.ref a) name v) Q E s:=by
 obtain ⟨g1,g2,g3,g4,g5,g6⟩:=zi6_ ha
 obtain ⟨nm,qn,N,bs,bm,sn,sub,ab,col,dd,k0,k1,k2,k3,k5,mN,hC,_,_,TL,_⟩:=zcW_ kin hj
 have T0:=ty_of (M:=model prog w) hx hc
 have SF:=PySem.F.store_object
 refine wpAny_bind (wpAny_mkText (wpAny_bind (wpAny_bind (wpAny_bind (T0 _ _ _ _ (fun _ _ e=>e) (PySem.W.looks_findIn kin g5 _ _ _ _ (fun _ _ e=>e) (wpAny_holding ?_)))))))
 rw [SF.slot.bind]; refine wpAny_bind (wpAny_pure (wpAny_bind (wpAny_call ?_)))
 have sub:PySem.W.Looks (model prog w) s.heap (isInstance (.ref a) (.type "object")) true:=T0.andThen (PySem.W.looks_mroIn kin g4)
 refine codeAny_call_builtin SF.slot.plain SF.entry (@PySem.W.check_slot (model prog w) _ _ { s with toks:=s.toks+1 } "object.__setattr__" "object" "__setattr__" (.ref a) [.str name s.toks,v] [] _ SF.kind SF.split sub (SF.args (.ref a) (.str name s.toks) v) ?_)
 have hm:PySem.W.Looks (model prog w) s.heap (mroOf (.ref C)) (.ref C::bm):=fun A' Q' E' s' k q=>wpAny_mroOf_exc (h:=s'.heap) (k _ _ hC) q
 show wpAny _ _ (Builtin.«object.__setattr__» ⟨[.ref a,.str name s.toks,v],[]⟩) _ _ _
 rw [PySem.W.osa_eq,refuse_eq]
 refine wpAny_bind (wpAny_bind (T0.here (s:={ s with toks:=s.toks+1 }) (wpAny_bind (hm.here (s:={ s with toks:=s.toks+1 }) ?_))))
 rw [refuseLoop_ref,zhl_ _ TL]
 refine wpAny_pure (wpAny_bind (T0.here (s:={ s with toks:=s.toks+1 }) (wpAny_bind ((PySem.W.looks_findIn kin g6).here (s:={ s with toks:=s.toks+1 }) (wpAny_bind (wpAny_pure ?_))))))
 refine wpAny_mono h (fun r s' z=>?_) fun _ _ z=>z
 rcases r with (_ | _ | _ | _) | _<;>first | exact z.elim | exact wpAny_pure (wpAny_pure z)
end
end L2
namespace L2
open PySem PySem.Spec PyProof.Rows
section
variable {prog:Program}{w:World}{A:Around}{E:Value→Shared→Prop}{s:Shared}{K:Fgg}{C a dx:Addr}{name:Str}{v:Value}{mA:Str→Option Value}{vs:Array Value}{sl:Array (Option Value)}
def Stop (P:Prop):Prop:=P
theorem ziJ_ {M:Model}{d:Addr}{Q:Unit→Shared→Prop}(h:Stop (wpAny M A (nsSet d name v) Q E s)):wpAny M A (nsSet d name v) Q E s:=h
theorem zjd_ {Q:Unit→Shared→Prop}(kin:K.In s.heap) (hj:excJ K C=true) (ha:exA K C name=true) (hx:s.heap.get? a=some ⟨.ref C,none,.fields vs,sl⟩)
  (k:∀ h' tk,h'.get? a=some ⟨.ref C,some s.heap.objs.size,.fields vs,sl⟩→(∀ b u,b≠a→s.heap.get? b=some u→h'.get? b=some u)→h'.Ns1 s.heap.objs.size (fun y=>if y=name then some v else none)→Q () { s with heap:=h',toks:=tk }) :
  wpAny (model prog w) A (setAttr (.ref a) name v) Q E s:=by
 refine zeP_ kin hj ha hx rfl ?_
 obtain ⟨nm,qn,N,bs,bm,sn,sub,ab,col,dd,k0,k1,k2,k3,k5,mN,hC,_⟩:=zcW_ kin hj
 cases s with
 | mk hp gs dr tk ost =>
 unfold Builtin.ObjectAttr.storeInOwnDict
 repeat (first | with_reducible refine ziJ_ ?_ | with_reducible refine wpAny_loadPart_at hC ?_ | with_reducible refine wpAny_loadPart_at hx ?_ | wp_step)
 have hxs:a≠hp.objs.size:=Nat.ne_of_lt (Heap.lt_size hx)
 refine wpAny_nsSet1 (Heap.Ns1.of_empty ⟨_,#[],_,(Heap.get?_update_ne _ _ _ _ hxs.symm).trans (Heap.get?_push_at rfl rfl),rfl,fun e he=>absurd he (by simp),fun _=>rfl⟩) fun h' hn' hs=>?_
 obtain ⟨oD,esD,epD,hoD,hdD,hcD⟩:=hn'.count (Within.cons name v Within.nil)
 refine wpAny_bind (wpAny_lookBehind hoD (by rw [hdD]; exact pastItsLine_dict (Nat.le_trans hcD (by rw [List.length_cons,List.length_nil,sizeLine_eq]; lia))) ?_)
 wp_walk
 exact k h' _ ((hs.2 a hxs).trans (Heap.get?_update_self _ (Heap.get?_push_of_some _ hx) rfl)) (fun b u hb q=>(hs.2 b (Nat.ne_of_lt (Heap.lt_size q))).trans ((Heap.get?_update_ne _ _ _ _ hb).trans (Heap.get?_push_of_some _ q))) hn'
theorem zjm_ {Q:Unit→Shared→Prop}{ns:List Str}(kin:K.In s.heap) (hj:excJ K C=true) (ha:exA K C name=true) (hx:s.heap.get? a=some ⟨.ref C,some dx,.fields vs,sl⟩) (hn:s.heap.Ns1 dx mA) (hw:PySem.Within mA ns) (hz:ns.length≤sizeLine)
  (k:∀ h' tk,h'.Ns1 dx (fun y=>if y=name then some v else mA y)→Heap.SameBut dx s.heap h'→Q () { s with heap:=h',toks:=tk }) :
  wpAny (model prog w) A (setAttr (.ref a) name v) Q E s:=by
 refine zeP_ kin hj ha hx rfl ?_
 obtain ⟨nm,qn,N,bs,bm,sn,sub,ab,col,dd,k0,k1,k2,k3,k5,mN,hC,_⟩:=zcW_ kin hj
 cases s with
 | mk hp gs dr tk ost =>
 unfold Builtin.ObjectAttr.storeInOwnDict
 repeat (first | with_reducible refine ziJ_ ?_ | with_reducible refine wpAny_loadPart_at hC ?_ | with_reducible refine wpAny_loadPart_at hx ?_ | wp_step)
 refine wpAny_nsSet1 hn fun h' hn' hs=>?_
 obtain ⟨oD,esD,epD,hoD,hdD,hcD⟩:=hn'.count (Within.cons name v hw)
 refine wpAny_bind (wpAny_lookBehind hoD (by rw [hdD]; exact pastItsLine_dict (Nat.le_trans hcD (by rw [List.length_cons]; lia))) ?_)
 wp_walk
 exact k h' _ hn' hs
theorem zkl_ {Q:Value→Shared→Prop}{d:Option Addr}{t0:Addr}(kin:K.In s.heap) (hj:excJ K C=true) (hx:s.heap.get? a=some { cls:=.ref C,dict:=d,data:=.fields #[.ref t0,.none,.none,.none,.bool false,.none] })
  (k:∀ h',h'.get? a=some { cls:=.ref C,dict:=d,data:=.fields #[.ref s.heap.objs.size,.none,.none,.none,.bool false,.none] }→(∀ b u,b≠a→s.heap.get? b=some u→h'.get? b=some u)→Q .none { s with heap:=h' }) :
  wpAny (model prog w) A (call (.builtin "ValueError.__init__") [.ref a,v]) Q E s:=by
 obtain ⟨nm,qn,N,bs,bm,sn,sub,ab,col,dd,k0,k1,k2,k3,k5,mN,hC,_,_,TL,_⟩:=zcW_ kin hj
 have F:=PySem.F.excBase_ValueError
 cases s with
 | mk hp gs dr tk ost =>
 refine wpAny_call (codeAny_call_builtin F.init.plain F.initEntry (wpAny_check_init_subU F TL hC hx rfl ?_))
 wp_walk
 refine k _ ?_ fun b u hb q=>(Heap.get?_update_other _ _ (Ne.symm hb)).trans (Heap.get?_push_of_some _ q)
 rw [Heap.get?_update_self _ (Heap.get?_push_of_some _ hx) rfl]; rfl
end
def XMt (x C:Addr) (d:Option Addr) (h:Heap):Prop:=∃ t,h.get? x=some { cls:=.ref C,dict:=d,data:=.fields #[.ref t,.none,.none,.none,.bool false,.none] }
abbrev XM (x C:Addr) (d:Option Addr):HO:=.ext (XMt x C d)
theorem zmC_ {P:Program}{w:World}{H:Hp}{x C:Addr}{d:Option Addr}{h:Heap}(q:XMt x C d h):ObjOk P w H h x (XM x C d):=⟨q,(by obtain ⟨t,e⟩:=q; exact ⟨_,e⟩),fun h1 h2 ⟨t,e⟩ k=>⟨t,k _ e⟩⟩
theorem zkj_ {H:Hp}{a:Addr}{o:HO}(h:H a=some o):upd H a o=H:=by
 funext b
 unfold upd
 split
 ·rename_i e; rw [e,h]
 ·rfl
def rem (H:Hp) (a:Addr):Hp:=fun b=>if b=a then none else H b
theorem zdK_ {H:Hp}{a b:Addr}(h:b≠a):rem H a b=H b:=if_neg h
theorem zhj_ {H:Hp}{a:Addr}:rem H a a=none:=if_pos rfl
section
variable {X:Cx}{pins:Pnn}{σ:St}{H:Hp}{s:Shared}{a C dx:Addr}{d:Option Addr}{fs:List (Str×V)}{f:Str}{y v:V}{u:Value}{A:Around}{E:Value→Shared→Prop}{φ:Heap→Prop}
theorem Inv.drop (I:Inv X pins σ H s) (e:H a=some (.ext φ)) (n:X.s₀.heap.get? a=none):Inv X pins σ (rem H a) s:=by
 have g:∀ b,H b=none→rem H a b=none:=fun b z=>by
  unfold rem; split
  ·rfl
  ·exact z
 refine ⟨I.ok,I.os,I.bare,⟨I.base.keep,I.base.slot,fun b o q z hx=>g b (I.base.free b o q z hx),I.base.there,fun b xs q=>?_,fun b o u q=>?_,fun b ps q=>?_⟩,I.loc,I.cell,g _ I.free,fun x c q=>g _ (I.freeC x c q),fun p hp=>?_,fun b o q=>?_,I.len⟩
 ·have z:=I.base.tups b xs q
  rw [zdK_ (fun w=>by rw [w,e] at z; cases z)]; exact z
 ·have z:=I.base.frzs b o u q
  rw [zdK_ (fun w=>by rw [w,e] at z; cases z)]; exact z
 ·obtain ⟨m,z⟩:=I.base.tbls b ps q
  exact ⟨m,by rw [zdK_ (fun w=>by rw [w,e] at z; cases z)]; exact z⟩
 ·obtain ⟨q1,q2,q3⟩:=I.pin p hp
  exact ⟨q1,g _ q2,q3⟩
 ·by_cases hb:b=a
  ·rw [hb,zhj_] at q; cases q
  ·rw [zdK_ hb] at q
   exact (I.hok b o q).stay (fun _ _ _ z=>z) (fun c z=>by rw [zdK_ (fun w=>by rw [w,e] at z; cases z)]; exact z) fun c xs z=>by rw [zdK_ (fun w=>by rw [w,e] at z; cases z)]; exact z
theorem Inv.addX {h':Heap}{us:List Value}(I:Inv X pins σ H s) (m:Heap.MadeExcOf s.heap h' a (.ref C) us) (hs:s.heap.objs.size≤a):Inv X pins σ (upd H a (XM a C none)) { s with heap:=h' }:=by
 obtain ⟨t,he,_,_⟩:=m.there
 exact I.laid (t':=s.toks) m.keeps hs (zmC_ ⟨t,he⟩)
theorem zlT_ {Q:Unit→Shared→Prop}(I:Inv X pins σ H s) (e:H a=some (XM a C none)) (hj:excJ X.K C=true) (ha:exA X.K C f=true) (ry:RelV y u)
  (h:∀ s' dx,H dx=none→Inv X pins σ (upd (upd H dx (XDO dx [(f,y)])) a (XM a C (some dx))) s'→Q () s'):wpAny (model X.prog X.w) A (setAttr (.ref a) f u) Q E s:=by
 obtain ⟨⟨t,hx⟩,_⟩:=I.hok a _ e
 have fr:H s.heap.objs.size=none:=I.hok.fresh (Nat.le_refl _)
 refine zjd_ I.kIn hj ha hx fun h' tk g1 g2 g3=>h _ s.heap.objs.size fr ?_
 have na:s.heap.objs.size≠a:=fun z=>by rw [z,e] at fr; cases fr
 have nd:∀ b o,s.heap.get? b=some o→b≠s.heap.objs.size:=fun b o q=>Nat.ne_of_lt (Heap.lt_size q)
 have tr:∀ b,b≠a→b≠s.heap.objs.size→upd (upd H s.heap.objs.size (XDO s.heap.objs.size [(f,y)])) a (XM a C (some s.heap.objs.size)) b=H b:=fun b z1 z2=>by rw [zO_ z1,zO_ z2]
 have nH:∀ b o,H b=some o→b≠s.heap.objs.size:=fun b o q z=>by rw [z,fr] at q; cases q
 refine I.un (h':=h') (t':=tk) ⟨fun b o q n _ _=>g2 b o (fun z=>by rw [z,e] at n; cases n) q,fun b o q n _ _=>⟨o.slots,g2 b o (fun z=>by rw [z,e] at n; cases n) q⟩,fun b o q n _=>?_,fun b o q _=>?_,fun b xs q=>?_,fun b o u q=>?_,fun b ps q=>⟨#[],?_⟩⟩ fun b o q=>?_
 ·rw [tr b (fun z=>by rw [z,e] at n; cases n) (nd b o q)]; exact n
 ·by_cases hb:b=a
  ·rw [hb]; exact ⟨_,g1⟩
  ·exact ⟨o,g2 b o hb q⟩
 ·rw [tr b (fun z=>by rw [z,e] at q; cases q) (nH b _ q)]; exact q
 ·rw [tr b (fun z=>by rw [z,e] at q; cases q) (nH b _ q)]; exact q
 ·rw [tr b (fun z=>by rw [z,e] at q; cases q) (nH b _ q),Array.append_empty]; exact q
 ·by_cases hb:b=a
  ·subst hb; rw [zC_] at q; cases q; exact zmC_ ⟨t,g1⟩
  ·rw [zO_ hb] at q
   by_cases hd:b=s.heap.objs.size
   ·rw [hd,zC_] at q; cases q
    rw [hd]
    refine xd_ok ⟨_,g3,fun g=>?_,fun g hg=>?_⟩
    ·rw [List.lookup_cons]
     by_cases z:g=f
     ·rw [z,beq_self_eq_true,if_pos rfl]; exact ry
     ·rw [beq_eq_false_iff_ne.mpr z,if_neg z]; exact True.intro
    ·by_cases z:g=f
     ·rw [z]; exact List.mem_cons_self
     ·exact absurd (if_neg z) hg
   ·rw [zO_ hd] at q
    refine (I.hok b o q).stay (fun c w hc z=>g2 c w (fun zz=>?_) z) (fun c z=>?_) fun c xs z=>?_
    ·rcases hc with rfl | hc
     ·exact hb zz
     ·rw [zz,e] at hc; cases hc
    ·rw [tr c (fun w=>by rw [w,e] at z; cases z) (nH c _ z)]; exact z
    ·rw [tr c (fun w=>by rw [w,e] at z; cases z) (nH c _ z)]; exact z
theorem zly_ {Q:Unit→Shared→Prop}(I:Inv X pins σ H s) (e:H a=some (XM a C (some dx))) (ed:H dx=some (XDO dx fs)) (hj:excJ X.K C=true) (ha:exA X.K C f=true) (hl:fs.length<1000) (ry:RelV y u)
  (h:∀ s',Inv X pins σ (upd H dx (XDO dx (putF f y fs))) s'→Q () s'):wpAny (model X.prog X.w) A (setAttr (.ref a) f u) Q E s:=by
 obtain ⟨⟨t,hx⟩,_⟩:=I.hok a _ e
 obtain ⟨⟨mA,n1,n2,n3⟩,_⟩:=I.hok dx _ ed
 have hz:(fs.map (·.1)).length≤sizeLine:=by rw [List.length_map,sizeLine_eq]; lia
 refine zjm_ I.kIn hj ha hx n1 n3 hz fun h' tk g1 g2=>h _ ?_
 refine I.write (t':=tk) (x:=dx) (e:=dx) (by rw [ed]; exact True.intro) (.inl rfl) (fun b q hb z=>(g2.2 b hb).trans z) (by obtain ⟨o,_,_,z,_⟩:=g1; exact ⟨o,z⟩) (xd_ok ⟨_,g1,fun g=>?_,fun g hg=>?_⟩)
 ·rw [zc1_]
  by_cases q:g=f
  ·rw [if_pos q,if_pos q]; exact ry
  ·rw [if_neg q,if_neg q]; exact n2 g
 ·by_cases q:g=f
  ·rw [q]; exact (zc5_ f y fs).1
  ·refine (zc5_ f y fs).2 g (n3 g fun z=>hg ?_)
   show (if g=f then some u else mA g)=none
   rw [if_neg q]; exact z
theorem zk2_ {Q:Value→Shared→Prop}{u:Value}(I:Inv X pins σ H s) (e:H a=some (XM a C d)) (hj:excJ X.K C=true) (h:∀ s',Inv X pins σ H s'→Q .none s'):wpAny (model X.prog X.w) A (call (.builtin "ValueError.__init__") [.ref a,u]) Q E s:=by
 obtain ⟨⟨t,hx⟩,_⟩:=I.hok a _ e
 refine zkl_ I.kIn hj hx fun h' g1 g2=>h _ ?_
 have z:=I.write (t':=s.toks) (o:=XM a C d) (x:=a) (e:=a) (by rw [e]; exact True.intro) (.inl rfl) g2 ⟨_,g1⟩ (zmC_ ⟨_,g1⟩)
 rw [zkj_ e] at z
 exact z
theorem zls_ {b:Bool}{Q:Value→Shared→Prop}(I:Inv X pins σ H s) (e:H a=some (XO a C (some dx))) (ed:H dx=some (XDO dx fs)) (hj:excJ X.K C=true) (ha:exA X.K C f=true) (l:fs.lookup f=some v)
  (h:∀ u s',Inv X pins σ H s'→RelV v u→Q u s'):wpAny (model X.prog X.w) A (getAttr (.ref a) f b) Q E s:=by
 obtain ⟨⟨o,vs,q1,q2,q3,q4,_⟩,_⟩:=I.hok a _ e
 obtain ⟨⟨mA,n1,n2,n3⟩,_⟩:=I.hok dx _ ed
 obtain ⟨u,hu,ru⟩:=RelO.some_of (v:=v) (o:=mA f) (by rw [← l]; exact n2 f)
 have ne:dx≠a:=by
  rintro rfl
  obtain ⟨o',es,ep,z1,z2,_⟩:=id n1
  cases q1.symm.trans z1
  rw [q4] at z2; cases z2
 exact zjY_ I.kIn hj ha ⟨o,q1,q2,(fun c z=>by rw [q4] at z; cases z),.inr ⟨dx,q3,ne,n1⟩⟩ hu (zij_ ru) (h u _ (I.tok _) ru)
end
def mXFld (K:Fgg) (te:TE) (f:Str):TE:=fun σ H Q=>te σ H fun x H1=>match x with
 | .ref a=>∃ C dx fs v,H1 a=some (XO a C (some dx))∧H1 dx=some (XDO dx fs)∧(excJ K C=true∧exA K C f=true)∧fs.lookup f=some v∧Q v H1
 | _=>False
def mXSet (C:Addr) (te tv:TE) (f:Str):TS:=fun D σ H=>tv σ H fun y H1=>te σ H1 fun x H2=>match x with
 | .ref a=>(∃ dx fs,H2 a=some (XM a C (some dx))∧H2 dx=some (XDO dx fs)∧fs.length<1000∧D.nx σ (upd H2 dx (XDO dx (putF f y fs))))∨(H2 a=some (XM a C none)∧∀ dx,H2 dx=none→D.nx σ (upd (upd H2 dx (XDO dx [(f,y)])) a (XM a C (some dx))))
 | _=>False
def mBInit (C:Addr) (t:TA):TS:=fun D σ H=>t σ H fun vs H1=>match vs with
 | [.ref a,_]=>∃ d,H1 a=some (XM a C d)∧D.nx σ H1
 | _=>False
def binK (K:Fgg) (B:Addr):Bool:=PySem.W.specialIn K (.ref B) "__getattribute__" == some (some (.builtin "type.__getattribute__")) && (PySem.W.readsIn K B (.type "type") && match PySem.W.findCls K (.ref B) (.type "type") "__init__" with | some (.val v)=>v == .builtin "ValueError.__init__" | _=>false)
section
variable {X:Cx}{e value o:Expr}{es:List Expr}{f x:Str}{p pos pos' apos:Pos}{ta tv te:TE}{t:TA}{C B:Addr}{k:Nat}{ps:List Str}{sp:Sp}
theorem zi1_ (he:PE X e te) (hb:attributeBase e f X.env (eval e X.env)=eval e X.env:=by rfl):PE X (.Attribute e f pos) (mXFld X.K te f):=by
 intro pins s σ H Q I h
 refine zk6_ hb (thn (he pins s σ H _ I h) fun u s1 hq_=>?_)
 obtain ⟨x,H1,I1,rx,q1⟩:=hq_
 cases x with
 | ref a =>
  obtain ⟨C,dx,fs,v,ea,ed,⟨hj,ha⟩,l,q⟩:=q1
  obtain rfl:u=Value.ref a:=rx
  exact zls_ I1 ea ed hj ha l fun u' s2 I2 ru=>⟨v,H1,I2,ru,q⟩
 | _=>exact q1.elim
theorem ziz_ (hj:excJ X.K C=true) (hA:exA X.K C f=true) (ha:PE X o ta) (hv:PE X value tv) (hs:swapsWith value (some (.Attribute o f pos')) pos.line X.env=pure false:=by rfl):PS X (.Assign [.Attribute o f pos'] value pos) (mXSet C ta tv f):=by
 intro pins s σ H D I h
 refine plainObj_wpAny_Assign_Attribute (thn (hv pins s σ H _ I h) fun u s1 ⟨y,H1,I1,ry,q⟩=>thn (ha pins s1 σ H1 _ I1 q) fun ov s2 hq_=>?_) hs
 obtain ⟨x,H2,I2,rx,q2⟩:=hq_
 cases x with
 | ref a =>
  obtain rfl:ov=Value.ref a:=rx
  rcases q2 with ⟨dx,fs,ea,ed,l,q3⟩ | ⟨ea,q3⟩
  ·exact zly_ I2 ea ed hj hA l ry fun s3 I3=>⟨σ,_,I3,q3⟩
  ·exact zlT_ I2 ea hj hA ry fun s3 dx hd I3=>⟨σ,_,I3,q3 dx hd⟩
 | _=>exact q2.elim
theorem zjl_ {pl:Sem Bool}{e2:Expr}(hj:excJ X.K C=true) (hk:binK X.K B=true) (hm:X.mg x=some (.ref B)) (ha:PA X [e,e2] t) (hg:Gl X x:=by rfl) (hdb:(x == ("__debug__" : Str))=false:=by decide)
  (hst:starEach [e,e2] X.env=(false,eval e X.env)::starEach [e2] X.env:=by rfl) (hpl:(backTo pos (starEach [e2] X.env)).any (·.1)=false:=by rfl)
  (ht:eval (.Call (.Attribute (.Name x p) "__init__" apos) [e,e2] [] pos) X.env=(do
   let ov ← eval (.Name x p) X.env
   standAt apos.atName
   let (f,first) ← holding [ov] (getMethod ov "__init__" pl)
   callWith pos f first (backTo pos (starEach [e,e2] X.env)) (backToKw pos (keywordEach [] X.env))):=by rfl)
  (hs:swapsWith (.Call (.Attribute (.Name x p) "__init__" apos) [e,e2] [] pos) none pos'.line X.env=pure false:=by rfl) :
  PS X (.Expr (.Call (.Attribute (.Name x p) "__init__" apos) [e,e2] [] pos) pos') (mBInit C t):=by
 unfold binK at hk
 simp only [Bool.and_eq_true,beq_iff_eq] at hk
 obtain ⟨h1,h2,h3⟩:=hk
 split at h3
 case h_2=>cases h3
 case h_1 v0 h4 =>
  obtain rfl:v0=_:=beq_iff_eq.mp h3
  have hn:PE X (.Name x p) (tC (.ref B)):=ziX_ hg hm rfl hdb
  intro pins s σ H D I h
  refine wpAny_Expr_any (Q:=SP X pins D) ?_ I.quiet hs
  refine PySem.W.methodCall_KW (pl:=pl) (thn (hn pins s σ H (fun v H1=>v=.ref B∧mBInit C t D σ H1) I ⟨rfl,h⟩) fun u s1 hq_=>?_) ht
  obtain ⟨x,H1,I1,rx,ex,q⟩:=hq_
  subst ex
  obtain rfl:u=Value.ref B:=rx
  refine PySem.W.method_cls I1.kIn h1 (PySem.W.cls_value I1.kIn h2 h4 rfl ?_)
  refine PyProof.Rows.callWith_builtin1 (thn (ha pos pins _ σ H1 _ (I1.tok _) q) fun us s2 hq_=>?_) hst hpl
  obtain ⟨vs,H2,I2,r,q2⟩:=hq_
  match vs,q2 with
  | [.ref a,w],⟨d,ea,q3⟩ =>
   obtain ⟨u1,u2,rfl,r1,r2⟩:=vals2 r
   obtain rfl:u1=Value.ref a:=r1
   exact zk2_ I2 ea hj fun s3 I3=>⟨σ,H2,I3,q3⟩
end
end L2
namespace L2
open PySem PySem.Spec PyProof.Rows
def GxI (P:Program) (w:World) (K:Fgg) (mg:Str→Option Value) (base:Heap) (k:Nat) (x:Str) (C:Addr) (ps:List Str) (sp:Sp):Prop :=
 ∃ f fd,FnOk P w K mg base CX0 k f fd ps sp∧excJ K C=true∧PySem.W.findIn K (.ref C) "__init__" = some (some (.ref f))∧PySem.W.isFn K (.ref f)=true∧mg x=some (.ref C)∧Binds K fd ps []
def tRaiseI (C:Addr) (sp:Sp) (E:XK) (t:TA):TS:=fun _ σ H=>t σ H fun vs H1=>vs.length≤100∧∀ x,H1 x=none→sp (.ref x::(vs++[])) (upd H1 x (XM x C none)) (fun v H2=>v=.non∧∃ d,H2 x=some (XM x C d)∧E (.ref C) d (rem H2 x)) E0
theorem fn_at {K:Fgg}{h:Heap}{f:Addr}(kin:K.In h) (q:PySem.W.isFn K (.ref f)=true):∃ o,h.get? f=some o∧o.cls=.type "function" := by
 unfold PySem.W.isFn PySem.W.typeIn at q
 have q:Option.map (fun x=>x.cls) (List.lookup f K)=some (.type "function"):=beq_iff_eq.mp q
 cases e:List.lookup f K with
 | none=>rw [e] at q; cases q
 | some o=>rw [e] at q; exact ⟨o,kin _ _ e,Option.some.inj q⟩
section
variable {X:Cx}{E:XK}{C:Addr}{x:Str}{e:Expr}{es:List Expr}{t:TA}{np cpos pos:Pos}{k:Nat}{ps:List Str}{sp:Sp}
theorem zh4_ (hT:Takes X E) (hcm:X.calm=true) (G:GxI X.prog X.w X.K X.mg X.base k x C ps sp) (hr:Room (k+1) X.A) (ha:PA X (e::es) t) (hg:Gl X x:=by rfl) (hdb:(x == ("__debug__" : Str))=false:=by decide)
  (he:starEach (e::es) X.env=(false,eval e X.env)::starEach es X.env:=by rfl) (hpl:(backTo cpos (starEach es X.env)).any (·.1)=false:=by rfl) (hex:X.ex=[]:=by rfl) :
  PS X (.Raise (some (.Call (.Name x np) (e::es) [] cpos)) none pos) (tRaiseI C sp E t):=by
 obtain ⟨f,fd,Fo,hj,hf,hfn,hm,hb⟩:=G
 intro pins s σ H D I h
 obtain ⟨nm,qn,N,bs,bm,sn,sub,ab,col,dd,k0,k1,k2,k3,k5,mN,hC,hN,hni,TL,hkp⟩:=zcW_ I.ok.mod.kin hj
 rw [arm_exec_Raise]
 refine wpAny_bind (wpAny_standAt (zhR_ (C:=C) (nm:=nm) (q:=qn) (N:=N) (bs:=bs) (bm:=bm) (hd:=true) (sn:=sn) (sub:=sub) (ab:=ab) (col:=col) (dd:=dd) (k0:=k0) (k1:=k1) (k2:=k2) (k3:=k3) (k5:=k5) (ni := "ValueError.__new__") (TL.hasType rfl) (I.ok.hd hcm) ?_))
 refine wpAny_bind (thn (wpAny_Call_Name_kw (zcf_ I hg hm (PySem.W.callWith_K (h₀:=X.base) I.ok.mod.kin hkp (thn (ha cpos pins s σ H _ I h) fun us s1 ⟨vs,H1,I1,r,q⟩=>⟨I1.kIn,?_⟩) he hpl) hdb)) fun v s3 h3=>wpAny_bind (wpAny_standAt (wpAny_pure h3)))
 obtain ⟨hl,q⟩:=q
 obtain ⟨fo,hfo,hfc⟩:=fn_at I1.kIn hfn
 obtain ⟨hp,gg,dr,tk,ost⟩:=s1
 refine zjG_ (TL.keeps I1.bk) (I1.bk _ _ hC) (hN.keeps I1.bk) (hni f hf) hfo hfc (fun h' a hmd hz=>?_) (by show us.length≤_; rw [← r.length]; exact Nat.le_trans hl (by rw [sizeLine_eq]; decide))
 have I2:=I1.addX hmd hz
 have hq:=q a (I1.hok.none_at hmd.new)
 have r2:Vals (V.ref a::(vs++[])) (Value.ref a::(us++[])):=.cons rfl (r.append .nil)
 have hl2:(Value.ref a::us++[]).length=ps.length:=by
  have e:=r2.length
  rw [Fo.len _ _ _ _ hq] at e
  exact e.symm
 have yg:X.s₀.heap.get? a=none:=by
  cases e:X.s₀.heap.get? a with
  | none=>rfl
  | some o =>
   obtain ⟨o',z⟩:=I1.base.there a o e (fun z=>by rw [hex] at z; cases z)
   rw [hmd.new] at z; cases z
 have hb2:BindsTo ⟨h',gg,dr,tk,ost⟩ fd ⟨Value.ref a::us,[]⟩ (ps.zip (Value.ref a::(us++[]))):=by have z:=hb ⟨h',gg,dr,tk,ost⟩ (Value.ref a::us) I2.kIn hl2; rwa [List.cons_append] at z
 refine wpAny_call (codeAny_mono (Fo.run _ X.stack _ _ ⟨Value.ref a::us,[]⟩ (Value.ref a::(us++[])) _ _ E0 (hr.make C us []) (I2.env0.make C us []) hb2 r2 hq) fun r s' hq'=>?_)
 cases r with
 | error e=>exact pass0 (X:=X) pins σ _ _ e s' I2 hq'
 | ok fl =>
  cases fl with
  | ret u =>
   obtain ⟨v,H',I3,rv,ev,d,hd,q3⟩:=I2.after hq'
   subst ev
   obtain ⟨⟨t,hx⟩,_⟩:=I3.hok a _ hd
   exact ⟨rv,a,_,_,rfl,I3.bk _ _ hC,hx,rfl,rfl,rfl,hT pins σ (rem H' a) s' a C _ _ _ (I3.drop hd yg) zhj_ yg hx rfl rfl rfl rfl rfl q3⟩
  | next=>exact False.elim hq'
  | brk=>exact False.elim hq'
  | cont=>exact False.elim hq'
end
def CtI {γ:Type}(K:Fgg) (C:Addr) (Q:Cs γ) (g:γ→Mo (List Nat)) (ns:List Str):Sp:=fun vs H R E=>∃ F c x ws,vs=.ref x::ws∧Same F H∧H x=some (XM x C none)∧Q.R c ws F ∧
 After K (g c) E F H fun _ _ H'=>∀ dx,H' dx=none→R .non (upd (upd H' dx (XDO dx (ns.zip ws))) x (XM x C (some dx)))
section
variable {K:Fgg}{E:XK}{α β γ ρ S B:Type}{F0 H0 F h H:Hp}{L:List Sl}{O:Own ρ}{LS:S→List Sl}{LB:B→List Sl}{C:Addr}
theorem xi_rd {te:TE}{T1:Ty α}{T2:Ty β}{g:α×β→Mo (List Nat)}{T3:Ty (List Nat)}{n1 n2:Str}{N:List Str}(hN:N.length=3) (hne:n1≠n2) (ev:∀ c E,EvF K te E [.dead,.fz T1 c.1,.fz T2 c.2] (g c) T3) :
  ∀ vs H R E,CtI K C (csCons T1 (csLast T2)) g [n1,n2] vs H R E→tSeq (mBInit C (tCons (mVar 0) (tCons te tNil))) (tSeq (mXSet C (mVar 0) (mVar 1) n1) (mXSet C (mVar 0) (mVar 2) n2)) { nx:=fun _ H'=>R .non H',rt:=R } (start N vs) H:=by
 rintro vs H R E ⟨F,c,x,ws,rfl,hs,hx,⟨w1,us,rfl,h1,w2,rfl,h2⟩,q⟩
 have hst:start N [V.ref x,w1,w2]=[some (.ref x),some w1,some w2]:=by unfold start; rw [hN]; rfl
 rw [hst]
 refine ev c E _ F H _ (fun i s e=>?_) hs (q.imp fun txt F1 H1 ex k v hv=>?_)
 ·match i with
  | 0=>cases e; trivial
  | 1=>cases e; exact ⟨w1,rfl,h1⟩
  | 2=>cases e; exact ⟨w2,rfl,h2⟩
  | i+3=>cases e
 ·have hx1:H1 x=some (XM x C none):=ex.2.2.1 _ _ hx
  refine ⟨none,hx1,?_⟩
  refine .inr ⟨hx1,fun dx hd=>?_⟩
  have ne:dx≠x:=fun z=>by rw [z,hx1] at hd; cases hd
  refine .inl ⟨dx,[(n1,w1)],zC_,by rw [zO_ ne]; exact zC_,(show (1:Nat)<1000 by decide),?_⟩
  have e1:putF n2 w2 [(n1,w1)]=[(n1,w1),(n2,w2)]:=by unfold putF; rw [if_neg hne]; rfl
  rw [e1]
  have e2:upd (upd (upd H1 dx (XDO dx [(n1,w1)])) x (XM x C (some dx))) dx (XDO dx [(n1,w1),(n2,w2)])=upd (upd H1 dx (XDO dx [(n1,w1),(n2,w2)])) x (XM x C (some dx)):=by
   funext b
   unfold upd
   by_cases z1:b=dx
   ·rw [if_pos z1,if_neg (fun z2=>ne (z1.symm.trans z2)),if_pos z1]
   ·rw [if_neg z1,if_neg z1,if_neg z1]
  rw [e2]
  exact k dx hd
theorem zj8_ {cn:String}{Q:Cs γ}{n:Nat}{ns:List Str}{g:γ→Mo (List Nat)}{as:γ→List (Str×Av)}{ta:TA}{r:Mo γ}(hl:CsN Q n) (hat:∀ c ws F,Q.R c ws F→AtR (as c) (ns.zip ws) F) (h:EvA K ta E L r Q) (hn:n≤100:=by decide) :
  EvS K (tRaiseI (gA K cn) (CtI K (gA K cn) Q g ns) E ta) E L (r.bind fun c=>(Mo.noex (g c)).bind fun _=>.ex (.at cn (as c))) LS LB O:=by
 intro F0 H0 σ F hh H D hL ok fin
 refine h σ (un F hh) H _ (hL.froz ok.2.1) ok.thaw (zaS_ (G:=F) ok _ (.inl rfl) fin fun a F' H' hr x vs hv=>?_)
 rw [hr] at fin
 refine ⟨by rw [hl hv]; exact hn,fun xx hxx=>⟨F',a,xx,vs,by rw [List.append_nil],x.2.1.trans (zas_ hxx _),zC_,hv,?_⟩⟩
 cases e:g a with
 | no=>rw [show Mo.bind (Mo.ok a) (fun c=>(Mo.noex (g c)).bind fun _=>.ex (.at cn (as c)))=(Mo.noex (g a)).bind fun _=>(.ex (.at cn (as a)):Mo (Out ρ B S)) from rfl,e] at fin; exact fin
 | ex c=>rw [show Mo.bind (Mo.ok a) (fun c=>(Mo.noex (g c)).bind fun _=>.ex (.at cn (as c)))=(Mo.noex (g a)).bind fun _=>(.ex (.at cn (as a)):Mo (Out ρ B S)) from rfl,e] at fin; exact fin.elim
 | ok txt =>
  rw [show Mo.bind (Mo.ok a) (fun c=>(Mo.noex (g c)).bind fun _=>.ex (.at cn (as c)))=(Mo.noex (g a)).bind fun _=>(.ex (.at cn (as a)):Mo (Out ρ B S)) from rfl,e] at fin
  intro F2 H2 y dx hd
  refine ⟨rfl,some dx,zC_,?_⟩
  have hxx2:H2 xx=some (XM xx (gA K cn) none):=y.2.2.1 _ _ zC_
  have ne:dx≠xx:=fun z=>by rw [z,hxx2] at hd; cases hd
  have hF':F' xx=none:=x.2.1.free hxx
  have hF2:F2 xx=none:=by
   cases z:F2 xx with
   | none=>rfl
   | some o=>have:=y.2.2.2 xx hF' (by rw [z]; exact Option.some_ne_none _); rw [zC_] at this; cases this
  have hF2d:F2 dx=none:=y.2.1.free hd
  have up:∀ p,H' p≠none→p≠xx:=fun p z w=>z (by rw [w]; exact hxx)
  have s12:Same H' H2:=(zas_ hxx _).trans y.2.2.1
  have hH3:∀ p o,p≠xx→H2 p=some o→rem (upd (upd H2 dx (XDO dx (ns.zip vs))) xx (XM xx (gA K cn) (some dx))) xx p=some o:=fun p o n z=>by
   rw [zdK_ n,zO_ n,zO_ (fun w=>by rw [w,hd] at z; cases z)]; exact z
  have hH3d:rem (upd (upd H2 dx (XDO dx (ns.zip vs))) xx (XM xx (gA K cn) (some dx))) xx dx=some (XDO dx (ns.zip vs)):=by rw [zdK_ ne,zO_ ne]; exact zC_
  have Y:Ext (un F hh) H (upd F2 dx (XDO dx (ns.zip vs))) (rem (upd (upd H2 dx (XDO dx (ns.zip vs))) xx (XM xx (gA K cn) (some dx))) xx):=by
   refine ⟨(x.1.trans y.1).trans (zas_ hF2d _),fun p o z=>?_,fun p o z=>hH3 p o (up p (by rw [x.2.2.1 _ _ z]; exact Option.some_ne_none _)) (s12 _ _ (x.2.2.1 _ _ z)),fun p a1 b1=>?_⟩
   ·by_cases w:p=dx
    ·rw [w,zC_] at z; cases z; rw [w]; exact hH3d
    ·rw [zO_ w] at z
     exact hH3 p o (fun v=>by rw [v,hF2] at z; cases z) (y.2.1 _ _ z)
   ·by_cases w:p=dx
    ·rw [w]; exact (x.2.2.1.trans s12).free hd
    ·rw [zO_ w] at b1
     cases z:F' p with
     | some o=>exact x.2.2.2 p a1 (by rw [z]; exact Option.some_ne_none _)
     | none =>
      have q:=y.2.2.2 p z b1
      exact x.2.2.1.free ((zas_ hxx (XM xx (gA K cn) none)).free q)
  obtain ⟨o1,o2,o3⟩:=ok.back Y
  have hhd:hh dx=none:=ok.2.2.1.free ((x.2.2.1.trans s12).free hd)
  refine fin _ hh _ o1 dx _ (ok.1.2.2.1.free ((x.2.2.1.trans s12).free hd)) ?_ ((hat a vs F' hv).imm fun p xs z=>o3 p xs ?_)
  ·rw [zbV_ hhd]; exact zC_
  ·rw [zO_ (fun w=>by rw [w] at z; have:=y.1 _ _ z; rw [hF2d] at this; cases this)]; exact y.1 _ _ z
end
end L2
namespace L2
open PySem PySem.Spec PyProof.Rows
def Xc.c:Xc→String
 | .pl c=>c
 | .at c _=>c
def XAtt (x:Xc) (d:Option Addr) (H:Hp):Prop:=match x with
 | .pl _=>d=none
 | .at _ as=>∃ dx fs,d=some dx∧H dx=some (XDO dx fs)∧AtR as fs H
theorem XAtt.mono {x:Xc}{d:Option Addr}{H H':Hp}(g:Same H H') (h:XAtt x d H):XAtt x d H':=by
 cases x with
 | pl c=>exact h
 | «at» c as=>obtain ⟨dx,fs,e,q,r⟩:=h; exact ⟨dx,fs,e,g _ _ q,r.imm g.tups⟩
abbrev tyXc (K:Fgg):Ty Xc:=⟨fun x v H=>∃ p d,v=.ref p∧H p=some (XO p (gA K x.c) d)∧XAtt x d H,fun g ⟨p,d,e,q,r⟩=>⟨p,d,e,g _ _ q,r.mono g⟩⟩
def Mo.tr {α β:Type}(r:Mo α) (k:α→Mo β) (hd:Xc→Mo β):Mo β:=match r with | .ok a=>k a | .ex x=>hd x | .no=>.no
def Mo.cat {β:Type}(t:List (String×Bool)) (c:String) (k1 k2:Mo β):Mo β:=match t.lookup c with | some true=>k1 | some false=>k2 | none=>.no
def CatT (K:Fgg) (S:String) (t:List (String×Bool)):Prop:=∀ p∈t,(if p.2 then catK K (gA K p.1) (gA K S) else catN K (gA K p.1) (gA K S))=true
def IsaT (K:Fgg) (v:Value) (t:List (String×Bool)):Prop:=∀ p∈t,isaK K (gA K p.1) v=some p.2
theorem za8_ {β:Type}{c:String}{b:β}:∀ {t:List (String×β)},t.lookup c=some b→(c,b)∈t
 | [],h=>by cases h
 | (d,x)::t,h=>by
  rw [List.lookup_cons] at h
  split at h
  ·rename_i e; cases h; rw [eq_of_beq e]; exact List.mem_cons_self
  ·exact List.mem_cons_of_mem _ (za8_ h)
theorem zgo_ {K:Fgg}{S:String}:CatT K S []:=fun _ h=>nomatch h
theorem zlm_ {K:Fgg}{S c:String}{t:List (String×Bool)}(h:catK K (gA K c) (gA K S)=true) (r:CatT K S t):CatT K S ((c,true)::t):=fun p hp=>by
 rcases List.mem_cons.mp hp with rfl | hp
 ·exact h
 ·exact r p hp
theorem zl4_ {K:Fgg}{S c:String}{t:List (String×Bool)}(h:catN K (gA K c) (gA K S)=true) (r:CatT K S t):CatT K S ((c,false)::t):=fun p hp=>by
 rcases List.mem_cons.mp hp with rfl | hp
 ·exact h
 ·exact r p hp
theorem zai_ {K:Fgg}{v:Value}:IsaT K v []:=fun _ h=>nomatch h
theorem zap_ {K:Fgg}{v:Value}{c:String}{b:Bool}{t:List (String×Bool)}(h:isaK K (gA K c) v=some b) (r:IsaT K v t):IsaT K v ((c,b)::t):=fun p hp=>by
 rcases List.mem_cons.mp hp with rfl | hp
 ·exact h
 ·exact r p hp
theorem zjt_ {K:Fgg}{C S:Addr}(h:catN K C S=true):¬ catK K C S=true:=fun h2=>by
 unfold catN at h; unfold catK at h2
 simp only [Bool.and_eq_true,beq_iff_eq] at h h2
 have:=h.2.symm.trans h2.2
 cases this
section
variable {K:Fgg}{E:XK}{α β γ δ ρ S B:Type}{F0 H0 F h H:Hp}{L:List Sl}{O:Own ρ}{LS:S→List Sl}{LB:B→List Sl}{i:Nat}{x:Xc}{ts:TS}{rest th:TH}{e:TE}{r:Mo α}{T:Ty α}
def EvH (K:Fgg) (th:TH) (E:XK) (L:List Sl) (x:Xc) (r:Mo (Out ρ B S)) (LS:S→List Sl) (LB:B→List Sl) (O:Own ρ):Prop :=
 ∀ F0 H0 σ F h H d (D:Ends),Hold L σ F h→Okk F0 H0 F h H→XAtt x d F→Fin K r E LS LB O F0 H0 D→th (gA K x.c) d D σ H
theorem eh_0:EvH K tH0 E L x .no LS LB O:=fun _ _ _ _ _ _ _ _ _ _ _ fin=>fin
theorem zc8_:∀ {L:List Sl}{σ:St}{F h:Hp}{i:Nat}{o:Option V},L[i]?=some .dead→Hold L σ F h→Hold L (σ.set i o) F h
 | [],_,_,_,_,_,e,_=>by simp at e
 | s::L,[],_,_,_,_,_,q=>q.elim
 | s::L,a::σ,F,h,0,o,e,⟨h1,h2,j,p,q⟩=>by
  cases (show s=.dead by simpa using e)
  exact ⟨h1,h2,j,trivial,q⟩
 | s::L,a::σ,F,h,i+1,o,e,⟨h1,h2,j,p,q⟩=>⟨h1,h2,j,p,zc8_ (by simpa using e) q⟩
theorem zdw_ {L:List Sl}{σ:St}{F h:Hp}{i:Nat}{o:Option V}(e:L[i]?=some .dead∨L=[]) (q:Hold L σ F h):Hold L (σ.set i o) F h:=by
 rcases e with e | rfl
 ·exact zc8_ e q
 ·cases σ with
  | nil=>exact q
  | cons a σ=>exact q.elim
theorem zjV_ {D:Ends}{r:Mo (Out ρ B S)}(hd:∀ s,(LS s)[i]?=some .dead) (hb:∀ b,(LB b)[i]?=some .dead∨LB b=[]) (fin:Fin K r E LS LB O F0 H0 D):Fin K r E LS LB O F0 H0 (gone i D):=by
 cases r with
 | no=>exact fin
 | ex c=>exact fin
 | ok o =>
  cases o with
  | nx s=>exact fun σ F h H q ok=>fin _ F h H (zc8_ (hd s) q) ok
  | bk s=>exact fun σ F h H q ok=>fin _ F h H (zdw_ (hb s) q) ok
  | ct s=>exact fun σ F h H q ok=>fin _ F h H (zdw_ (hb s) q) ok
  | rt a=>exact fin
theorem eh_as {c:String}{t:List (String×Bool)}{r1 r2:Mo (Out ρ B S)}(hT:CatT K c t) (hi:L[i]?=some .dead) (hd:∀ s,(LS s)[i]?=some .dead)
  (h1:EvS K ts E (L.set i (.fz (tyXc K) x)) r1 LS LB O) (h2:EvH K rest E L x r2 LS LB O) (hb:∀ b,(LB b)[i]?=some .dead∨LB b=[]:=by first | exact fun _=>.inl rfl | exact fun _=>.inr rfl):EvH K (tHAs K (gA K c) i ts rest) E L x (Mo.cat t x.c r1 r2) LS LB O:=by
 intro F0 H0 σ F h H d D hL ok hx fin
 unfold Mo.cat at fin
 split at fin
 case h_1 e =>
  have z:catK K (gA K x.c) (gA K c)=true:=hT _ (za8_ e)
  unfold tHAs
  rw [if_pos z]
  intro p hp
  have y:=Ext.new (o:=XO p (gA K x.c) d) ok.1.2.1 hp
  exact h1 F0 H0 _ (upd F p (XO p (gA K x.c) d)) h _ (gone i D) (zbl_ hi (hL.mono y.1) ⟨p,d,rfl,zC_,hx.mono y.1⟩) (ok.cold y) (zjV_ hd hb fin)
 case h_2 e =>
  have z:catN K (gA K x.c) (gA K c)=true:=hT _ (za8_ e)
  unfold tHAs
  rw [if_neg (zjt_ z)]
  exact ⟨z,h2 F0 H0 σ F h H d D hL ok hx fin⟩
 case h_3=>exact fin.elim
def isaQ (t:List (String×Bool)) (c:String):Option Bool:=t.lookup c
theorem zaT_ {t:List (String×Bool)}{v:V}{u:Value}{re:Mo Xc}(hT:IsaT K u t) (hv:clsV v=some u) (h:EvF K e E L re (tyXc K)):EvF K (tCB (mIsaX K) (tCons e (tCons (tC v) tNil))) E L (re.bind fun x=>Mo.opt (isaQ t x.c)) tyBl:=by
 intro σ F H R hL hs q
 refine h σ F H _ hL hs (q.bind.imp fun x F1 H1 x1 k1 w hq_=>?_)
 obtain ⟨p,d,e,hp,_⟩:=hq_
 subst e
 obtain ⟨b,e,k2⟩:=k1.opt
 have z:(x.c,b)∈t:=za8_ (show t.lookup x.c=some b from e)
 have z2:isaK K (gA K x.c) u=some b:=hT (x.c,b) z
 have z3:H1 p=some (XO p (gA K x.c) d):=x1.2.1 _ _ hp
 have z4:R (.bl b) H1:=k2.ok x1.2.1 _ rfl
 generalize gA K x.c=D at z2 z3
 show ∃ D d v' b,H1 p=some (XO p D d)∧clsV v=some v'∧isaK K D v'=some b∧R (.bl b) H1
 exact ⟨D,d,u,b,z3,hv,z2,z4⟩
def attP (c:String) (n:Str) (x:Xc):Option (Int×Int):=match x with
 | .at c' as=>if c'=c then (match as.lookup n with | some (.p a b)=>some (a,b) | _=>none) else none
 | _=>none
theorem zdv_ {n:Str}{a:Av}{H:Hp}:∀ {as:List (Str×Av)}{fs:List (Str×V)},AtR as fs H→as.lookup n=some a→∃ v,fs.lookup n=some v∧a.R v H
 | _,_,.nil,h=>by cases h
 | (m,b)::as,(m',v)::fs,.cons ⟨e,r⟩ t,h=>by
  cases (show m=m' from e)
  rw [List.lookup_cons] at h ⊢
  split at h
  ·cases h; exact ⟨v,rfl,r⟩
  ·exact zdv_ t h
theorem zgN_ {c:String}{n:Str}{re:Mo Xc}(hj:excJ K (gA K c)=true) (ha:exA K (gA K c) n=true) (h:EvF K e E L re (tyXc K)):EvF K (mXFld K e n) E L (re.bind fun x=>Mo.opt (attP c n x)) (tyTup (csCons tyInt (csLast tyInt))):=by
 intro σ F H R hL hs q
 refine h σ F H _ hL hs (q.bind.imp fun x F1 H1 x1 k1 w hq_=>?_)
 obtain ⟨p,d,e,hp,hx⟩:=hq_
 subst e
 obtain ⟨b,e,k2⟩:=k1.opt
 unfold attP at e
 split at e
 case h_2=>cases e
 case h_1 c' as =>
  split at e
  case isFalse=>cases e
  case isTrue z =>
   subst z
   split at e
   case h_2=>cases e
   case h_1 a1 b1 z2 =>
    cases e
    obtain ⟨dx,fs,rfl,hd,hr⟩:=hx
    obtain ⟨v,l,q2,z3,z4⟩:=zdv_ hr z2
    exact ⟨_,dx,fs,v,x1.2.1 _ _ hp,x1.2.1 _ _ hd,⟨hj,ha⟩,l,k2.ok x1.2.1 _ ⟨q2,_,z3,z4,.int a1,_,rfl,rfl,.int b1,rfl,rfl⟩⟩
theorem zm1_:Flt tyBl (fun a b=>decide (a=b)):=⟨fun h=>by cases h; rfl,fun h h'=>by cases h; cases h'; unfold eqV; exact rfl⟩
end
section
variable {P:Program}{w:World}{K:Fgg}{mg:Str→Option Value}{base:Heap}{x q c:Str}{st:Stmt}{N ps:List Str}{k:Nat}{α β:Type}{sp:Sp}
theorem okXI {cn:String}{T1:Ty α}{T2:Ty β}{g:α×β→Mo (List Nat)}{T3:Ty (List Nat)}{n1 n2:Str}{te:TE}(tm:Tm P w K mg base k N q st (fun _=>tSeq (mBInit (gA K cn) (tCons (mVar 0) (tCons te tNil))) (tSeq (mXSet (gA K cn) (mVar 0) (mVar 1) n1) (mXSet (gA K cn) (mVar 0) (mVar 2) n2))))
  (ev:∀ c E,EvF K te E [.dead,.fz T1 c.1,.fz T2 c.2] (g c) T3) (hne:n1≠n2:=by decide) (S:FnScope N ps (defScope st):=by exact ⟨rfl,rfl,rfl,by decide +kernel,rfl,by decide +kernel,by decide +kernel⟩) (b:Bnd K x q st ps:=by exact fun _ _ F=>Fun.binds3 rfl F fun _ _ _ _ _ _ _ _ _=>rfl) (hN:N.length=3:=by rfl) (hp:ps.length=3:=by rfl) :
  OkF P w K mg base CX0 (k+1) x q st ps (CtI K (gA K cn) (csCons T1 (csLast T2)) g [n1,n2]):=fun f fd F =>
 ⟨F.ok S (fun vs H Q E h=>by obtain ⟨_,_,_,ws,rfl,_,_,⟨w1,us,rfl,_,w2,rfl,_⟩,_⟩:=h; exact hp.symm) fun cdv A outer s H vs Q E hr h=>⟨_,tm cdv A outer s H f E S.nd hr,xi_rd hN hne ev vs H Q E h⟩,b f fd F⟩
theorem gx_of (M:Mgo K mg) (F:Fm K c "__init__" q st) (hj:excJ K (gA K c)=true) (h:OkF P w K mg base CX0 k "__init__" q st ps sp):GxI P w K mg base k c (gA K c) ps sp:=by
 obtain ⟨cw,f,e,e2,e3,i⟩:=F; obtain ⟨fd,F⟩:=i.fun_
 exact ⟨f,fd,(h f fd F).1,hj,by rw [zlV_ e]; exact e2,e3,M.gk ⟨_,e⟩,(h f fd F).2⟩
end
end L2
namespace L2
open PySem PySem.Spec PyProof.Rows
section
variable {X:Cx}{e o:Expr}{es:List Expr}{m:Str}{p pos pos' apos:Pos}{ta:TE}{t:TA}{C:Addr}{k:Nat}{ps:List Str}{sp:Sp}{E:XK}
end
section
variable {K:Fgg}{E:XK}{α β γ δ ρ ρ' S B:Type}{F0 H0 F h H:Hp}{L:List Sl}{e te:TE}{T:Ty α}{r:Mo α}{O:Own ρ}{t u:TS}{LS:S→List Sl}{LB:B→List Sl}{σ:St}{C:Addr}{ns:List Str}{m:Str}{i n:Nat}{th:TH}
end
section
variable {P:Program}{w:World}{K:Fgg}{mg:Str→Option Value}{base:Heap}{x q:Str}{st:Stmt}{N ps:List Str}{k:Nat}{α β γ ρ:Type}
end
section
variable {K:Fgg}{E:XK}{α β γ δ ρ ρ' S B:Type}{F0 H0 F h H:Hp}{L:List Sl}{te:TE}{Or:Own ρ}{LS:S→List Sl}{LB:B→List Sl}{C:Addr}{ns:List Str}{m:Str}{i:Nat}{th:TH}
end
end L2
namespace L2
open PySem PySem.Spec PyProof.Rows
section
variable {K:Fgg}{E:XK}{α β γ δ ρ ρ' S B:Type}{F0 H0 F h H:Hp}{L:List Sl}{e te ei:TE}{T:Ty α}{r:Mo α}{Or:Own ρ}{t u:TS}{LS:S→List Sl}{LB:B→List Sl}{σ:St}{C:Addr}{ns:List Str}{f m:Str}{i n:Nat}
end
section
variable {P:Program}{w:World}{K:Fgg}{mg:Str→Option Value}{base:Heap}{x q:Str}{st:Stmt}{N ps:List Str}{k:Nat}{α β γ ρ:Type}
end
section
variable {X:Cx}{e:Expr}{es:List Expr}{x:Str}{p pos:Pos}{t:TA}{C:Addr}{k:Nat}{ps:List Str}{sp:Sp}{E:XK}
end
end L2
namespace L2
open PySem PySem.Spec PyProof.Rows
section
variable {prog:Program}{w:World}{A:Around}{E:Value→Shared→Prop}{s:Shared}
end
section
variable {X:Cx}{tg:Expr}{p:Addr}
end
section
variable {X:Cx}{ts:Addr→TS}{S:Addr}{sx n:Str}{i:Nat}{b₀:Stmt}{suite:List Stmt}{np hpos pos:Pos}{rest:TH}{hs:List ExceptHandler}
end
section
variable {K:Fgg}{E:XK}{ρ S B:Type}{L:List Sl}{O:Own ρ}{LS:S→List Sl}{LB:B→List Sl}{i:Nat}{x:Xc}{rest:TH}
end
section
variable {P:Program}{w:World}{K:Fgg}{mg:Str→Option Value}{base:Heap}
end
section
variable {X:Cx}{k:Nat}{x:Str}{ps:List Str}{p pos:Pos}{e:Expr}{es:List Expr}{t:TA}
end
section
variable {K:Fgg}{E:XK}{α:Type}{L:List Sl}{e:TE}{T:Ty α}{p:Addr}{x:Xc}{i:Nat}
end
section
variable {P:Program}{w:World}{K:Fgg}{mg:Str→Option Value}{base:Heap}{x:Str}{st:Stmt}{ps:List Str}{k:Nat}{sp:Addr→Sp}
end
section
variable {P:Program}{w:World}{K:Fgg}{mg:Str→Option Value}{base:Heap}{x q:Str}{st:Stmt}{N ps:List Str}{k:Nat}{α β γ ρ:Type}
end
end L2
namespace L2
open PySem PySem.Spec PyProof.Rows
theorem zfs_ {M:Model}{A:Around}{E:Value→Shared→Prop}{s:Shared}{c:Code}{f:Code×Pos→Bool}{Q:Bool→Shared→Prop}(h:∀ b,Q b s):wpOwn M A c (do return (← stack).tail.any f) Q E s:=fun Γ p _ _=>by
 show Q (Γ.below.any f) s
 exact h _
theorem zh9_ {prog:Program}{w:World}{A:Around}{E:Value→Shared→Prop}{s:Shared}{a:Addr}{o:Obj}{items:Array Value}{n:Nat}{ts:List Str}{Q:Value→Shared→Prop}
  (hTy:s.TypeIs (.ref a) "tuple") (ha:s.heap.get? a=some o) (hd:o.data=.seq items n) (hT:ReprAll prog w items.toList ts) (hsz:(tupleText ts).length≤sizeLine)
  (hQ:∀ z u tk,z.length≤max 5 (tupleText ts).length→Q (.str z u) { s with toks:=tk }):wpAny (model prog w) A (call (.builtin "tuple.__repr__") [.ref a]) Q E s:=by
 refine wpAny_call (codeAny_call_builtin_own (Code.quiet_builtin _ (by decide +kernel)) F.entry_tuple_repr (F.slot_tuple_repr.check _ _ _ _ _ _ _ _ hTy (F.args_tuple_repr_1 _) ?_))
 show wpOwn _ _ _ (Builtin.tupleReprAt 0 ⟨[.ref a],[]⟩) _ _ _
 rw [tuple_repr_tree,tupleReprUnderWay_eq]
 refine wpOwn_bind (zfs_ fun b=>?_)
 cases b with
 | true =>
  refine wpOwn_of_wpAny (wpAny_bind (wpAny_rule (wpAny_bind (wpAny_mkStr (wpAny_pure ?_) (by size_fits)))))
  exact hQ _ _ _ (by show (5:Nat)≤_; lia)
 | false=>exact wpOwn_of_wpAny (wpAny_tupleReprRest ha hd hT (fun u tk=>hQ _ _ _ (by lia)) (by lia))
def mFmtT:V→Hp→VK→Prop:=fun x H Q=>∃ p i j,x=.ref p∧H p=some (.tup [.int i,.int j])∧(i.natAbs.log2<1920∧j.natAbs.log2<1920∧(strI i).length+(strI j).length≤900)∧∀ z:List Nat,z.length≤1000→Q (tx z) H
theorem zkQ_ {X:Cx}{a:Expr}{ta:TE}{pos:Pos}(hu:X.A.units+60<cLine) (ha:PE X a ta):PE X (.FormattedValue a (-1) none pos) (tUn mFmtT ta):=by
 intro pins s σ H Q I h
 refine wpAny_FormattedValue_plain (thn (ha pins s σ H _ I h) fun v s1 hq_=>?_)
 obtain ⟨x,H1,I1,r1,q1⟩:=hq_
 obtain ⟨p,i,j,rfl,hp,⟨h1,h2,h3⟩,q⟩:=q1
 obtain rfl:v=Value.ref p:=r1
 obtain ⟨its,r,⟨o,e,hc,n,hd⟩,_⟩:=I1.tuple (.of hp)
 obtain ⟨u1,u2,rfl,r1,r2⟩:=vals2 r
 obtain ⟨t1,rfl⟩:=r1
 obtain ⟨t2,rfl⟩:=r2
 have hT:ReprAll X.prog X.w ([Value.int i t1,Value.int j t2].toArray).toList [(toString i:Str),(toString j:Str)]:=.cons (.int t1 h1) (.cons (.int t2 h2) .nil)
 have hl:(tupleText [(toString i:Str),(toString j:Str)]).length≤904:=by
  unfold tupleText
  rw [strLen_append,strLen_append]
  have:=join_length_add [(toString i:Str),(toString j:Str)] (by simp)
  have e1:((("(" : String):Str)).length=1:=rfl
  have e2:∀ k:Int,((toString k:String):Str).length=(strI k).length:=fun k=>by unfold strI; show _=((toString k:String):Str).cps.toList.length; rw [Array.length_toList]; rfl
  simp only [piled,List.map_cons,List.map_nil,List.sum_cons,List.sum_nil,e2] at this
  have e3:(((if ([(toString i:Str),(toString j:Str)]:List Str).length == 1 then ",)" else ")" : String):Str)).length=1:=rfl
  rw [e1,e3]
  lia
 refine wpAny_formatField_slot (fun _ _=>nofun) (by lia) ⟨o,e,hc⟩ F.slot_tuple_format F.slot_tuple_str F.slot_tuple_repr ?_
 refine zh9_ ⟨o,e,hc⟩ e hd hT (by rw [sizeLine_eq]; lia) fun z u tk hz=>⟨z,u,rfl,tx z.cps.toList,H1,I1.tok _,⟨u,?_⟩,q _ ?_⟩
 ·rw [← zM_]
 ·rw [Array.length_toList]
  exact Nat.le_trans hz (by lia)
section
variable {K:Fgg}{E:XK}{α β γ:Type}{L:List Sl}{T:Ty α}{T':Ty β}{e:TE}
abbrev tyTxt:Ty Unit:=⟨fun _ v _=>∃ l:List Nat,l.length≤1000∧v=tx l,fun _ h=>h⟩
abbrev tyAny:Ty (List Nat):=⟨fun _ _ _=>True,fun _ h=>h⟩
theorem ziB_ {r:Mo (Int×Int)}(h:EvF K e E L r (tyTup (csCons tyInt (csLast tyInt)))):EvF K (tUn mFmtT e) E L (r.bind fun c=>.grd (c.1.natAbs.log2<1920∧c.2.natAbs.log2<1920∧(strI c.1).length+(strI c.2).length≤900) (.ok ())) tyTxt:=by
 intro σ F H Q hL hs q
 refine h σ F H _ hL hs (q.bind.imp fun c F1 H1 x1 k1 v hv=>?_)
 obtain ⟨p,us,rfl,hp,v1,vs,rfl,h1,v2,rfl,h2⟩:=hv
 cases h1; cases h2
 obtain ⟨hz,k1⟩:=k1.grd
 exact ⟨p,c.1,c.2,rfl,x1.2.1 _ _ hp,hz,fun z hl=>k1.ok x1.2.1 _ ⟨z,hl,rfl⟩⟩
theorem zkr_ {r:Mo (List Nat)}(h:EvF K e E L r tyStr):EvF K e E L (r.bind fun a=>.grd (a.length≤1000) (.ok ())) tyTxt:=by
 intro σ F H Q hL hs q
 refine h σ F H _ hL hs (q.bind.imp fun c F1 H1 x1 k1 v hv=>?_)
 cases hv
 obtain ⟨hz,k1⟩:=k1.grd
 exact k1.ok x1.2.1 _ ⟨c,hz,rfl⟩
def EvJb (K:Fgg) (k:Nat) (tj:TJ) (E:XK) (L:List Sl) (r:Mo Unit):Prop :=
 ∀ (n:Nat) (acc:List Nat) σ F H (R:Str→Hp→Prop),acc.length≤1000*n→n+k≤90→HoldF L σ F→Same F H→After K r E F H (fun _ _ H'=>∀ l:List Nat,l.length≤1000*k→R ⟨(acc++l).toArray⟩ H')→tj ⟨acc.toArray⟩ σ H R
theorem zkT_:EvJb K 0 tJ0 E L (.ok ()):=fun n acc σ F H R ha hn hL hs q=>by
 have:=q.ok hs [] (Nat.zero_le _)
 rwa [List.append_nil] at this
theorem zcx_ {ta:TE}{tr:TJ}{k:Nat}{r r':Mo Unit}(h:EvF K ta E L r tyTxt) (hr:EvJb K k tr E L r'):EvJb K (k+1) (tJ1 ta tr) E L (r.bind fun _=>r'):=by
 intro n acc σ F H R ha hn hL hs q
 refine h σ F H _ hL hs (q.bind.imp fun u F1 H1 x1 k1 v hv=>?_)
 obtain ⟨a,hz,rfl⟩:=hv
 have e:((⟨acc.toArray⟩:Str)++(⟨a.toArray⟩:Str))=⟨(acc++a).toArray⟩:=by
  show (⟨acc.toArray++a.toArray⟩:Str)=_
  simp
 show ((⟨acc.toArray⟩:Str)++(⟨a.toArray⟩:Str)).length≤sizeLine∧tr ((⟨acc.toArray⟩:Str)++(⟨a.toArray⟩:Str)) σ H1 R
 rw [e]
 refine ⟨by show (acc++a).toArray.size≤sizeLine; rw [List.size_toArray,List.length_append,sizeLine_eq]; lia,hr (n+1) (acc++a) σ F1 H1 R (by rw [List.length_append]; lia) (by lia) (hL.mono x1.1) x1.2.1 (k1.imp fun _ F2 H2 x2 k2 l hl=>?_)⟩
 rw [List.append_assoc]
 exact k2 (a++l) (by rw [List.length_append]; lia)
theorem zjX_ {tj:TJ}{k:Nat}{r:Mo Unit}(h:EvJb K k tj E L r) (hk:k≤80:=by decide):EvF K (tJoin tj) E L (r.bind fun _=>.ok []) tyAny:=by
 intro σ F H Q hL hs q
 refine h 0 [] σ F H _ (by simp) (by lia) hL hs (q.bind.imp fun _ F' H' x k1 l hl=>?_)
 rw [List.nil_append]
 exact ⟨by show l.toArray.size≤sizeLine; rw [List.size_toArray,sizeLine_eq]; lia,k1.ok x.2.1 _ trivial⟩
abbrev tyU (T:Ty α) (T':Ty β):Ty (α ⊕ β):=⟨fun d v H=>match d with | .inl a=>T.R a v H | .inr b=>T'.R b v H,fun {d v H H'} g h=>by cases d with | inl a=>exact T.mono g h | inr b=>exact T'.mono g h⟩
theorem zj3_ (i:Imm T) (i':Imm T'):Imm (tyU T T'):=fun {d v H H'} g h=>by cases d with | inl a=>exact i g h | inr b=>exact i' g h
theorem zfM_ {r:Mo α}(h:EvF K e E L r T):EvF K e E L (r.bind fun a=>.ok (.inl a)) (tyU T T'):=by
 intro σ F H Q hL hs q
 exact h σ F H _ hL hs (q.bind.imp fun a F1 H1 x1 k1 v hv=>k1.ok x1.2.1 v hv)
theorem zhQ_ {r:Mo β}(h:EvF K e E L r T'):EvF K e E L (r.bind fun a=>.ok (.inr a)) (tyU T T'):=by
 intro σ F H Q hL hs q
 exact h σ F H _ hL hs (q.bind.imp fun a F1 H1 x1 k1 v hv=>k1.ok x1.2.1 v hv)
theorem zgD_ {r:Mo (α ⊕ β)}(h:EvF K e E L r (tyU T T')):EvF K e E L (r.bind fun d=>Mo.opt d.getRight?) T':=by
 intro σ F H Q hL hs q
 refine h σ F H _ hL hs (q.bind.imp fun d F1 H1 x1 k1 v hv=>?_)
 cases d with
 | inr a=>exact k1.ok x1.2.1 v hv
 | inl b=>exact k1.elim
theorem zkS_ {n1 n2 c:String}{b1 b2:Bool}{r:Mo (α ⊕ β)}(h1:TyN K T n1) (h2:TyN K T' n2) (h:EvF K e E L r (tyU T T')) (hb1:isaB n1 c=some b1:=by decide) (hb2:isaB n2 c=some b2:=by decide) :
  EvF K (tCB (mIsa K) (tCons e (tCons (tC (.ty c)) tNil))) E L (r.bind fun d=>.ok (d.elim (fun _=>b1) fun _=>b2)) tyBl:=by
 intro σ F H Q hL hs q
 refine h σ F H _ hL hs (q.bind.imp fun d F1 H1 x1 k1 v hv=>?_)
 cases d with
 | inl a=>exact zhq_ (h1 (T.mono x1.2.1 hv)) hb1 (k1.ok x1.2.1 _ rfl)
 | inr a=>exact zhq_ (h2 (T'.mono x1.2.1 hv)) hb2 (k1.ok x1.2.1 _ rfl)
def eqTw (q:α→α→Bool) (q':β→β→Bool):α ⊕ β→α ⊕ β→Bool
 | .inl a,.inl b=>q a b
 | .inr a,.inr b=>q' a b
 | _,_=>false
theorem eqt_u {C:Cs γ}{n m:Nat}{q:α→α→Bool}{q':γ→γ→Bool}(h:EqT K T n q) (h':EqT K (tyTup C) m q') (hf:∀ {a x H},T.R a x H→flatV x=true):EqT K (tyU T (tyTup C)) (max n m) (eqTw q q'):=⟨by
 intro a b x y H hx hy
 cases a with
 | inl a =>
  cases b with
  | inl b=>exact (h.eq hx hy).le (Nat.le_max_left _ _)
  | inr b=>obtain ⟨p,us,rfl,hp,_⟩:=hy; exact .ft (.of hp) (hf hx)
 | inr a =>
  cases b with
  | inl b=>obtain ⟨p,us,rfl,hp,_⟩:=hx; exact .tf (.of hp) (hf hy)
  | inr b=>exact (h'.eq hx hy).le (Nat.le_max_right _ _)⟩
theorem zjD_ {a:List Nat}{x:V}{H:Hp}(h:tyStr.R a x H):flatV x=true:=by cases h; rfl
theorem znf_ {n1 n2:Str}:∀ (c:(Int×Int)×(Int×Int)) (ws:List V) (F:Hp),(csCons (tyTup (csCons tyInt (csLast tyInt))) (csLast (tyTup (csCons tyInt (csLast tyInt))))).R c ws F→AtR [(n1,.p c.1.1 c.1.2),(n2,.p c.2.1 c.2.2)] ([n1,n2].zip ws) F:=by
 rintro c ws F ⟨w1,us,rfl,h1,w2,rfl,h2⟩
 have:∀ {d:Int×Int}{w:V},(tyTup (csCons tyInt (csLast tyInt))).R d w F→(Av.p d.1 d.2).R w F:=fun {d w} h=>by
  obtain ⟨p,us,rfl,hp,v1,vs,rfl,h1,v2,rfl,h2⟩:=h
  cases h1; cases h2
  exact ⟨p,rfl,hp⟩
 exact .cons ⟨rfl,this h1⟩ (.cons ⟨rfl,this h2⟩ .nil)
end
end L2
namespace L2
open PySem PySem.Spec PyProof.Rows
section
variable {X:Cx}{st:Stmt}{rest body orelse:List Stmt}{t u:TX}{tb:TX}{th:TH}{te:TS}{k i:Nat}{x n:Str}{ps:List Str}{sp:Sp}{p pos pos' ps':Pos}{e:Expr}{es:List Expr}{ta:TA}{hs:List ExceptHandler}
def tAsgX (sp:Sp) (ta:TA) (i:Nat):TX:=fun D W σ H=>ta σ H fun vs H1=>sp (vs++[]) H1 (fun v H2=>D.nx (σ.set i (some v)) H2) (W σ)
theorem zlH_ (hN:X.N.Nodup) (hi:X.N[i]?=some n) (hx:Loc X.env.scope n) (G:Gd X.prog X.w X.K X.mg X.base (CXx X.prog X.w) k x ps sp) (hr:Room k X.A) (ha:PA X.nox (e::es) ta) (hg:Gl X x:=by rfl) (hdb:(x == ("__debug__" : Str))=false:=by decide)
  (he:starEach (e::es) X.env=(false,eval e X.env)::starEach es X.env:=by rfl) (hpl:(backTo pos (starEach es X.env)).any (·.1)=false:=by rfl)
  (hs:swapsWith (.Call (.Name x p) (e::es) [] pos) (some (.Name n pos')) ps'.line X.env=pure false:=by rfl) (hf:X.fn n=true∨X.env.scope.names.lookup n=some .local:=by first | exact .inl rfl | exact .inr rfl | assumption) :
  PSx X (.Assign [.Name n pos'] (.Call (.Name x p) (e::es) [] pos) ps') (tAsgX sp ta i):=by
 intro pins s σ H D W I h
 refine wpAny_Assign_Name (thn (zkW_ G hr ha I h hg hdb he hpl) fun v s1 hq_=>?_) hs
 obtain ⟨y,H1,I1,r1,q1⟩:=hq_
 exact zb4_ I1 hN hi hx r1 (fun s2 I2=>⟨_,H1,I2,q1⟩) hf
def tTryHE (tb:TX) (te:TS) (th:TH):TS:=fun D σ H=>tb { D with nx:=fun σ' H'=>te D σ' H' } (fun σ' c d H'=>∃ C,c=.ref C∧th C d D σ' H') σ H
theorem zjw_ {h₀:ExceptHandler}(hst:X.stack=X.env::X.outer) (hfr:X.env.frame=some X.env.locals) (hb:PSsx X body tb) (hl:PSs X orelse te) (hh:PH X (h₀::hs) th):PS X (.Try body (h₀::hs) orelse [] pos) (tTryHE tb te th):=by
 intro pins s σ H D I h
 refine wpAny_Try_except (wpAny_mono (hb pins s σ H _ _ I h) (fun f s1 q=>?_) fun e s1 q=>?_)
 ·cases f with
  | next=>obtain ⟨σ',H',I',q⟩:=q; exact hl pins s1 σ' H' D I' q
  | ret v=>exact q
  | brk=>exact q
  | cont=>exact q
 ·obtain ⟨σ',Hb,sb,Ib,x,T,C,d,H',rfl,os,bare,un,ok,fly,C',hC',q⟩:=q
  cases hC'
  have I1:Inv X pins σ' H' s1:=Ib.call' (ch:=[]) os un ok bare (fun b z=>absurd z (by simp))
  obtain ⟨oe,vs,a0,oT,ts',he,hcl,hd,h1,hTe,hT,hdT,h3⟩:=fly.obj
  have land:∀ h',zkZ_ X s1 x T |>.StaysIn h'→h'.FunFrames (zkZ_ X s1 x T) X.stack→h'.TracedW (zkZ_ X s1 x T) x (.ref C) a0→s1.heap.UpToSlots h'→Dc x d h'→Inv X pins σ' (upd H' x (XO x C d)) { s1 with heap:=h' }:=fun h' a b c up dd=>landed Ib os bare un ok fly ⟨a,PySem.W.hideAll_none _ (List.mem_append_right _ List.mem_cons_self),b,c⟩ up dd
  have tr:s1.heap.TracedW (zkZ_ X s1 x T) x (.ref C) a0:=⟨oe,vs,T,oT,ts',he,hcl,hd,h1,PySem.W.hideAll_none _ (List.mem_append_right _ (List.mem_cons_of_mem _ List.mem_cons_self)),hTe,hT,hdT,h3⟩
  have fr1:s1.heap.FunFrames (zkZ_ X s1 x T) X.stack:=PySem.W.funFrames_hide I1.stack zjK_
  rw [hst] at fr1
  refine zi5_ (outer:=X.outer) (I1.ok.frames.trans (congrArg some hst)) fr1 hfr tr (fun b o q=>PySem.W.of_hideAll _ q) (PySem.W.hideAll_none _ (List.mem_append_right _ List.mem_cons_self)) fly.dc fun h4 n4 d4=>?_
  refine fl_d n4.1 n4.2.1 n4.2.2.1 d4 fun h5 a5 b5 c5 u5 d5=>?_
  have u4:s1.heap.UpToSlots h4:=n4.2.2.2
  rw [← hst] at b5
  refine hh pins σ' H' D _ x C d _ (land h5 a5 b5 c5 (u4.trans u5) d5) fly.hx (fun A' Q' E' kk=>?_) q
  exact fl_d a5 b5 c5.at d5 fun h6 a6 b6 c6 u6 d6=>kk h6 (land h6 a6 b6 c6 ((u4.trans u5).trans u6) d6)
end
section
variable {K:Fgg}{E:XK}{α β γ δ ρ S B:Type}{F0 H0 F h H:Hp}{L:List Sl}{O:Own ρ}{LS:S→List Sl}{LB:B→List Sl}{i:Nat}{x:Xc}{ts te:TS}{rest th:TH}{e:TE}{T:Ty α}{T':Ty β}
theorem zm6_ {C:Cs γ}{fn:γ→Mo δ}{O0:Own δ}{s:Sl}{ta:TA}{ra:Mo γ}{rn:δ→Mo (Out ρ B S)}{hand:Xc→Mo (Out ρ B S)}(hi:L[i]?=some s) (hO:ImmO O0) (ha:EvA K ta E L ra C) (hn:∀ a,EvS K te E (L.set i (.ow O0 a)) (rn a) LS LB O) (hh:∀ x,EvH K th E L x (hand x) LS LB O) :
  EvS K (tTryHE (tAsgX (Ct K C fn O0) ta i) te th) E L (ra.bind fun c=>Mo.tr (fn c) rn hand) LS LB O:=by
 intro F0 H0 σ F h H D hL ok fin
 refine ha σ (un F h) H _ (hL.froz ok.2.1) ok.thaw (zaS_ (G:=F) ok _ (.inl rfl) fin fun c F1 H1 hr x1 vs hv=>?_)
 rw [hr] at fin
 have fin:Fin K (Mo.tr (fn c) rn hand) E LS LB O F0 H0 D:=fin
 refine ⟨F1,c,x1.2.1,by rw [List.append_nil]; exact hv,?_⟩
 cases e:fn c with
 | no=>rw [e] at fin; exact fin
 | ok a =>
  rw [e] at fin
  intro F2 H2 x2 v kk fresh dj hsn hvv
  obtain ⟨o,hs,ht⟩:=ok.back (x1.trans x2)
  have dj':Dj (less F2 h) kk:=fun p=>by
   unfold less
   cases z:h p with
   | none=>exact dj p
   | some w=>exact .inl rfl
  have fresh:∀ p,kk p≠none→H p=none:=fun p z=>x1.2.2.1.free (fresh p z)
  obtain ⟨h',a1,a2⟩:=ze6_ o hi (hL.mono hs) (fun p z=>ok.1.2.2.1.free (fresh p z)) dj' (zk3_ ok.2.2.1 fresh) hsn (hO ht hvv)
  exact hn a F0 H0 _ _ h' H2 D a1 a2 fin
 | ex x =>
  rw [e] at fin
  have fin:Fin K (hand x) E LS LB O F0 H0 D:=fin
  intro F2 H2 x2
  obtain ⟨o,hs,ht⟩:=ok.back (x1.trans x2)
  cases x with
  | pl c'=>exact ⟨_,rfl,hh (.pl c') F0 H0 σ _ h H2 none D (hL.mono hs) o rfl fin⟩
  | «at» c' as =>
   intro dx fs e1 e2 e3
   refine ⟨_,rfl,hh (.at c' as) F0 H0 σ _ h H2 (some dx) D (hL.mono hs) o ⟨dx,fs,rfl,?_,e3.imm ht⟩ fin⟩
   rw [zbV_ (ok.2.2.1.free (x1.2.2.1.free e1))]; exact e2
abbrev tyTxq:Ty Unit:=⟨fun _ v _=>∃ l:List Nat,l.length≤100000∧v=tx l,fun _ h=>h⟩
theorem zfE_ {r:Mo (List Nat)}(h:EvF K e E L r tyStr):EvF K e E L (r.bind fun a=>.grd (a.length≤100000) (.ok ())) tyTxq:=by
 intro σ F H Q hL hs q
 refine h σ F H _ hL hs (q.bind.imp fun c F1 H1 x1 k1 v hv=>?_)
 cases hv
 obtain ⟨hz,k1⟩:=k1.grd
 exact k1.ok x1.2.1 _ ⟨c,hz,rfl⟩
theorem zdu_ {r:Mo (List Nat)}(h:EvF K e E L r tyStr):EvF K (tUn mRepr e) E L (r.bind fun l=>.grd (l.length≤9000∧∀ c∈l,c<1000) (.ok ())) tyTxq:=by
 intro σ F H Q hL hs q
 refine h σ F H _ hL hs (q.bind.imp fun l F1 H1 x1 k1 v hv=>?_)
 cases hv
 obtain ⟨hz,k1⟩:=k1.grd
 have hl:(reprText ⟨l.toArray⟩).length≤100000:=by
  have:=StrLaws.reprText_len ⟨l.toArray⟩ (fun c hc=>Nat.lt_trans (hz.2 c (by simpa using hc)) (by decide))
  have e:(⟨l.toArray⟩:Str).length=l.length:=by show l.toArray.size=_; simp
  rw [e] at this
  lia
 refine ⟨Nat.le_trans hl (by rw [sizeLine_eq]; decide),k1.ok x1.2.1 _ ⟨(reprText ⟨l.toArray⟩).cps.toList,by rw [Array.length_toList]; exact hl,?_⟩⟩
 show V.str _=V.str _
 rw [← zM_]
def EvJq (K:Fgg) (k:Nat) (tj:TJ) (E:XK) (L:List Sl) (r:Mo Unit):Prop :=
 ∀ (n:Nat) (acc:List Nat) σ F H (R:Str→Hp→Prop),acc.length≤100000*n→n+k≤90→HoldF L σ F→Same F H→After K r E F H (fun _ _ H'=>∀ l:List Nat,l.length≤100000*k→R ⟨(acc++l).toArray⟩ H')→tj ⟨acc.toArray⟩ σ H R
theorem zdO_:EvJq K 0 tJ0 E L (.ok ()):=fun n acc σ F H R ha hn hL hs q=>by
 have:=q.ok hs [] (Nat.zero_le _)
 rwa [List.append_nil] at this
theorem z8_ {ta:TE}{tr:TJ}{k:Nat}{r r':Mo Unit}(h:EvF K ta E L r tyTxq) (hr:EvJq K k tr E L r'):EvJq K (k+1) (tJ1 ta tr) E L (r.bind fun _=>r'):=by
 intro n acc σ F H R ha hn hL hs q
 refine h σ F H _ hL hs (q.bind.imp fun u F1 H1 x1 k1 v hv=>?_)
 obtain ⟨a,hz,rfl⟩:=hv
 have e:((⟨acc.toArray⟩:Str)++(⟨a.toArray⟩:Str))=⟨(acc++a).toArray⟩:=by
  show (⟨acc.toArray++a.toArray⟩:Str)=_
  simp
 show ((⟨acc.toArray⟩:Str)++(⟨a.toArray⟩:Str)).length≤sizeLine∧tr ((⟨acc.toArray⟩:Str)++(⟨a.toArray⟩:Str)) σ H1 R
 rw [e]
 refine ⟨by show (acc++a).toArray.size≤sizeLine; rw [List.size_toArray,List.length_append,sizeLine_eq]; lia,hr (n+1) (acc++a) σ F1 H1 R (by rw [List.length_append]; lia) (by lia) (hL.mono x1.1) x1.2.1 (k1.imp fun _ F2 H2 x2 k2 l hl=>?_)⟩
 rw [List.append_assoc]
 exact k2 (a++l) (by rw [List.length_append]; lia)
theorem zb8_ {tj:TJ}{k:Nat}{r:Mo Unit}(h:EvJq K k tj E L r) (hk:k≤80:=by decide):EvF K (tJoin tj) E L (r.bind fun _=>.ok []) tyAny:=by
 intro σ F H Q hL hs q
 refine h 0 [] σ F H _ (by simp) (by lia) hL hs (q.bind.imp fun _ F' H' x k1 l hl=>?_)
 rw [List.nil_append]
 exact ⟨by show l.toArray.size≤sizeLine; rw [List.size_toArray,sizeLine_eq]; lia,k1.ok x.2.1 _ trivial⟩
theorem zis_ (xs:List (List Nat)) {vs:List V}(he:vs=xs.map tx) (hn:xs.length≤1000:=by decide):EvO K (tLst (tKs vs)) E L (.ok xs) (owL tyStr):=by
 intro σ F H Q hL hs q
 subst he
 have pr:∀ ys:List (List Nat),Prs tyStr F ys (ys.map tx):=fun ys=>by
  induction ys with
  | nil=>exact .nil
  | cons y ys ih=>exact .cons rfl ih
 exact ⟨by rw [List.length_map,sizeLine_eq]; lia,fun p hp=>zaE_ hs hp (pr xs) q⟩
theorem zhn_ {r:Mo (List β)}(h:EvF K e E L r (tyL T')):EvF K e E L (r.bind fun l=>.ok (l.map Sum.inr)) (tyL (tyU T T')):=by
 intro σ F H Q hL hs q
 refine h σ F H _ hL hs (q.bind.imp fun l F1 H1 x1 k1 v hv=>?_)
 obtain ⟨p,vs,rfl,hp,hr⟩:=hv
 refine k1.ok x1.2.1 _ ⟨p,vs,rfl,hp,?_⟩
 clear hp k1 hs hL q
 induction hr with
 | nil=>exact .nil
 | cons a t ih=>exact .cons a ih
end
theorem ze7_ {c:Nat}(h0:48≤c) (h1:c≤57):c=48∨c=49∨c=50∨c=51∨c=52∨c=53∨c=54∨c=55∨c=56∨c=57:=by lia
theorem zkp_ {t:Tok}{c d:Nat}(h0:48≤c) (h1:c≤57) (h2:48≤d) (h3:d≤57):Meets (Builtin.«int.__new__» ⟨[.type "int",.str ⟨#[c,d]⟩ t],[]⟩) (fun _ R s=>R (.ok (.ret (.int (10*((c:Int)-48)+((d:Int)-48)) s.toks))) { s with toks:=s.toks+1 }):=by
 intro prog w A R s h
 have f2:=zl2_
 have f3:=PySem.F.madeHere_int
 have f4:=zlX_
 have f5:=zk5_
 have f6:=zkE_
 wp_walk
 refine Eq.mp (congrArg (fun t=>wpAny (model prog w) A.in1 t _ _ _) (?e:mkInt (10*((c:Int)-48)+((d:Int)-48))=_)) ?_
 case e =>
  have a:=ze7_ h0 h1
  have b:=ze7_ h2 h3
  clear h f2 f3 f4 f5 f6 h0 h1 h2 h3
  rcases a with rfl | rfl | rfl | rfl | rfl | rfl | rfl | rfl | rfl | rfl<;>rcases b with rfl | rfl | rfl | rfl | rfl | rfl | rfl | rfl | rfl | rfl<;>kernel_rfl!
 wp_walk
 exact h
def fig2B (z:List Nat):Bool:=match z with | [c]=>decide (48≤c∧c≤57) | [c,d]=>decide ((48≤c∧c≤57)∧48≤d∧d≤57) | _=>false
def fig2V (z:List Nat):Int:=match z with | [c]=>(c:Int)-48 | [c,d]=>10*((c:Int)-48)+((d:Int)-48) | _=>0
def mInt2:List V→Hp→VK→Prop:=fun xs H Q=>match xs with
 | [.str z]=>fig2B z.cps.toList=true∧Q (.int (fig2V z.cps.toList)) H
 | [.bl b]=>Q (.int (if b=true then 1 else 0)) H
 | _=>False
theorem zdM_ {X:Cx}:CallR X (.type "int") mInt2:=by
 intro pins s σ H xs us Q I r h
 unfold mInt2 at h
 split at h
 ·rename_i z
  obtain ⟨u,rfl,t,rfl⟩:=vals1 r
  obtain ⟨hf,q⟩:=h
  unfold fig2B at hf
  split at hf
  ·rename_i c hc
   have hz:z=⟨#[c]⟩:=by rw [zM_ z,hc]
   subst hz
   have hf:=of_decide_eq_true hf
   refine call_int_1 (zlN_ hf.1 hf.2) ?_
   refine ⟨?_,.int ((c:Int)-48),H,I.tok _,⟨_,rfl⟩,q⟩
   exact rfl
  ·rename_i c d hc
   have hz:z=⟨#[c,d]⟩:=by rw [zM_ z,hc]
   subst hz
   have hf:=of_decide_eq_true hf
   refine call_int_1 (zkp_ hf.1.1 hf.1.2 hf.2.1 hf.2.2) ?_
   refine ⟨?_,.int (10*((c:Int)-48)+((d:Int)-48)),H,I.tok _,⟨_,rfl⟩,q⟩
   exact rfl
  ·cases hf
 ·rename_i b
  obtain ⟨u,rfl,ru⟩:=vals1 r
  cases ru
  exact call_int_bool ⟨.int (if b=true then 1 else 0),H,I.tok _,⟨_,rfl⟩,h⟩
 ·exact h.elim
theorem zhp_ {K:Fgg}{E:XK}:Bl K mInt2 E (csLast tyStr) (fun l=>.grd (fig2B l=true) (.ok (fig2V l))) tyInt:=by
 rintro c vs F H Q hs ⟨v,rfl,rfl⟩ q
 obtain ⟨z,q⟩:=q.grd
 exact ⟨z,q.ok hs _ rfl⟩
end L2
namespace K30
open PySem PySem.Spec PyProof.Rows L2
open Mo renaming bind→Mb,ok→Mq
open Sl renaming fz→Zf,dead→Zd,ow→Zo
theorem S4 {a b c d:Sl}{L L':List Sl}(h:Sub L L'):Sub (a::b::c::d::L) (a::b::c::d::L'):=.same (.same (.same (.same h)))
abbrev Qq0:=(tyTup (csCons tyInt (csLast tyInt)))
def zaJ_ (p_script:(List Int)) (p_k:Int):Mo (Out Int Unit Unit) :=
 (thenO (S:=Unit) (Mb (Mb (Mq p_k) fun a_2=>Mb (Mb (Mq p_script) fun c_1=>Mq (c_1.length:Int)) fun b_3=>Mq (decide (a_2<b_3))) fun c_4=>if c_4 then (Mb (Mb (Mq p_script) fun v6=>Mb (Mq p_k) fun v7=>Mo.opt (atI v6 v7)) fun w8=>Mq (.rt w8)) else (Mq (.nx ()))) fun _=>(Mb (Mq (0:Int)) fun r9=>Mq (.rt r9)))
def zB_ (p_script:(List Int)) (p_k:Int):Mo Int:=fnO (zaJ_ p_script p_k)
def zaP_ (p_cells:(List Int)) (p_meeting:Bool):Mo (Out (List (Int×Int)) Unit Unit) :=
 (Mb (Mq ([]:List (Int×Int))) fun t1'=>(Mb (Mq ([]:List Int)) fun v2'=>(thenO (S:=((List (Int×Int))×(List Int))) (Mb (Mq p_cells) fun x61=>forO (fun (s_3:((List (Int×Int))×(List Int))) x_4=>(Mb (Mb (Mb (Mb (Mq x_4) fun v6=>Mb (Mq (2147483647:Int)) fun v7=>Mo.grd (0<v7) (Mq (v6 % v7))) fun a8=>Mb (Mq (48271:Int)) fun w9=>Mo.grd (IntMulOk a8 w9) (Mq (a8*w9))) fun a10=>Mb (Mq (2147483629:Int)) fun b11=>Mo.grd (0<b11) (Mq (a10 % b11))) fun n5=>(Mb (Mb (Mq (1:Int)) fun a15=>Mb (Mb (Mq n5) fun a13=>Mb (Mq (40:Int)) fun b14=>Mo.grd (0<b14) (Mq (a13 % b14))) fun b16=>Mq (a15+b16)) fun h12=>(Mb (Mb (Mq (1:Int)) fun a22=>Mb (Mb (Mb (Mq n5) fun a18=>Mb (Mq (40:Int)) fun b19=>Mo.grd (CDivG a18 b19) (Mq (a18 / b19))) fun a20=>Mb (Mq (36:Int)) fun b21=>Mo.grd (0<b21) (Mq (a20 % b21))) fun b23=>Mq (a22+b23)) fun t17=>(thenO (S:=((List (Int×Int))×(List Int))) (Mb (Mb (Mb (Mq (1:Int)) fun a29=>Mb (Mb (Mb (Mq n5) fun a25=>Mb (Mq (1440:Int)) fun b26=>Mo.grd (CDivG a25 b26) (Mq (a25 / b26))) fun a27=>Mb (Mq (4:Int)) fun b28=>Mo.grd (0<b28) (Mq (a27 % b28))) fun b30=>Mq (a29+b30)) fun c31=>Mo.grd (-(2 ^ 62)≤c31∧c31<2 ^ 62) (Mq (rngI 0 c31.toNat))) fun x60=>forO (fun (s24:((List (Int×Int))×(List Int))) x32=>(thenO (S:=((List (Int×Int))×(List Int))) (Mb (Mb (Mb (Mb (Mq h12) fun a33=>Mb (Mq x32) fun b34=>Mq (a33+b34)) fun a35=>Mb (Mq (40:Int)) fun b36=>Mq (decide (a35≤b36))) fun c47=>if c47 then (Mb (Mb (Mb (Mq t17) fun a37=>Mb (Mq x32) fun b38=>Mq (a37+b38)) fun a39=>Mb (Mq (36:Int)) fun b40=>Mq (decide (a39≤b40))) fun c46=>if c46 then (Mb (Mq p_meeting) fun c45=>if c45 then Mq true else (Mb (Mb (Mq t17) fun a41=>Mb (Mq x32) fun b42=>Mq (a41+b42)) fun a43=>Mb (Mq s24.2) fun b44=>Mq (!(b44.any fun y=>decide (y=a43))))) else Mq false) else Mq false) fun c48=>if c48 then (Mb (Mb (Mb (Mq h12) fun a50=>Mb (Mq x32) fun b51=>Mq (a50+b51)) fun a54=>Mb (Mb (Mq t17) fun a52=>Mb (Mq x32) fun b53=>Mq (a52+b53)) fun c55=>Mq (a54,c55)) fun a56=>Mo.lim (s24.1.length+1) (Mb (Mb (Mq t17) fun a57=>Mb (Mq x32) fun b58=>Mq (a57+b58)) fun a59=>Mo.lim (s24.2.length+1) (Mq (.nx ((s24.1++[a56]),(s24.2++[a59])))))) else (Mq (.nx (s24.1,s24.2)))) fun s49=>(Mq (.nx (s49.1,s49.2))))) x60 (s_3.1,s_3.2)) fun s24=>(Mq (.nx (s24.1,s24.2)))))))) x61 (t1',v2')) fun s_3=>(Mq (.rt s_3.1)))))
def z4_ (p_cells:(List Int)) (p_meeting:Bool):Mo (List (Int×Int)):=fnO (zaP_ p_cells p_meeting)
def zb3_ (p_cell:Int):Mo (Out (List Nat) Unit Unit) :=
 (Mb (Mq (AnyL:List Nat)) fun x1'=>(Mb (Mb (Mq x1') fun a_3=>Mb (Mq (AnyM:List Nat)) fun t4=>Mo.lim (a_3.length+t4.length) (Mq (a_3++t4))) fun w2'=>(thenO (S:=Unit) (Mb (Mb (Mb (Mq p_cell) fun v5=>Mb (Mq (2:Int)) fun y6=>Mo.grd (0<y6) (Mq (v5 % y6))) fun a7=>Mb (Mq (0:Int)) fun v8=>Mq (decide (a7=v8))) fun c9=>if c9 then (Mb (Mb (Mq ([48,49,50,51,52,53,54,55,56,57,45,62,44,32]:List Nat)) fun a15=>Mb (Mb (Mb (Mq p_cell) fun a11=>Mb (Mq (2:Int)) fun b12=>Mo.grd (CDivG a11 b12) (Mq (a11 / b12))) fun a13=>Mb (Mq (14:Int)) fun b14=>Mo.grd (0<b14) (Mq (a13 % b14))) fun b16=>Mo.lim a15.length (Mo.opt ((atI a15 b16).map fun c=>[c]))) fun r17=>Mq (.rt r17)) else (Mq (.nx ()))) fun _=>(Mb (Mb (Mq w2') fun a22=>Mb (Mb (Mb (Mq p_cell) fun a18=>Mb (Mq (2:Int)) fun b19=>Mo.grd (CDivG a18 b19) (Mq (a18 / b19))) fun a20=>Mb (Mq (96:Int)) fun b21=>Mo.grd (0<b21) (Mq (a20 % b21))) fun b23=>Mo.lim a22.length (Mo.opt ((atI a22 b23).map fun c=>[c]))) fun r24=>Mq (.rt r24)))))
def zbk_ (p_cell:Int):Mo (List Nat):=fnO (zb3_ p_cell)
def zdk_ (p_cell:Int):Mo (Out (List Nat) Unit Unit) :=
 (Mb (Mq ([[],[49,62,50,44,32],[44,32,49,62,50],[49,62,50,44,51,62,52],[49,45,49,62,50,45,50],[50,45,49,62,52,45,51],[49,45,50,62,51],[49,62,50,45,51],[48,49,62,50],[49,62,51,55],[52,49,62,49]]:List (List Nat))) fun x1'=>(Mb (Mb (Mq x1') fun a_3=>Mb (Mq ([[48,62,49],[49,62,48],[32,49,62,50],[49,45,62,50],[49,62,50,62,51],[49,45,50,62,51,45,53],[49,45,51,62,51,45,52],[51,57,45,52,49,62,49,45,51],[49,45,51,62,51,53,45,51,55]]:List (List Nat))) fun t4=>Mo.lim (a_3.length+t4.length) (Mq (a_3++t4))) fun w2'=>(Mb (Mb (Mq w2') fun a13=>Mb (Mb (Mb (Mq ([49,62,49,44,32,50,62,49]:List Nat)) fun a10=>Mb (Mb (Mq ([52,48,62,51,54]:List Nat)) fun a8=>Mb (Mb (Mq ([51,55,45,52,48,62,51,51,45,51,54]:List Nat)) fun v6=>Mb (Mq ([45,49,62,50]:List Nat)) fun c7=>Mq (v6,c7)) fun c9=>Mq (a8,c9)) fun c11=>Mq (a10,c11)) fun c12=>Mq [c12.1,c12.2.1,c12.2.2.1,c12.2.2.2]) fun b14=>Mo.lim (a13.length+b14.length) (Mq (a13++b14))) fun u5'=>(Mb (Mb (Mq u5') fun a17=>Mb (Mb (Mq p_cell) fun a15=>Mb (Mq (24:Int)) fun b16=>Mo.grd (0<b16) (Mq (a15 % b16))) fun b18=>Mo.opt (atI a17 b18)) fun r19=>Mq (.rt r19)))))
def zaQ_ (p_cell:Int):Mo (List Nat):=fnO (zdk_ p_cell)
def zaH_ (p_text_here:(List Nat)) (p_script:(List Int)):Mo (Out (List Nat) Unit Unit) :=
 (Mb (Mb (Mb (Mb (Mb (Mq p_script) fun a_2=>Mb (Mq (0:Int)) fun c_3=>Mq (a_2,c_3)) fun c_4=>Mo.noex (zB_ c_4.1 c_4.2)) fun v5=>Mb (Mq (2:Int)) fun y6=>Mo.grd (CDivG v5 y6) (Mq (v5 / y6))) fun a7=>Mb (Mq (7:Int)) fun v8=>Mo.grd (0<v8) (Mq (a7 % v8))) fun s1'=>(Mb (Mb (Mb (Mq p_script) fun a10=>Mb (Mq (1:Int)) fun c11=>Mq (a10,c11)) fun c12=>Mo.noex (zB_ c12.1 c12.2)) fun y9=>(Mb (Mb (Mb (Mb (Mq p_script) fun a14=>Mb (Mq (2:Int)) fun c15=>Mq (a14,c15)) fun c16=>Mo.noex (zB_ c16.1 c16.2)) fun a20=>Mb (Mb (Mb (Mq p_text_here) fun c17=>Mo.lim c17.length (Mq (c17.length:Int))) fun a18=>Mb (Mq (1:Int)) fun b19=>Mq (a18+b19)) fun b21=>Mo.grd (0<b21) (Mq (a20 % b21))) fun v13=>(Mb (Mb (Mb (Mb (Mq p_script) fun a23=>Mb (Mq (3:Int)) fun c24=>Mq (a23,c24)) fun c25=>Mo.noex (zB_ c25.1 c25.2)) fun c26=>Mo.noex (zbk_ c26)) fun s22=>(thenO (S:=Unit) (Mb (Mb (Mq s1') fun a27=>Mb (Mq (1:Int)) fun b28=>Mq (decide (a27=b28))) fun c29=>if c29 then (Mb (Mb (Mb (Mb (Mq p_text_here) fun a32=>Mb (Mq none) fun b33=>Mb (Mb (Mq v13) fun i31=>Mq (some i31)) fun d34=>Mo.lim a32.length (Mq (cutG a32 b33 d34))) fun a35=>Mb (Mq s22) fun b36=>Mo.lim (a35.length+b36.length) (Mq (a35++b36))) fun a41=>Mb (Mb (Mq p_text_here) fun a38=>Mb (Mb (Mq v13) fun i37=>Mq (some i37)) fun b39=>Mb (Mq none) fun d40=>Mo.lim a38.length (Mq (cutG a38 b39 d40))) fun b42=>Mo.lim (a41.length+b42.length) (Mq (a41++b42))) fun r43=>Mq (.rt r43)) else (Mq (.nx ()))) fun _=>(thenO (S:=Unit) (Mb (Mb (Mq s1') fun a44=>Mb (Mq (2:Int)) fun b45=>Mq (decide (a44=b45))) fun c46=>if c46 then (Mb (Mb (Mb (Mb (Mq p_text_here) fun a49=>Mb (Mq none) fun b50=>Mb (Mb (Mq v13) fun i48=>Mq (some i48)) fun d51=>Mo.lim a49.length (Mq (cutG a49 b50 d51))) fun a52=>Mb (Mq s22) fun b53=>Mo.lim (a52.length+b53.length) (Mq (a52++b53))) fun a60=>Mb (Mb (Mq p_text_here) fun a57=>Mb (Mb (Mb (Mq v13) fun a54=>Mb (Mq (1:Int)) fun b55=>Mq (a54+b55)) fun i56=>Mq (some i56)) fun b58=>Mb (Mq none) fun d59=>Mo.lim a57.length (Mq (cutG a57 b58 d59))) fun b61=>Mo.lim (a60.length+b61.length) (Mq (a60++b61))) fun r62=>Mq (.rt r62)) else (Mq (.nx ()))) fun _=>(thenO (S:=Unit) (Mb (Mb (Mq s1') fun a63=>Mb (Mq (3:Int)) fun b64=>Mq (decide (a63=b64))) fun c65=>if c65 then (Mb (Mb (Mb (Mq p_text_here) fun a68=>Mb (Mq none) fun b69=>Mb (Mb (Mq v13) fun i67=>Mq (some i67)) fun d70=>Mo.lim a68.length (Mq (cutG a68 b69 d70))) fun a77=>Mb (Mb (Mq p_text_here) fun a74=>Mb (Mb (Mb (Mq v13) fun a71=>Mb (Mq (1:Int)) fun b72=>Mq (a71+b72)) fun i73=>Mq (some i73)) fun b75=>Mb (Mq none) fun d76=>Mo.lim a74.length (Mq (cutG a74 b75 d76))) fun b78=>Mo.lim (a77.length+b78.length) (Mq (a77++b78))) fun r79=>Mq (.rt r79)) else (Mq (.nx ()))) fun _=>(thenO (S:=Unit) (Mb (Mb (Mq s1') fun a80=>Mb (Mq (4:Int)) fun b81=>Mq (decide (a80=b81))) fun c82=>if c82 then (Mb (Mb (Mq y9) fun c84=>Mo.noex (zaQ_ c84)) fun r85=>Mq (.rt r85)) else (Mq (.nx ()))) fun _=>(thenO (S:=Unit) (Mb (Mb (Mq s1') fun a86=>Mb (Mq (5:Int)) fun b87=>Mq (decide (a86=b87))) fun c88=>if c88 then (Mb (Mb (Mb (Mb (Mq y9) fun c90=>Mo.noex (zaQ_ c90)) fun a91=>Mb (Mq ([44,32]:List Nat)) fun b92=>Mo.lim (a91.length+b92.length) (Mq (a91++b92))) fun a93=>Mb (Mq p_text_here) fun b94=>Mo.lim (a93.length+b94.length) (Mq (a93++b94))) fun r95=>Mq (.rt r95)) else (Mq (.nx ()))) fun _=>(thenO (S:=Unit) (Mb (Mb (Mq s1') fun a96=>Mb (Mq (6:Int)) fun b97=>Mq (decide (a96=b97))) fun c98=>if c98 then (Mb (Mb (Mb (Mq p_text_here) fun a100=>Mb (Mq ([44,32]:List Nat)) fun b101=>Mo.lim (a100.length+b101.length) (Mq (a100++b101))) fun a103=>Mb (Mb (Mq y9) fun c102=>Mo.noex (zaQ_ c102)) fun b104=>Mo.lim (a103.length+b104.length) (Mq (a103++b104))) fun r105=>Mq (.rt r105)) else (Mq (.nx ()))) fun _=>(Mb (Mq p_text_here) fun r106=>Mq (.rt r106))))))))))))
def zac_ (p_text_here:(List Nat)) (p_script:(List Int)):Mo (List Nat):=fnO (zaH_ p_text_here p_script)
def zb2_ (p_wires_here:(List (Int×Int))) (p_bits:Int):Mo (Out (List Nat) Unit Unit) :=
 (Mb (Mq ([]:List (List Nat))) fun z1'=>(thenO (S:=(List (List Nat))) (Mb (Mq p_wires_here) fun v11=>forO (fun (s_2:(List (List Nat))) x_3=>(Mb (Mb (Mb (Mb (Mq x_3.1) fun c_4=>Mo.grd (c_4.natAbs.log2<1920) (Mq (strI c_4))) fun v5=>Mb (Mq ([62]:List Nat)) fun y6=>Mo.lim (v5.length+y6.length) (Mq (v5++y6))) fun a8=>Mb (Mb (Mq x_3.2) fun c7=>Mo.grd (c7.natAbs.log2<1920) (Mq (strI c7))) fun w9=>Mo.lim (a8.length+w9.length) (Mq (a8++w9))) fun a10=>Mo.lim (s_2.length+1) (Mq (.nx (s_2++[a10]))))) v11 z1') fun s_2=>(thenO (S:=(List (List Nat))) (Mb (Mb (Mb (Mb (Mq p_wires_here) fun c12=>Mq (c12.length:Int)) fun a13=>Mb (Mq (1:Int)) fun b14=>Mq (decide (b14<a13))) fun c19=>if c19 then (Mb (Mb (Mq p_bits) fun a15=>Mb (Mq (2:Int)) fun b16=>Mo.grd (0<b16) (Mq (a15 % b16))) fun a17=>Mb (Mq (1:Int)) fun b18=>Mq (decide (a17=b18))) else Mq false) fun c20=>if c20 then (Mb (Mb (Mq p_wires_here) fun a23=>Mb (Mq (0:Int)) fun b24=>Mo.opt (atI a23 b24)) fun o22=>(Mb (Mq ([49,45,50,62,51,53,45,51,54]:List Nat)) fun a25=>Mb (Mq (0:Int)) fun j26=>Mb (Mo.opt ((ixN (s_2).length j26).map fun n=>(s_2).set n a25)) fun p27=>(Mb (Mb (Mb (Mb (Mb (Mq o22) fun a36=>Mq a36.1) fun c37=>Mo.grd (c37.natAbs.log2<1920) (Mq (strI c37))) fun a38=>Mb (Mq ([62]:List Nat)) fun b39=>Mo.lim (a38.length+b39.length) (Mq (a38++b39))) fun a42=>Mb (Mb (Mb (Mq o22) fun a40=>Mq a40.2) fun c41=>Mo.grd (c41.natAbs.log2<1920) (Mq (strI c41))) fun b43=>Mo.lim (a42.length+b43.length) (Mq (a42++b43))) fun a45=>Mb (Mb (Mq (1:Int)) fun a44=>Mq (-a44)) fun j46=>Mb (Mo.opt ((ixN (p27).length j46).map fun n=>(p27).set n a45)) fun p47=>(Mq (.nx p47))))) else (Mq (.nx s_2))) fun s21=>(Mb (Mb (Mq ([44,32]:List Nat)) fun a48=>Mb (Mq s21) fun b49=>Mo.grd (JoinOk ⟨a48.toArray⟩ (strsL b49)=true) (Mq (joinS a48 (strsL b49)))) fun r50=>Mq (.rt r50)))))
def zba_ (p_wires_here:(List (Int×Int))) (p_bits:Int):Mo (List Nat):=fnO (zb2_ p_wires_here p_bits)
def zV_ (p_one:(Int×Int)) (p_other:(Int×Int)):Mo (List Nat) :=
 (Mb (Mb (Mb (Mq ([116,104,101,32,119,105,114,101,115,32]:List Nat)) fun v5=>Mo.grd (v5.length≤1000) (Mq ())) fun _=>(Mb (Mb (Mq p_one) fun y4=>Mo.grd (y4.1.natAbs.log2<1920∧y4.2.natAbs.log2<1920∧(strI y4.1).length+(strI y4.2).length≤900) (Mq ())) fun _=>(Mb (Mb (Mq ([32,97,110,100,32]:List Nat)) fun a_3=>Mo.grd (a_3.length≤1000) (Mq ())) fun _=>(Mb (Mb (Mq p_other) fun a_2=>Mo.grd (a_2.1.natAbs.log2<1920∧a_2.2.natAbs.log2<1920∧(strI a_2.1).length+(strI a_2.2).length≤900) (Mq ())) fun _=>(Mb (Mb (Mq ([32,109,101,101,116]:List Nat)) fun a_1=>Mo.grd (a_1.length≤1000) (Mq ())) fun _=>(Mq ())))))) fun _=>Mq ([]:List Nat))
def zbd_ (p_value:Int):Mo (Out Bool Unit Unit) :=
 (Mb (Mb (Mb (Mq p_value) fun a_1=>Mq true) fun c_4=>if c_4 then (Mb (Mb (Mq p_value) fun a_2=>Mq false) fun a_3=>Mq (!a_3)) else Mq false) fun r_5=>Mq (.rt r_5))
def zbj_ (p_value:Int):Mo Bool:=fnO (zbd_ p_value)
def zaN_ (p_value:Int) (p_most:Int):Mo (Out Bool Unit Unit) :=
 (Mb (Mb (Mb (Mq p_value) fun c_1=>Mo.noex (zbj_ c_1)) fun c7=>if c7 then (Mb (Mq (1:Int)) fun v_2=>Mb (Mq p_value) fun v_3=>Mb (Mq (decide (v_2≤v_3))) fun t5=>if t5 then Mb (Mq p_most) fun v_4=>Mq (decide (v_3≤v_4)) else Mq false) else Mq false) fun w8=>Mq (.rt w8))
def zT_ (p_value:Int) (p_most:Int):Mo Bool:=fnO (zaN_ p_value p_most)
def zaz_ (p_wires:(List (Int×Int))):Mo (Out (List (Int×Int)) Unit Unit) :=
 (thenO (S:=Unit) (Mb (Mq p_wires) fun v15=>forO (fun (_:Unit) x_2=>(Mb (Mb (Mb (Mb (Mb (Mb (Mq x_2) fun a_3=>Mq a_3.1) fun y4=>Mb (Mq (40:Int)) fun t5=>Mq (y4,t5)) fun z6=>Mo.noex (zT_ z6.1 z6.2)) fun a7=>Mq (!a7)) fun c13=>if c13 then Mq true else (Mb (Mb (Mb (Mb (Mq x_2) fun a8=>Mq a8.2) fun a9=>Mb (Mq (36:Int)) fun c10=>Mq (a9,c10)) fun c11=>Mo.noex (zT_ c11.1 c11.2)) fun a12=>Mq (!a12))) fun c14=>if c14 then (Mb (Mq ([97,32,119,105,114,101,32,108,101,97,100,115,32,102,114,111,109,32,97,32,99,111,108,117,109,110,32,102,114,111,109,32,49,32,116,111,32,52,48,32,116,111,32,111,110,101,32,102,114,111,109,32,49,32,116,111,32,51,54]:List Nat)) fun _=>Mo.ex (Xc.pl "NoBoard")) else (Mq (.nx ())))) v15 ()) fun _=>(Mb (Mq ([]:(List (Int×(Int×Int))))) fun l16=>(thenO (S:=(List (Int×(Int×Int)))) (Mb (Mq p_wires) fun x33=>forO (fun (s17:(List (Int×(Int×Int)))) x18=>(thenO (S:=Unit) (Mb (Mb (Mb (Mq x18) fun a19=>Mq a19.2) fun a20=>Mb (Mq s17) fun b21=>Mq (if false then !(getA b21 a20).isSome else (getA b21 a20).isSome)) fun c22=>if c22 then (Mb (Mb (Mb (Mq s17) fun a25=>Mb (Mb (Mq x18) fun a24=>Mq a24.2) fun b26=>Mo.opt (getA a25 b26)) fun a27=>Mb (Mq x18) fun c28=>Mq (a27,c28)) fun c29=>Mb (Mo.noex (zV_ c29.1 c29.2)) fun _=>Mo.ex (Xc.at "Meet" [("one",Av.p c29.1.1 c29.1.2),("other",Av.p c29.2.1 c29.2.2)])) else (Mq (.nx ()))) fun _=>(Mb (Mq x18) fun a31=>Mb (Mb (Mq x18) fun a30=>Mq a30.2) fun y32=>Mo.lim (s17.length+1) (Mq (.nx (putA s17 y32 a31)))))) x33 l16) fun s17=>(Mb (Mb (Mb (Mq s17) fun c34=>Mo.grd (c34.length<64) (Mq (srtL ltI (c34.map (·.1))))) fun x38=>compM (fun x35=>cond1 (Mq true) (Mb (Mq s17) fun a36=>Mb (Mq x35) fun b37=>Mo.opt (getA a36 b37))) x38 []) fun r39=>Mq (.rt r39)))))
def zv_ (p_wires:(List (Int×Int))):Mo (List (Int×Int)):=fnO (zaz_ p_wires)
def zbD_ (p_figures:(List Nat)):Mo (Out Int Unit Unit) :=
 (Mb (Mq (0:Int)) fun r1'=>(thenO (S:=Int) (Mb (Mb (Mq p_figures) fun a_3=>Mq (a_3.map fun c=>[c])) fun x12=>forO (fun (s_2:Int) x_4=>(Mb (Mb (Mb (Mq s_2) fun v6=>Mb (Mq (10:Int)) fun v7=>Mo.grd (IntMulOk v6 v7) (Mq (v6*v7))) fun a10=>Mb (Mb (Mq ([48,49,50,51,52,53,54,55,56,57]:List Nat)) fun a8=>Mb (Mq x_4) fun w9=>Mo.grd (findS a8 w9 ≠ -1) (Mq (findS a8 w9))) fun b11=>Mq (a10+b11)) fun w5'=>(Mq (.nx w5')))) x12 r1') fun s_2=>(Mb (Mq s_2) fun r13=>Mq (.rt r13))))
def zaO_ (p_figures:(List Nat)):Mo Int:=fnO (zbD_ p_figures)
def zaW_ (p_text:(List Nat)):Mo (Out (Option Int) Unit Unit) :=
 (thenO (S:=Unit) (Mb (Mb (Mb (Mq p_text) fun a_1=>Mb (Mq ([]:List Nat)) fun b_2=>Mq (decide (a_1=b_2))) fun c10=>if c10 then Mq true else (Mb (Mb (Mb (Mb (Mq p_text) fun a_3=>Mq (a_3.map fun c=>[c])) fun t7=>compM (fun x_4=>cond1 (Mq true) (Mb (Mq x_4) fun v5=>Mb (Mq ([48,49,50,51,52,53,54,55,56,57]:List Nat)) fun y6=>Mq (inS v5 y6))) t7 []) fun c8=>Mq (c8.all id)) fun a9=>Mq (!a9))) fun c11=>if c11 then (Mb (Mq (none:(Option Int))) fun r13=>Mq (.rt r13)) else (Mq (.nx ()))) fun _=>(thenO (S:=Unit) (Mb (Mb (Mb (Mb (Mq p_text) fun a14=>Mb (Mq (0:Int)) fun b15=>Mo.lim a14.length (Mo.opt ((atI a14 b15).map fun c=>[c]))) fun a16=>Mb (Mq ([48]:List Nat)) fun b17=>Mq (decide (a16=b17))) fun c20=>if c20 then (Mb (Mq p_text) fun a18=>Mb (Mq ([48]:List Nat)) fun b19=>Mq (!decide (a18=b19))) else Mq false) fun c21=>if c21 then (Mb (Mq (none:(Option Int))) fun r23=>Mq (.rt r23)) else (Mq (.nx ()))) fun _=>(Mb (Mb (Mb (Mq p_text) fun c24=>Mo.noex (zaO_ c24)) fun a25=>Mq (some a25)) fun r26=>Mq (.rt r26))))
def z6_ (p_text:(List Nat)):Mo (Option Int):=fnO (zaW_ p_text)
def zbB_ (p_text:(List Nat)) (p_most:Int):Mo (Out ((Option Int)×(Option Int)) Unit Unit) :=
 (Mb (Mb (Mb (Mq p_text) fun a_2=>Mb (Mq ([45]:List Nat)) fun b_3=>Mo.grd (a_2.length≤100000∧b_3≠[]) (Mq (splitG b_3 a_2))) fun v6'=>compM (fun x_4=>cond1 (Mq true) (Mb (Mq x_4) fun t5=>Mo.noex (z6_ t5))) v6' []) fun v1'=>(thenO (S:=Unit) (Mb (Mb (Mb (Mq (none:Option Int)) fun a7=>Mb (Mq v1') fun v8=>Mq ((v8.any fun y=>decide (y=a7)))) fun c12=>if c12 then Mq true else (Mb (Mb (Mq v1') fun c9=>Mq (c9.length:Int)) fun a10=>Mb (Mq (2:Int)) fun b11=>Mq (decide (b11<a10)))) fun c13=>if c13 then (Mb (Mb (Mb (Mb (Mq p_text) fun a16=>Mo.grd (a16.length≤9000∧∀ c∈a16,c<1000) (Mq ())) fun _=>(Mb (Mb (Mq ([32,119,114,105,116,101,115,32,110,111,32,99,111,108,117,109,110,115]:List Nat)) fun a15=>Mo.grd (a15.length≤100000) (Mq ())) fun _=>(Mq ()))) fun _=>Mq ([]:List Nat)) fun _=>Mo.ex (Xc.pl "NoBoard")) else (Mq (.nx ()))) fun _=>(thenO (S:=Unit) (Mb (Mb (Mb (Mb (Mq v1') fun c17=>Mq (c17.length:Int)) fun a18=>Mb (Mq (2:Int)) fun b19=>Mq (decide (a18=b19))) fun c28=>if c28 then (Mb (Mb (Mb (Mq v1') fun a20=>Mb (Mq (0:Int)) fun b21=>Mo.opt (atI a20 b21)) fun a22=>Mo.opt a22) fun a26=>Mb (Mb (Mb (Mq v1') fun a23=>Mb (Mq (1:Int)) fun b24=>Mo.opt (atI a23 b24)) fun a25=>Mo.opt a25) fun b27=>Mq (decide (b27≤a26))) else Mq false) fun c29=>if c29 then (Mb (Mb (Mb (Mb (Mq ([116,104,101,32,99,111,108,117,109,110,115,32,111,102,32]:List Nat)) fun a33=>Mo.grd (a33.length≤100000) (Mq ())) fun _=>(Mb (Mb (Mq p_text) fun a32=>Mo.grd (a32.length≤9000∧∀ c∈a32,c<1000) (Mq ())) fun _=>(Mb (Mb (Mq ([32,100,111,110,39,116,32,114,105,115,101]:List Nat)) fun a31=>Mo.grd (a31.length≤100000) (Mq ())) fun _=>(Mq ())))) fun _=>Mq ([]:List Nat)) fun _=>Mo.ex (Xc.pl "NoBoard")) else (Mq (.nx ()))) fun _=>(thenO (S:=Unit) (Mb (Mb (Mb (Mb (Mb (Mq v1') fun a34=>Mb (Mq (0:Int)) fun b35=>Mo.opt (atI a34 b35)) fun a36=>Mo.opt a36) fun a37=>Mb (Mq (1:Int)) fun b38=>Mq (decide (a37<b38))) fun c45=>if c45 then Mq true else (Mb (Mb (Mb (Mq v1') fun a40=>Mb (Mb (Mq (1:Int)) fun a39=>Mq (-a39)) fun b41=>Mo.opt (atI a40 b41)) fun a42=>Mo.opt a42) fun a43=>Mb (Mq p_most) fun b44=>Mq (decide (b44<a43)))) fun c46=>if c46 then (Mb (Mb (Mb (Mb (Mq p_text) fun a49=>Mo.grd (a49.length≤9000∧∀ c∈a49,c<1000) (Mq ())) fun _=>(Mb (Mb (Mq ([32,119,114,105,116,101,115,32,99,111,108,117,109,110,115,32,98,101,121,111,110,100,32,116,104,111,115,101,32,111,102,32,97,32,98,111,97,114,100]:List Nat)) fun a48=>Mo.grd (a48.length≤100000) (Mq ())) fun _=>(Mq ()))) fun _=>Mq ([]:List Nat)) fun _=>Mo.ex (Xc.pl "NoBoard")) else (Mq (.nx ()))) fun _=>(Mb (Mb (Mb (Mq v1') fun a50=>Mb (Mq (0:Int)) fun b51=>Mo.opt (atI a50 b51)) fun a55=>Mb (Mb (Mq v1') fun a53=>Mb (Mb (Mq (1:Int)) fun a52=>Mq (-a52)) fun b54=>Mo.opt (atI a53 b54)) fun c56=>Mq (a55,c56)) fun r57=>Mq (.rt r57))))))
def zal_ (p_text:(List Nat)) (p_most:Int):Mo ((Option Int)×(Option Int)):=fnO (zbB_ p_text p_most)
def za2_ (p_text:(List Nat)):Mo (Out (List (Int×Int)) Unit Unit) :=
 (Mb (Mb (Mq p_text) fun a_2=>Mb (Mq ([62]:List Nat)) fun b_3=>Mo.grd (a_2.length≤100000∧b_3≠[]) (Mq (splitG b_3 a_2))) fun w1'=>(thenO (S:=Unit) (Mb (Mb (Mb (Mq w1') fun c_4=>Mq (c_4.length:Int)) fun v5=>Mb (Mq (2:Int)) fun y6=>Mq (!decide (v5=y6))) fun c7=>if c7 then (Mb (Mb (Mb (Mb (Mq p_text) fun a10=>Mo.grd (a10.length≤9000∧∀ c∈a10,c<1000) (Mq ())) fun _=>(Mb (Mb (Mq ([32,119,114,105,116,101,115,32,110,111,32,119,105,114,101,115]:List Nat)) fun a9=>Mo.grd (a9.length≤100000) (Mq ())) fun _=>(Mq ()))) fun _=>Mq ([]:List Nat)) fun _=>Mo.ex (Xc.pl "NoBoard")) else (Mq (.nx ()))) fun _=>(Mb (Mb (Mb (Mb (Mq w1') fun a12=>Mb (Mq (0:Int)) fun b13=>Mo.opt (atI a12 b13)) fun a14=>Mb (Mq (40:Int)) fun c15=>Mq (a14,c15)) fun c16=>zal_ c16.1 c16.2) fun h11=>(Mb (Mb (Mb (Mb (Mq w1') fun a18=>Mb (Mq (1:Int)) fun b19=>Mo.opt (atI a18 b19)) fun a20=>Mb (Mq (36:Int)) fun c21=>Mq (a20,c21)) fun c22=>zal_ c22.1 c22.2) fun t17=>(thenO (S:=Unit) (Mb (Mb (Mb (Mb (Mb (Mq h11) fun a23=>Mq a23.2) fun a24=>Mo.opt a24) fun a27=>Mb (Mb (Mb (Mq h11) fun a25=>Mq a25.1) fun a26=>Mo.opt a26) fun b28=>Mq (a27-b28)) fun a35=>Mb (Mb (Mb (Mb (Mq t17) fun a29=>Mq a29.2) fun a30=>Mo.opt a30) fun a33=>Mb (Mb (Mb (Mq t17) fun a31=>Mq a31.1) fun a32=>Mo.opt a32) fun b34=>Mq (a33-b34)) fun b36=>Mq (!decide (a35=b36))) fun c37=>if c37 then (Mb (Mb (Mb (Mb (Mq p_text) fun a40=>Mo.grd (a40.length≤9000∧∀ c∈a40,c<1000) (Mq ())) fun _=>(Mb (Mb (Mq ([32,104,97,115,32,101,110,100,115,32,111,102,32,117,110,108,105,107,101,32,108,101,110,103,116,104,115]:List Nat)) fun a39=>Mo.grd (a39.length≤100000) (Mq ())) fun _=>(Mq ()))) fun _=>Mq ([]:List Nat)) fun _=>Mo.ex (Xc.pl "NoBoard")) else (Mq (.nx ()))) fun _=>(Mb (Mb (Mb (Mb (Mb (Mb (Mb (Mq h11) fun a41=>Mq a41.2) fun a42=>Mo.opt a42) fun a45=>Mb (Mb (Mb (Mq h11) fun a43=>Mq a43.1) fun a44=>Mo.opt a44) fun b46=>Mq (a45-b46)) fun a47=>Mb (Mq (1:Int)) fun b48=>Mq (a47+b48)) fun c49=>Mo.grd (-(2 ^ 62)≤c49∧c49<2 ^ 62) (Mq (rngI 0 c49.toNat))) fun x61=>compM (fun x50=>cond1 (Mq true) (Mb (Mb (Mb (Mb (Mq h11) fun a51=>Mq a51.1) fun a52=>Mo.opt a52) fun a53=>Mb (Mq x50) fun b54=>Mq (a53+b54)) fun a59=>Mb (Mb (Mb (Mb (Mq t17) fun a55=>Mq a55.1) fun a56=>Mo.opt a56) fun a57=>Mb (Mq x50) fun b58=>Mq (a57+b58)) fun c60=>Mq (a59,c60))) x61 []) fun r62=>Mq (.rt r62)))))))
def zaw_ (p_text:(List Nat)):Mo (List (Int×Int)):=fnO (za2_ p_text)
def zaZ_ (p_text:(List Nat)):Mo (Out (List (Int×Int)) Unit Unit) :=
 (thenO (S:=Unit) (Mb (Mb (Mq p_text) fun a_1=>Mb (Mq ([]:List Nat)) fun b_2=>Mq (decide (a_1=b_2))) fun c_3=>if c_3 then (Mb (Mq ([]:List (Int×Int))) fun r_5=>Mq (.rt r_5)) else (Mq (.nx ()))) fun _=>(Mb (Mq ([]:List (Int×Int))) fun u6'=>(thenO (S:=(List (Int×Int))) (Mb (Mb (Mq p_text) fun a8=>Mb (Mq ([44,32]:List Nat)) fun w9=>Mo.grd (a8.length≤100000∧w9≠[]) (Mq (splitG w9 a8))) fun w13=>forO (fun (y7:(List (Int×Int))) x10=>(Mb (Mb (Mq x10) fun c11=>zaw_ c11) fun a12=>Mo.lim (y7.length+a12.length) (Mq (.nx (y7++a12))))) w13 u6') fun y7=>(Mb (Mb (Mq y7) fun c14=>zv_ c14) fun r15=>Mq (.rt r15)))))
def zax_ (p_text:(List Nat)):Mo (List (Int×Int)):=fnO (zaZ_ p_text)
def zcP_ (p_e:Xc):Mo (Out Bool Unit Unit) :=
 (Mb (Mb (Mb (Mb (Mq p_e) fun a_2=>Mo.opt (isaQ [("NoBoard",false),("Meet",false)] a_2.c)) fun a10=>Mb (Mb (Mb (Mq p_e) fun a_3=>Mo.opt (isaQ [("NoBoard",false),("Meet",false)] a_3.c)) fun a8=>Mb (Mb (Mb (Mq p_e) fun y4=>Mo.opt (isaQ [("NoBoard",false),("Meet",false)] y4.c)) fun v6=>Mb (Mb (Mq p_e) fun v5=>Mo.opt (isaQ [("NoBoard",false),("Meet",false)] v5.c)) fun c7=>Mq (v6,c7)) fun c9=>Mq (a8,c9)) fun c11=>Mq (a10,c11)) fun c12=>Mq [c12.1,c12.2.1,c12.2.2.1,c12.2.2.2]) fun x1'=>(Mb (Mb (Mq x1') fun a22=>Mb (Mb (Mb (Mb (Mq p_e) fun a14=>Mo.opt (isaQ [("NoBoard",false),("Meet",false)] a14.c)) fun a19=>Mb (Mb (Mb (Mq p_e) fun a15=>Mo.opt (isaQ [("NoBoard",false),("Meet",false)] a15.c)) fun a17=>Mb (Mb (Mq p_e) fun a16=>Mo.opt (isaQ [("NoBoard",false),("Meet",false)] a16.c)) fun c18=>Mq (a17,c18)) fun c20=>Mq (a19,c20)) fun c21=>Mq [c21.1,c21.2.1,c21.2.2]) fun b23=>Mo.lim (a22.length+b23.length) (Mq (a22++b23))) fun s13=>(Mb (Mb (Mb (Mq p_e) fun a24=>Mo.opt (isaQ [("NoBoard",true),("Meet",true)] a24.c)) fun c29=>if c29 then (Mb (Mb (Mq p_e) fun a25=>Mo.opt (isaQ [("NoBoard",true),("Meet",true)] a25.c)) fun c28=>if c28 then (Mb (Mq true) fun a26=>Mb (Mq s13) fun b27=>Mq (!(b27.any fun y=>decide (y=a26)))) else Mq false) else Mq false) fun r30=>Mq (.rt r30))))
def zbt_ (p_e:Xc):Mo Bool:=fnO (zcP_ p_e)
def zcL_ (p_found:Int):Mo (Out Bool Unit Unit) :=
 (Mb (Mb (Mb (Mq p_found) fun a_1=>Mq true) fun c_4=>if c_4 then (Mb (Mb (Mq p_found) fun a_2=>Mq false) fun a_3=>Mq (!a_3)) else Mq false) fun r_5=>Mq (.rt r_5))
def z3_ (p_found:Int):Mo Bool:=fnO (zcL_ p_found)
def zcc_ (p_text_here:(List Nat)):Mo (Out (List ((List Nat) ⊕ (Int×Int))) Unit Unit) :=
 (Mb (Mq ([]:List ((List Nat) ⊕ (Int×Int)))) fun q1'=>(Mb (Mq true) fun u2'=>(thenO (S:=((List ((List Nat) ⊕ (Int×Int)))×Bool)) (Mb (Mq p_text_here) fun c_3=>Mo.tr (zax_ c_3) (fun v5'=>(thenO (S:=Unit) (Mb (Mb (Mb (Mq v5') fun a7=>Mq true) fun a8=>Mq (!a8)) fun c9=>if c9 then Mo.no else (Mq (.nx ()))) fun _=>(Mb (Mb (Mb (Mb (Mq ([98,111,97,114,100]:List Nat)) fun a12=>Mq (Sum.inl a12:((List Nat) ⊕ (Int×Int)))) fun c13=>Mq [c13]) fun a15=>Mb (Mb (Mq v5') fun a14=>Mq (a14.map (Sum.inr (α:=(List Nat))))) fun b16=>Mo.lim (a15.length+b16.length) (Mq (a15++b16))) fun t11=>(Mq (.nx (t11,u2')))))) fun x_4=>(Mo.cat [("NoBoard",false),("Meet",true)] x_4.c (Mb (Mb (Mb (Mb (Mq ([109,101,101,116]:List Nat)) fun a23=>Mq (Sum.inl a23:((List Nat) ⊕ (Int×Int)))) fun a30=>Mb (Mb (Mb (Mb (Mq x_4) fun a24=>Mo.opt (attP "Meet" "one" a24)) fun a25=>Mq (Sum.inr a25:((List Nat) ⊕ (Int×Int)))) fun a28=>Mb (Mb (Mb (Mq x_4) fun a26=>Mo.opt (attP "Meet" "other" a26)) fun a27=>Mq (Sum.inr a27:((List Nat) ⊕ (Int×Int)))) fun c29=>Mq (a28,c29)) fun c31=>Mq (a30,c31)) fun c32=>Mq [c32.1,c32.2.1,c32.2.2]) fun t22=>(Mb (Mb (Mb (Mq x_4) fun c34=>Mo.noex (zbt_ c34)) fun c37=>if c37 then (Mb (Mb (Mq x_4) fun a35=>Mo.opt (isaQ [("NoBoard",true),("Meet",false)] a35.c)) fun a36=>Mq (!a36)) else Mq false) fun v33=>(Mq (.nx (t22,v33))))) (Mo.cat [("NoBoard",true),("Meet",false)] x_4.c (Mb (Mb (Mb (Mq ([110,111,110,101]:List Nat)) fun a18=>Mq (Sum.inl a18:((List Nat) ⊕ (Int×Int)))) fun c19=>Mq [c19]) fun v17=>(Mb (Mb (Mq x_4) fun c21=>Mo.noex (zbt_ c21)) fun v20=>(Mq (.nx (v17,v20))))) Mo.no))) fun t6=>(thenO (S:=Unit) (Mb (Mb (Mq t6.2) fun a38=>Mq (!a38)) fun c39=>if c39 then Mo.no else (Mq (.nx ()))) fun _=>(thenO (S:=Unit) (Mb (Mb (Mq t6.1) fun a43=>Mb (Mb (Mq (1:Int)) fun i42=>Mq (some i42)) fun b44=>Mb (Mq none) fun d45=>Mq (cutG a43 b44 d45)) fun x65=>forO (fun (_:Unit) x46=>(Mb (Mb (Mb (Mb (Mq x46) fun a47=>Mq (a47.elim (fun _=>false) fun _=>true)) fun a48=>Mq (!a48)) fun c63=>if c63 then Mq true else (Mb (Mb (Mb (Mb (Mq x46) fun a49=>Mo.opt a49.getRight?) fun c50=>Mq (2:Int)) fun a51=>Mb (Mq (2:Int)) fun b52=>Mq (!decide (a51=b52))) fun c62=>if c62 then Mq true else (Mb (Mb (Mb (Mb (Mb (Mq x46) fun a53=>Mo.opt a53.getRight?) fun a54=>Mq a54.1) fun c55=>Mo.noex (z3_ c55)) fun a56=>Mq (!a56)) fun c61=>if c61 then Mq true else (Mb (Mb (Mb (Mb (Mq x46) fun a57=>Mo.opt a57.getRight?) fun a58=>Mq a58.2) fun c59=>Mo.noex (z3_ c59)) fun a60=>Mq (!a60))))) fun c64=>if c64 then Mo.no else (Mq (.nx ())))) x65 ()) fun _=>(Mb (Mq t6.1) fun r66=>Mq (.rt r66)))))))
def zbc_ (p_text_here:(List Nat)):Mo (List ((List Nat) ⊕ (Int×Int))):=fnO (zcc_ p_text_here)
def zaX_ (p_text_here:(List Nat)) (p_most:Int):Mo (Out Int Unit Unit) :=
 (thenO (S:=Unit) (Mb (Mb (Mb (Mq p_text_here) fun a_1=>Mb (Mq ([]:List Nat)) fun b_2=>Mq (decide (a_1=b_2))) fun c11=>if c11 then Mq true else (Mb (Mb (Mb (Mq p_text_here) fun c_3=>Mo.lim c_3.length (Mq (c_3.length:Int))) fun y4=>Mb (Mq (2:Int)) fun z5=>Mq (decide (z5<y4))) fun c10=>if c10 then Mq true else (Mb (Mb (Mq p_text_here) fun v6=>Mb (Mq (0:Int)) fun v7=>Mo.lim v6.length (Mo.opt ((atI v6 v7).map fun c=>[c]))) fun a8=>Mb (Mq ([48]:List Nat)) fun w9=>Mq (decide (a8=w9))))) fun c12=>if c12 then (Mb (Mq (0:Int)) fun r14=>Mq (.rt r14)) else (Mq (.nx ()))) fun _=>(thenO (S:=Unit) (Mb (Mb (Mq p_text_here) fun a16=>Mq (a16.map fun c=>[c])) fun x22=>forO (fun (_:Unit) x17=>(Mb (Mb (Mq x17) fun a18=>Mb (Mq ([48,49,50,51,52,53,54,55,56,57]:List Nat)) fun b19=>Mq (!inS a18 b19)) fun c20=>if c20 then (Mb (Mq (0:Int)) fun r21=>Mq (.rt r21)) else (Mq (.nx ())))) x22 ()) fun _=>(thenO (S:=Unit) (Mb (Mb (Mb (Mq p_text_here) fun c23=>Mo.grd (fig2B c23=true) (Mq (fig2V c23))) fun a24=>Mb (Mq p_most) fun b25=>Mq (decide (b25<a24))) fun c26=>if c26 then (Mb (Mq (0:Int)) fun r28=>Mq (.rt r28)) else (Mq (.nx ()))) fun _=>(Mb (Mb (Mq p_text_here) fun c29=>Mo.grd (fig2B c29=true) (Mq (fig2V c29))) fun r30=>Mq (.rt r30)))))
def zP_ (p_text_here:(List Nat)) (p_most:Int):Mo Int:=fnO (zaX_ p_text_here p_most)
def zbZ_ (p_text_here:(List Nat)) (p_most:Int):Mo (Out (List Int) Unit Unit) :=
 (Mb (Mb (Mq p_text_here) fun a_2=>Mb (Mq ([45]:List Nat)) fun b_3=>Mq (findS a_2 b_3)) fun u1'=>(thenO (S:=Unit) (Mb (Mb (Mq u1') fun y4=>Mb (Mq (0:Int)) fun z5=>Mq (decide (y4<z5))) fun z6=>if z6 then (Mb (Mb (Mb (Mb (Mb (Mq p_text_here) fun a8=>Mb (Mq p_most) fun c9=>Mq (a8,c9)) fun c10=>Mo.noex (zP_ c10.1 c10.2)) fun a14=>Mb (Mb (Mb (Mq p_text_here) fun a11=>Mb (Mq p_most) fun c12=>Mq (a11,c12)) fun c13=>Mo.noex (zP_ c13.1 c13.2)) fun c15=>Mq (a14,c15)) fun c16=>Mq [c16.1,c16.2]) fun r17=>Mq (.rt r17)) else (Mq (.nx ()))) fun _=>(Mb (Mb (Mb (Mb (Mb (Mb (Mq p_text_here) fun a20=>Mb (Mq none) fun b21=>Mb (Mb (Mq u1') fun i19=>Mq (some i19)) fun d22=>Mo.lim a20.length (Mq (cutG a20 b21 d22))) fun a23=>Mb (Mq p_most) fun c24=>Mq (a23,c24)) fun c25=>Mo.noex (zP_ c25.1 c25.2)) fun a35=>Mb (Mb (Mb (Mb (Mq p_text_here) fun a29=>Mb (Mb (Mb (Mq u1') fun a26=>Mb (Mq (1:Int)) fun b27=>Mq (a26+b27)) fun i28=>Mq (some i28)) fun b30=>Mb (Mq none) fun d31=>Mo.lim a29.length (Mq (cutG a29 b30 d31))) fun a32=>Mb (Mq p_most) fun c33=>Mq (a32,c33)) fun c34=>Mo.noex (zP_ c34.1 c34.2)) fun c36=>Mq (a35,c36)) fun c37=>Mq [c37.1,c37.2]) fun e18=>(thenO (S:=Unit) (Mb (Mb (Mb (Mq e18) fun a38=>Mb (Mq (0:Int)) fun b39=>Mo.opt (atI a38 b39)) fun a42=>Mb (Mb (Mq e18) fun a40=>Mb (Mq (1:Int)) fun b41=>Mo.opt (atI a40 b41)) fun b43=>Mq (decide (b43≤a42))) fun c44=>if c44 then (Mb (Mb (Mb (Mq (0:Int)) fun a46=>Mb (Mq (0:Int)) fun c47=>Mq (a46,c47)) fun c48=>Mq [c48.1,c48.2]) fun r49=>Mq (.rt r49)) else (Mq (.nx ()))) fun _=>(Mq (.rt e18))))))
def zaF_ (p_text_here:(List Nat)) (p_most:Int):Mo (List Int):=fnO (zbZ_ p_text_here p_most)
def zcr_ (p_text_here:(List Nat)):Mo (Out (Option (List (Int×Int))) Unit Unit) :=
 (thenO (S:=Unit) (Mb (Mb (Mq p_text_here) fun a_1=>Mb (Mq ([]:List Nat)) fun b_2=>Mq (decide (a_1=b_2))) fun c_3=>if c_3 then (Mb (Mb (Mq ([]:List (Int×Int))) fun v5=>Mq (some v5)) fun r6=>Mq (.rt r6)) else (Mq (.nx ()))) fun _=>(Mb (Mq ([]:List (Int×Int))) fun z7=>(thenO (S:=(List (Int×Int))) (Mb (Mb (Mq p_text_here) fun a9=>Mb (Mq ([44,32]:List Nat)) fun v10=>Mo.grd (a9.length≤100000∧v10≠[]) (Mq (splitG v10 a9))) fun x84=>forO (fun (y8:(List (Int×Int))) x11=>(Mb (Mb (Mq x11) fun a13=>Mb (Mq ([62]:List Nat)) fun b14=>Mo.grd (a13.length≤100000∧b14≠[]) (Mq (splitG b14 a13))) fun v12=>(thenO (S:=Unit) (Mb (Mb (Mb (Mq v12) fun c15=>Mq (c15.length:Int)) fun a16=>Mb (Mq (2:Int)) fun b17=>Mq (!decide (a16=b17))) fun c18=>if c18 then (Mb (Mq (none:(Option (List (Int×Int))))) fun r20=>Mq (.rt r20)) else (Mq (.nx ()))) fun _=>(Mb (Mb (Mb (Mb (Mq v12) fun a22=>Mb (Mq (0:Int)) fun b23=>Mo.opt (atI a22 b23)) fun a24=>Mb (Mq (40:Int)) fun c25=>Mq (a24,c25)) fun c26=>Mo.noex (zaF_ c26.1 c26.2)) fun o21=>(Mb (Mb (Mb (Mb (Mq v12) fun a28=>Mb (Mq (1:Int)) fun b29=>Mo.opt (atI a28 b29)) fun a30=>Mb (Mq (36:Int)) fun c31=>Mq (a30,c31)) fun c32=>Mo.noex (zaF_ c32.1 c32.2)) fun o27=>(thenO (S:=Unit) (Mb (Mb (Mb (Mb (Mq o21) fun a33=>Mb (Mq (0:Int)) fun b34=>Mo.opt (atI a33 b34)) fun a35=>Mb (Mq (0:Int)) fun b36=>Mq (decide (a35=b36))) fun c56=>if c56 then Mq true else (Mb (Mb (Mb (Mq o27) fun a37=>Mb (Mq (0:Int)) fun b38=>Mo.opt (atI a37 b38)) fun a39=>Mb (Mq (0:Int)) fun b40=>Mq (decide (a39=b40))) fun c55=>if c55 then Mq true else (Mb (Mb (Mb (Mq o21) fun a41=>Mb (Mq (1:Int)) fun b42=>Mo.opt (atI a41 b42)) fun a45=>Mb (Mb (Mq o21) fun a43=>Mb (Mq (0:Int)) fun b44=>Mo.opt (atI a43 b44)) fun b46=>Mq (a45-b46)) fun a53=>Mb (Mb (Mb (Mq o27) fun a47=>Mb (Mq (1:Int)) fun b48=>Mo.opt (atI a47 b48)) fun a51=>Mb (Mb (Mq o27) fun a49=>Mb (Mq (0:Int)) fun b50=>Mo.opt (atI a49 b50)) fun b52=>Mq (a51-b52)) fun b54=>Mq (!decide (a53=b54))))) fun c57=>if c57 then (Mb (Mq (none:(Option (List (Int×Int))))) fun r59=>Mq (.rt r59)) else (Mq (.nx ()))) fun _=>(Mb (Mb (Mq y8) fun a82=>Mb (Mb (Mb (Mb (Mb (Mb (Mq o21) fun a61=>Mb (Mq (1:Int)) fun b62=>Mo.opt (atI a61 b62)) fun a65=>Mb (Mb (Mq o21) fun a63=>Mb (Mq (0:Int)) fun b64=>Mo.opt (atI a63 b64)) fun b66=>Mq (a65-b66)) fun a67=>Mb (Mq (1:Int)) fun b68=>Mq (a67+b68)) fun c69=>Mo.grd (-(2 ^ 62)≤c69∧c69<2 ^ 62) (Mq (rngI 0 c69.toNat))) fun x81=>compM (fun x70=>cond1 (Mq true) (Mb (Mb (Mb (Mq o21) fun a71=>Mb (Mq (0:Int)) fun b72=>Mo.opt (atI a71 b72)) fun a73=>Mb (Mq x70) fun b74=>Mq (a73+b74)) fun a79=>Mb (Mb (Mb (Mq o27) fun a75=>Mb (Mq (0:Int)) fun b76=>Mo.opt (atI a75 b76)) fun a77=>Mb (Mq x70) fun b78=>Mq (a77+b78)) fun c80=>Mq (a79,c80))) x81 []) fun b83=>Mo.lim (a82.length+b83.length) (Mq (a82++b83))) fun w60=>(Mq (.nx w60))))))))) x84 z7) fun y8=>(Mb (Mb (Mq y8) fun a85=>Mq (some a85)) fun r86=>Mq (.rt r86)))))
def za9_ (p_text_here:(List Nat)):Mo (Option (List (Int×Int))):=fnO (zcr_ p_text_here)
def zdj_ (p_text_here:(List Nat)):Mo (Out (List ((List Nat) ⊕ (Int×Int))) Unit Unit) :=
 (Mb (Mb (Mq p_text_here) fun c_3=>Mo.noex (za9_ c_3)) fun y2'=>(thenO (S:=Unit) (Mb (Mb (Mq y2') fun y4=>Mb (Mq ()) fun z5=>Mq y4.isNone) fun z6=>if z6 then (Mb (Mb (Mb (Mq ([110,111,110,101]:List Nat)) fun a8=>Mq (Sum.inl a8:((List Nat) ⊕ (Int×Int)))) fun c9=>Mq [c9]) fun r10=>Mq (.rt r10)) else (Mq (.nx ()))) fun _=>(Mb (Mo.opt y2') fun w11=>(thenO (S:=Unit) (Mb (Mb (Mb (Mq w11) fun c13=>Mq (c13.length:Int)) fun c14=>Mo.grd (-(2 ^ 62)≤c14∧c14<2 ^ 62) (Mq (rngI 0 c14.toNat))) fun x42=>forO (fun (_:Unit) x15=>(thenO (S:=Unit) (Mb (Mb (Mq x15) fun c17=>Mo.grd (-(2 ^ 62)≤c17∧c17<2 ^ 62) (Mq (rngI 0 c17.toNat))) fun x41=>forO (fun (_:Unit) x18=>(Mb (Mb (Mb (Mb (Mq w11) fun a19=>Mb (Mq x18) fun b20=>Mo.opt (atI a19 b20)) fun a21=>Mq a21.2) fun a25=>Mb (Mb (Mb (Mq w11) fun a22=>Mb (Mq x15) fun b23=>Mo.opt (atI a22 b23)) fun a24=>Mq a24.2) fun b26=>Mq (decide (a25=b26))) fun c27=>if c27 then (Mb (Mb (Mb (Mb (Mq ([109,101,101,116]:List Nat)) fun a28=>Mq (Sum.inl a28:((List Nat) ⊕ (Int×Int)))) fun a37=>Mb (Mb (Mb (Mb (Mq w11) fun a29=>Mb (Mq x18) fun b30=>Mo.opt (atI a29 b30)) fun a31=>Mq (Sum.inr a31:((List Nat) ⊕ (Int×Int)))) fun a35=>Mb (Mb (Mb (Mq w11) fun a32=>Mb (Mq x15) fun b33=>Mo.opt (atI a32 b33)) fun a34=>Mq (Sum.inr a34:((List Nat) ⊕ (Int×Int)))) fun c36=>Mq (a35,c36)) fun c38=>Mq (a37,c38)) fun c39=>Mq [c39.1,c39.2.1,c39.2.2]) fun r40=>Mq (.rt r40)) else (Mq (.nx ())))) x41 ()) fun _=>(Mq (.nx ())))) x42 ()) fun _=>(Mb (Mb (Mb (Mb (Mq ([98,111,97,114,100]:List Nat)) fun a43=>Mq (Sum.inl a43:((List Nat) ⊕ (Int×Int)))) fun c44=>Mq [c44]) fun a57=>Mb (Mb (Mb (Mb (Mb (Mq w11) fun v50=>compM (fun x45=>cond1 (Mq true) (Mb (Mb (Mq x45) fun a46=>Mq a46.2) fun a48=>Mb (Mb (Mq x45) fun a47=>Mq a47.1) fun c49=>Mq (a48,c49))) v50 []) fun c51=>Mo.grd (c51.length<64) (Mq (srtL (lxP ltI ltI) c51))) fun x55=>compM (fun x52=>cond1 (Mq true) (Mb (Mq x52.2) fun a53=>Mb (Mq x52.1) fun c54=>Mq (a53,c54))) x55 []) fun a56=>Mq (a56.map (Sum.inr (α:=(List Nat))))) fun b58=>Mo.lim (a57.length+b58.length) (Mq (a57++b58))) fun r59=>Mq (.rt r59))))))
def zbW_ (p_text_here:(List Nat)):Mo (List ((List Nat) ⊕ (Int×Int))):=fnO (zdj_ p_text_here)
def zmA_ (p_script:(List Int)):Mo (Out Bool Unit Unit) :=
 (Mb (Mb (Mb (Mq p_script) fun a_2=>Mb (Mq (0:Int)) fun c_3=>Mq (a_2,c_3)) fun c_4=>Mo.noex (zB_ c_4.1 c_4.2)) fun y1'=>(Mb (Mb (Mb (Mb (Mq p_script) fun a8=>Mb (Mb (Mq (4:Int)) fun i6=>Mq (some i6)) fun w9=>Mb (Mb (Mq (67:Int)) fun i7=>Mq (some i7)) fun d10=>Mq (cutG a8 w9 d10)) fun a15=>Mb (Mb (Mb (Mq y1') fun a11=>Mb (Mq (2:Int)) fun b12=>Mo.grd (0<b12) (Mq (a11 % b12))) fun a13=>Mb (Mq (1:Int)) fun b14=>Mq (decide (a13=b14))) fun c16=>Mq (a15,c16)) fun c17=>Mo.noex (z4_ c17.1 c17.2)) fun y5'=>(Mb (Mb (Mb (Mb (Mb (Mq y5') fun a24=>Mb (Mb (Mb (Mb (Mq p_script) fun a19=>Mb (Mq (1:Int)) fun c20=>Mq (a19,c20)) fun c21=>Mo.noex (zB_ c21.1 c21.2)) fun a22=>Mb (Mq (24:Int)) fun b23=>Mo.grd (CDivG a22 b23) (Mq (a22 / b23))) fun c25=>Mq (a24,c25)) fun c26=>Mo.noex (zba_ c26.1 c26.2)) fun a27=>Mb (Mq p_script) fun c28=>Mq (a27,c28)) fun c29=>Mo.noex (zac_ c29.1 c29.2)) fun t18=>(Mb (Mb (Mb (Mq t18) fun c30=>Mo.noex (zbc_ c30)) fun a32=>Mb (Mb (Mq t18) fun c31=>Mo.noex (zbW_ c31)) fun b33=>Mq (((eqL (eqTw (fun a b=>decide (a=b)) (fun a b=>(fun a b=>decide (a=b)) a.1 b.1 && (fun a b=>decide (a=b)) a.2 b.2))) a32 b33))) fun r34=>Mq (.rt r34)))))
def f_law (p_script:(List Int)):Mo Bool:=fnO (zmA_ p_script)
end K30
namespace K30
open PySem PySem.Spec PyProof.Rows L2
open Mo renaming bind→Mb,ok→Mq
open Sl renaming fz→Zf,dead→Zd,ow→Zo
def top (i:Nat):Stmt:=PySem.Challenge.pw_cardshop_k30_board_texts.main.body.getD i (.Pass ⟨0,0,0,0⟩)
abbrev zd4_:Stmt:=top 26
abbrev zfW_:Stmt:=top 28
abbrev zga_:Stmt:=top 30
abbrev zhY_:Stmt:=top 31
abbrev zdI_:Stmt:=top 32
abbrev zhm_:Stmt:=top 29
abbrev zcA_:Stmt:=inClass (top 6) 0
abbrev zf5_:Stmt:=top 15
abbrev zfw_:Stmt:=top 19
abbrev zer_:Stmt:=top 20
abbrev zfK_:Stmt:=top 16
abbrev zeK_:Stmt:=top 17
abbrev zfX_:Stmt:=top 22
abbrev zes_:Stmt:=top 23
abbrev zeM_:Stmt:=top 24
abbrev zfV_:Stmt:=top 37
abbrev zfR_:Stmt:=top 27
abbrev zgm_:Stmt:=top 38
abbrev zen_:Stmt:=top 33
abbrev zgf_:Stmt:=top 34
abbrev zgq_:Stmt:=top 35
abbrev zh0_:Stmt:=top 36
abbrev zm4_:Stmt:=top 39
structure Fx (K:Fgg):Prop where
 exc_NoBoard:excK K (gA K "NoBoard")=true
 cat_NoBoard_NoBoard:catK K (gA K "NoBoard") (gA K "NoBoard")=true
 cat_NoBoard_Meet:catN K (gA K "NoBoard") (gA K "Meet")=true
 isa_NoBoard_NoAsking:isaK K (gA K "NoBoard") (.ref (gA K "NoAsking"))=some false
 isa_NoBoard_NoOrder:isaK K (gA K "NoBoard") (.ref (gA K "NoOrder"))=some false
 isa_NoBoard_NoField:isaK K (gA K "NoBoard") (.ref (gA K "NoField"))=some false
 isa_NoBoard_NoCard:isaK K (gA K "NoBoard") (.ref (gA K "NoCard"))=some false
 isa_NoBoard_NoRow:isaK K (gA K "NoBoard") (.ref (gA K "NoRow"))=some false
 isa_NoBoard_NoPlan:isaK K (gA K "NoBoard") (.ref (gA K "NoPlan"))=some false
 isa_NoBoard_NoTray:isaK K (gA K "NoBoard") (.ref (gA K "NoTray"))=some false
 isa_NoBoard_ShopError:isaK K (gA K "NoBoard") (.ref (gA K "ShopError"))=some true
 isa_NoBoard_ValueError:isaK K (gA K "NoBoard") (.type "ValueError")=some true
 isa_NoBoard_NoBoard:isaK K (gA K "NoBoard") (.ref (gA K "NoBoard"))=some true
 exj_Meet:excJ K (gA K "Meet")=true
 exa_Meet_one:exA K (gA K "Meet") "one" = true
 exa_Meet_other:exA K (gA K "Meet") "other" = true
 cat_Meet_NoBoard:catN K (gA K "Meet") (gA K "NoBoard")=true
 cat_Meet_Meet:catK K (gA K "Meet") (gA K "Meet")=true
 isa_Meet_NoAsking:isaK K (gA K "Meet") (.ref (gA K "NoAsking"))=some false
 isa_Meet_NoOrder:isaK K (gA K "Meet") (.ref (gA K "NoOrder"))=some false
 isa_Meet_NoField:isaK K (gA K "Meet") (.ref (gA K "NoField"))=some false
 isa_Meet_NoCard:isaK K (gA K "Meet") (.ref (gA K "NoCard"))=some false
 isa_Meet_NoRow:isaK K (gA K "Meet") (.ref (gA K "NoRow"))=some false
 isa_Meet_NoPlan:isaK K (gA K "Meet") (.ref (gA K "NoPlan"))=some false
 isa_Meet_NoTray:isaK K (gA K "Meet") (.ref (gA K "NoTray"))=some false
 isa_Meet_ShopError:isaK K (gA K "Meet") (.ref (gA K "ShopError"))=some true
 isa_Meet_ValueError:isaK K (gA K "Meet") (.type "ValueError")=some true
 isa_Meet_NoBoard:isaK K (gA K "Meet") (.ref (gA K "NoBoard"))=some false
 bin_ShopError:binK K (gA K "ShopError")=true
def zF_ (K:Fgg):Sp:=Ct K (csCons (tySc K) (csLast tyInt)) (fun c=>zB_ c.1 c.2) (owF tyInt)
def zb6_ (K:Fgg):Sp:=Ct K (csCons (tyL tyInt) (csLast tyBl)) (fun c=>z4_ c.1 c.2) (owL Qq0)
def zcI_ (K:Fgg):Sp:=Ct K (csLast tyInt) (fun c=>zbk_ c) (owF tyStr)
def zbo_ (K:Fgg):Sp:=Ct K (csLast tyInt) (fun c=>zaQ_ c) (owF tyStr)
def zbf_ (K:Fgg):Sp:=Ct K (csCons tyStr (csLast (tySc K))) (fun c=>zac_ c.1 c.2) (owF tyStr)
def zcN_ (K:Fgg):Sp:=Ct K (csCons (tyL Qq0) (csLast tyInt)) (fun c=>zba_ c.1 c.2) (owF tyStr)
def zaD_ (K:Fgg):Sp:=CtI K (gA K "Meet") (csCons Qq0 (csLast Qq0)) (fun c=>zV_ c.1 c.2) ["one", "other"]
def zcC_ (K:Fgg):Sp:=Ct K (csLast tyInt) (fun c=>zbj_ c) (owF tyBl)
def za3_ (K:Fgg):Sp:=Ct K (csCons tyInt (csLast tyInt)) (fun c=>zT_ c.1 c.2) (owF tyBl)
def zbF_ (K:Fgg):Sp:=Ct K (csLast (tyL Qq0)) (fun c=>zv_ c) (owL Qq0)
def zb0_ (K:Fgg):Sp:=Ct K (csLast tyStr) (fun c=>zaO_ c) (owF tyInt)
def zbE_ (K:Fgg):Sp:=Ct K (csLast tyStr) (fun c=>z6_ c) (owF (tyOpt tyInt))
def zaY_ (K:Fgg):Sp:=Ct K (csCons tyStr (csLast tyInt)) (fun c=>zal_ c.1 c.2) (owF (tyTup (csCons (tyOpt tyInt) (csLast (tyOpt tyInt)))))
def zbK_ (K:Fgg):Sp:=Ct K (csLast tyStr) (fun c=>zaw_ c) (owL Qq0)
def zbM_ (K:Fgg):Sp:=Ct K (csLast tyStr) (fun c=>zax_ c) (owL Qq0)
def za0_ (K:Fgg):Sp:=Ct K (csLast (tyXc K)) (fun c=>zbt_ c) (owF tyBl)
def za4_ (K:Fgg):Sp:=Ct K (csLast tyInt) (fun c=>z3_ c) (owF tyBl)
def zcM_ (K:Fgg):Sp:=Ct K (csLast tyStr) (fun c=>zbc_ c) (owF (tyL (tyU tyStr Qq0)))
def zZ_ (K:Fgg):Sp:=Ct K (csCons tyStr (csLast tyInt)) (fun c=>zP_ c.1 c.2) (owF tyInt)
def zbp_ (K:Fgg):Sp:=Ct K (csCons tyStr (csLast tyInt)) (fun c=>zaF_ c.1 c.2) (owL tyInt)
def zcV_ (K:Fgg):Sp:=Ct K (csLast tyStr) (fun c=>za9_ c) (owF (tyOpt (tyL Qq0)))
def zd2_ (K:Fgg):Sp:=Ct K (csLast tyStr) (fun c=>zbW_ c) (owL (tyU tyStr Qq0))
def zdY_ (K:Fgg):TS:=(tSeq (mIfS (mTest (tOp mLt (mVar 1) (tCB (mLen K) (tCons (mVar 0) tNil)))) (tRet (tOp (mIx K) (mVar 0) (mVar 1))) tNext) (tRet (tC (.int 0))))
def zfB_ (K:Fgg):TS:=(tSeq (tAsg (tLst tNil) (gName 2)) (tSeq (tAsg (tLst tNil) (gName 3)) (tSeq (tFor (iAny K (mVar 0)) (gName 4) (tSeq (tAsg (tOp mMod (tOp mMulX (tOp mMod (mVar 4) (tC (.int 2147483647))) (tC (.int 48271))) (tC (.int 2147483629))) (gName 5)) (tSeq (tAsg (tOp mAdd (tC (.int 1)) (tOp mMod (mVar 5) (tC (.int 40)))) (gName 6)) (tSeq (tAsg (tOp mAdd (tC (.int 1)) (tOp mMod (tOp mDivG (mVar 5) (tC (.int 40))) (tC (.int 36)))) (gName 7)) (tFor (mRng1 (tCons (tOp mAdd (tC (.int 1)) (tOp mMod (tOp mDivG (mVar 5) (tC (.int 1440))) (tC (.int 4)))) tNil)) (gName 8) (mIfS (mAnd (mTest (tOp mLe (tOp mAdd (mVar 6) (mVar 8)) (tC (.int 40)))) (mAnd (mTest (tOp mLe (tOp mAdd (mVar 7) (mVar 8)) (tC (.int 36)))) (mOr (mTrL K (mVar 1)) (mTest (tOp (mIn K true) (tOp mAdd (mVar 7) (mVar 8)) (mVar 3)))))) (tSeq (tDrop (tBM K "list" rAppend (mVar 2) (tCons (tTup (tCons (tOp mAdd (mVar 6) (mVar 8)) (tCons (tOp mAdd (mVar 7) (mVar 8)) tNil))) tNil))) (tDrop (tBM K "list" rAppend (mVar 3) (tCons (tOp mAdd (mVar 7) (mVar 8)) tNil)))) tNext)))))) (tRet (mVar 2)))))
def zhu_ (K:Fgg):TS:=(tSeq (tAsg (tC (tx AnyL)) (gName 1)) (tSeq (tAsg (tOp mAdd (mVar 1) (tC (tx AnyM))) (gName 1)) (tSeq (mIfS (mTest (tOp (mEqK K) (tOp mMod (mVar 0) (tC (.int 2))) (tC (.int 0)))) (tRet (tOp (mIx K) (tC (tx [48,49,50,51,52,53,54,55,56,57,45,62,44,32])) (tOp mMod (tOp mDivG (mVar 0) (tC (.int 2))) (tC (.int 14))))) tNext) (tRet (tOp (mIx K) (mVar 1) (tOp mMod (tOp mDivG (mVar 0) (tC (.int 2))) (tC (.int 96))))))))
def zde_ (K:Fgg):TS:=(tSeq (tAsg (tLst (tKs [tx [],tx [49,62,50,44,32],tx [44,32,49,62,50],tx [49,62,50,44,51,62,52],tx [49,45,49,62,50,45,50],tx [50,45,49,62,52,45,51],tx [49,45,50,62,51],tx [49,62,50,45,51],tx [48,49,62,50],tx [49,62,51,55],tx [52,49,62,49]])) (gName 1)) (tSeq (tAsg (tOp mAdd (mVar 1) (tLst (tKs [tx [48,62,49],tx [49,62,48],tx [32,49,62,50],tx [49,45,62,50],tx [49,62,50,62,51],tx [49,45,50,62,51,45,53],tx [49,45,51,62,51,45,52],tx [51,57,45,52,49,62,49,45,51],tx [49,45,51,62,51,53,45,51,55]]))) (gName 1)) (tSeq (tAsg (tOp mAdd (mVar 1) (tLst (tCons (tC (tx [49,62,49,44,32,50,62,49])) (tCons (tC (tx [52,48,62,51,54])) (tCons (tC (tx [51,55,45,52,48,62,51,51,45,51,54])) (tCons (tC (tx [45,49,62,50])) tNil)))))) (gName 1)) (tRet (tOp (mIx K) (mVar 1) (tOp mMod (mVar 0) (tC (.int 24))))))))
def zdC_ (K:Fgg):TS:=(tSeq (tAsg (tOp mMod (tOp mDivG (tCall (zF_ K) [] E0 (tCons (mVar 1) (tCons (tC (.int 0)) tNil))) (tC (.int 2))) (tC (.int 7))) (gName 2)) (tSeq (tAsg (tCall (zF_ K) [] E0 (tCons (mVar 1) (tCons (tC (.int 1)) tNil))) (gName 3)) (tSeq (tAsg (tOp mMod (tCall (zF_ K) [] E0 (tCons (mVar 1) (tCons (tC (.int 2)) tNil))) (tOp mAdd (tCB (mLen K) (tCons (mVar 0) tNil)) (tC (.int 1)))) (gName 4)) (tSeq (tAsg (tCall (zcI_ K) [] E0 (tCons (tCall (zF_ K) [] E0 (tCons (mVar 1) (tCons (tC (.int 3)) tNil))) tNil)) (gName 5)) (tSeq (mIfS (mTest (tOp (mEqK K) (mVar 2) (tC (.int 1)))) (tRet (tOp mAdd (tOp mAdd (tSl (mSl K) (mVar 0) tNoPart (mPart (mVar 4))) (mVar 5)) (tSl (mSl K) (mVar 0) (mPart (mVar 4)) tNoPart))) tNext) (tSeq (mIfS (mTest (tOp (mEqK K) (mVar 2) (tC (.int 2)))) (tRet (tOp mAdd (tOp mAdd (tSl (mSl K) (mVar 0) tNoPart (mPart (mVar 4))) (mVar 5)) (tSl (mSl K) (mVar 0) (mPart (tOp mAdd (mVar 4) (tC (.int 1)))) tNoPart))) tNext) (tSeq (mIfS (mTest (tOp (mEqK K) (mVar 2) (tC (.int 3)))) (tRet (tOp mAdd (tSl (mSl K) (mVar 0) tNoPart (mPart (mVar 4))) (tSl (mSl K) (mVar 0) (mPart (tOp mAdd (mVar 4) (tC (.int 1)))) tNoPart))) tNext) (tSeq (mIfS (mTest (tOp (mEqK K) (mVar 2) (tC (.int 4)))) (tRet (tCall (zbo_ K) [] E0 (tCons (mVar 3) tNil))) tNext) (tSeq (mIfS (mTest (tOp (mEqK K) (mVar 2) (tC (.int 5)))) (tRet (tOp mAdd (tOp mAdd (tCall (zbo_ K) [] E0 (tCons (mVar 3) tNil)) (tC (tx [44,32]))) (mVar 0))) tNext) (tSeq (mIfS (mTest (tOp (mEqK K) (mVar 2) (tC (.int 6)))) (tRet (tOp mAdd (tOp mAdd (mVar 0) (tC (tx [44,32]))) (tCall (zbo_ K) [] E0 (tCons (mVar 3) tNil)))) tNext) (tRet (mVar 0))))))))))))
def zhg_ (K:Fgg):TS:=(tSeq (tAsg (tLst tNil) (gName 2)) (tSeq (tFor (iAny K (mVar 0)) (gTupM K 2 (gConsM (gName 3) (gConsM (gName 4) gNilM))) (tDrop (tBM K "list" rAppend (mVar 2) (tCons (tOp mAdd (tOp mAdd (tCB (mStr) (tCons (mVar 3) tNil)) (tC (tx [62]))) (tCB (mStr) (tCons (mVar 4) tNil))) tNil)))) (tSeq (mIfS (mAnd (mTest (tOp mGt (tCB (mLen K) (tCons (mVar 0) tNil)) (tC (.int 1)))) (mTest (tOp (mEqK K) (tOp mMod (mVar 1) (tC (.int 2))) (tC (.int 1))))) (tSeq (tAsg (tOp (mIx K) (mVar 0) (tC (.int 0))) (gName 5)) (tSeq (tAsg (tC (tx [49,45,50,62,51,53,45,51,54])) (gSub (mVar 2) (tC (.int 0)) mSet)) (tAsg (tOp mAdd (tOp mAdd (tCB (mStr) (tCons (tOp (mIx K) (mVar 5) (tC (.int 0))) tNil)) (tC (tx [62]))) (tCB (mStr) (tCons (tOp (mIx K) (mVar 5) (tC (.int 1))) tNil))) (gSub (mVar 2) (mNeg (tC (.int 1))) mSet)))) tNext) (tRet (tBM K "str" (mJoin K) (tC (tx [44,32])) (tCons (mVar 2) tNil))))))
def zhv_ (K:Fgg):TS:=(tSeq (mBInit (gA K "Meet") (tCons (mVar 0) (tCons (tJoin (tJ1 (tC (tx [116,104,101,32,119,105,114,101,115,32])) (tJ1 (tUn mFmtT (mVar 1)) (tJ1 (tC (tx [32,97,110,100,32])) (tJ1 (tUn mFmtT (mVar 2)) (tJ1 (tC (tx [32,109,101,101,116])) tJ0)))))) tNil))) (tSeq (mXSet (gA K "Meet") (mVar 0) (mVar 1) "one") (mXSet (gA K "Meet") (mVar 0) (mVar 2) "other")))
def zgz_ (K:Fgg):TS:=(tRet (mAndV (tCB (mIsa K) (tCons (mVar 0) (tCons (tC (.ty "int")) tNil))) (mNotV (tCB (mIsa K) (tCons (mVar 0) (tCons (tC (.ty "bool")) tNil))))))
def zf0_ (K:Fgg):TS:=(tRet (mAndV (tCall (zcC_ K) [] E0 (tCons (mVar 0) tNil)) (mChain mLe mLe (tC (.int 1)) (mVar 0) (mVar 1))))
def zel_ (K:Fgg) (E:XK):TS:=(tSeq (tFor (iAny K (mVar 0)) (gName 1) (mIfS (mOr (tNot (mTest (tCall (za3_ K) [] E0 (tCons (tOp (mIx K) (mVar 1) (tC (.int 0))) (tCons (tC (.int 40)) tNil))))) (tNot (mTest (tCall (za3_ K) [] E0 (tCons (tOp (mIx K) (mVar 1) (tC (.int 1))) (tCons (tC (.int 36)) tNil)))))) (tRaise (gA K "NoBoard") E (tCons (tC (tx [97,32,119,105,114,101,32,108,101,97,100,115,32,102,114,111,109,32,97,32,99,111,108,117,109,110,32,102,114,111,109,32,49,32,116,111,32,52,48,32,116,111,32,111,110,101,32,102,114,111,109,32,49,32,116,111,32,51,54])) tNil)) tNext)) (tSeq (tAsg tDNewK (gName 2)) (tSeq (tFor (iAny K (mVar 0)) (gName 1) (tSeq (mIfS (mTest (mDIn false (tOp (mIx K) (mVar 1) (tC (.int 1))) (mVar 2))) (tRaiseI (gA K "Meet") (zaD_ K) E (tCons (mDGet (mVar 2) (tOp (mIx K) (mVar 1) (tC (.int 1)))) (tCons (mVar 1) tNil))) tNext) (mDPut (mVar 2) (tOp (mIx K) (mVar 1) (tC (.int 1))) (mVar 1)))) (tRet (tComp ["column"] [("leading",2)] (iAny K (tCB (mSortD 64 K) (tCons (mVar 2) tNil))) (gName 0) tTrue (mDGet (mVar 1) (mVar 0)))))))
def zfY_ (K:Fgg):TS:=(tSeq (tAsg (tC (.int 0)) (gName 1)) (tSeq (tFor (iAny K (mVar 0)) (gName 2) (tAsg (tOp mAdd (tOp mMulX (mVar 1) (tC (.int 10))) (tBM K "str" mIndex (tC (tx [48,49,50,51,52,53,54,55,56,57])) (tCons (mVar 2) tNil))) (gName 1))) (tRet (mVar 1))))
def zej_ (K:Fgg):TS:=(tSeq (mIfS (mOr (mTest (tOp (mEqK K) (mVar 0) (tC (tx [])))) (tNot (mTest (tCB (mAll K) (tCons (tComp ["sign"] [] (iAny K (mVar 0)) (gName 0) tTrue (tOp (mIn K false) (mVar 0) (tC (tx [48,49,50,51,52,53,54,55,56,57])))) tNil))))) (tRet (tC .non)) tNext) (tSeq (mIfS (mAnd (mTest (tOp (mEqK K) (tOp (mIx K) (mVar 0) (tC (.int 0))) (tC (tx [48])))) (mTest (tOp (mNeK K) (mVar 0) (tC (tx [48]))))) (tRet (tC .non)) tNext) (tRet (tCall (zb0_ K) [] E0 (tCons (mVar 0) tNil)))))
def zfn_ (K:Fgg) (E:XK):TS:=(tSeq (tAsg (tComp ["end"] [] (iAny K (tBM K "str" mSplitG (mVar 0) (tCons (tC (tx [45])) tNil))) (gName 0) tTrue (tCall (zbE_ K) [] E0 (tCons (mVar 0) tNil))) (gName 2)) (tSeq (mIfS (mOr (mTest (tOp (mIn K false) (tC .non) (mVar 2))) (mTest (tOp mGt (tCB (mLen K) (tCons (mVar 2) tNil)) (tC (.int 2))))) (tRaise (gA K "NoBoard") E (tCons (tJoin (tJ1 (tUn mRepr (mVar 0)) (tJ1 (tC (tx [32,119,114,105,116,101,115,32,110,111,32,99,111,108,117,109,110,115])) tJ0))) tNil)) tNext) (tSeq (mIfS (mAnd (mTest (tOp (mEqK K) (tCB (mLen K) (tCons (mVar 2) tNil)) (tC (.int 2)))) (mTest (tOp mGe (tOp (mIx K) (mVar 2) (tC (.int 0))) (tOp (mIx K) (mVar 2) (tC (.int 1)))))) (tRaise (gA K "NoBoard") E (tCons (tJoin (tJ1 (tC (tx [116,104,101,32,99,111,108,117,109,110,115,32,111,102,32])) (tJ1 (tUn mRepr (mVar 0)) (tJ1 (tC (tx [32,100,111,110,39,116,32,114,105,115,101])) tJ0)))) tNil)) tNext) (tSeq (mIfS (mOr (mTest (tOp mLt (tOp (mIx K) (mVar 2) (tC (.int 0))) (tC (.int 1)))) (mTest (tOp mGt (tOp (mIx K) (mVar 2) (mNeg (tC (.int 1)))) (mVar 1)))) (tRaise (gA K "NoBoard") E (tCons (tJoin (tJ1 (tUn mRepr (mVar 0)) (tJ1 (tC (tx [32,119,114,105,116,101,115,32,99,111,108,117,109,110,115,32,98,101,121,111,110,100,32,116,104,111,115,101,32,111,102,32,97,32,98,111,97,114,100])) tJ0))) tNil)) tNext) (tRet (tTup (tCons (tOp (mIx K) (mVar 2) (tC (.int 0))) (tCons (tOp (mIx K) (mVar 2) (mNeg (tC (.int 1)))) tNil))))))))
def zeh_ (K:Fgg) (E:XK):TS:=(tSeq (tAsg (tBM K "str" mSplitG (mVar 0) (tCons (tC (tx [62])) tNil)) (gName 1)) (tSeq (mIfS (mTest (tOp (mNeK K) (tCB (mLen K) (tCons (mVar 1) tNil)) (tC (.int 2)))) (tRaise (gA K "NoBoard") E (tCons (tJoin (tJ1 (tUn mRepr (mVar 0)) (tJ1 (tC (tx [32,119,114,105,116,101,115,32,110,111,32,119,105,114,101,115])) tJ0))) tNil)) tNext) (tSeq (tAsg (tCall (zaY_ K) [] E (tCons (tOp (mIx K) (mVar 1) (tC (.int 0))) (tCons (tC (.int 40)) tNil))) (gName 2)) (tSeq (tAsg (tCall (zaY_ K) [] E (tCons (tOp (mIx K) (mVar 1) (tC (.int 1))) (tCons (tC (.int 36)) tNil))) (gName 3)) (tSeq (mIfS (mTest (tOp (mNeK K) (tOp mSub (tOp (mIx K) (mVar 2) (tC (.int 1))) (tOp (mIx K) (mVar 2) (tC (.int 0)))) (tOp mSub (tOp (mIx K) (mVar 3) (tC (.int 1))) (tOp (mIx K) (mVar 3) (tC (.int 0)))))) (tRaise (gA K "NoBoard") E (tCons (tJoin (tJ1 (tUn mRepr (mVar 0)) (tJ1 (tC (tx [32,104,97,115,32,101,110,100,115,32,111,102,32,117,110,108,105,107,101,32,108,101,110,103,116,104,115])) tJ0))) tNil)) tNext) (tRet (tComp ["step"] [("here",2),("there",3)] (mRng1 (tCons (tOp mAdd (tOp mSub (tOp (mIx K) (mVar 2) (tC (.int 1))) (tOp (mIx K) (mVar 2) (tC (.int 0)))) (tC (.int 1))) tNil)) (gName 0) tTrue (tTup (tCons (tOp mAdd (tOp (mIx K) (mVar 1) (tC (.int 0))) (mVar 0)) (tCons (tOp mAdd (tOp (mIx K) (mVar 2) (tC (.int 0))) (mVar 0)) tNil))))))))))
def zeI_ (K:Fgg) (E:XK):TS:=(tSeq (mIfS (mTest (tOp (mEqK K) (mVar 0) (tC (tx [])))) (tRet (tLst tNil)) tNext) (tSeq (tAsg (tLst tNil) (gName 1)) (tSeq (tFor (iAny K (tBM K "str" mSplitG (mVar 0) (tCons (tC (tx [44,32])) tNil))) (gName 2) (tDrop (tBM K "list" rExtend (mVar 1) (tCons (tCall (zbK_ K) [] E (tCons (mVar 2) tNil)) tNil)))) (tRet (tCall (zbF_ K) [] E (tCons (mVar 1) tNil))))))
def zfr_ (K:Fgg):TS:=(tSeq (tAsg (tLst (tCons (tCB (mIsaX K) (tCons (mVar 0) (tCons (tC (.ref (gA K "NoCard"))) tNil))) (tCons (tCB (mIsaX K) (tCons (mVar 0) (tCons (tC (.ref (gA K "NoField"))) tNil))) (tCons (tCB (mIsaX K) (tCons (mVar 0) (tCons (tC (.ref (gA K "NoOrder"))) tNil))) (tCons (tCB (mIsaX K) (tCons (mVar 0) (tCons (tC (.ref (gA K "NoAsking"))) tNil))) tNil))))) (gName 1)) (tSeq (tAsg (tOp mAdd (mVar 1) (tLst (tCons (tCB (mIsaX K) (tCons (mVar 0) (tCons (tC (.ref (gA K "NoTray"))) tNil))) (tCons (tCB (mIsaX K) (tCons (mVar 0) (tCons (tC (.ref (gA K "NoPlan"))) tNil))) (tCons (tCB (mIsaX K) (tCons (mVar 0) (tCons (tC (.ref (gA K "NoRow"))) tNil))) tNil))))) (gName 1)) (tRet (mAndV (tCB (mIsaX K) (tCons (mVar 0) (tCons (tC (.ref (gA K "ShopError"))) tNil))) (mAndV (tCB (mIsaX K) (tCons (mVar 0) (tCons (tC (.ty "ValueError")) tNil))) (tOp (mIn K true) (tC (.bl true)) (mVar 1)))))))
def zfl_ (K:Fgg):TS:=(tRet (mAndV (tCB (mIsa K) (tCons (mVar 0) (tCons (tC (.ty "int")) tNil))) (mNotV (tCB (mIsa K) (tCons (mVar 0) (tCons (tC (.ty "bool")) tNil))))))
def zgP_ (K:Fgg):TS:=(tSeq (tAsg (tLst tNil) (gName 1)) (tSeq (tAsg (tC (.bl true)) (gName 2)) (tSeq (tTryHE (tAsgX (zbM_ K) (tCons (mVar 0) tNil) 1) (tSeq (mIfS (tNot (mTest (tCB (mIsa K) (tCons (mVar 1) (tCons (tC (.ty "list")) tNil))))) tNever tNext) (tAsg (tOp mAdd (tLst (tCons (tC (tx [98,111,97,114,100])) tNil)) (mVar 1)) (gName 1))) (tHAs K (gA K "Meet") 3 (tSeq (tAsg (tLst (tCons (tC (tx [109,101,101,116])) (tCons (mXFld K (mVar 3) "one") (tCons (mXFld K (mVar 3) "other") tNil)))) (gName 1)) (tAsg (mAndV (tCall (za0_ K) [] E0 (tCons (mVar 3) tNil)) (mNotV (tCB (mIsaX K) (tCons (mVar 3) (tCons (tC (.ref (gA K "NoBoard"))) tNil))))) (gName 2))) (tHAs K (gA K "NoBoard") 3 (tSeq (tAsg (tLst (tCons (tC (tx [110,111,110,101])) tNil)) (gName 1)) (tAsg (tCall (za0_ K) [] E0 (tCons (mVar 3) tNil)) (gName 2))) tH0))) (tSeq (mIfS (tNot (mTrL K (mVar 2))) tNever tNext) (tSeq (tFor (iAny K (tSl (mSl K) (mVar 1) (mPart (tC (.int 1))) tNoPart)) (gName 4) (mIfS (mOr (tNot (mTest (tCB (mIsa K) (tCons (mVar 4) (tCons (tC (.ty "tuple")) tNil))))) (mOr (mTest (tOp (mNeK K) (tCB (mLen K) (tCons (mVar 4) tNil)) (tC (.int 2)))) (mOr (tNot (mTest (tCall (za4_ K) [] E0 (tCons (tOp (mIx K) (mVar 4) (tC (.int 0))) tNil)))) (tNot (mTest (tCall (za4_ K) [] E0 (tCons (tOp (mIx K) (mVar 4) (tC (.int 1))) tNil))))))) tNever tNext)) (tRet (mVar 1)))))))
def zek_ (K:Fgg):TS:=(tSeq (mIfS (mOr (mTest (tOp (mEqK K) (mVar 0) (tC (tx [])))) (mOr (mTest (tOp mGt (tCB (mLen K) (tCons (mVar 0) tNil)) (tC (.int 2)))) (mTest (tOp (mEqK K) (tOp (mIx K) (mVar 0) (tC (.int 0))) (tC (tx [48])))))) (tRet (tC (.int 0))) tNext) (tSeq (tFor (iAny K (mVar 0)) (gName 2) (mIfS (mTest (tOp (mIn K true) (mVar 2) (tC (tx [48,49,50,51,52,53,54,55,56,57])))) (tRet (tC (.int 0))) tNext)) (tSeq (mIfS (mTest (tOp mGt (tCB (mInt2) (tCons (mVar 0) tNil)) (mVar 1))) (tRet (tC (.int 0))) tNext) (tRet (tCB (mInt2) (tCons (mVar 0) tNil))))))
def zgX_ (K:Fgg):TS:=(tSeq (tAsg (tBM K "str" mFind (mVar 0) (tCons (tC (tx [45])) tNil)) (gName 2)) (tSeq (mIfS (mTest (tOp mLt (mVar 2) (tC (.int 0)))) (tRet (tLst (tCons (tCall (zZ_ K) [] E0 (tCons (mVar 0) (tCons (mVar 1) tNil))) (tCons (tCall (zZ_ K) [] E0 (tCons (mVar 0) (tCons (mVar 1) tNil))) tNil)))) tNext) (tSeq (tAsg (tLst (tCons (tCall (zZ_ K) [] E0 (tCons (tSl (mSl K) (mVar 0) tNoPart (mPart (mVar 2))) (tCons (mVar 1) tNil))) (tCons (tCall (zZ_ K) [] E0 (tCons (tSl (mSl K) (mVar 0) (mPart (tOp mAdd (mVar 2) (tC (.int 1)))) tNoPart) (tCons (mVar 1) tNil))) tNil))) (gName 3)) (tSeq (mIfS (mTest (tOp mGe (tOp (mIx K) (mVar 3) (tC (.int 0))) (tOp (mIx K) (mVar 3) (tC (.int 1))))) (tRet (tLst (tCons (tC (.int 0)) (tCons (tC (.int 0)) tNil)))) tNext) (tRet (mVar 3))))))
def zgt_ (K:Fgg):TS:=(tSeq (mIfS (mTest (tOp (mEqK K) (mVar 0) (tC (tx [])))) (tRet (tLst tNil)) tNext) (tSeq (tAsg (tLst tNil) (gName 1)) (tSeq (tFor (iAny K (tBM K "str" mSplitG (mVar 0) (tCons (tC (tx [44,32])) tNil))) (gName 2) (tSeq (tAsg (tBM K "str" mSplitG (mVar 2) (tCons (tC (tx [62])) tNil)) (gName 3)) (tSeq (mIfS (mTest (tOp (mNeK K) (tCB (mLen K) (tCons (mVar 3) tNil)) (tC (.int 2)))) (tRet (tC .non)) tNext) (tSeq (tAsg (tCall (zbp_ K) [] E0 (tCons (tOp (mIx K) (mVar 3) (tC (.int 0))) (tCons (tC (.int 40)) tNil))) (gName 4)) (tSeq (tAsg (tCall (zbp_ K) [] E0 (tCons (tOp (mIx K) (mVar 3) (tC (.int 1))) (tCons (tC (.int 36)) tNil))) (gName 5)) (tSeq (mIfS (mOr (mTest (tOp (mEqK K) (tOp (mIx K) (mVar 4) (tC (.int 0))) (tC (.int 0)))) (mOr (mTest (tOp (mEqK K) (tOp (mIx K) (mVar 5) (tC (.int 0))) (tC (.int 0)))) (mTest (tOp (mNeK K) (tOp mSub (tOp (mIx K) (mVar 4) (tC (.int 1))) (tOp (mIx K) (mVar 4) (tC (.int 0)))) (tOp mSub (tOp (mIx K) (mVar 5) (tC (.int 1))) (tOp (mIx K) (mVar 5) (tC (.int 0)))))))) (tRet (tC .non)) tNext) (tAsg (tOp mAdd (mVar 1) (tComp ["_law_k"] [("_law_one",4),("_law_other",5)] (mRng1 (tCons (tOp mAdd (tOp mSub (tOp (mIx K) (mVar 4) (tC (.int 1))) (tOp (mIx K) (mVar 4) (tC (.int 0)))) (tC (.int 1))) tNil)) (gName 0) tTrue (tTup (tCons (tOp mAdd (tOp (mIx K) (mVar 1) (tC (.int 0))) (mVar 0)) (tCons (tOp mAdd (tOp (mIx K) (mVar 2) (tC (.int 0))) (mVar 0)) tNil))))) (gName 1)))))))) (tRet (mVar 1)))))
def zia_ (K:Fgg):TS:=(tSeq (tAsg (tCall (zcV_ K) [] E0 (tCons (mVar 0) tNil)) (gName 1)) (tSeq (mIfS (mTest (tOp mIs (mVar 1) (tC .non))) (tRet (tLst (tCons (tC (tx [110,111,110,101])) tNil))) tNext) (tSeq (tFor (mRng1 (tCons (tCB (mLen K) (tCons (mVar 1) tNil)) tNil)) (gName 2) (tFor (mRng1 (tCons (mVar 2) tNil)) (gName 3) (mIfS (mTest (tOp (mEqK K) (tOp (mIx K) (tOp (mIx K) (mVar 1) (mVar 3)) (tC (.int 1))) (tOp (mIx K) (tOp (mIx K) (mVar 1) (mVar 2)) (tC (.int 1))))) (tRet (tLst (tCons (tC (tx [109,101,101,116])) (tCons (tOp (mIx K) (mVar 1) (mVar 3)) (tCons (tOp (mIx K) (mVar 1) (mVar 2)) tNil))))) tNext))) (tRet (tOp mAdd (tLst (tCons (tC (tx [98,111,97,114,100])) tNil)) (tComp ["_law_there", "_law_here"] [] (iAny K (tCB (mSortD 64 K) (tCons (tComp ["_law_wire"] [] (iAny K (mVar 1)) (gName 0) tTrue (tTup (tCons (tOp (mIx K) (mVar 0) (tC (.int 1))) (tCons (tOp (mIx K) (mVar 0) (tC (.int 0))) tNil)))) tNil))) (gTupM K 2 (gConsM (gName 0) (gConsM (gName 1) gNilM))) tTrue (tTup (tCons (mVar 1) (tCons (mVar 0) tNil)))))))))
def t_law (K:Fgg):TS:=(tSeq (tAsg (tCall (zF_ K) [] E0 (tCons (mVar 0) (tCons (tC (.int 0)) tNil))) (gName 1)) (tSeq (tAsg (tCall (zb6_ K) [] E0 (tCons (tSl (mSl K) (mVar 0) (mPart (tC (.int 4))) (mPart (tC (.int 67)))) (tCons (tOp (mEqK K) (tOp mMod (mVar 1) (tC (.int 2))) (tC (.int 1))) tNil))) (gName 2)) (tSeq (tAsg (tCall (zbf_ K) [] E0 (tCons (tCall (zcN_ K) [] E0 (tCons (mVar 2) (tCons (tOp mDivG (tCall (zF_ K) [] E0 (tCons (mVar 0) (tCons (tC (.int 1)) tNil))) (tC (.int 24))) tNil))) (tCons (mVar 0) tNil))) (gName 3)) (tRet (tOp (mEqK K) (tCall (zcM_ K) [] E0 (tCons (mVar 3) tNil)) (tCall (zd2_ K) [] E0 (tCons (mVar 3) tNil)))))))
abbrev zaG_ (P:Program) (w:World) (K:Fgg) (mg:Str→Option Value) (base:Heap):Prop:=Gd P w K mg base CX0 1 "_law_cell_at" ["_law_script", "_law_k"] (zF_ K)
abbrev zcH_ (P:Program) (w:World) (K:Fgg) (mg:Str→Option Value) (base:Heap):Prop:=Gd P w K mg base CX0 1 "_law_wires" ["_law_cells", "_law_meeting"] (zb6_ K)
abbrev zd1_ (P:Program) (w:World) (K:Fgg) (mg:Str→Option Value) (base:Heap):Prop:=Gd P w K mg base CX0 1 "_law_sign" ["_law_cell"] (zcI_ K)
abbrev zfd_ (P:Program) (w:World) (K:Fgg) (mg:Str→Option Value) (base:Heap):Prop:=Gd P w K mg base CX0 1 "_law_odd" ["_law_cell"] (zbo_ K)
abbrev zbJ_ (P:Program) (w:World) (K:Fgg) (mg:Str→Option Value) (base:Heap):Prop:=Gd P w K mg base CX0 2 "_law_spoiled" ["_law_text_here", "_law_script"] (zbf_ K)
abbrev zdB_ (P:Program) (w:World) (K:Fgg) (mg:Str→Option Value) (base:Heap):Prop:=Gd P w K mg base CX0 1 "_law_text" ["_law_wires_here", "_law_bits"] (zcN_ K)
abbrev zaV_ (P:Program) (w:World) (K:Fgg) (mg:Str→Option Value) (base:Heap):Prop:=GxI P w K mg base 1 "Meet" (gA K "Meet") ["self", "one", "other"] (zaD_ K)
abbrev zd0_ (P:Program) (w:World) (K:Fgg) (mg:Str→Option Value) (base:Heap):Prop:=Gd P w K mg base CX0 1 "is_whole" ["value"] (zcC_ K)
abbrev zcQ_ (P:Program) (w:World) (K:Fgg) (mg:Str→Option Value) (base:Heap):Prop:=Gd P w K mg base CX0 2 "is_column" ["value", "most"] (za3_ K)
abbrev zcw_ (P:Program) (w:World) (K:Fgg) (mg:Str→Option Value) (base:Heap):Prop:=Gd P w K mg base (CXx P w) 3 "make_board" ["wires"] (zbF_ K)
abbrev zc4_ (P:Program) (w:World) (K:Fgg) (mg:Str→Option Value) (base:Heap):Prop:=Gd P w K mg base CX0 1 "number_by" ["figures"] (zb0_ K)
abbrev zcu_ (P:Program) (w:World) (K:Fgg) (mg:Str→Option Value) (base:Heap):Prop:=Gd P w K mg base CX0 2 "read_whole" ["text"] (zbE_ K)
abbrev zcK_ (P:Program) (w:World) (K:Fgg) (mg:Str→Option Value) (base:Heap):Prop:=Gd P w K mg base (CXx P w) 3 "read_span" ["text", "most"] (zaY_ K)
abbrev zch_ (P:Program) (w:World) (K:Fgg) (mg:Str→Option Value) (base:Heap):Prop:=Gd P w K mg base (CXx P w) 4 "read_piece" ["text"] (zbK_ K)
abbrev zce_ (P:Program) (w:World) (K:Fgg) (mg:Str→Option Value) (base:Heap):Prop:=Gd P w K mg base (CXx P w) 5 "read_board" ["text"] (zbM_ K)
abbrev zcG_ (P:Program) (w:World) (K:Fgg) (mg:Str→Option Value) (base:Heap):Prop:=GdN P w K mg base 1 "_law_kinds" ["_law_e"] (za0_ K)
abbrev zcS_ (P:Program) (w:World) (K:Fgg) (mg:Str→Option Value) (base:Heap):Prop:=Gd P w K mg base CX0 1 "_law_whole" ["_law_found"] (za4_ K)
abbrev zd7_ (P:Program) (w:World) (K:Fgg) (mg:Str→Option Value) (base:Heap):Prop:=Gd P w K mg base CX0 6 "_law_told" ["_law_text_here"] (zcM_ K)
abbrev zcq_ (P:Program) (w:World) (K:Fgg) (mg:Str→Option Value) (base:Heap):Prop:=Gd P w K mg base CX0 1 "_law_column" ["_law_text_here", "_law_most"] (zZ_ K)
abbrev zdT_ (P:Program) (w:World) (K:Fgg) (mg:Str→Option Value) (base:Heap):Prop:=Gd P w K mg base CX0 2 "_law_ends" ["_law_text_here", "_law_most"] (zbp_ K)
abbrev zdU_ (P:Program) (w:World) (K:Fgg) (mg:Str→Option Value) (base:Heap):Prop:=Gd P w K mg base CX0 3 "_law_read" ["_law_text_here"] (zcV_ K)
abbrev zeU_ (P:Program) (w:World) (K:Fgg) (mg:Str→Option Value) (base:Heap):Prop:=Gd P w K mg base CX0 4 "_law_due" ["_law_text_here"] (zd2_ K)
end K30
namespace K30
open PySem PySem.Spec PyProof.Rows L2
open Mo renaming bind→Mb,ok→Mq
open Sl renaming fz→Zf,dead→Zd,ow→Zo
structure Ek (K:Fgg):Prop where
 f0:Fg K "_law_cell_at" zd4_
 f1:Fg K "_law_wires" zfW_
 f2:Fg K "_law_sign" zga_
 f3:Fg K "_law_odd" zhY_
 f4:Fg K "_law_spoiled" zdI_
 f5:Fg K "_law_text" zhm_
 f6:Fm K "Meet" "__init__" "Meet.__init__" zcA_
 f7:Fg K "is_whole" zf5_
 f8:Fg K "is_column" zfw_
 f9:Fg K "make_board" zer_
 f10:Fg K "number_by" zfK_
 f11:Fg K "read_whole" zeK_
 f12:Fg K "read_span" zfX_
 f13:Fg K "read_piece" zes_
 f14:Fg K "read_board" zeM_
 f15:Fg K "_law_kinds" zfV_
 f16:Fg K "_law_whole" zfR_
 f17:Fg K "_law_told" zgm_
 f18:Fg K "_law_column" zen_
 f19:Fg K "_law_ends" zgf_
 f20:Fg K "_law_read" zgq_
 f21:Fg K "_law_due" zh0_
 f22:Fg K "law" zm4_
 c0:Fv K "CARD_WIDTH" (.int 40)
 c1:Fv K "BODY_WIDTH" (.int 36)
 c2:Fv K "FIGURES" (tx [48,49,50,51,52,53,54,55,56,57])
 b0:Fb K "len"
 b1:Fb K "range"
 b2:Fb K "str"
 b3:Fb K "isinstance"
 b4:Fb K "int"
 b5:Fb K "bool"
 b6:Fb K "sorted"
 b7:Fb K "all"
 b8:Fb K "ValueError"
 b9:Fb K "list"
 b10:Fb K "tuple"
 k0:Fk K "ShopError"
 k1:Fk K "NoBoard"
 k2:Fk K "Meet"
 k3:Fk K "NoAsking"
 k4:Fk K "NoOrder"
 k5:Fk K "NoField"
 k6:Fk K "NoCard"
 k7:Fk K "NoRow"
 k8:Fk K "NoPlan"
 k9:Fk K "NoTray"
 u0:Fe1 K "NoBoard" fun v_NoBoard=>excK K v_NoBoard=true
 u1:Fe1 K "NoBoard" fun v_NoBoard=>catK K v_NoBoard v_NoBoard=true
 u2:Fe2 K "NoBoard" "Meet" fun v_NoBoard v_Meet=>catN K v_NoBoard v_Meet=true
 u3:Fe2 K "NoBoard" "NoAsking" fun v_NoBoard v_NoAsking=>isaK K v_NoBoard (.ref v_NoAsking)=some false
 u4:Fe2 K "NoBoard" "NoOrder" fun v_NoBoard v_NoOrder=>isaK K v_NoBoard (.ref v_NoOrder)=some false
 u5:Fe2 K "NoBoard" "NoField" fun v_NoBoard v_NoField=>isaK K v_NoBoard (.ref v_NoField)=some false
 u6:Fe2 K "NoBoard" "NoCard" fun v_NoBoard v_NoCard=>isaK K v_NoBoard (.ref v_NoCard)=some false
 u7:Fe2 K "NoBoard" "NoRow" fun v_NoBoard v_NoRow=>isaK K v_NoBoard (.ref v_NoRow)=some false
 u8:Fe2 K "NoBoard" "NoPlan" fun v_NoBoard v_NoPlan=>isaK K v_NoBoard (.ref v_NoPlan)=some false
 u9:Fe2 K "NoBoard" "NoTray" fun v_NoBoard v_NoTray=>isaK K v_NoBoard (.ref v_NoTray)=some false
 u10:Fe2 K "NoBoard" "ShopError" fun v_NoBoard v_ShopError=>isaK K v_NoBoard (.ref v_ShopError)=some true
 u11:Fe1 K "NoBoard" fun v_NoBoard=>isaK K v_NoBoard (.type "ValueError")=some true
 u12:Fe1 K "NoBoard" fun v_NoBoard=>isaK K v_NoBoard (.ref v_NoBoard)=some true
 u13:Fe1 K "Meet" fun v_Meet=>excJ K v_Meet=true
 u14:Fe1 K "Meet" fun v_Meet=>exA K v_Meet "one" = true
 u15:Fe1 K "Meet" fun v_Meet=>exA K v_Meet "other" = true
 u16:Fe2 K "Meet" "NoBoard" fun v_Meet v_NoBoard=>catN K v_Meet v_NoBoard=true
 u17:Fe1 K "Meet" fun v_Meet=>catK K v_Meet v_Meet=true
 u18:Fe2 K "Meet" "NoAsking" fun v_Meet v_NoAsking=>isaK K v_Meet (.ref v_NoAsking)=some false
 u19:Fe2 K "Meet" "NoOrder" fun v_Meet v_NoOrder=>isaK K v_Meet (.ref v_NoOrder)=some false
 u20:Fe2 K "Meet" "NoField" fun v_Meet v_NoField=>isaK K v_Meet (.ref v_NoField)=some false
 u21:Fe2 K "Meet" "NoCard" fun v_Meet v_NoCard=>isaK K v_Meet (.ref v_NoCard)=some false
 u22:Fe2 K "Meet" "NoRow" fun v_Meet v_NoRow=>isaK K v_Meet (.ref v_NoRow)=some false
 u23:Fe2 K "Meet" "NoPlan" fun v_Meet v_NoPlan=>isaK K v_Meet (.ref v_NoPlan)=some false
 u24:Fe2 K "Meet" "NoTray" fun v_Meet v_NoTray=>isaK K v_Meet (.ref v_NoTray)=some false
 u25:Fe2 K "Meet" "ShopError" fun v_Meet v_ShopError=>isaK K v_Meet (.ref v_ShopError)=some true
 u26:Fe1 K "Meet" fun v_Meet=>isaK K v_Meet (.type "ValueError")=some true
 u27:Fe2 K "Meet" "NoBoard" fun v_Meet v_NoBoard=>isaK K v_Meet (.ref v_NoBoard)=some false
 u28:Fe1 K "ShopError" fun v_ShopError=>binK K v_ShopError=true
structure En (K:Fgg) (mg:Str→Option Value):Prop extends Ek K where
 m:Mgo K mg
section
variable {K:Fgg}{mg:Str→Option Value}
theorem En.fx (e:En K mg):Fx K:=⟨e.u0.g,e.u1.g,e.u2.g,e.u3.g,e.u4.g,e.u5.g,e.u6.g,e.u7.g,e.u8.g,e.u9.g,e.u10.g,e.u11.g,e.u12.g,e.u13.g,e.u14.g,e.u15.g,e.u16.g,e.u17.g,e.u18.g,e.u19.g,e.u20.g,e.u21.g,e.u22.g,e.u23.g,e.u24.g,e.u25.g,e.u26.g,e.u27.g,e.u28.g⟩
end
section
variable {P:Program}{w:World}{K:Fgg}{mg:Str→Option Value}{base:Heap}
theorem zdb_ (e:En K mg):zaG_ P w K mg base :=
 zc0_ e.m e.f0 (okC (N:=["_law_script", "_law_k"]) (C:=(csCons (tySc K) (csLast tyInt))) (O:=(owF tyInt)) (t:=fun E=>zdY_ K) (g:=fun c=>zaJ_ c.1 c.2) 2 0 (zaK_ zz_) (fun _ _ _ _ _ _ E nd hr=>(zd_ (zK_ (zs_ zjH_ (za_ 1) (za7_ zX_ (e.m.gb e.b0) (zb_ (za_ 0) zf_))) (zi_ (zE_ (zW_ ix_M (za_ 0) (za_ 1) (fun _ _=>rfl)))) zw_) (zi_ (zE_ zg_)))) fun c E=>at_ [(Zf (tySc K) c.1),(Zf tyInt c.2)]
 (zaj_ (LS:=(fun _:Unit=>[(Zf (tySc K) c.1),(Zf tyInt c.2)])) (s_if (zx_ (zm_ zjg_ (zc_ 1 rfl) (zdG_ zkk_ (ze_ (zc_ 0 rfl))))) (zaB_ (zU_ zh_) (EvF.ow (zm_ zlP_ (zc_ 0 rfl) (zc_ 1 rfl)))) (zk_ (.same (.same .nil)))) fun _=>(at_ [(Zf (tySc K) c.1),(Zf tyInt c.2)] (zaB_ (zU_ zh_) (EvF.ow (zj_ 0))))))
theorem zeA_ (e:En K mg):zcH_ P w K mg base :=
 zc0_ e.m e.f1 (okC (N:=["_law_cells", "_law_meeting", "_law_wires_here", "_law_known", "_law_cell", "_law_number", "_law_here", "_law_there", "_law_k"]) (C:=(csCons (tyL tyInt) (csLast tyBl))) (O:=(owL Qq0)) (t:=fun E=>zfB_ K) (g:=fun c=>zaP_ c.1 c.2) 2 7 (zaK_ zz_) (fun _ _ _ _ _ _ E nd hr=>(zd_ (pst 2 (zaa_ zf_)) (zd_ (pst 3 (zaa_ zf_)) (zd_ (zbP_ PassesOwn.never rfl (zbh_ (za_ 0)) (pgn 4) (zd_ (pst 5 (zJ_ zaq_ (zJ_ ziw_ (zJ_ zaq_ (za_ 4) zg_) zg_) zg_)) (zd_ (pst 6 (zJ_ zr_ zg_ (zJ_ zaq_ (za_ 5) zg_))) (zd_ (pst 7 (zJ_ zr_ zg_ (zJ_ zaq_ (zJ_ zcX_ (za_ 5) zg_) zg_))) (zi_ (zbP_ PassesOwn.never rfl (zcv_ (e.m.gb e.b1) (zb_ (zJ_ zr_ zg_ (zJ_ zaq_ (zJ_ zcX_ (za_ 5) zg_) zg_)) zf_)) (pgn 8) (zi_ (zK_ (PW.pt (zdF_ (zs_ zh5_ (zJ_ zr_ (za_ 6) (za_ 8)) zg_) (zdF_ (zs_ zh5_ (zJ_ zr_ (za_ 7) (za_ 8)) zg_) (ze5_ (PW.pt (zbO_ (zlB_ (za_ 1)) (zdH_ (zs_ zdl_ (zJ_ zr_ (za_ 7) (za_ 8)) (za_ 3))))))))) (zd_ (zfc_ (zlG_ zfi_ zav_ zay_ zbT_ (za_ 2) (zb_ (zfk_ (zb_ (zJ_ zr_ (za_ 6) (za_ 8)) (zb_ (zJ_ zr_ (za_ 7) (za_ 8)) zf_))) zf_))) (zi_ (zfc_ (zlG_ zfi_ zav_ zay_ zbT_ (za_ 3) (zb_ (zJ_ zr_ (za_ 7) (za_ 8)) zf_))))) zw_)))))))) (zi_ (zE_ (za_ 2))))))) fun c E=>at_ [(Zf (tyL tyInt) c.1),(Zf tyBl c.2),Zd,Zd,Zd,Zd,Zd,Zd,Zd]
 (z9_ (i:=2) rfl (zL_ (zG_ (zp_ zh_ (zo_ zh_)))) (zbG_ Qq0) fun t1'=>(at_ [(Zf (tyL tyInt) c.1),(Zf tyBl c.2),(Zo (owL Qq0) t1'),Zd,Zd,Zd,Zd,Zd,Zd] (z9_ (i:=3) rfl (zL_ zh_) (zbG_ tyInt) fun v2'=>(at_ [(Zf (tyL tyInt) c.1),(Zf tyBl c.2),(Zo (owL Qq0) t1'),(Zo (owL tyInt) v2'),Zd,Zd,Zd,Zd,Zd] (zaj_ (LS:=(fun s_3:((List (Int×Int))×(List Int))=>[(Zf (tyL tyInt) c.1),(Zf tyBl c.2),(Zo (owL Qq0) s_3.1),(Zo (owL tyInt) s_3.2),Zd,Zd,Zd,Zd,Zd])) (zbN_ (L':=[(Zf (tyL tyInt) c.1),(Zf tyBl c.2),(Zo (owL Qq0) t1'),(Zo (owL tyInt) v2'),Zd,Zd,Zd,Zd,Zd]) (S4 (S4 (.same .nil))) (zf2_ (LS:=(fun s_3:((List (Int×Int))×(List Int))=>[(Zf (tyL tyInt) c.1),(Zf tyBl c.2),(Zo (owL Qq0) s_3.1),(Zo (owL tyInt) s_3.2),Zd,Zd,Zd,Zd,Zd])) (s0:=(t1',v2')) (ei_l (zc_ 0 rfl)) (zR_ 4) fun s_3 x_4=>at_ [(Zf (tyL tyInt) c.1),(Zf tyBl c.2),(Zo (owL Qq0) s_3.1),(Zo (owL tyInt) s_3.2),(Zf tyInt x_4),Zd,Zd,Zd,Zd] (zc3_ (i:=5) rfl zh_ (zm_ zar_ (zm_ zha_ (zm_ zar_ (zc_ 4 rfl) (zj_ 2147483647)) (zj_ 48271)) (zj_ 2147483629)) fun n5=>(at_ [(Zf (tyL tyInt) c.1),(Zf tyBl c.2),(Zo (owL Qq0) s_3.1),(Zo (owL tyInt) s_3.2),(Zf tyInt x_4),(Zf tyInt n5),Zd,Zd,Zd] (zc3_ (i:=6) rfl zh_ (zm_ zQ_ (zj_ 1) (zm_ zar_ (zc_ 5 rfl) (zj_ 40))) fun h12=>(at_ [(Zf (tyL tyInt) c.1),(Zf tyBl c.2),(Zo (owL Qq0) s_3.1),(Zo (owL tyInt) s_3.2),(Zf tyInt x_4),(Zf tyInt n5),(Zf tyInt h12),Zd,Zd] (zc3_ (i:=7) rfl zh_ (zm_ zQ_ (zj_ 1) (zm_ zar_ (zm_ zbx_ (zc_ 5 rfl) (zj_ 40)) (zj_ 36))) fun t17=>(at_ [(Zf (tyL tyInt) c.1),(Zf tyBl c.2),(Zo (owL Qq0) s_3.1),(Zo (owL tyInt) s_3.2),(Zf tyInt x_4),(Zf tyInt n5),(Zf tyInt h12),(Zf tyInt t17),Zd] (zfD_ (zaj_ (LS:=(fun s24:((List (Int×Int))×(List Int))=>[(Zf (tyL tyInt) c.1),(Zf tyBl c.2),(Zo (owL Qq0) s24.1),(Zo (owL tyInt) s24.2),(Zf tyInt x_4),(Zf tyInt n5),(Zf tyInt h12),(Zf tyInt t17),Zd])) (zbN_ (L':=[(Zf (tyL tyInt) c.1),(Zf tyBl c.2),(Zo (owL Qq0) s_3.1),(Zo (owL tyInt) s_3.2),(Zf tyInt x_4),(Zf tyInt n5),(Zf tyInt h12),(Zf tyInt t17),Zd]) (S4 (S4 (.same .nil))) (zf2_ (LS:=(fun s24:((List (Int×Int))×(List Int))=>[(Zf (tyL tyInt) c.1),(Zf tyBl c.2),(Zo (owL Qq0) s24.1),(Zo (owL tyInt) s24.2),(Zf tyInt x_4),(Zf tyInt n5),(Zf tyInt h12),(Zf tyInt t17),Zd])) (s0:=(s_3.1,s_3.2)) (zdz_ (ze_ (zm_ zQ_ (zj_ 1) (zm_ zar_ (zm_ zbx_ (zc_ 5 rfl) (zj_ 1440)) (zj_ 4))))) (zR_ 8) fun s24 x32=>at_ [(Zf (tyL tyInt) c.1),(Zf tyBl c.2),(Zo (owL Qq0) s24.1),(Zo (owL tyInt) s24.2),(Zf tyInt x_4),(Zf tyInt n5),(Zf tyInt h12),(Zf tyInt t17),(Zf tyInt x32)] (zfD_ (zaj_ (LS:=(fun s49:((List (Int×Int))×(List Int))=>[(Zf (tyL tyInt) c.1),(Zf tyBl c.2),(Zo (owL Qq0) s49.1),(Zo (owL tyInt) s49.2),(Zf tyInt x_4),(Zf tyInt n5),(Zf tyInt h12),(Zf tyInt t17),(Zf tyInt x32)])) (s_if (zgw_ (zx_ (zm_ zhU_ (zm_ zQ_ (zc_ 6 rfl) (zc_ 8 rfl)) (zj_ 40))) (zgw_ (zx_ (zm_ zhU_ (zm_ zQ_ (zc_ 7 rfl) (zc_ 8 rfl)) (zj_ 36))) (zf1_ (zma_ (zc_ 1 rfl)) (zx_ (zm_ (zi3_ zmb_) (zm_ zQ_ (zc_ 7 rfl) (zc_ 8 rfl)) (zdD_ 3 rfl)))))) (zeD_ (i:=2) rfl (zG_ (zp_ zh_ (zo_ zh_))) (zfA_ (zu_ zn_) (zq_ (zm_ zQ_ (zc_ 6 rfl) (zc_ 8 rfl)) (ze_ (zm_ zQ_ (zc_ 7 rfl) (zc_ 8 rfl))))) fun a56=>(at_ [(Zf (tyL tyInt) c.1),(Zf tyBl c.2),(Zo (owL Qq0) (s24.1++[a56])),(Zo (owL tyInt) s24.2),(Zf tyInt x_4),(Zf tyInt n5),(Zf tyInt h12),(Zf tyInt t17),(Zf tyInt x32)] (zfD_ (zeD_ (i:=3) rfl zh_ (zm_ zQ_ (zc_ 7 rfl) (zc_ 8 rfl)) fun a59=>(at_ [(Zf (tyL tyInt) c.1),(Zf tyBl c.2),(Zo (owL Qq0) (s24.1++[a56])),(Zo (owL tyInt) (s24.2++[a59])),(Zf tyInt x_4),(Zf tyInt n5),(Zf tyInt h12),(Zf tyInt t17),(Zf tyInt x32)] (zk_ (S4 (S4 (.same .nil))))))))) (zk_ (S4 (S4 (.same .nil))))) fun s49=>(at_ [(Zf (tyL tyInt) c.1),(Zf tyBl c.2),(Zo (owL Qq0) s49.1),(Zo (owL tyInt) s49.2),(Zf tyInt x_4),(Zf tyInt n5),(Zf tyInt h12),(Zf tyInt t17),(Zf tyInt x32)] (zk_ (S4 (S4 (.dead .nil))))))))) fun s24=>(at_ [(Zf (tyL tyInt) c.1),(Zf tyBl c.2),(Zo (owL Qq0) s24.1),(Zo (owL tyInt) s24.2),(Zf tyInt x_4),(Zf tyInt n5),(Zf tyInt h12),(Zf tyInt t17),Zd] (zk_ (S4 (.dead (.dead (.dead (.dead (.same .nil)))))))))))))))))) fun s_3=>(at_ [(Zf (tyL tyInt) c.1),(Zf tyBl c.2),(Zo (owL Qq0) s_3.1),(Zo (owL tyInt) s_3.2),Zd,Zd,Zd,Zd,Zd] (zlJ_ (i:=2) rfl))))))))
theorem zfF_ (e:En K mg):zd1_ P w K mg base :=
 zc0_ e.m e.f2 (okC (N:=["_law_cell", "_law_some"]) (C:=(csLast tyInt)) (O:=(owF tyStr)) (t:=fun E=>zhu_ K) (g:=fun c=>zb3_ c) 1 1 zz_ (fun _ _ _ _ _ _ E nd hr=>(zd_ (pst 1 (zD_ (l:=AnyL))) (zd_ (pst 1 (zJ_ zr_ (za_ 1) (zD_ (l:=AnyM)))) (zd_ (zK_ (zs_ (zan_ hr.u60) (zJ_ zaq_ (za_ 0) zg_) zg_) (zi_ (zE_ (zW_ ix_M (zD_ (l:=[48,49,50,51,52,53,54,55,56,57,45,62,44,32])) (zJ_ zaq_ (zJ_ zcX_ (za_ 0) zg_) zg_) (fun _ _=>rfl)))) zw_) (zi_ (zE_ (zW_ ix_M (za_ 1) (zJ_ zaq_ (zJ_ zcX_ (za_ 0) zg_) zg_) (fun _ _=>rfl)))))))) fun c E=>at_ [(Zf tyInt c),Zd]
 (zc3_ (i:=1) rfl zy_ (zA_ AnyL) fun x1'=>(at_ [(Zf tyInt c),(Zf tyStr x1')] (zc3_ (i:=1) rfl zy_ (zm_ zaf_ (zc_ 1 rfl) (zA_ AnyM)) fun w2'=>(at_ [(Zf tyInt c),(Zf tyStr w2')] (zaj_ (LS:=(fun _:Unit=>[(Zf tyInt c),(Zf tyStr w2')])) (s_if (zx_ (zm_ zbA_ (zm_ zar_ (zc_ 0 rfl) (zj_ 2)) (zj_ 0))) (zaB_ (zU_ zy_) (EvF.ow (zm_ zhP_ (zA_ [48,49,50,51,52,53,54,55,56,57,45,62,44,32]) (zm_ zar_ (zm_ zbx_ (zc_ 0 rfl) (zj_ 2)) (zj_ 14))))) (zk_ (.same (.same .nil)))) fun _=>(at_ [(Zf tyInt c),(Zf tyStr w2')] (zaB_ (zU_ zy_) (EvF.ow (zm_ zhP_ (zc_ 1 rfl) (zm_ zar_ (zm_ zbx_ (zc_ 0 rfl) (zj_ 2)) (zj_ 96))))))))))))
theorem zhb_ (e:En K mg):zfd_ P w K mg base :=
 zc0_ e.m e.f3 (okC (N:=["_law_cell", "_law_some"]) (C:=(csLast tyInt)) (O:=(owF tyStr)) (t:=fun E=>zde_ K) (g:=fun c=>zdk_ c) 1 1 zz_ (fun _ _ _ _ _ _ E nd hr=>by
   show PSs _ _ (zde_ K)
   unfold zde_
   refine zd_ (t:=tAsg _ _) ?_ ?_
   ·refine pst 1 ?_ (hs:=?_)
    ·refine zaa_ ?_
     ·refine zda_ ?_
      kernel_rfl!
    ·kernel_rfl!
   ·refine zd_ (t:=tAsg _ _) ?_ ?_
    ·refine pst 1 ?_ (hs:=?_)
     ·refine zJ_ ?_ ?_ ?_
      ·exact zr_
      ·exact za_ 1
      ·refine zaa_ ?_
       ·refine zda_ ?_
        kernel_rfl!
     ·kernel_rfl!
    ·exact zd_ (pst 1 (zJ_ zr_ (za_ 1) (zaa_ (zb_ (zD_ (l:=[49,62,49,44,32,50,62,49])) (zb_ (zD_ (l:=[52,48,62,51,54])) (zb_ (zD_ (l:=[51,55,45,52,48,62,51,51,45,51,54])) (zb_ (zD_ (l:=[45,49,62,50])) zf_))))))) (zi_ (zE_ (zW_ ix_M (za_ 1) (zJ_ zaq_ (za_ 0) zg_) (fun _ _=>rfl))))) fun c E=>at_ [(Zf tyInt c),Zd]
 (z9_ (i:=1) rfl (zL_ zy_) (zis_ [[],[49,62,50,44,32],[44,32,49,62,50],[49,62,50,44,51,62,52],[49,45,49,62,50,45,50],[50,45,49,62,52,45,51],[49,45,50,62,51],[49,62,50,45,51],[48,49,62,50],[49,62,51,55],[52,49,62,49]] rfl) fun x1'=>zdp_ (i:=1) rfl (at_ [(Zf tyInt c),(Zf (tyL tyStr) x1')] (z9_ (i:=1) rfl (zL_ zy_) (zfC_ zcO_ (zc_ 1 rfl) (EvO.fr (zis_ [[48,62,49],[49,62,48],[32,49,62,50],[49,45,62,50],[49,62,50,62,51],[49,45,50,62,51,45,53],[49,45,51,62,51,45,52],[51,57,45,52,49,62,49,45,51],[49,45,51,62,51,53,45,51,55]] rfl))) fun w2'=>zdp_ (i:=1) rfl (at_ [(Zf tyInt c),(Zf (tyL tyStr) w2')] (z9_ (i:=1) rfl (zL_ zy_) (zfC_ zcO_ (zc_ 1 rfl) (EvO.fr (zbQ_ (zu_ (zu_ (zu_ zn_))) (zN_ (zN_ (zN_ z1_))) (zq_ (zA_ [49,62,49,44,32,50,62,49]) (zq_ (zA_ [52,48,62,51,54]) (zq_ (zA_ [51,55,45,52,48,62,51,51,45,51,54]) (ze_ (zA_ [45,49,62,50])))))))) fun u5'=>zdp_ (i:=1) rfl (at_ [(Zf tyInt c),(Zf (tyL tyStr) u5')] (zaB_ (zU_ zy_) (EvF.ow (zm_ zS_ (zc_ 1 rfl) (zm_ zar_ (zc_ 0 rfl) (zj_ 24))))))))))))
theorem zdf_ (e:En K mg) (g0:zaG_ P w K mg base) (g2:zd1_ P w K mg base) (g3:zfd_ P w K mg base):zbJ_ P w K mg base :=
 zc0_ e.m e.f4 (okC (N:=["_law_text_here", "_law_script", "_law_way", "_law_second", "_law_at", "_law_sign_here"]) (C:=(csCons tyStr (csLast (tySc K)))) (O:=(owF tyStr)) (t:=fun E=>zdC_ K) (g:=fun c=>zaH_ c.1 c.2) 2 4 (zaK_ zz_) (fun _ _ _ _ _ _ E nd hr=>(zd_ (pst 2 (zJ_ zaq_ (zJ_ zcX_ (zt_ g0 (hm hr) (zb_ (za_ 1) (zb_ zg_ zf_))) zg_) zg_)) (zd_ (pst 3 (zt_ g0 (hm hr) (zb_ (za_ 1) (zb_ zg_ zf_)))) (zd_ (pst 4 (zJ_ zaq_ (zt_ g0 (hm hr) (zb_ (za_ 1) (zb_ zg_ zf_))) (zJ_ zr_ (za7_ zX_ (e.m.gb e.b0) (zb_ (za_ 0) zf_)) zg_))) (zd_ (pst 5 (zt_ g2 (hm hr) (zb_ (zt_ g0 (hm hr) (zb_ (za_ 1) (zb_ zg_ zf_))) zf_))) (zd_ (zK_ (zs_ (zan_ hr.u60) (za_ 2) zg_) (zi_ (zE_ (zJ_ zr_ (zJ_ zr_ (zag_ sl_M (za_ 0) zbg_ (po_M (za_ 4))) (za_ 5)) (zag_ sl_M (za_ 0) (po_M (za_ 4)) zbg_)))) zw_) (zd_ (zK_ (zs_ (zan_ hr.u60) (za_ 2) zg_) (zi_ (zE_ (zJ_ zr_ (zJ_ zr_ (zag_ sl_M (za_ 0) zbg_ (po_M (za_ 4))) (za_ 5)) (zag_ sl_M (za_ 0) (po_M (zJ_ zr_ (za_ 4) zg_)) zbg_)))) zw_) (zd_ (zK_ (zs_ (zan_ hr.u60) (za_ 2) zg_) (zi_ (zE_ (zJ_ zr_ (zag_ sl_M (za_ 0) zbg_ (po_M (za_ 4))) (zag_ sl_M (za_ 0) (po_M (zJ_ zr_ (za_ 4) zg_)) zbg_)))) zw_) (zd_ (zK_ (zs_ (zan_ hr.u60) (za_ 2) zg_) (zi_ (zE_ (zt_ g3 (hm hr) (zb_ (za_ 3) zf_)))) zw_) (zd_ (zK_ (zs_ (zan_ hr.u60) (za_ 2) zg_) (zi_ (zE_ (zJ_ zr_ (zJ_ zr_ (zt_ g3 (hm hr) (zb_ (za_ 3) zf_)) (zD_ (l:=[44,32]))) (za_ 0)))) zw_) (zd_ (zK_ (zs_ (zan_ hr.u60) (za_ 2) zg_) (zi_ (zE_ (zJ_ zr_ (zJ_ zr_ (za_ 0) (zD_ (l:=[44,32]))) (zt_ g3 (hm hr) (zb_ (za_ 3) zf_))))) zw_) (zi_ (zE_ (za_ 0)))))))))))))) fun c E=>at_ [(Zf tyStr c.1),(Zf (tySc K) c.2),Zd,Zd,Zd,Zd]
 (zc3_ (i:=2) rfl zh_ (zm_ zar_ (zm_ zbx_ (zl_ (zq_ (zc_ 1 rfl) (ze_ (zj_ 0)))) (zj_ 2)) (zj_ 7)) fun s1'=>(at_ [(Zf tyStr c.1),(Zf (tySc K) c.2),(Zf tyInt s1'),Zd,Zd,Zd] (zc3_ (i:=3) rfl zh_ (zl_ (zq_ (zc_ 1 rfl) (ze_ (zj_ 1)))) fun y9=>(at_ [(Zf tyStr c.1),(Zf (tySc K) c.2),(Zf tyInt s1'),(Zf tyInt y9),Zd,Zd] (zc3_ (i:=4) rfl zh_ (zm_ zar_ (zl_ (zq_ (zc_ 1 rfl) (ze_ (zj_ 2)))) (zm_ zQ_ (zdG_ ziI_ (ze_ (zc_ 0 rfl))) (zj_ 1))) fun v13=>(at_ [(Zf tyStr c.1),(Zf (tySc K) c.2),(Zf tyInt s1'),(Zf tyInt y9),(Zf tyInt v13),Zd] (zc3_ (i:=5) rfl zy_ (zl_ (ze_ (zl_ (zq_ (zc_ 1 rfl) (ze_ (zj_ 3)))))) fun s22=>(at_ [(Zf tyStr c.1),(Zf (tySc K) c.2),(Zf tyInt s1'),(Zf tyInt y9),(Zf tyInt v13),(Zf tyStr s22)] (zaj_ (LS:=(fun _:Unit=>[(Zf tyStr c.1),(Zf (tySc K) c.2),(Zf tyInt s1'),(Zf tyInt y9),(Zf tyInt v13),(Zf tyStr s22)])) (s_if (zx_ (zm_ zbA_ (zc_ 2 rfl) (zj_ 1))) (zaB_ (zU_ zy_) (EvF.ow (zm_ zaf_ (zm_ zaf_ (zdZ_ (zc_ 0 rfl) zhV_ (zgV_ (zc_ 4 rfl))) (zc_ 5 rfl)) (zdZ_ (zc_ 0 rfl) (zgV_ (zc_ 4 rfl)) zhV_)))) (zk_ (S4 (.same (.same .nil))))) fun _=>(at_ [(Zf tyStr c.1),(Zf (tySc K) c.2),(Zf tyInt s1'),(Zf tyInt y9),(Zf tyInt v13),(Zf tyStr s22)] (zaj_ (LS:=(fun _:Unit=>[(Zf tyStr c.1),(Zf (tySc K) c.2),(Zf tyInt s1'),(Zf tyInt y9),(Zf tyInt v13),(Zf tyStr s22)])) (s_if (zx_ (zm_ zbA_ (zc_ 2 rfl) (zj_ 2))) (zaB_ (zU_ zy_) (EvF.ow (zm_ zaf_ (zm_ zaf_ (zdZ_ (zc_ 0 rfl) zhV_ (zgV_ (zc_ 4 rfl))) (zc_ 5 rfl)) (zdZ_ (zc_ 0 rfl) (zgV_ (zm_ zQ_ (zc_ 4 rfl) (zj_ 1))) zhV_)))) (zk_ (S4 (.same (.same .nil))))) fun _=>(at_ [(Zf tyStr c.1),(Zf (tySc K) c.2),(Zf tyInt s1'),(Zf tyInt y9),(Zf tyInt v13),(Zf tyStr s22)] (zaj_ (LS:=(fun _:Unit=>[(Zf tyStr c.1),(Zf (tySc K) c.2),(Zf tyInt s1'),(Zf tyInt y9),(Zf tyInt v13),(Zf tyStr s22)])) (s_if (zx_ (zm_ zbA_ (zc_ 2 rfl) (zj_ 3))) (zaB_ (zU_ zy_) (EvF.ow (zm_ zaf_ (zdZ_ (zc_ 0 rfl) zhV_ (zgV_ (zc_ 4 rfl))) (zdZ_ (zc_ 0 rfl) (zgV_ (zm_ zQ_ (zc_ 4 rfl) (zj_ 1))) zhV_)))) (zk_ (S4 (.same (.same .nil))))) fun _=>(at_ [(Zf tyStr c.1),(Zf (tySc K) c.2),(Zf tyInt s1'),(Zf tyInt y9),(Zf tyInt v13),(Zf tyStr s22)] (zaj_ (LS:=(fun _:Unit=>[(Zf tyStr c.1),(Zf (tySc K) c.2),(Zf tyInt s1'),(Zf tyInt y9),(Zf tyInt v13),(Zf tyStr s22)])) (s_if (zx_ (zm_ zbA_ (zc_ 2 rfl) (zj_ 4))) (zaB_ (zU_ zy_) (EvF.ow (zl_ (ze_ (zc_ 3 rfl))))) (zk_ (S4 (.same (.same .nil))))) fun _=>(at_ [(Zf tyStr c.1),(Zf (tySc K) c.2),(Zf tyInt s1'),(Zf tyInt y9),(Zf tyInt v13),(Zf tyStr s22)] (zaj_ (LS:=(fun _:Unit=>[(Zf tyStr c.1),(Zf (tySc K) c.2),(Zf tyInt s1'),(Zf tyInt y9),(Zf tyInt v13),(Zf tyStr s22)])) (s_if (zx_ (zm_ zbA_ (zc_ 2 rfl) (zj_ 5))) (zaB_ (zU_ zy_) (EvF.ow (zm_ zaf_ (zm_ zaf_ (zl_ (ze_ (zc_ 3 rfl))) (zA_ [44,32])) (zc_ 0 rfl)))) (zk_ (S4 (.same (.same .nil))))) fun _=>(at_ [(Zf tyStr c.1),(Zf (tySc K) c.2),(Zf tyInt s1'),(Zf tyInt y9),(Zf tyInt v13),(Zf tyStr s22)] (zaj_ (LS:=(fun _:Unit=>[(Zf tyStr c.1),(Zf (tySc K) c.2),(Zf tyInt s1'),(Zf tyInt y9),(Zf tyInt v13),(Zf tyStr s22)])) (s_if (zx_ (zm_ zbA_ (zc_ 2 rfl) (zj_ 6))) (zaB_ (zU_ zy_) (EvF.ow (zm_ zaf_ (zm_ zaf_ (zc_ 0 rfl) (zA_ [44,32])) (zl_ (ze_ (zc_ 3 rfl)))))) (zk_ (S4 (.same (.same .nil))))) fun _=>(at_ [(Zf tyStr c.1),(Zf (tySc K) c.2),(Zf tyInt s1'),(Zf tyInt y9),(Zf tyInt v13),(Zf tyStr s22)] (zaB_ (zU_ zy_) (EvF.ow (zc_ 0 rfl))))))))))))))))))))))))
theorem zfu_ (e:En K mg):zdB_ P w K mg base :=
 zc0_ e.m e.f5 (okC (N:=["_law_wires_here", "_law_bits", "_law_pieces", "_law_here", "_law_there", "_law_one"]) (C:=(csCons (tyL Qq0) (csLast tyInt))) (O:=(owF tyStr)) (t:=fun E=>zhg_ K) (g:=fun c=>zb2_ c.1 c.2) 2 4 (zaK_ zz_) (fun _ _ _ _ _ _ E nd hr=>(zd_ (pst 2 (zaa_ zf_)) (zd_ (zbP_ PassesOwn.never rfl (zbh_ (za_ 0)) (ziE_ (n:=2) rfl (zbS_ (pgn 3) (zbS_ (pgn 4) zg7_))) (zi_ (zfc_ (zlG_ zfi_ zav_ zay_ zbT_ (za_ 2) (zb_ (zJ_ zr_ (zJ_ zr_ (zkx_ "str" zbX_ (e.m.gb e.b2) (zb_ (za_ 3) zf_)) (zD_ (l:=[62]))) (zkx_ "str" zbX_ (e.m.gb e.b2) (zb_ (za_ 4) zf_))) zf_))))) (zd_ (zK_ (PW.pt (zdF_ (zs_ zhd_ (za7_ zX_ (e.m.gb e.b0) (zb_ (za_ 0) zf_)) zg_) (ze5_ (zs_ (zan_ hr.u60) (zJ_ zaq_ (za_ 1) zg_) zg_)))) (zd_ (pst 5 (zW_ ix_M (za_ 0) zg_ (fun _ _=>rfl))) (zd_ (zl3_ (zD_ (l:=[49,45,50,62,51,53,45,51,54])) (zlc_ (za_ 2) zg_ set_M)) (zi_ (zl3_ (zJ_ zr_ (zJ_ zr_ (zkx_ "str" zbX_ (e.m.gb e.b2) (zb_ (zW_ ix_M (za_ 5) zg_ (fun _ _=>rfl)) zf_)) (zD_ (l:=[62]))) (zkx_ "str" zbX_ (e.m.gb e.b2) (zb_ (zW_ ix_M (za_ 5) zg_ (fun _ _=>rfl)) zf_))) (zlc_ (za_ 2) (zkh_ zg_) set_M))))) zw_) (zi_ (zE_ (ziZ_ zfL_ zfP_ zkU_ (zD_ (l:=[44,32])) (zb_ (za_ 2) zf_)))))))) fun c E=>at_ [(Zf (tyL Qq0) c.1),(Zf tyInt c.2),Zd,Zd,Zd,Zd]
 (z9_ (i:=2) rfl (zL_ zy_) (zbG_ tyStr) fun z1'=>(at_ [(Zf (tyL Qq0) c.1),(Zf tyInt c.2),(Zo (owL tyStr) z1'),Zd,Zd,Zd] (zaj_ (LS:=(fun s_2:(List (List Nat))=>[(Zf (tyL Qq0) c.1),(Zf tyInt c.2),(Zo (owL tyStr) s_2),Zd,Zd,Zd])) (zbN_ (L':=[(Zf (tyL Qq0) c.1),(Zf tyInt c.2),(Zo (owL tyStr) z1'),Zd,Zd,Zd]) (S4 (.same (.same .nil))) (zf2_ (LS:=(fun s_2:(List (List Nat))=>[(Zf (tyL Qq0) c.1),(Zf tyInt c.2),(Zo (owL tyStr) s_2),Zd,Zd,Zd])) (s0:=z1') (ei_l (zc_ 0 rfl)) (zlR_ (zu_ zn_) (ziC_ 3 (ziv_ (zR_ 4)))) fun s_2 x_3=>at_ [(Zf (tyL Qq0) c.1),(Zf tyInt c.2),(Zo (owL tyStr) s_2),(Zf tyInt x_3.1),(Zf tyInt x_3.2),Zd] (zfD_ (zeD_ (i:=2) rfl zy_ (zm_ zaf_ (zm_ zaf_ (zdG_ zhC_ (ze_ (zc_ 3 rfl))) (zA_ [62])) (zdG_ zhC_ (ze_ (zc_ 4 rfl)))) fun a10=>(at_ [(Zf (tyL Qq0) c.1),(Zf tyInt c.2),(Zo (owL tyStr) (s_2++[a10])),(Zf tyInt x_3.1),(Zf tyInt x_3.2),Zd] (zk_ (.same (.same (.same (.dead (.dead (.same .nil)))))))))))) fun s_2=>(at_ [(Zf (tyL Qq0) c.1),(Zf tyInt c.2),(Zo (owL tyStr) s_2),Zd,Zd,Zd] (zaj_ (LS:=(fun s21:(List (List Nat))=>[(Zf (tyL Qq0) c.1),(Zf tyInt c.2),(Zo (owL tyStr) s21),Zd,Zd,Zd])) (s_if (zgw_ (zx_ (zm_ zgj_ (zdG_ zcR_ (ze_ (zc_ 0 rfl))) (zj_ 1))) (zx_ (zm_ zbA_ (zm_ zar_ (zc_ 1 rfl) (zj_ 2)) (zj_ 1)))) (zc3_ (i:=5) rfl (zG_ (zp_ zh_ (zo_ zh_))) (zm_ zS_ (zc_ 0 rfl) (zj_ 0)) fun o22=>(at_ [(Zf (tyL Qq0) c.1),(Zf tyInt c.2),(Zo (owL tyStr) s_2),Zd,Zd,(Zf Qq0 o22)] (zl0_ (i:=2) rfl zy_ (zA_ [49,45,50,62,51,53,45,51,54]) (zj_ 0) fun p27=>(at_ [(Zf (tyL Qq0) c.1),(Zf tyInt c.2),(Zo (owL tyStr) p27),Zd,Zd,(Zf Qq0 o22)] (zfD_ (zl0_ (i:=2) rfl zy_ (zm_ zaf_ (zm_ zaf_ (zdG_ zhC_ (ze_ (zah_ (i:=0) at_0 (zc_ 5 rfl)))) (zA_ [62])) (zdG_ zhC_ (ze_ (zah_ (i:=1) (at_s zaA_) (zc_ 5 rfl))))) (zjL_ (zj_ 1)) fun p47=>(at_ [(Zf (tyL Qq0) c.1),(Zf tyInt c.2),(Zo (owL tyStr) p47),Zd,Zd,(Zf Qq0 o22)] (zk_ (S4 (.same (.dead .nil))))))))))) (zk_ (S4 (.same (.same .nil))))) fun s21=>(at_ [(Zf (tyL Qq0) c.1),(Zf tyInt c.2),(Zo (owL tyStr) s21),Zd,Zd,Zd] (zaB_ (zU_ zy_) (EvF.ow (zmm_ zl9_ (zA_ [44,32]) (ze_ (zdD_ 2 rfl))))))))))))
theorem zci_ (e:En K mg):zaV_ P w K mg base :=
 gx_of e.m e.f6 e.fx.exj_Meet (okXI (N:=["self", "one", "other"]) (fun _ _ _ _ _ _ E nd hr=>(zd_ (zjl_ e.fx.exj_Meet e.fx.bin_ShopError (e.m.gk e.k0) (zb_ (za_ 0) (zb_ (zaM_ (z2_ (zD_ (l:=[116,104,101,32,119,105,114,101,115,32])) (z2_ (zkQ_ hr.u60 (za_ 1)) (z2_ (zD_ (l:=[32,97,110,100,32])) (z2_ (zkQ_ hr.u60 (za_ 2)) (z2_ (zD_ (l:=[32,109,101,101,116])) zfZ_)))))) zf_))) (zd_ (ziz_ e.fx.exj_Meet e.fx.exa_Meet_one (za_ 0) (za_ 1)) (zi_ (ziz_ e.fx.exj_Meet e.fx.exa_Meet_other (za_ 0) (za_ 2)))))) fun c E=>atF [Zd,(Zf Qq0 c.1),(Zf Qq0 c.2)]
 (zjX_ (zcx_ (zkr_ (zA_ [116,104,101,32,119,105,114,101,115,32])) (zcx_ (ziB_ (zc_ 1 rfl)) (zcx_ (zkr_ (zA_ [32,97,110,100,32])) (zcx_ (ziB_ (zc_ 2 rfl)) (zcx_ (zkr_ (zA_ [32,109,101,101,116])) zkT_)))))))
theorem zft_ (e:En K mg):zd0_ P w K mg base :=
 zc0_ e.m e.f7 (okC (N:=["value"]) (C:=(csLast tyInt)) (O:=(owF tyBl)) (t:=fun E=>zgz_ K) (g:=fun c=>zbd_ c) 1 0 zz_ (fun _ _ _ _ _ _ E nd hr=>(zi_ (zE_ (zc2_ (za7_ zbv_ (e.m.gb e.b3) (zb_ (za_ 0) (zb_ (zjc_ "int" (e.m.gb e.b4)) zf_))) (zhs_ (zgg_ (za7_ zbv_ (e.m.gb e.b3) (zb_ (za_ 0) (zb_ (zjc_ "bool" (e.m.gb e.b5)) zf_))))))))) fun c E=>at_ [(Zf tyInt c)]
 (zaB_ (zU_ zcz_) (EvF.ow (zfv_ (zgk_ zie_ (zc_ 0 rfl)) (zj0_ (zgk_ zie_ (zc_ 0 rfl)))))))
theorem zey_ (e:En K mg) (g7:zd0_ P w K mg base):zcQ_ P w K mg base :=
 zc0_ e.m e.f8 (okC (N:=["value", "most"]) (C:=(csCons tyInt (csLast tyInt))) (O:=(owF tyBl)) (t:=fun E=>zf0_ K) (g:=fun c=>zaN_ c.1 c.2) 2 0 (zaK_ zz_) (fun _ _ _ _ _ _ E nd hr=>(zi_ (zE_ (zc2_ (zt_ g7 (hm hr) (zb_ (za_ 0) zf_)) (zhs_ (zhW_ zh5_ zh5_ zg_ (za_ 0) (za_ 1))))))) fun c E=>at_ [(Zf tyInt c.1),(Zf tyInt c.2)]
 (zaB_ (zU_ zcz_) (EvF.ow (zfv_ (zl_ (ze_ (zc_ 0 rfl))) (zjp_ zhU_ zhU_ (zj_ 1) (zc_ 0 rfl) (zc_ 1 rfl))))))
theorem zdr_ (e:En K mg) (g8:zcQ_ P w K mg base) (g6:zaV_ P w K mg base):zcw_ P w K mg base :=
 zc0_ e.m e.f9 (okX (N:=["wires", "wire", "leading"]) (C:=(csLast (tyL Qq0))) (O:=(owL Qq0)) (t:=fun E=>zel_ K E) (g:=fun c=>zaz_ c) 1 2 zz_ (fun _ _ _ _ _ _ E nd hr=>(zd_ (zbP_ PassesOwn.leaving rfl (zbh_ (za_ 0)) (pgn 1) (zi_ (zK_ (PW.pt (zbO_ (zd3_ (zcb_ (zt_ g8 (hm hr) (zb_ (zW_ ix_M (za_ 1) zg_ (fun _ _=>rfl)) (zb_ (zex_ (e.m.gv e.c0)) zf_))))) (zdH_ (zd3_ (zcb_ (zt_ g8 (hm hr) (zb_ (zW_ ix_M (za_ 1) zg_ (fun _ _=>rfl)) (zb_ (zex_ (e.m.gv e.c1)) zf_)))))))) (zi_ (zbw_ za1_ rfl e.fx.exc_NoBoard (e.m.gk e.k1) (zb_ (zD_ (l:=[97,32,119,105,114,101,32,108,101,97,100,115,32,102,114,111,109,32,97,32,99,111,108,117,109,110,32,102,114,111,109,32,49,32,116,111,32,52,48,32,116,111,32,111,110,101,32,102,114,111,109,32,49,32,116,111,32,51,54])) zf_))) zw_))) (zd_ (pst 2 zkv_) (zd_ (zbP_ PassesOwn.leaving rfl (zbh_ (za_ 0)) (pgn 1) (zd_ (zK_ (zlp_ hr.u60 (zW_ ix_M (za_ 1) zg_ (fun _ _=>rfl)) (za_ 2)) (zi_ (zh4_ za1_ rfl g6 (hm hr) (zb_ (zgY_ hr.u60 (za_ 2) (zW_ ix_M (za_ 1) zg_ (fun _ _=>rfl))) (zb_ (za_ 1) zf_)))) zw_) (zi_ (zkg_ hr.u60 (za_ 2) (zW_ ix_M (za_ 1) zg_ (fun _ _=>rfl)) (za_ 1))))) (zi_ (zE_ (zcY_ (cl:=_) (lv:=["column"]) (fr:=[("leading",2)]) rfl (csm rfl (frc fr0)) (zbh_ (za7_ (zco_ runB64 rfl) (e.m.gb e.b6) (zb_ (za_ 2) zf_))) (fun _ _ _ _=>(pgc 0)) (fun _ _ _ _=>zcn_) (fun _ _ _ _=>(zgY_ hr.u60 (za_ 1) (za_ 0)))))))))) fun c E=>at_ [(Zf (tyL Qq0) c),Zd,Zd]
 (zaj_ (LS:=(fun _:Unit=>[(Zf (tyL Qq0) c),Zd,Zd])) (zbN_ (L':=[(Zf (tyL Qq0) c),Zd,Zd]) (.same (.same (.same .nil))) (zf2_ (LS:=(fun _:Unit=>[(Zf (tyL Qq0) c),Zd,Zd])) (s0:=()) (ei_l (zc_ 0 rfl)) (zR_ 1) fun _ x_2=>at_ [(Zf (tyL Qq0) c),(Zf Qq0 x_2),Zd] (s_if (zf1_ (zdt_ (zx_ (zl_ (zq_ (zah_ (i:=0) at_0 (zc_ 1 rfl)) (ze_ (zj_ 40)))))) (zdt_ (zx_ (zl_ (zq_ (zah_ (i:=1) (at_s zaA_) (zc_ 1 rfl)) (ze_ (zj_ 36))))))) (zcT_ zn_ (ze_ (zA_ [97,32,119,105,114,101,32,108,101,97,100,115,32,102,114,111,109,32,97,32,99,111,108,117,109,110,32,102,114,111,109,32,49,32,116,111,32,52,48,32,116,111,32,111,110,101,32,102,114,111,109,32,49,32,116,111,32,51,54]))) (zk_ (.same (.dead (.same .nil))))))) fun _=>(at_ [(Zf (tyL Qq0) c),Zd,Zd] (z9_ (i:=2) rfl (znh_ (zG_ (zp_ zh_ (zo_ zh_)))) (zlf_ kInt Qq0) fun l16=>(at_ [(Zf (tyL Qq0) c),Zd,(Zo (owD kInt Qq0) l16)] (zaj_ (LS:=(fun s17:(List (Int×(Int×Int)))=>[(Zf (tyL Qq0) c),Zd,(Zo (owD kInt Qq0) s17)])) (zbN_ (L':=[(Zf (tyL Qq0) c),Zd,(Zo (owD kInt Qq0) l16)]) (.same (.same (.same .nil))) (zf2_ (LS:=(fun s17:(List (Int×(Int×Int)))=>[(Zf (tyL Qq0) c),Zd,(Zo (owD kInt Qq0) s17)])) (s0:=l16) (ei_l (zc_ 0 rfl)) (zR_ 1) fun s17 x18=>at_ [(Zf (tyL Qq0) c),(Zf Qq0 x18),(Zo (owD kInt Qq0) s17)] (zaj_ (LS:=(fun _:Unit=>[(Zf (tyL Qq0) c),(Zf Qq0 x18),(Zo (owD kInt Qq0) s17)])) (s_if (zx_ (zm8_ false (zah_ (i:=1) (at_s zaA_) (zc_ 1 rfl)) (ze3_ 2 rfl))) (zj8_ (as:=fun c:((Int×Int)×(Int×Int))=>[("one",Av.p c.1.1 c.1.2),("other",Av.p c.2.1 c.2.2)]) (zu_ zn_) znf_ (zq_ (ziQ_ (ze3_ 2 rfl) (zah_ (i:=1) (at_s zaA_) (zc_ 1 rfl))) (ze_ (zc_ 1 rfl)))) (zk_ (.same (.same (.same .nil))))) fun _=>(at_ [(Zf (tyL Qq0) c),(Zf Qq0 x18),(Zo (owD kInt Qq0) s17)] (zfD_ (zmk_ (i:=2) rfl (zG_ (zp_ zh_ (zo_ zh_))) zh_ (zc_ 1 rfl) (zah_ (i:=1) (at_s zaA_) (zc_ 1 rfl)) fun a31 y32=>(at_ [(Zf (tyL Qq0) c),(Zf Qq0 x18),(Zo (owD kInt Qq0) (putA s17 y32 a31))] (zk_ (.same (.dead (.same .nil))))))))))) fun s17=>(at_ [(Zf (tyL Qq0) c),Zd,(Zo (owD kInt Qq0) s17)] (zaB_ (zL_ (zG_ (zp_ zh_ (zo_ zh_)))) (zcl_ (ei_l (EvO.fr (zkz_ (zf9_ zjJ_ zbR_ zmG_) (ze_ (ze3_ 2 rfl))))) (zR_ 0) (fun _=>dead1) (fun x35=>zck_) (fun x35=>(ziQ_ (ze3_ 1 rfl) (zc_ 0 rfl))))))))))))
theorem zez_ (e:En K mg):zc4_ P w K mg base :=
 zc0_ e.m e.f10 (okC (N:=["figures", "value", "figure"]) (C:=(csLast tyStr)) (O:=(owF tyInt)) (t:=fun E=>zfY_ K) (g:=fun c=>zbD_ c) 1 2 zz_ (fun _ _ _ _ _ _ E nd hr=>(zd_ (pst 1 zg_) (zd_ (zbP_ PassesOwn.never rfl (zbh_ (za_ 0)) (pgn 2) (zi_ (pst 1 (zJ_ zr_ (zJ_ ziw_ (za_ 1) zg_) (ziZ_ zem_ zei_ zjA_ (zex_ (e.m.gv e.c2)) (zb_ (za_ 2) zf_)))))) (zi_ (zE_ (za_ 1)))))) fun c E=>at_ [(Zf tyStr c),Zd,Zd]
 (zc3_ (i:=1) rfl zh_ (zj_ 0) fun r1'=>(at_ [(Zf tyStr c),(Zf tyInt r1'),Zd] (zaj_ (LS:=(fun s_2:Int=>[(Zf tyStr c),(Zf tyInt s_2),Zd])) (zbN_ (L':=[(Zf tyStr c),(Zf tyInt r1'),Zd]) (.same (.same (.same .nil))) (zf2_ (LS:=(fun s_2:Int=>[(Zf tyStr c),(Zf tyInt s_2),Zd])) (s0:=r1') (zjs_ (zc_ 0 rfl)) (zR_ 2) fun s_2 x_4=>at_ [(Zf tyStr c),(Zf tyInt s_2),(Zf tyStr x_4)] (zfD_ (zc3_ (i:=1) rfl zh_ (zm_ zQ_ (zm_ zha_ (zc_ 1 rfl) (zj_ 10)) (zmm_ zj2_ (zA_ [48,49,50,51,52,53,54,55,56,57]) (ze_ (zc_ 2 rfl)))) fun w5'=>(at_ [(Zf tyStr c),(Zf tyInt w5'),(Zf tyStr x_4)] (zk_ (.same (.same (.dead .nil))))))))) fun s_2=>(at_ [(Zf tyStr c),(Zf tyInt s_2),Zd] (zaB_ (zU_ zh_) (EvF.ow (zc_ 1 rfl))))))))
theorem zdP_ (e:En K mg) (g10:zc4_ P w K mg base):zcu_ P w K mg base :=
 zc0_ e.m e.f11 (okC (N:=["text"]) (C:=(csLast tyStr)) (O:=(owF (tyOpt tyInt))) (t:=fun E=>zej_ K) (g:=fun c=>zaW_ c) 1 0 zz_ (fun _ _ _ _ _ _ E nd hr=>(zd_ (zK_ (PW.pt (zbO_ (zs_ (zan_ hr.u60) (za_ 0) (zD_ (l:=[]))) (zdH_ (zd3_ (zcb_ (za7_ (zhG_ rfl) (e.m.gb e.b7) (zb_ (zcY_ (cl:=[]) (lv:=["sign"]) (fr:=[]) rfl (csm rfl fr0) (zbh_ (za_ 0)) (fun _ _ _ _=>(pgc 0)) (fun _ _ _ _=>zcn_) (fun _ _ _ _=>(zfj_ zkC_ (za_ 0) (zex_ (e.m.gv e.c2))))) zf_))))))) (zi_ (zE_ zec_)) zw_) (zd_ (zK_ (PW.pt (zdF_ (zs_ (zan_ hr.u60) (zW_ ix_M (za_ 0) zg_ (fun _ _=>rfl)) (zD_ (l:=[48]))) (ze5_ (zs_ (zfJ_ hr.u60) (za_ 0) (zD_ (l:=[48])))))) (zi_ (zE_ zec_)) zw_) (zi_ (zE_ (zt_ g10 (hm hr) (zb_ (za_ 0) zf_))))))) fun c E=>at_ [(Zf tyStr c)]
 (zaj_ (LS:=(fun _:Unit=>[(Zf tyStr c)])) (s_if (zf1_ (zx_ (zm_ zfS_ (zc_ 0 rfl) (zA_ []))) (zdt_ (zx_ (zdG_ zmH_ (ze_ (EvO.fr (O:=(owL tyBl)) (zcl_ (zjs_ (zc_ 0 rfl)) (zR_ 0) (fun _=>dead1) (fun x_4=>zck_) (fun x_4=>(zm_ zmo_ (zc_ 0 rfl) (zA_ [48,49,50,51,52,53,54,55,56,57])))))))))) (zaB_ (zU_ (zaU_ zh_)) (EvF.ow zd8_)) (zk_ (.same .nil))) fun _=>(at_ [(Zf tyStr c)] (zaj_ (LS:=(fun _:Unit=>[(Zf tyStr c)])) (s_if (zgw_ (zx_ (zm_ zfS_ (zm_ zhP_ (zc_ 0 rfl) (zj_ 0)) (zA_ [48]))) (zx_ (zm_ zmV_ (zc_ 0 rfl) (zA_ [48])))) (zaB_ (zU_ (zaU_ zh_)) (EvF.ow zd8_)) (zk_ (.same .nil))) fun _=>(at_ [(Zf tyStr c)] (zaB_ (zU_ (zaU_ zh_)) (EvF.ow (zgd_ (fun _ _ _=>zmW_) (zl_ (ze_ (zc_ 0 rfl)))))))))))
theorem zeH_ (e:En K mg) (g11:zcu_ P w K mg base):zcK_ P w K mg base :=
 zc0_ e.m e.f12 (okX (N:=["text", "most", "columns"]) (C:=(csCons tyStr (csLast tyInt))) (O:=(owF (tyTup (csCons (tyOpt tyInt) (csLast (tyOpt tyInt)))))) (t:=fun E=>zfn_ K E) (g:=fun c=>zbB_ c.1 c.2) 2 1 (zaK_ zz_) (fun _ _ _ _ _ _ E nd hr=>(zd_ (zgS_ (cl:=[]) (lv:=["end"]) (fr:=[]) rfl (csm rfl fr0) (zbh_ (ziZ_ z7_ z5_ zbe_ (za_ 0) (zb_ (zD_ (l:=[45])) zf_))) (fun _ _ _ _=>(pgc 0)) (fun _ _ _ _=>zcn_) (fun _ _ _ _=>(zt_ g11 (hm hr) (zb_ (za_ 0) zf_))) (pgn 2)) (zd_ (zK_ (PW.pt (zbO_ (zs_ zkC_ zec_ (za_ 2)) (zdH_ (zs_ zhd_ (za7_ zX_ (e.m.gb e.b0) (zb_ (za_ 2) zf_)) zg_)))) (zi_ (zbw_ za1_ rfl e.fx.exc_NoBoard (e.m.gk e.k1) (zb_ (zaM_ (z2_ (zhc_ (za_ 0)) (z2_ (zD_ (l:=[32,119,114,105,116,101,115,32,110,111,32,99,111,108,117,109,110,115])) zfZ_))) zf_))) zw_) (zd_ (zK_ (PW.pt (zdF_ (zs_ (zan_ hr.u60) (za7_ zX_ (e.m.gb e.b0) (zb_ (za_ 2) zf_)) zg_) (ze5_ (zs_ zla_ (zW_ ix_M (za_ 2) zg_ (fun _ _=>rfl)) (zW_ ix_M (za_ 2) zg_ (fun _ _=>rfl)))))) (zi_ (zbw_ za1_ rfl e.fx.exc_NoBoard (e.m.gk e.k1) (zb_ (zaM_ (z2_ (zD_ (l:=[116,104,101,32,99,111,108,117,109,110,115,32,111,102,32])) (z2_ (zhc_ (za_ 0)) (z2_ (zD_ (l:=[32,100,111,110,39,116,32,114,105,115,101])) zfZ_)))) zf_))) zw_) (zd_ (zK_ (PW.pt (zbO_ (zs_ zjH_ (zW_ ix_M (za_ 2) zg_ (fun _ _=>rfl)) zg_) (zdH_ (zs_ zhd_ (zW_ ix_M (za_ 2) (zkh_ zg_) (fun _ _=>rfl)) (za_ 1))))) (zi_ (zbw_ za1_ rfl e.fx.exc_NoBoard (e.m.gk e.k1) (zb_ (zaM_ (z2_ (zhc_ (za_ 0)) (z2_ (zD_ (l:=[32,119,114,105,116,101,115,32,99,111,108,117,109,110,115,32,98,101,121,111,110,100,32,116,104,111,115,101,32,111,102,32,97,32,98,111,97,114,100])) zfZ_))) zf_))) zw_) (zi_ (zE_ (zfk_ (zb_ (zW_ ix_M (za_ 2) zg_ (fun _ _=>rfl)) (zb_ (zW_ ix_M (za_ 2) (zkh_ zg_) (fun _ _=>rfl)) zf_)))))))))) fun c E=>at_ [(Zf tyStr c.1),(Zf tyInt c.2),Zd]
 (z9_ (i:=2) rfl (zL_ (zaU_ zh_)) (zcl_ (ei_l (EvO.fr (zg6_ zbb_ (zc_ 0 rfl) (ze_ (zA_ [45]))))) (zR_ 0) (fun _=>dead1) (fun x_4=>zck_) (fun x_4=>(zl_ (ze_ (zc_ 0 rfl))))) fun v1'=>zdp_ (i:=2) rfl (at_ [(Zf tyStr c.1),(Zf tyInt c.2),(Zf (tyL (tyOpt tyInt)) v1')] (zaj_ (LS:=(fun _:Unit=>[(Zf tyStr c.1),(Zf tyInt c.2),(Zf (tyL (tyOpt tyInt)) v1')])) (s_if (zf1_ (zx_ (zm_ (zmQ_ zke_) zd8_ (zc_ 2 rfl))) (zx_ (zm_ zgj_ (zdG_ zcR_ (ze_ (zc_ 2 rfl))) (zj_ 2)))) (zcT_ zn_ (ze_ (zb8_ (z8_ (zdu_ (zc_ 0 rfl)) (z8_ (zfE_ (zA_ [32,119,114,105,116,101,115,32,110,111,32,99,111,108,117,109,110,115])) zdO_))))) (zk_ (.same (.same (.same .nil))))) fun _=>(at_ [(Zf tyStr c.1),(Zf tyInt c.2),(Zf (tyL (tyOpt tyInt)) v1')] (zaj_ (LS:=(fun _:Unit=>[(Zf tyStr c.1),(Zf tyInt c.2),(Zf (tyL (tyOpt tyInt)) v1')])) (s_if (zgw_ (zx_ (zm_ zbA_ (zdG_ zcR_ (ze_ (zc_ 2 rfl))) (zj_ 2))) (zx_ (zm_ zlk_ (z0_ (zm_ zS_ (zc_ 2 rfl) (zj_ 0))) (z0_ (zm_ zS_ (zc_ 2 rfl) (zj_ 1)))))) (zcT_ zn_ (ze_ (zb8_ (z8_ (zfE_ (zA_ [116,104,101,32,99,111,108,117,109,110,115,32,111,102,32])) (z8_ (zdu_ (zc_ 0 rfl)) (z8_ (zfE_ (zA_ [32,100,111,110,39,116,32,114,105,115,101])) zdO_)))))) (zk_ (.same (.same (.same .nil))))) fun _=>(at_ [(Zf tyStr c.1),(Zf tyInt c.2),(Zf (tyL (tyOpt tyInt)) v1')] (zaj_ (LS:=(fun _:Unit=>[(Zf tyStr c.1),(Zf tyInt c.2),(Zf (tyL (tyOpt tyInt)) v1')])) (s_if (zf1_ (zx_ (zm_ zjg_ (z0_ (zm_ zS_ (zc_ 2 rfl) (zj_ 0))) (zj_ 1))) (zx_ (zm_ zgj_ (z0_ (zm_ zS_ (zc_ 2 rfl) (zjL_ (zj_ 1)))) (zc_ 1 rfl)))) (zcT_ zn_ (ze_ (zb8_ (z8_ (zdu_ (zc_ 0 rfl)) (z8_ (zfE_ (zA_ [32,119,114,105,116,101,115,32,99,111,108,117,109,110,115,32,98,101,121,111,110,100,32,116,104,111,115,101,32,111,102,32,97,32,98,111,97,114,100])) zdO_))))) (zk_ (.same (.same (.same .nil))))) fun _=>(at_ [(Zf tyStr c.1),(Zf tyInt c.2),(Zf (tyL (tyOpt tyInt)) v1')] (zaB_ (zU_ (zG_ (zp_ (zaU_ zh_) (zo_ (zaU_ zh_))))) (EvF.ow (zfA_ (zu_ zn_) (zq_ (zm_ zS_ (zc_ 2 rfl) (zj_ 0)) (ze_ (zm_ zS_ (zc_ 2 rfl) (zjL_ (zj_ 1)))))))))))))))))
theorem zdq_ (e:En K mg) (g12:zcK_ P w K mg base):zch_ P w K mg base :=
 zc0_ e.m e.f13 (okX (N:=["text", "ends", "here", "there"]) (C:=(csLast tyStr)) (O:=(owL Qq0)) (t:=fun E=>zeh_ K E) (g:=fun c=>za2_ c) 1 3 zz_ (fun _ _ _ _ _ _ E nd hr=>(zd_ (pst 1 (ziZ_ z7_ z5_ zbe_ (za_ 0) (zb_ (zD_ (l:=[62])) zf_))) (zd_ (zK_ (zs_ (zfJ_ hr.u60) (za7_ zX_ (e.m.gb e.b0) (zb_ (za_ 1) zf_)) zg_) (zi_ (zbw_ za1_ rfl e.fx.exc_NoBoard (e.m.gk e.k1) (zb_ (zaM_ (z2_ (zhc_ (za_ 0)) (z2_ (zD_ (l:=[32,119,114,105,116,101,115,32,110,111,32,119,105,114,101,115])) zfZ_))) zf_))) zw_) (zd_ (pst 2 (zdc_ g12 (hm hr) zbY_ (zb_ (zW_ ix_M (za_ 1) zg_ (fun _ _=>rfl)) (zb_ (zex_ (e.m.gv e.c0)) zf_)))) (zd_ (pst 3 (zdc_ g12 (hm hr) zbY_ (zb_ (zW_ ix_M (za_ 1) zg_ (fun _ _=>rfl)) (zb_ (zex_ (e.m.gv e.c1)) zf_)))) (zd_ (zK_ (zs_ (zfJ_ hr.u60) (zJ_ zcZ_ (zW_ ix_M (za_ 2) zg_ (fun _ _=>rfl)) (zW_ ix_M (za_ 2) zg_ (fun _ _=>rfl))) (zJ_ zcZ_ (zW_ ix_M (za_ 3) zg_ (fun _ _=>rfl)) (zW_ ix_M (za_ 3) zg_ (fun _ _=>rfl)))) (zi_ (zbw_ za1_ rfl e.fx.exc_NoBoard (e.m.gk e.k1) (zb_ (zaM_ (z2_ (zhc_ (za_ 0)) (z2_ (zD_ (l:=[32,104,97,115,32,101,110,100,115,32,111,102,32,117,110,108,105,107,101,32,108,101,110,103,116,104,115])) zfZ_))) zf_))) zw_) (zi_ (zE_ (zcY_ (cl:=_) (lv:=["step"]) (fr:=[("here",2),("there",3)]) rfl (csm rfl (frc (frc fr0))) (zcv_ (e.m.gb e.b1) (zb_ (zJ_ zr_ (zJ_ zcZ_ (zW_ ix_M (za_ 2) zg_ (fun _ _=>rfl)) (zW_ ix_M (za_ 2) zg_ (fun _ _=>rfl))) zg_) zf_)) (fun _ _ _ _=>(pgc 0)) (fun _ _ _ _=>zcn_) (fun _ _ _ _=>(zfk_ (zb_ (zJ_ zr_ (zW_ ix_M (za_ 1) zg_ (fun _ _=>rfl)) (za_ 0)) (zb_ (zJ_ zr_ (zW_ ix_M (za_ 2) zg_ (fun _ _=>rfl)) (za_ 0)) zf_))))))))))))) fun c E=>at_ [(Zf tyStr c),Zd,Zd,Zd]
 (z9_ (i:=1) rfl (zL_ zy_) (zg6_ zbb_ (zc_ 0 rfl) (ze_ (zA_ [62]))) fun w1'=>zdp_ (i:=1) rfl (at_ [(Zf tyStr c),(Zf (tyL tyStr) w1'),Zd,Zd] (zaj_ (LS:=(fun _:Unit=>[(Zf tyStr c),(Zf (tyL tyStr) w1'),Zd,Zd])) (s_if (zx_ (zm_ zgi_ (zdG_ zcR_ (ze_ (zc_ 1 rfl))) (zj_ 2))) (zcT_ zn_ (ze_ (zb8_ (z8_ (zdu_ (zc_ 0 rfl)) (z8_ (zfE_ (zA_ [32,119,114,105,116,101,115,32,110,111,32,119,105,114,101,115])) zdO_))))) (zk_ (S4 .nil))) fun _=>(at_ [(Zf tyStr c),(Zf (tyL tyStr) w1'),Zd,Zd] (zc3_ (i:=2) rfl (zG_ (zp_ (zaU_ zh_) (zo_ (zaU_ zh_)))) (zgJ_ (zq_ (zm_ zS_ (zc_ 1 rfl) (zj_ 0)) (ze_ (zj_ 40)))) fun h11=>(at_ [(Zf tyStr c),(Zf (tyL tyStr) w1'),(Zf (tyTup (csCons (tyOpt tyInt) (csLast (tyOpt tyInt)))) h11),Zd] (zc3_ (i:=3) rfl (zG_ (zp_ (zaU_ zh_) (zo_ (zaU_ zh_)))) (zgJ_ (zq_ (zm_ zS_ (zc_ 1 rfl) (zj_ 1)) (ze_ (zj_ 36)))) fun t17=>(at_ [(Zf tyStr c),(Zf (tyL tyStr) w1'),(Zf (tyTup (csCons (tyOpt tyInt) (csLast (tyOpt tyInt)))) h11),(Zf (tyTup (csCons (tyOpt tyInt) (csLast (tyOpt tyInt)))) t17)] (zaj_ (LS:=(fun _:Unit=>[(Zf tyStr c),(Zf (tyL tyStr) w1'),(Zf (tyTup (csCons (tyOpt tyInt) (csLast (tyOpt tyInt)))) h11),(Zf (tyTup (csCons (tyOpt tyInt) (csLast (tyOpt tyInt)))) t17)])) (s_if (zx_ (zm_ zgi_ (zm_ zcF_ (z0_ (zah_ (i:=1) (at_s zaA_) (zc_ 2 rfl))) (z0_ (zah_ (i:=0) at_0 (zc_ 2 rfl)))) (zm_ zcF_ (z0_ (zah_ (i:=1) (at_s zaA_) (zc_ 3 rfl))) (z0_ (zah_ (i:=0) at_0 (zc_ 3 rfl)))))) (zcT_ zn_ (ze_ (zb8_ (z8_ (zdu_ (zc_ 0 rfl)) (z8_ (zfE_ (zA_ [32,104,97,115,32,101,110,100,115,32,111,102,32,117,110,108,105,107,101,32,108,101,110,103,116,104,115])) zdO_))))) (zk_ (S4 .nil))) fun _=>(at_ [(Zf tyStr c),(Zf (tyL tyStr) w1'),(Zf (tyTup (csCons (tyOpt tyInt) (csLast (tyOpt tyInt)))) h11),(Zf (tyTup (csCons (tyOpt tyInt) (csLast (tyOpt tyInt)))) t17)] (zaB_ (zL_ (zG_ (zp_ zh_ (zo_ zh_)))) (zcl_ (zdz_ (ze_ (zm_ zQ_ (zm_ zcF_ (z0_ (zah_ (i:=1) (at_s zaA_) (zc_ 2 rfl))) (z0_ (zah_ (i:=0) at_0 (zc_ 2 rfl)))) (zj_ 1)))) (zR_ 0) (fun _=>dead1) (fun x50=>zck_) (fun x50=>(zfA_ (zu_ zn_) (zq_ (zm_ zQ_ (z0_ (zah_ (i:=0) at_0 (zc_ 1 rfl))) (zc_ 0 rfl)) (ze_ (zm_ zQ_ (z0_ (zah_ (i:=0) at_0 (zc_ 2 rfl))) (zc_ 0 rfl)))))))))))))))))))
theorem zdR_ (e:En K mg) (g13:zch_ P w K mg base) (g9:zcw_ P w K mg base):zce_ P w K mg base :=
 zc0_ e.m e.f14 (okX (N:=["text", "wires", "piece"]) (C:=(csLast tyStr)) (O:=(owL Qq0)) (t:=fun E=>zeI_ K E) (g:=fun c=>zaZ_ c) 1 2 zz_ (fun _ _ _ _ _ _ E nd hr=>(zd_ (zK_ (zs_ (zan_ hr.u60) (za_ 0) (zD_ (l:=[]))) (zi_ (zE_ (zaa_ zf_))) zw_) (zd_ (pst 1 (zaa_ zf_)) (zd_ (zbP_ PassesOwn.leaving rfl (zbh_ (ziZ_ z7_ z5_ zbe_ (za_ 0) (zb_ (zD_ (l:=[44,32])) zf_))) (pgn 2) (zi_ (zfc_ (zlG_ zfi_ zdn_ zc7_ zhD_ (za_ 1) (zb_ (zdc_ g13 (hm hr) zbY_ (zb_ (za_ 2) zf_)) zf_))))) (zi_ (zE_ (zdc_ g9 (hm hr) zbY_ (zb_ (za_ 1) zf_)))))))) fun c E=>at_ [(Zf tyStr c),Zd,Zd]
 (zaj_ (LS:=(fun _:Unit=>[(Zf tyStr c),Zd,Zd])) (s_if (zx_ (zm_ zfS_ (zc_ 0 rfl) (zA_ []))) (zaB_ (zL_ (zG_ (zp_ zh_ (zo_ zh_)))) (zbG_ Qq0)) (zk_ (.same (.same (.same .nil))))) fun _=>(at_ [(Zf tyStr c),Zd,Zd] (z9_ (i:=1) rfl (zL_ (zG_ (zp_ zh_ (zo_ zh_)))) (zbG_ Qq0) fun u6'=>(at_ [(Zf tyStr c),(Zo (owL Qq0) u6'),Zd] (zaj_ (LS:=(fun y7:(List (Int×Int))=>[(Zf tyStr c),(Zo (owL Qq0) y7),Zd])) (zbN_ (L':=[(Zf tyStr c),(Zo (owL Qq0) u6'),Zd]) (.same (.same (.same .nil))) (zf2_ (LS:=(fun y7:(List (Int×Int))=>[(Zf tyStr c),(Zo (owL Qq0) y7),Zd])) (s0:=u6') (ei_l (EvO.fr (zg6_ zbb_ (zc_ 0 rfl) (ze_ (zA_ [44,32]))))) (zR_ 2) fun y7 x10=>at_ [(Zf tyStr c),(Zo (owL Qq0) y7),(Zf tyStr x10)] (zfD_ (zjE_ (i:=1) rfl (zG_ (zp_ zh_ (zo_ zh_))) (EvO.fr (zgr_ (ze_ (zc_ 2 rfl)))) fun a12=>(at_ [(Zf tyStr c),(Zo (owL Qq0) (y7++a12)),(Zf tyStr x10)] (zk_ (.same (.same (.dead .nil))))))))) fun y7=>(at_ [(Zf tyStr c),(Zo (owL Qq0) y7),Zd] (zaB_ (zL_ (zG_ (zp_ zh_ (zo_ zh_)))) (zgr_ (ze_ (zdD_ 1 rfl)))))))))))
theorem zeb_ (e:En K mg):zcG_ P w K mg base :=
 gn_of e.m e.f15 (okN (N:=["_law_e", "_law_some"]) (C:=(csLast (tyXc K))) (O:=(owF tyBl)) (t:=fun E=>zfr_ K) (g:=fun c=>zcP_ c) 1 1 zz_ (fun _ _ _ _ _ _ E nd hr=>(zd_ (pst 1 (zaa_ (zb_ (za7_ zY_ (e.m.gb e.b3) (zb_ (za_ 0) (zb_ (zex_ (e.m.gkc e.k6)) zf_))) (zb_ (za7_ zY_ (e.m.gb e.b3) (zb_ (za_ 0) (zb_ (zex_ (e.m.gkc e.k5)) zf_))) (zb_ (za7_ zY_ (e.m.gb e.b3) (zb_ (za_ 0) (zb_ (zex_ (e.m.gkc e.k4)) zf_))) (zb_ (za7_ zY_ (e.m.gb e.b3) (zb_ (za_ 0) (zb_ (zex_ (e.m.gkc e.k3)) zf_))) zf_)))))) (zd_ (pst 1 (zJ_ zr_ (za_ 1) (zaa_ (zb_ (za7_ zY_ (e.m.gb e.b3) (zb_ (za_ 0) (zb_ (zex_ (e.m.gkc e.k9)) zf_))) (zb_ (za7_ zY_ (e.m.gb e.b3) (zb_ (za_ 0) (zb_ (zex_ (e.m.gkc e.k8)) zf_))) (zb_ (za7_ zY_ (e.m.gb e.b3) (zb_ (za_ 0) (zb_ (zex_ (e.m.gkc e.k7)) zf_))) zf_)))))) (zi_ (zE_ (zc2_ (za7_ zY_ (e.m.gb e.b3) (zb_ (za_ 0) (zb_ (zex_ (e.m.gkc e.k0)) zf_))) (zc2_ (za7_ zY_ (e.m.gb e.b3) (zb_ (za_ 0) (zb_ (zjc_ "ValueError" (e.m.gb e.b8)) zf_))) (zhs_ (zfj_ zdl_ zm5_ (za_ 1)))))))))) fun c E=>at_ [(Zf (tyXc K) c),Zd]
 (z9_ (i:=1) rfl (zL_ zcz_) (zbQ_ (zu_ (zu_ (zu_ zn_))) (zN_ (zN_ (zN_ z1_))) (zq_ (zaT_ (zap_ e.fx.isa_NoBoard_NoCard (zap_ e.fx.isa_Meet_NoCard zai_)) rfl (zc_ 0 rfl)) (zq_ (zaT_ (zap_ e.fx.isa_NoBoard_NoField (zap_ e.fx.isa_Meet_NoField zai_)) rfl (zc_ 0 rfl)) (zq_ (zaT_ (zap_ e.fx.isa_NoBoard_NoOrder (zap_ e.fx.isa_Meet_NoOrder zai_)) rfl (zc_ 0 rfl)) (ze_ (zaT_ (zap_ e.fx.isa_NoBoard_NoAsking (zap_ e.fx.isa_Meet_NoAsking zai_)) rfl (zc_ 0 rfl))))))) fun x1'=>zdp_ (i:=1) rfl (at_ [(Zf (tyXc K) c),(Zf (tyL tyBl) x1')] (z9_ (i:=1) rfl (zL_ zcz_) (zfC_ zcO_ (zc_ 1 rfl) (EvO.fr (zbQ_ (zu_ (zu_ zn_)) (zN_ (zN_ z1_)) (zq_ (zaT_ (zap_ e.fx.isa_NoBoard_NoTray (zap_ e.fx.isa_Meet_NoTray zai_)) rfl (zc_ 0 rfl)) (zq_ (zaT_ (zap_ e.fx.isa_NoBoard_NoPlan (zap_ e.fx.isa_Meet_NoPlan zai_)) rfl (zc_ 0 rfl)) (ze_ (zaT_ (zap_ e.fx.isa_NoBoard_NoRow (zap_ e.fx.isa_Meet_NoRow zai_)) rfl (zc_ 0 rfl)))))))) fun s13=>zdp_ (i:=1) rfl (at_ [(Zf (tyXc K) c),(Zf (tyL tyBl) s13)] (zaB_ (zU_ zcz_) (EvF.ow (zfv_ (zaT_ (zap_ e.fx.isa_NoBoard_ShopError (zap_ e.fx.isa_Meet_ShopError zai_)) rfl (zc_ 0 rfl)) (zfv_ (zaT_ (zap_ e.fx.isa_NoBoard_ValueError (zap_ e.fx.isa_Meet_ValueError zai_)) rfl (zc_ 0 rfl)) (zm_ (zi3_ zm1_) (ev_bl true) (zc_ 1 rfl)))))))))))
theorem zeO_ (e:En K mg):zcS_ P w K mg base :=
 zc0_ e.m e.f16 (okC (N:=["_law_found"]) (C:=(csLast tyInt)) (O:=(owF tyBl)) (t:=fun E=>zfl_ K) (g:=fun c=>zcL_ c) 1 0 zz_ (fun _ _ _ _ _ _ E nd hr=>(zi_ (zE_ (zc2_ (za7_ zbv_ (e.m.gb e.b3) (zb_ (za_ 0) (zb_ (zjc_ "int" (e.m.gb e.b4)) zf_))) (zhs_ (zgg_ (za7_ zbv_ (e.m.gb e.b3) (zb_ (za_ 0) (zb_ (zjc_ "bool" (e.m.gb e.b5)) zf_))))))))) fun c E=>at_ [(Zf tyInt c)]
 (zaB_ (zU_ zcz_) (EvF.ow (zfv_ (zgk_ zie_ (zc_ 0 rfl)) (zj0_ (zgk_ zie_ (zc_ 0 rfl)))))))
theorem zfG_ (e:En K mg) (g14:zce_ P w K mg base) (g15:zcG_ P w K mg base) (g16:zcS_ P w K mg base):zd7_ P w K mg base :=
 zc0_ e.m e.f17 (okC (N:=["_law_text_here", "_law_told_here", "_law_alone", "_law_e", "_law_wire"]) (C:=(csLast tyStr)) (O:=(owF (tyL (tyU tyStr Qq0)))) (t:=fun E=>zgP_ K) (g:=fun c=>zcc_ c) 1 4 zz_ (fun _ _ _ _ _ _ E nd hr=>(zd_ (pst 1 (zaa_ zf_)) (zd_ (pst 2 zm5_) (zd_ (zjw_ rfl rfl (zjx_ (zlH_ (i:=1) nd rfl (.inl rfl) g14 (hm hr) (zb_ (za_ 0) zf_))) (zd_ (zK_ (zd3_ (zcb_ (za7_ zbv_ (e.m.gb e.b3) (zb_ (za_ 1) (zb_ (zjc_ "list" (e.m.gb e.b9)) zf_))))) (zi_ zeE_) zw_) (zi_ (pst 1 (zJ_ zr_ (zaa_ (zb_ (zD_ (l:=[98,111,97,114,100])) zf_)) (za_ 1))))) (ph_as (i:=3) (e.m.gk e.k2) nd rfl rfl (fun xx=>(zd_ (pst 1 (zaa_ (zb_ (zD_ (l:=[109,101,101,116])) (zb_ (zi1_ (za_ 3)) (zb_ (zi1_ (za_ 3)) zf_))))) (zi_ (pst 2 (zc2_ (zf6_ g15 (hmN (hr.nX xx)) (zb_ (za_ 3) zf_)) (zhs_ (zgg_ (za7_ zY_ (e.m.gb e.b3) (zb_ (za_ 3) (zb_ (zex_ (e.m.gkc e.k1)) zf_)))))))))) (ph_as (i:=3) (e.m.gk e.k1) nd rfl rfl (fun xx=>(zd_ (pst 1 (zaa_ (zb_ (zD_ (l:=[110,111,110,101])) zf_))) (zi_ (pst 2 (zf6_ g15 (hmN (hr.nX xx)) (zb_ (za_ 3) zf_)))))) znd_))) (zd_ (zK_ (zd3_ (zlB_ (za_ 2))) (zi_ zeE_) zw_) (zd_ (zbP_ PassesOwn.never rfl (zbh_ (zag_ sl_M (za_ 1) (po_M zg_) zbg_)) (pgn 4) (zi_ (zK_ (PW.pt (zbO_ (zd3_ (zcb_ (za7_ zbv_ (e.m.gb e.b3) (zb_ (za_ 4) (zb_ (zjc_ "tuple" (e.m.gb e.b10)) zf_))))) (zbO_ (zs_ (zfJ_ hr.u60) (za7_ zX_ (e.m.gb e.b0) (zb_ (za_ 4) zf_)) zg_) (zbO_ (zd3_ (zcb_ (zt_ g16 (hm hr) (zb_ (zW_ ix_M (za_ 4) zg_ (fun _ _=>rfl)) zf_)))) (zdH_ (zd3_ (zcb_ (zt_ g16 (hm hr) (zb_ (zW_ ix_M (za_ 4) zg_ (fun _ _=>rfl)) zf_))))))))) (zi_ zeE_) zw_))) (zi_ (zE_ (za_ 1))))))))) fun c E=>at_ [(Zf tyStr c),Zd,Zd,Zd,Zd]
 (z9_ (i:=1) rfl (zL_ (zj3_ zy_ (zG_ (zp_ zh_ (zo_ zh_))))) (zbG_ (tyU tyStr Qq0)) fun q1'=>zdp_ (i:=1) rfl (at_ [(Zf tyStr c),(Zf (tyL (tyU tyStr Qq0)) q1'),Zd,Zd,Zd] (zc3_ (i:=2) rfl zcz_ (ev_bl true) fun u2'=>(at_ [(Zf tyStr c),(Zf (tyL (tyU tyStr Qq0)) q1'),(Zf tyBl u2'),Zd,Zd] (zaj_ (LS:=(fun t6:((List ((List Nat) ⊕ (Int×Int)))×Bool)=>[(Zf tyStr c),(Zf (tyL (tyU tyStr Qq0)) t6.1),(Zf tyBl t6.2),Zd,Zd])) (zm6_ (i:=1) rfl (zL_ (zG_ (zp_ zh_ (zo_ zh_)))) (ze_ (zc_ 0 rfl)) (fun v5'=>zdp_ (i:=1) rfl (at_ [(Zf tyStr c),(Zf (tyL Qq0) v5'),(Zf tyBl u2'),Zd,Zd] (zaj_ (LS:=(fun _:Unit=>[(Zf tyStr c),(Zf (tyL Qq0) v5'),(Zf tyBl u2'),Zd,Zd])) (s_if (zdt_ (zx_ (zgk_ tn_l (zc_ 1 rfl)))) zgI_ (zk_ (S4 (.same .nil)))) fun _=>(at_ [(Zf tyStr c),(Zf (tyL Qq0) v5'),(Zf tyBl u2'),Zd,Zd] (zfD_ (z9_ (i:=1) rfl (zL_ (zj3_ zy_ (zG_ (zp_ zh_ (zo_ zh_))))) (zfC_ zcO_ (EvO.fr (zbQ_ zn_ z1_ (ze_ (zfM_ (T':=Qq0) (zA_ [98,111,97,114,100]))))) (zhn_ (T:=tyStr) (zc_ 1 rfl))) fun t11=>zdp_ (i:=1) rfl (at_ [(Zf tyStr c),(Zf (tyL (tyU tyStr Qq0)) t11),(Zf tyBl u2'),Zd,Zd] (zk_ (S4 (.same .nil)))))))))) fun x_4=>(eh_as (i:=3) (zl4_ e.fx.cat_NoBoard_Meet (zlm_ e.fx.cat_Meet_Meet zgo_)) rfl (fun _=>rfl) (at_ [(Zf tyStr c),(Zf (tyL (tyU tyStr Qq0)) q1'),(Zf tyBl u2'),(Zf (tyXc K) x_4),Zd] (z9_ (i:=1) rfl (zL_ (zj3_ zy_ (zG_ (zp_ zh_ (zo_ zh_))))) (zbQ_ (zu_ (zu_ zn_)) (zN_ (zN_ z1_)) (zq_ (zfM_ (T':=Qq0) (zA_ [109,101,101,116])) (zq_ (zhQ_ (T:=tyStr) (zgN_ e.fx.exj_Meet e.fx.exa_Meet_one (zc_ 3 rfl))) (ze_ (zhQ_ (T:=tyStr) (zgN_ e.fx.exj_Meet e.fx.exa_Meet_other (zc_ 3 rfl))))))) fun t22=>zdp_ (i:=1) rfl (at_ [(Zf tyStr c),(Zf (tyL (tyU tyStr Qq0)) t22),(Zf tyBl u2'),(Zf (tyXc K) x_4),Zd] (zfD_ (zc3_ (i:=2) rfl zcz_ (zfv_ (zl_ (ze_ (zc_ 3 rfl))) (zj0_ (zaT_ (zap_ e.fx.isa_NoBoard_NoBoard (zap_ e.fx.isa_Meet_NoBoard zai_)) rfl (zc_ 3 rfl)))) fun v33=>(at_ [(Zf tyStr c),(Zf (tyL (tyU tyStr Qq0)) t22),(Zf tyBl v33),(Zf (tyXc K) x_4),Zd] (zk_ (.same (.same (.same (.dead (.same .nil)))))))))))) (eh_as (i:=3) (zlm_ e.fx.cat_NoBoard_NoBoard (zl4_ e.fx.cat_Meet_NoBoard zgo_)) rfl (fun _=>rfl) (at_ [(Zf tyStr c),(Zf (tyL (tyU tyStr Qq0)) q1'),(Zf tyBl u2'),(Zf (tyXc K) x_4),Zd] (z9_ (i:=1) rfl (zL_ (zj3_ zy_ (zG_ (zp_ zh_ (zo_ zh_))))) (zbQ_ zn_ z1_ (ze_ (zfM_ (T':=Qq0) (zA_ [110,111,110,101])))) fun v17=>zdp_ (i:=1) rfl (at_ [(Zf tyStr c),(Zf (tyL (tyU tyStr Qq0)) v17),(Zf tyBl u2'),(Zf (tyXc K) x_4),Zd] (zfD_ (zc3_ (i:=2) rfl zcz_ (zl_ (ze_ (zc_ 3 rfl))) fun v20=>(at_ [(Zf tyStr c),(Zf (tyL (tyU tyStr Qq0)) v17),(Zf tyBl v20),(Zf (tyXc K) x_4),Zd] (zk_ (.same (.same (.same (.dead (.same .nil)))))))))))) eh_0))) fun t6=>(at_ [(Zf tyStr c),(Zf (tyL (tyU tyStr Qq0)) t6.1),(Zf tyBl t6.2),Zd,Zd] (zaj_ (LS:=(fun _:Unit=>[(Zf tyStr c),(Zf (tyL (tyU tyStr Qq0)) t6.1),(Zf tyBl t6.2),Zd,Zd])) (s_if (zdt_ (zma_ (zc_ 2 rfl))) zgI_ (zk_ (S4 (.same .nil)))) fun _=>(at_ [(Zf tyStr c),(Zf (tyL (tyU tyStr Qq0)) t6.1),(Zf tyBl t6.2),Zd,Zd] (zaj_ (LS:=(fun _:Unit=>[(Zf tyStr c),(Zf (tyL (tyU tyStr Qq0)) t6.1),(Zf tyBl t6.2),Zd,Zd])) (zbN_ (L':=[(Zf tyStr c),(Zf (tyL (tyU tyStr Qq0)) t6.1),(Zf tyBl t6.2),Zd,Zd]) (S4 (.same .nil)) (zf2_ (LS:=(fun _:Unit=>[(Zf tyStr c),(Zf (tyL (tyU tyStr Qq0)) t6.1),(Zf tyBl t6.2),Zd,Zd])) (s0:=()) (ei_l (EvO.fr (zmT_ (zc_ 1 rfl) (zgV_ (zj_ 1)) zhV_))) (zR_ 4) fun _ x46=>at_ [(Zf tyStr c),(Zf (tyL (tyU tyStr Qq0)) t6.1),(Zf tyBl t6.2),Zd,(Zf (tyU tyStr Qq0) x46)] (s_if (zf1_ (zdt_ (zx_ (zkS_ zmR_ zmr_ (zc_ 4 rfl)))) (zf1_ (zx_ (zm_ zgi_ (zdG_ (zkO_ (zu_ zn_)) (ze_ (zgD_ (zc_ 4 rfl)))) (zj_ 2))) (zf1_ (zdt_ (zx_ (zl_ (ze_ (zah_ (i:=0) at_0 (zgD_ (zc_ 4 rfl))))))) (zdt_ (zx_ (zl_ (ze_ (zah_ (i:=1) (at_s zaA_) (zgD_ (zc_ 4 rfl)))))))))) zgI_ (zk_ (S4 (.dead .nil)))))) fun _=>(at_ [(Zf tyStr c),(Zf (tyL (tyU tyStr Qq0)) t6.1),(Zf tyBl t6.2),Zd,Zd] (zgb_ (EvF.ow (zc_ 1 rfl))))))))))))))
theorem zdL_ (e:En K mg):zcq_ P w K mg base :=
 zc0_ e.m e.f18 (okC (N:=["_law_text_here", "_law_most", "_law_sign_here"]) (C:=(csCons tyStr (csLast tyInt))) (O:=(owF tyInt)) (t:=fun E=>zek_ K) (g:=fun c=>zaX_ c.1 c.2) 2 1 (zaK_ zz_) (fun _ _ _ _ _ _ E nd hr=>(zd_ (zK_ (PW.pt (zbO_ (zs_ (zan_ hr.u60) (za_ 0) (zD_ (l:=[]))) (zbO_ (zs_ zhd_ (za7_ zX_ (e.m.gb e.b0) (zb_ (za_ 0) zf_)) zg_) (zdH_ (zs_ (zan_ hr.u60) (zW_ ix_M (za_ 0) zg_ (fun _ _=>rfl)) (zD_ (l:=[48]))))))) (zi_ (zE_ zg_)) zw_) (zd_ (zbP_ PassesOwn.never rfl (zbh_ (za_ 0)) (pgn 2) (zi_ (zK_ (zs_ zdl_ (za_ 2) (zD_ (l:=[48,49,50,51,52,53,54,55,56,57]))) (zi_ (zE_ zg_)) zw_))) (zd_ (zK_ (zs_ zhd_ (zkx_ "int" zdM_ (e.m.gb e.b4) (zb_ (za_ 0) zf_)) (za_ 1)) (zi_ (zE_ zg_)) zw_) (zi_ (zE_ (zkx_ "int" zdM_ (e.m.gb e.b4) (zb_ (za_ 0) zf_)))))))) fun c E=>at_ [(Zf tyStr c.1),(Zf tyInt c.2),Zd]
 (zaj_ (LS:=(fun _:Unit=>[(Zf tyStr c.1),(Zf tyInt c.2),Zd])) (s_if (zf1_ (zx_ (zm_ zfS_ (zc_ 0 rfl) (zA_ []))) (zf1_ (zx_ (zm_ zgj_ (zdG_ ziI_ (ze_ (zc_ 0 rfl))) (zj_ 2))) (zx_ (zm_ zfS_ (zm_ zhP_ (zc_ 0 rfl) (zj_ 0)) (zA_ [48]))))) (zaB_ (zU_ zh_) (EvF.ow (zj_ 0))) (zk_ (.same (.same (.same .nil))))) fun _=>(at_ [(Zf tyStr c.1),(Zf tyInt c.2),Zd] (zaj_ (LS:=(fun _:Unit=>[(Zf tyStr c.1),(Zf tyInt c.2),Zd])) (zbN_ (L':=[(Zf tyStr c.1),(Zf tyInt c.2),Zd]) (.same (.same (.same .nil))) (zf2_ (LS:=(fun _:Unit=>[(Zf tyStr c.1),(Zf tyInt c.2),Zd])) (s0:=()) (zjs_ (zc_ 0 rfl)) (zR_ 2) fun _ x17=>at_ [(Zf tyStr c.1),(Zf tyInt c.2),(Zf tyStr x17)] (s_if (zx_ (zm_ zlE_ (zc_ 2 rfl) (zA_ [48,49,50,51,52,53,54,55,56,57]))) (zaB_ (zU_ zh_) (EvF.ow (zj_ 0))) (zk_ (.same (.same (.dead .nil))))))) fun _=>(at_ [(Zf tyStr c.1),(Zf tyInt c.2),Zd] (zaj_ (LS:=(fun _:Unit=>[(Zf tyStr c.1),(Zf tyInt c.2),Zd])) (s_if (zx_ (zm_ zgj_ (zdG_ zhp_ (ze_ (zc_ 0 rfl))) (zc_ 1 rfl))) (zaB_ (zU_ zh_) (EvF.ow (zj_ 0))) (zk_ (.same (.same (.same .nil))))) fun _=>(at_ [(Zf tyStr c.1),(Zf tyInt c.2),Zd] (zaB_ (zU_ zh_) (EvF.ow (zdG_ zhp_ (ze_ (zc_ 0 rfl))))))))))))
theorem zfN_ (e:En K mg) (g18:zcq_ P w K mg base):zdT_ P w K mg base :=
 zc0_ e.m e.f19 (okC (N:=["_law_text_here", "_law_most", "_law_at", "_law_ends_here"]) (C:=(csCons tyStr (csLast tyInt))) (O:=(owL tyInt)) (t:=fun E=>zgX_ K) (g:=fun c=>zbZ_ c.1 c.2) 2 2 (zaK_ zz_) (fun _ _ _ _ _ _ E nd hr=>(zd_ (pst 2 (ziZ_ zfx_ zfU_ zli_ (za_ 0) (zb_ (zD_ (l:=[45])) zf_))) (zd_ (zK_ (zs_ zjH_ (za_ 2) zg_) (zi_ (zE_ (zaa_ (zb_ (zt_ g18 (hm hr) (zb_ (za_ 0) (zb_ (za_ 1) zf_))) (zb_ (zt_ g18 (hm hr) (zb_ (za_ 0) (zb_ (za_ 1) zf_))) zf_))))) zw_) (zd_ (pst 3 (zaa_ (zb_ (zt_ g18 (hm hr) (zb_ (zag_ sl_M (za_ 0) zbg_ (po_M (za_ 2))) (zb_ (za_ 1) zf_))) (zb_ (zt_ g18 (hm hr) (zb_ (zag_ sl_M (za_ 0) (po_M (zJ_ zr_ (za_ 2) zg_)) zbg_) (zb_ (za_ 1) zf_))) zf_)))) (zd_ (zK_ (zs_ zla_ (zW_ ix_M (za_ 3) zg_ (fun _ _=>rfl)) (zW_ ix_M (za_ 3) zg_ (fun _ _=>rfl))) (zi_ (zE_ (zaa_ (zb_ zg_ (zb_ zg_ zf_))))) zw_) (zi_ (zE_ (za_ 3)))))))) fun c E=>at_ [(Zf tyStr c.1),(Zf tyInt c.2),Zd,Zd]
 (zc3_ (i:=2) rfl zh_ (zmm_ zlw_ (zc_ 0 rfl) (ze_ (zA_ [45]))) fun u1'=>(at_ [(Zf tyStr c.1),(Zf tyInt c.2),(Zf tyInt u1'),Zd] (zaj_ (LS:=(fun _:Unit=>[(Zf tyStr c.1),(Zf tyInt c.2),(Zf tyInt u1'),Zd])) (s_if (zx_ (zm_ zjg_ (zc_ 2 rfl) (zj_ 0))) (zaB_ (zL_ zh_) (zbQ_ (zu_ zn_) (zN_ z1_) (zq_ (zl_ (zq_ (zc_ 0 rfl) (ze_ (zc_ 1 rfl)))) (ze_ (zl_ (zq_ (zc_ 0 rfl) (ze_ (zc_ 1 rfl)))))))) (zk_ (S4 .nil))) fun _=>(at_ [(Zf tyStr c.1),(Zf tyInt c.2),(Zf tyInt u1'),Zd] (z9_ (i:=3) rfl (zL_ zh_) (zbQ_ (zu_ zn_) (zN_ z1_) (zq_ (zl_ (zq_ (zdZ_ (zc_ 0 rfl) zhV_ (zgV_ (zc_ 2 rfl))) (ze_ (zc_ 1 rfl)))) (ze_ (zl_ (zq_ (zdZ_ (zc_ 0 rfl) (zgV_ (zm_ zQ_ (zc_ 2 rfl) (zj_ 1))) zhV_) (ze_ (zc_ 1 rfl))))))) fun e18=>(at_ [(Zf tyStr c.1),(Zf tyInt c.2),(Zf tyInt u1'),(Zo (owL tyInt) e18)] (zaj_ (LS:=(fun _:Unit=>[(Zf tyStr c.1),(Zf tyInt c.2),(Zf tyInt u1'),(Zo (owL tyInt) e18)])) (s_if (zx_ (zm_ zlk_ (zm_ zS_ (zdD_ 3 rfl) (zj_ 0)) (zm_ zS_ (zdD_ 3 rfl) (zj_ 1)))) (zaB_ (zL_ zh_) (zbQ_ (zu_ zn_) (zN_ z1_) (zq_ (zj_ 0) (ze_ (zj_ 0))))) (zk_ (S4 .nil))) fun _=>(at_ [(Zf tyStr c.1),(Zf tyInt c.2),(Zf tyInt u1'),(Zo (owL tyInt) e18)] (zlJ_ (i:=3) rfl))))))))))
theorem zfO_ (e:En K mg) (g19:zdT_ P w K mg base):zdU_ P w K mg base :=
 zc0_ e.m e.f20 (okC (N:=["_law_text_here", "_law_wires_here", "_law_piece", "_law_sides", "_law_one", "_law_other"]) (C:=(csLast tyStr)) (O:=(owF (tyOpt (tyL Qq0)))) (t:=fun E=>zgt_ K) (g:=fun c=>zcr_ c) 1 5 zz_ (fun _ _ _ _ _ _ E nd hr=>(zd_ (zK_ (zs_ (zan_ hr.u60) (za_ 0) (zD_ (l:=[]))) (zi_ (zE_ (zaa_ zf_))) zw_) (zd_ (pst 1 (zaa_ zf_)) (zd_ (zbP_ PassesOwn.never rfl (zbh_ (ziZ_ z7_ z5_ zbe_ (za_ 0) (zb_ (zD_ (l:=[44,32])) zf_))) (pgn 2) (zd_ (pst 3 (ziZ_ z7_ z5_ zbe_ (za_ 2) (zb_ (zD_ (l:=[62])) zf_))) (zd_ (zK_ (zs_ (zfJ_ hr.u60) (za7_ zX_ (e.m.gb e.b0) (zb_ (za_ 3) zf_)) zg_) (zi_ (zE_ zec_)) zw_) (zd_ (pst 4 (zt_ g19 (hm hr) (zb_ (zW_ ix_M (za_ 3) zg_ (fun _ _=>rfl)) (zb_ zg_ zf_)))) (zd_ (pst 5 (zt_ g19 (hm hr) (zb_ (zW_ ix_M (za_ 3) zg_ (fun _ _=>rfl)) (zb_ zg_ zf_)))) (zd_ (zK_ (PW.pt (zbO_ (zs_ (zan_ hr.u60) (zW_ ix_M (za_ 4) zg_ (fun _ _=>rfl)) zg_) (zbO_ (zs_ (zan_ hr.u60) (zW_ ix_M (za_ 5) zg_ (fun _ _=>rfl)) zg_) (zdH_ (zs_ (zfJ_ hr.u60) (zJ_ zcZ_ (zW_ ix_M (za_ 4) zg_ (fun _ _=>rfl)) (zW_ ix_M (za_ 4) zg_ (fun _ _=>rfl))) (zJ_ zcZ_ (zW_ ix_M (za_ 5) zg_ (fun _ _=>rfl)) (zW_ ix_M (za_ 5) zg_ (fun _ _=>rfl)))))))) (zi_ (zE_ zec_)) zw_) (zi_ (pst 1 (zJ_ zr_ (za_ 1) (zcY_ (cl:=_) (lv:=["_law_k"]) (fr:=[("_law_one",4),("_law_other",5)]) rfl (csm rfl (frc (frc fr0))) (zcv_ (e.m.gb e.b1) (zb_ (zJ_ zr_ (zJ_ zcZ_ (zW_ ix_M (za_ 4) zg_ (fun _ _=>rfl)) (zW_ ix_M (za_ 4) zg_ (fun _ _=>rfl))) zg_) zf_)) (fun _ _ _ _=>(pgc 0)) (fun _ _ _ _=>zcn_) (fun _ _ _ _=>(zfk_ (zb_ (zJ_ zr_ (zW_ ix_M (za_ 1) zg_ (fun _ _=>rfl)) (za_ 0)) (zb_ (zJ_ zr_ (zW_ ix_M (za_ 2) zg_ (fun _ _=>rfl)) (za_ 0)) zf_)))))))))))))) (zi_ (zE_ (za_ 1))))))) fun c E=>at_ [(Zf tyStr c),Zd,Zd,Zd,Zd,Zd]
 (zaj_ (LS:=(fun _:Unit=>[(Zf tyStr c),Zd,Zd,Zd,Zd,Zd])) (s_if (zx_ (zm_ zfS_ (zc_ 0 rfl) (zA_ []))) (zgb_ (EvF.ow (zgd_ (fun _ _ _=>nn_l) (EvO.fr (zbG_ Qq0))))) (zk_ (S4 (.same (.same .nil))))) fun _=>(at_ [(Zf tyStr c),Zd,Zd,Zd,Zd,Zd] (z9_ (i:=1) rfl (zL_ (zG_ (zp_ zh_ (zo_ zh_)))) (zbG_ Qq0) fun z7=>zdp_ (i:=1) rfl (at_ [(Zf tyStr c),(Zf (tyL Qq0) z7),Zd,Zd,Zd,Zd] (zaj_ (LS:=(fun y8:(List (Int×Int))=>[(Zf tyStr c),(Zf (tyL Qq0) y8),Zd,Zd,Zd,Zd])) (zbN_ (L':=[(Zf tyStr c),(Zf (tyL Qq0) z7),Zd,Zd,Zd,Zd]) (S4 (.same (.same .nil))) (zf2_ (LS:=(fun y8:(List (Int×Int))=>[(Zf tyStr c),(Zf (tyL Qq0) y8),Zd,Zd,Zd,Zd])) (s0:=z7) (ei_l (EvO.fr (zg6_ zbb_ (zc_ 0 rfl) (ze_ (zA_ [44,32]))))) (zR_ 2) fun y8 x11=>at_ [(Zf tyStr c),(Zf (tyL Qq0) y8),(Zf tyStr x11),Zd,Zd,Zd] (z9_ (i:=3) rfl (zL_ zy_) (zg6_ zbb_ (zc_ 2 rfl) (ze_ (zA_ [62]))) fun v12=>zdp_ (i:=3) rfl (at_ [(Zf tyStr c),(Zf (tyL Qq0) y8),(Zf tyStr x11),(Zf (tyL tyStr) v12),Zd,Zd] (zaj_ (LS:=(fun _:Unit=>[(Zf tyStr c),(Zf (tyL Qq0) y8),(Zf tyStr x11),(Zf (tyL tyStr) v12),Zd,Zd])) (s_if (zx_ (zm_ zgi_ (zdG_ zcR_ (ze_ (zc_ 3 rfl))) (zj_ 2))) (zgb_ (EvF.ow zd8_)) (zk_ (S4 (.same (.same .nil))))) fun _=>(at_ [(Zf tyStr c),(Zf (tyL Qq0) y8),(Zf tyStr x11),(Zf (tyL tyStr) v12),Zd,Zd] (z9_ (i:=4) rfl (zL_ zh_) (zct_ (zq_ (zm_ zS_ (zc_ 3 rfl) (zj_ 0)) (ze_ (zj_ 40)))) fun o21=>zdp_ (i:=4) rfl (at_ [(Zf tyStr c),(Zf (tyL Qq0) y8),(Zf tyStr x11),(Zf (tyL tyStr) v12),(Zf (tyL tyInt) o21),Zd] (z9_ (i:=5) rfl (zL_ zh_) (zct_ (zq_ (zm_ zS_ (zc_ 3 rfl) (zj_ 1)) (ze_ (zj_ 36)))) fun o27=>zdp_ (i:=5) rfl (at_ [(Zf tyStr c),(Zf (tyL Qq0) y8),(Zf tyStr x11),(Zf (tyL tyStr) v12),(Zf (tyL tyInt) o21),(Zf (tyL tyInt) o27)] (zaj_ (LS:=(fun _:Unit=>[(Zf tyStr c),(Zf (tyL Qq0) y8),(Zf tyStr x11),(Zf (tyL tyStr) v12),(Zf (tyL tyInt) o21),(Zf (tyL tyInt) o27)])) (s_if (zf1_ (zx_ (zm_ zbA_ (zm_ zS_ (zc_ 4 rfl) (zj_ 0)) (zj_ 0))) (zf1_ (zx_ (zm_ zbA_ (zm_ zS_ (zc_ 5 rfl) (zj_ 0)) (zj_ 0))) (zx_ (zm_ zgi_ (zm_ zcF_ (zm_ zS_ (zc_ 4 rfl) (zj_ 1)) (zm_ zS_ (zc_ 4 rfl) (zj_ 0))) (zm_ zcF_ (zm_ zS_ (zc_ 5 rfl) (zj_ 1)) (zm_ zS_ (zc_ 5 rfl) (zj_ 0))))))) (zgb_ (EvF.ow zd8_)) (zk_ (S4 (.same (.same .nil))))) fun _=>(at_ [(Zf tyStr c),(Zf (tyL Qq0) y8),(Zf tyStr x11),(Zf (tyL tyStr) v12),(Zf (tyL tyInt) o21),(Zf (tyL tyInt) o27)] (zfD_ (z9_ (i:=1) rfl (zL_ (zG_ (zp_ zh_ (zo_ zh_)))) (zfC_ zcO_ (zc_ 1 rfl) (EvO.fr (O:=(owL Qq0)) (zcl_ (zdz_ (ze_ (zm_ zQ_ (zm_ zcF_ (zm_ zS_ (zc_ 4 rfl) (zj_ 1)) (zm_ zS_ (zc_ 4 rfl) (zj_ 0))) (zj_ 1)))) (zR_ 0) (fun _=>dead1) (fun x70=>zck_) (fun x70=>(zfA_ (zu_ zn_) (zq_ (zm_ zQ_ (zm_ zS_ (zc_ 1 rfl) (zj_ 0)) (zc_ 0 rfl)) (ze_ (zm_ zQ_ (zm_ zS_ (zc_ 2 rfl) (zj_ 0)) (zc_ 0 rfl))))))))) fun w60=>zdp_ (i:=1) rfl (at_ [(Zf tyStr c),(Zf (tyL Qq0) w60),(Zf tyStr x11),(Zf (tyL tyStr) v12),(Zf (tyL tyInt) o21),(Zf (tyL tyInt) o27)] (zk_ (.same (.same (.dead (.dead (.dead (.dead .nil)))))))))))))))))))))) fun y8=>(at_ [(Zf tyStr c),(Zf (tyL Qq0) y8),Zd,Zd,Zd,Zd] (zgb_ (EvF.ow (zgd_ (fun _ _ _=>nn_l) (zc_ 1 rfl)))))))))))
theorem zgB_ (e:En K mg) (g20:zdU_ P w K mg base):zeU_ P w K mg base :=
 zc0_ e.m e.f21 (okC (N:=["_law_text_here", "_law_wires_here", "_law_k", "_law_j"]) (C:=(csLast tyStr)) (O:=(owL (tyU tyStr Qq0))) (t:=fun E=>zia_ K) (g:=fun c=>zdj_ c) 1 3 zz_ (fun _ _ _ _ _ _ E nd hr=>(zd_ (pst 1 (zt_ g20 (hm hr) (zb_ (za_ 0) zf_))) (zd_ (zK_ (zs_ zmL_ (za_ 1) zec_) (zi_ (zE_ (zaa_ (zb_ (zD_ (l:=[110,111,110,101])) zf_)))) zw_) (zd_ (zbP_ PassesOwn.never rfl (zcv_ (e.m.gb e.b1) (zb_ (za7_ zX_ (e.m.gb e.b0) (zb_ (za_ 1) zf_)) zf_)) (pgn 2) (zi_ (zbP_ PassesOwn.never rfl (zcv_ (e.m.gb e.b1) (zb_ (za_ 2) zf_)) (pgn 3) (zi_ (zK_ (zs_ (zan_ hr.u60) (zW_ ix_M (zW_ ix_M (za_ 1) (za_ 3) (fun _ _=>rfl)) zg_ (fun _ _=>rfl)) (zW_ ix_M (zW_ ix_M (za_ 1) (za_ 2) (fun _ _=>rfl)) zg_ (fun _ _=>rfl))) (zi_ (zE_ (zaa_ (zb_ (zD_ (l:=[109,101,101,116])) (zb_ (zW_ ix_M (za_ 1) (za_ 3) (fun _ _=>rfl)) (zb_ (zW_ ix_M (za_ 1) (za_ 2) (fun _ _=>rfl)) zf_)))))) zw_))))) (zi_ (zE_ (zJ_ zr_ (zaa_ (zb_ (zD_ (l:=[98,111,97,114,100])) zf_)) (zcY_ (cl:=[]) (lv:=["_law_there", "_law_here"]) (fr:=[]) rfl (csm rfl fr0) (zbh_ (za7_ (zco_ runB64 rfl) (e.m.gb e.b6) (zb_ (zcY_ (cl:=[]) (lv:=["_law_wire"]) (fr:=[]) rfl (csm rfl fr0) (zbh_ (za_ 1)) (fun _ _ _ _=>(pgc 0)) (fun _ _ _ _=>zcn_) (fun _ _ _ _=>(zfk_ (zb_ (zW_ ix_M (za_ 0) zg_ (fun _ _=>rfl)) (zb_ (zW_ ix_M (za_ 0) zg_ (fun _ _=>rfl)) zf_))))) zf_))) (fun _ _ _ _=>(ziE_ (n:=2) rfl (zbS_ (pgc 0) (zbS_ (pgc 1) zg7_)))) (fun _ _ _ _=>zcn_) (fun _ _ _ _=>(zfk_ (zb_ (za_ 1) (zb_ (za_ 0) zf_)))))))))))) fun c E=>at_ [(Zf tyStr c),Zd,Zd,Zd]
 (zmZ_ (i:=1) rfl (zl_ (ze_ (zc_ 0 rfl))) fun y2'=>(at_ [(Zf tyStr c),(Zf (tyOpt (tyL Qq0)) y2'),Zd,Zd] (zaj_ (LS:=(fun _:Unit=>[(Zf tyStr c),(Zf (tyOpt (tyL Qq0)) y2'),Zd,Zd])) (s_if (zx_ (zm_ zk7_ (zc_ 1 rfl) zmS_)) (zaB_ (zL_ (zj3_ zy_ (zG_ (zp_ zh_ (zo_ zh_))))) (zbQ_ zn_ z1_ (ze_ (zfM_ (T':=Qq0) (zA_ [110,111,110,101]))))) (zk_ (S4 .nil))) fun _=>(at_ [(Zf tyStr c),(Zf (tyOpt (tyL Qq0)) y2'),Zd,Zd] (zlt_ (T:=(tyL Qq0)) (i:=1) rfl fun w11=>at_ [(Zf tyStr c),(Zf (tyL Qq0) w11),Zd,Zd] (zaj_ (LS:=(fun _:Unit=>[(Zf tyStr c),(Zf (tyL Qq0) w11),Zd,Zd])) (zbN_ (L':=[(Zf tyStr c),(Zf (tyL Qq0) w11),Zd,Zd]) (S4 .nil) (zf2_ (LS:=(fun _:Unit=>[(Zf tyStr c),(Zf (tyL Qq0) w11),Zd,Zd])) (s0:=()) (zdz_ (ze_ (zdG_ zcR_ (ze_ (zc_ 1 rfl))))) (zR_ 2) fun _ x15=>at_ [(Zf tyStr c),(Zf (tyL Qq0) w11),(Zf tyInt x15),Zd] (zfD_ (zaj_ (LS:=(fun _:Unit=>[(Zf tyStr c),(Zf (tyL Qq0) w11),(Zf tyInt x15),Zd])) (zbN_ (L':=[(Zf tyStr c),(Zf (tyL Qq0) w11),(Zf tyInt x15),Zd]) (S4 .nil) (zf2_ (LS:=(fun _:Unit=>[(Zf tyStr c),(Zf (tyL Qq0) w11),(Zf tyInt x15),Zd])) (s0:=()) (zdz_ (ze_ (zc_ 2 rfl))) (zR_ 3) fun _ x18=>at_ [(Zf tyStr c),(Zf (tyL Qq0) w11),(Zf tyInt x15),(Zf tyInt x18)] (s_if (zx_ (zm_ zbA_ (zah_ (i:=1) (at_s zaA_) (zm_ zS_ (zc_ 1 rfl) (zc_ 3 rfl))) (zah_ (i:=1) (at_s zaA_) (zm_ zS_ (zc_ 1 rfl) (zc_ 2 rfl))))) (zaB_ (zL_ (zj3_ zy_ (zG_ (zp_ zh_ (zo_ zh_))))) (zbQ_ (zu_ (zu_ zn_)) (zN_ (zN_ z1_)) (zq_ (zfM_ (T':=Qq0) (zA_ [109,101,101,116])) (zq_ (zhQ_ (T:=tyStr) (zm_ zS_ (zc_ 1 rfl) (zc_ 3 rfl))) (ze_ (zhQ_ (T:=tyStr) (zm_ zS_ (zc_ 1 rfl) (zc_ 2 rfl)))))))) (zk_ (.same (.same (.same (.dead .nil)))))))) fun _=>(at_ [(Zf tyStr c),(Zf (tyL Qq0) w11),(Zf tyInt x15),Zd] (zk_ (.same (.same (.dead (.same .nil)))))))))) fun _=>(at_ [(Zf tyStr c),(Zf (tyL Qq0) w11),Zd,Zd] (zaB_ (zL_ (zj3_ zy_ (zG_ (zp_ zh_ (zo_ zh_))))) (zfC_ zcO_ (EvO.fr (zbQ_ zn_ z1_ (ze_ (zfM_ (T':=Qq0) (zA_ [98,111,97,114,100]))))) (zhn_ (T:=tyStr) (EvO.fr (O:=(owL Qq0)) (zcl_ (ei_l (EvO.fr (O:=(owL Qq0)) (zkz_ (zlA_ (zgQ_ (zlY_ zjJ_ (zlh_ zjJ_ zbR_)) (zeZ_ zbR_ zbR_))) (ze_ (EvO.fr (O:=(owL Qq0)) (zcl_ (ei_l (zc_ 1 rfl)) (zR_ 0) (fun _=>dead1) (fun x45=>zck_) (fun x45=>(zfA_ (zu_ zn_) (zq_ (zah_ (i:=1) (at_s zaA_) (zc_ 0 rfl)) (ze_ (zah_ (i:=0) at_0 (zc_ 0 rfl)))))))))))) (zlR_ (zu_ zn_) (ziC_ 0 (ziv_ (zR_ 1)))) (fun _=>dead2) (fun x52=>zck_) (fun x52=>(zfA_ (zu_ zn_) (zq_ (zc_ 1 rfl) (ze_ (zc_ 0 rfl))))))))))))))))))
end
end K30
namespace K30
open PySem PySem.Spec PyProof.Rows L2
open Mo renaming bind→Mb,ok→Mq
open Sl renaming fz→Zf,dead→Zd,ow→Zo
local macro_rules | `(tactic| walk_at "mo") => `(tactic| simp only [Mo.okB, Mo.exB, Mo.noB, Mo.noexO, Mo.optS, zeo_, zjZ_, zje_, zjk_, zne_, zgM_, zkM_, zlz_, zef_, zmO_, Bool.not_true, Bool.not_false, if_true, if_false, Bool.false_eq_true, Option.map_some, Option.map_none, ite_true, ite_false, Int.reduceLT, Int.reduceLE, Int.reduceNeg, Int.reduceSub, Int.reduceAdd, Int.reduceMul, Nat.reduceAdd, Nat.reduceLT, decide_true, decide_false, Option.isSome_none, Option.isSome_some, Option.isNone_none, Option.isNone_some, Bool.and_true, Bool.and_false])
theorem zcE_ (ns:List Int) (k:Int) (h:0≤k):∃ c,zB_ ns k=.ok c:=by
 unfold zB_ zaJ_
 walk_at "mo"
 by_cases hk:k<(ns.length:Int)
 ·obtain ⟨x,e,_⟩:=zcj_ h hk
  rw [decide_eq_true hk,if_pos rfl,e]
  exact ⟨x,rfl⟩
 ·rw [decide_eq_false hk,if_neg (by decide)]
  exact ⟨0,rfl⟩
theorem zlo_ {lo:Int}{n:Nat}{d r:List Int}{x:Int}(h:rngI lo n=d++x::r):x=lo+d.length∧d.length<n:=by
 have hl:=congrArg List.length h
 rw [zaI_,List.length_append,List.length_cons] at hl
 have hd:d.length<n:=by lia
 have h1:(rngI lo n)[d.length]?=some x:=by rw [h]; simp
 unfold rngI at h1
 rw [List.getElem?_map,List.getElem?_range hd] at h1
 simp at h1
 exact ⟨h1.symm,hd⟩
abbrev Wr:=Int×Int
def okW (w:Wr):Prop:=1≤w.1∧w.1≤40∧1≤w.2∧w.2≤36
theorem ze8_ {α:Type} [DecidableEq α]:∀ {xs ys:List α},xs.Nodup→(∀ x∈xs,x∈ys)→xs.length≤ys.length
 | [],ys,_,_=>Nat.zero_le _
 | x::xs,ys,hn,hs=>by
  obtain ⟨h1,h2⟩:=List.nodup_cons.mp hn
  have hx:=hs x (List.mem_cons_self ..)
  have:=ze8_ (ys:=ys.erase x) h2 fun y hy=>(List.mem_erase_of_ne (fun e=>h1 (by rw [← e]; exact hy))).mpr (hs y (List.mem_cons_of_mem _ hy))
  rw [List.length_erase_of_mem hx] at this
  have:=List.length_pos_of_mem hx
  rw [List.length_cons]
  lia
theorem nodup36 {xs:List Int}(hn:xs.Nodup) (h:∀ x∈xs,1≤x∧x≤36):xs.length≤36:=by
 have:=ze8_ (ys:=rngI 1 36) hn fun x hx=>zb7_.mpr (by have:=h x hx; lia)
 rwa [zaI_] at this
def WF (W:List Wr):Prop:=(W.map (·.2)).Nodup∧∀ w∈W,okW w
theorem WF.len {W:List Wr}(h:WF W):W.length≤36:=by
 have:=nodup36 h.1 fun x hx=>by obtain ⟨w,hw,rfl⟩:=List.mem_map.mp hx; exact ⟨(h.2 w hw).2.2.1,(h.2 w hw).2.2.2⟩
 rwa [List.length_map] at this
theorem zmU_ (cs:List Int):∃ W,z4_ cs false=.ok W∧WF W:=by
 unfold z4_ zaP_
 walk_at "mo"
 refine zaR_ (G:=fun m=>∃ W,fnO (thenO m fun s_3=>Mq (Out.rt s_3.fst))=.ok W∧WF W) (fun d (s:List Wr×List Int)=>s.2=s.1.map (·.2)∧WF s.1) ?h0 (fun d x s hx hs=>?_) (fun s hs=>⟨_,rfl,hs.2⟩)
 case h0=>exact ⟨rfl,.nil,fun w hw=>by cases hw⟩
 have x0:0≤x % 2147483647:=Int.emod_nonneg _ (by decide)
 have x1:x % 2147483647<2147483647:=Int.emod_lt_of_pos _ (by decide)
 rw [zef_ (by lia) (by lia)]
 walk_at "mo"
 generalize hn:x % 2147483647*48271 % 2147483629=n
 have q0:0≤n / 1440 % 4:=Int.emod_nonneg _ (by decide)
 have q1:n / 1440 % 4<4:=Int.emod_lt_of_pos _ (by decide)
 have n0:0≤n % 40:=Int.emod_nonneg _ (by decide)
 have n1:0≤n / 40 % 36:=Int.emod_nonneg _ (by decide)
 rw [Mo.grd_ok ⟨by lia,by lia⟩]
 walk_at "mo"
 refine zaR_ (G:=fun m=>∃ s',thenO m (fun s49=>Mq (Out.nx (s49.fst,s49.snd)))=.ok (.nx s')∧(s'.2=s'.1.map (·.2)∧WF s'.1)) (fun d (s:List Wr×List Int)=>s.2=s.1.map (·.2)∧WF s.1) hs (fun d k s hx hs=>?_) (fun s hs=>⟨_,rfl,hs⟩)
 obtain ⟨r,hr⟩:=hx
 have hk:0≤k:=(zb7_.mp (by rw [hr]; simp:k∈rngI 0 (1+n / 1440 % 4).toNat)).1
 obtain ⟨W,Kn⟩:=s
 obtain ⟨h1,h2⟩:=hs
 simp only at h1 h2
 subst h1
 by_cases c1:1+n % 40+k≤40
 ·rw [decide_eq_true c1,if_pos rfl]
  by_cases c2:1+n / 40 % 36+k≤36
  ·rw [decide_eq_true c2,if_pos rfl]
   walk_at "mo"
   cases c3:(W.map (fun x:Wr=>x.2)).any fun y=>decide (y=1+n / 40 % 36+k) with
   | true=>exact ⟨_,rfl,rfl,h2⟩
   | false =>
    have hl:=h2.len
    have hl2:(W.map (fun x:Wr=>x.2)).length≤36:=by rw [List.length_map]; exact hl
    rw [show (!false)=true from rfl,if_pos rfl,Mo.lim_ok (by lia),Mo.lim_ok (by lia)]
    refine ⟨_,rfl,by simp,?_,?_⟩
    ·show ((W++[_]).map (fun x:Wr=>x.2)).Nodup
     rw [List.map_append,List.map_singleton]
     refine List.nodup_append.mpr ⟨h2.1,List.nodup_cons.mpr ⟨List.not_mem_nil,.nil⟩,fun a ha b hb e=>?_⟩
     obtain rfl:=List.mem_singleton.mp hb
     have:=List.any_eq_false.mp c3 a ha
     simp [e] at this
    ·intro w hw
     rcases List.mem_append.mp hw with hw | hw
     ·exact h2.2 w hw
     ·obtain rfl:=List.mem_singleton.mp hw
      refine ⟨?_,c1,?_,c2⟩<;>simp only<;>lia
  ·rw [decide_eq_false c2]
   exact ⟨_,rfl,rfl,h2⟩
 ·rw [decide_eq_false c1]
  exact ⟨_,rfl,rfl,h2⟩
def swp (w:Wr):Wr:=(w.2,w.1)
def brd (W:List Wr):List Wr:=(srtL (lxP ltI ltI) (W.map swp)).map swp
theorem zdo_ (W:List Wr):(brd W).Perm W:=by
 have:=(zad_ (lxP ltI ltI) (W.map swp)).map swp
 rwa [List.map_map,show swp∘swp=id from rfl,List.map_id] at this
theorem brd_wf {W:List Wr}(h:WF W):WF (brd W):=by
 have p:=zdo_ W
 exact ⟨(p.map (·.2)).nodup_iff.mpr h.1,fun w hw=>h.2 w (p.mem_iff.mp hw)⟩
theorem zmt_ (B:List Wr):eqL (fun a b=>decide (a.fst=b.fst) && decide (a.snd=b.snd)) B B=true:=zeu_ (fun a=>by simp) B
theorem zmf_ {W W':List Wr}(p:W'.Perm W):brd W'=brd W:=by
 unfold brd
 rw [zc6_ (zeZ_ zbR_ zbR_) ((zad_ (lxP ltI ltI) (W'.map swp)).trans (p.map swp)) (zbq_ (zeZ_ zbR_ zbR_) _)]
theorem WF.perm {W W':List Wr}(p:W'.Perm W) (h:WF W):WF W':=⟨(p.map (·.2)).nodup_iff.mpr h.1,fun w hw=>h.2 w (p.mem_iff.mp hw)⟩
def byC (W:List Wr):List (Int×Wr):=W.map fun w=>(w.2,w)
theorem zht_ {W:List Wr}(h:(W.map (·.2)).Nodup) {w:Wr}(hw:w∈W):getA (byC W) w.2=some w:=by
 induction W with
 | nil=>cases hw
 | cons v W ih =>
  rw [List.map_cons] at h
  obtain ⟨h1,h2⟩:=List.nodup_cons.mp h
  unfold getA byC
  rw [List.map_cons,List.find?_cons]
  rcases List.mem_cons.mp hw with e | hw
  ·subst e; simp
  ·have:v.2≠w.2:=fun e=>h1 (by rw [e]; exact List.mem_map_of_mem hw)
   rw [decide_eq_false this]
   exact ih h2 hw
theorem zmp_ {W:List Wr}{c:Int}(h:c∉W.map (·.2)):getA (byC W) c=none:=by
 unfold getA byC
 rw [List.find?_eq_none.mpr]
 ·rfl
 ·intro q hq
  obtain ⟨w,hw,rfl⟩:=List.mem_map.mp hq
  simp only [decide_eq_true_eq]
  exact fun e=>h (by rw [← e]; exact List.mem_map_of_mem hw)
theorem ziW_ {W:List Wr}{w:Wr}(h:w.2∉W.map (·.2)):putA (byC W) w.2 w=byC (W++[w]):=by
 unfold putA
 have:(byC W).any (fun q=>decide (q.1=w.2))=false:=by
  rw [List.any_eq_false]
  intro q hq
  unfold byC at hq
  obtain ⟨v,hv,rfl⟩:=List.mem_map.mp hq
  simp only [decide_eq_true_eq]
  exact fun e=>h (by rw [← e]; exact List.mem_map_of_mem hv)
 rw [this,if_neg (by decide)]
 unfold byC
 rw [List.map_append]; rfl
theorem zgy_ {W:List Wr}(h:(W.map (·.2)).Nodup):(srtL ltI (W.map (·.2))).map (fun c=>(getA (byC W) c).getD (0,0))=brd W:=by
 have e:(srtL ltI (W.map (·.2))).map (fun c=>(c,((getA (byC W) c).getD (0,0)).1))=srtL (lxP ltI ltI) (W.map swp):=by
  refine zc6_ (zeZ_ zbR_ zbR_) ?_ ?_
  ·have:=(zad_ ltI (W.map (·.2))).map (fun c=>(c,((getA (byC W) c).getD (0,0)).1))
   rw [List.map_map] at this
   refine this.trans (List.Perm.of_eq (List.map_congr_left fun w hw=>?_))
   show (w.2,((getA (byC W) w.2).getD (0,0)).1)=swp w
   rw [zht_ h hw]; rfl
  ·refine List.pairwise_map.mpr ((zbq_ zbR_ (W.map (·.2))).imp fun {a b} q=>?_)
   unfold lxP
   show (if b=a then _ else _)=false
   split
   ·rename_i z; subst z; exact zbR_.irr _
   ·exact q
 unfold brd
 rw [← e,List.map_map]
 refine List.map_congr_left fun c hc=>?_
 obtain ⟨w,hw,rfl⟩:=List.mem_map.mp ((zad_ ltI (W.map (·.2))).mem_iff.mp hc)
 show _=swp (w.2,((getA (byC W) w.2).getD (0,0)).1)
 rw [zht_ h hw]; rfl
theorem zhz_ {v m:Int}(h1:1≤v) (h2:v≤m):zT_ v m=.ok true:=by
 unfold zT_ zaN_ zbj_ zbd_
 walk_at "mo"
 simp [h1,h2]
theorem zlI_ {W:List Wr}(h:WF W):zv_ W=.ok (brd W):=by
 have hl:=h.len
 unfold zv_ zaz_
 walk_at "mo"
 rw [zb9_ (fun x hx=>by
  obtain ⟨a1,a2,a3,a4⟩:=h.2 x hx
  rw [zhz_ a1 a2,zhz_ a3 a4]; rfl)]
 walk_at "mo"
 refine zaR_ (G:=fun m=>fnO (thenO m _)=_) (fun d (s:List (Int×Wr))=>s=byC d) rfl (fun d x s hx hs=>?_) (fun s hs=>?_)
 ·obtain ⟨r,hr⟩:=hx
  subst hs
  have nd:=h.1
  rw [hr,List.map_append,List.map_cons] at nd
  have hn:x.2∉d.map (·.2):=fun z=>by
   have:=(List.nodup_append.mp nd).2.2 _ z _ (List.mem_cons_self ..)
   exact this rfl
  have hd:d.length≤36:=by have:=congrArg List.length hr; simp at this; lia
  rw [zmp_ hn,ziW_ hn]
  walk_at "mo"
  rw [Mo.lim_ok (by unfold byC; rw [List.length_map]; lia)]
  exact ⟨_,rfl,rfl⟩
 ·subst hs
  have e:(byC W).map (fun x=>x.fst)=W.map (·.2):=by unfold byC; rw [List.map_map]; rfl
  rw [zeo_,e,Mo.grd_ok (by unfold byC; rw [List.length_map]; lia),Mo.okB]
  rw [zae_ (f:=fun x29=>cond1 (Mq true) (Mo.opt (getA (byC W) x29))) (g:=fun c=>(getA (byC W) c).getD (0,0)) (fun c hc=>by
   obtain ⟨w,hw,rfl⟩:=List.mem_map.mp ((zad_ ltI (W.map (·.2))).mem_iff.mp hc)
   rw [zht_ h.1 hw]; rfl) (by rw [(zad_ _ _).length_eq,List.length_map]; simp; lia)]
  rw [List.nil_append,zgy_ h.1]
  rfl
theorem zmJ_ (n:Int):z3_ n=.ok true:=rfl
abbrev Un:=List Nat ⊕ Wr
def okB (w:Wr):Bool:=decide (1≤w.1) && decide (w.1≤40) && (decide (1≤w.2) && decide (w.2≤36))
theorem okB_iff {w:Wr}:okB w=true↔okW w:=by unfold okB okW; simp [and_assoc]
def meets:List Wr→List Wr→Option (Wr×Wr)
 | _,[]=>none
 | d,x::xs=>match d.find? (fun y=>decide (y.2=x.2)) with | some y=>some (y,x) | none=>meets (d++[x]) xs
def mtX (q:Wr×Wr):Xc:=Xc.at "Meet" [("one",Av.p q.1.1 q.1.2),("other",Av.p q.2.1 q.2.2)]
theorem zgu_ {d:List Wr}{x:Wr}(h:d.find? (fun y=>decide (y.2=x.2))=none):x.2∉d.map (·.2):=fun z=>by
 obtain ⟨y,hy,e⟩:=List.mem_map.mp z
 have:=List.find?_eq_none.mp h y hy
 simp [e] at this
theorem ziP_ {d:List Wr}{x:Wr}(h:WF d) (hx:okW x) (hn:x.2∉d.map (·.2)):WF (d++[x]):=by
 refine ⟨?_,fun w hw=>?_⟩
 ·rw [List.map_append,List.map_singleton]
  refine List.nodup_append.mpr ⟨h.1,List.nodup_cons.mpr ⟨List.not_mem_nil,.nil⟩,fun a ha b hb e=>?_⟩
  obtain rfl:=List.mem_singleton.mp hb
  exact hn (e ▸ ha)
 ·rcases List.mem_append.mp hw with hw | hw
  ·exact h.2 w hw
  ·obtain rfl:=List.mem_singleton.mp hw; exact hx
theorem zbi_:∀ {xs d:List Wr},WF d→(∀ x∈xs,okW x)→meets d xs=none→WF (d++xs)
 | [],d,h,_,_=>by rw [List.append_nil]; exact h
 | x::xs,d,h,hx,e=>by
  unfold meets at e
  split at e
  ·cases e
  ·rename_i z
   have:=zbi_ (ziP_ h (hx x List.mem_cons_self) (zgu_ z)) (fun y hy=>hx y (List.mem_cons_of_mem _ hy)) e
   rwa [List.append_assoc] at this
theorem zjW_:∀ {xs d:List Wr},WF (d++xs)→meets d xs=none
 | [],d,_=>rfl
 | x::xs,d,h=>by
  unfold meets
  have:d.find? (fun y=>decide (y.2=x.2))=none:=List.find?_eq_none.mpr fun y hy=>by
   have nd:=h.1
   rw [List.map_append,List.map_cons] at nd
   have:=(List.nodup_append.mp nd).2.2 _ (List.mem_map_of_mem hy) _ (List.mem_cons_self ..)
   simp only [decide_eq_true_eq]
   exact this
  rw [this]
  exact zjW_ (by rw [List.append_assoc]; exact h)
theorem zjr_ {α ρ B:Type}{step:Unit→α→Mo (Out ρ Unit Unit)}{p:α→Bool}{e:Xc}:∀ {xs:List α},(∀ x∈xs,step () x=if p x then .ok (.nx ()) else .ex e)→forO (B:=B) step xs ()=if xs.all p then .ok (.nx ()) else .ex e
 | [],_=>rfl
 | x::xs,h=>by
  have h1:=h x List.mem_cons_self
  rw [List.all_cons]
  cases hp:p x with
  | true=>rw [hp,if_pos rfl] at h1; rw [zbL_ h1,zjr_ fun y hy=>h y (List.mem_cons_of_mem _ hy),Bool.true_and]
  | false=>rw [hp,if_neg (by decide)] at h1; rw [zbm_,h1,Bool.false_and]; rfl
theorem zeS_ {ρ B:Type}{step:List (Int×Wr)→Wr→Mo (Out ρ (List (Int×Wr)) (List (Int×Wr)))}
  (h:∀ d x,WF d→okW x→step (byC d) x=match d.find? (fun y=>decide (y.2=x.2)) with | some y=>.ex (mtX (y,x)) | none=>.ok (.nx (byC (d++[x])))) :
  ∀ {xs d:List Wr},WF d→(∀ x∈xs,okW x)→forO (B:=B) step xs (byC d)=match meets d xs with | some q=>.ex (mtX q) | none=>.ok (.nx (byC (d++xs)))
 | [],d,_,_=>by rw [List.append_nil]; rfl
 | x::xs,d,hd,hx=>by
  have h1:=h d x hd (hx x List.mem_cons_self)
  unfold meets
  cases z:d.find? (fun y=>decide (y.2=x.2)) with
  | some y=>rw [z] at h1; rw [zbm_,h1]; rfl
  | none =>
   rw [z] at h1
   rw [zbL_ h1,zeS_ h (ziP_ hd (hx x List.mem_cons_self) (zgu_ z)) (fun y hy=>hx y (List.mem_cons_of_mem _ hy)),List.append_assoc]; rfl
theorem str40 {i:Int}(h1:1≤i) (h2:i≤40):(strI i).length≤2:=by
 have:∀ n:Fin 41,(strI (n.val:Int)).length≤2:=by decide +kernel
 have:=this ⟨i.toNat,by lia⟩
 rwa [show ((⟨i.toNat,by lia⟩:Fin 41).val:Int)=i from by show (i.toNat:Int)=i; lia] at this
theorem log40 {i:Int}(h1:1≤i) (h2:i≤40):i.natAbs.log2<1920:=by
 have:=Nat.log2_le_self i.natAbs
 lia
theorem zih_ {y x:Wr}(hy:okW y) (hx:okW x):zV_ y x=.ok []:=by
 obtain ⟨a1,a2,a3,a4⟩:=hy
 obtain ⟨b1,b2,b3,b4⟩:=hx
 unfold zV_
 have s1:=str40 a1 a2; have s2:=str40 a3 (by lia); have s3:=str40 b1 b2; have s4:=str40 b3 (by lia)
 walk_at "mo"
 rw [Mo.grd_ok (by decide),Mo.okB,Mo.grd_ok ⟨log40 a1 a2,log40 a3 (by lia),by lia⟩,Mo.okB,Mo.grd_ok (by decide),Mo.okB,Mo.grd_ok ⟨log40 b1 b2,log40 b3 (by lia),by lia⟩,Mo.okB,Mo.grd_ok (by decide)]
 rfl
theorem colB (v m:Int):zT_ v m=.ok (decide (1≤v) && decide (v≤m)):=by
 unfold zT_ zaN_ zbj_ zbd_
 walk_at "mo"
 by_cases h:1≤v<;>simp [h]
theorem zjy_ (d:List Wr) (c:Int):getA (byC d) c=d.find? (fun y=>decide (y.2=c)):=by
 unfold getA byC
 rw [List.find?_map]
 cases z:d.find? ((fun q=>decide (q.fst=c))∘fun w=>(w.2,w)) with
 | none=>exact z.symm
 | some y=>exact z.symm
theorem zk9_ {W:List Wr}(h:∀ w∈W,okW w):(∃ q,meets [] W=some q∧zv_ W=.ex (mtX q))∨(meets [] W=none∧zv_ W=.ok (brd W)):=by
 have h0:WF []:=⟨.nil,fun w hw=>by cases hw⟩
 cases z:meets [] W with
 | none=>exact .inr ⟨rfl,zlI_ (zbi_ h0 h z)⟩
 | some q =>
  refine .inl ⟨q,rfl,?_⟩
  unfold zv_ zaz_
  walk_at "mo"
  rw [zb9_ (fun x hx=>by
   obtain ⟨a1,a2,a3,a4⟩:=h x hx
   rw [zhz_ a1 a2,zhz_ a3 a4]; rfl)]
  walk_at "mo"
  rw [show ([]:List (Int×Wr))=byC [] from rfl]
  rw [zeS_ (fun d x hd hx=>by
    rw [zjy_]
    cases z:d.find? (fun y=>decide (y.2=x.2)) with
    | some y =>
     walk_at "mo"
     rw [zih_ (hd.2 y (List.mem_of_find?_eq_some z)) hx]
     rfl
    | none =>
     have:=hd.len
     walk_at "mo"
     rw [ziW_ (zgu_ z),Mo.lim_ok (by unfold byC; rw [List.length_map]; lia)]) h0 h,z]
  rfl
theorem zh2_ (lo:Int) (n:Nat):rngI lo (n+1)=lo::rngI (lo+1) n:=by
 unfold rngI
 rw [List.range_succ_eq_map,List.map_cons,List.map_map]
 congr 1
 ·simp
 ·refine List.map_congr_left fun i _=>?_
  simp only [Function.comp]
  lia
theorem zks_ (W:List Wr) (k:Nat) (hk:k≤W.length):W.take k=(rngI 0 k).map (fun j=>W.getD j.toNat (0,0)):=by
 unfold rngI
 rw [List.map_map]
 refine List.ext_getElem (by simp; lia) fun i h1 h2=>?_
 have:i<k:=by simpa using h2
 simp [List.getD_eq_getElem?_getD]
 rw [List.getElem?_eq_getElem (by lia)]
 rfl
theorem zi9_ {ρ B:Type}{step:Unit→Int→Mo (Out ρ Unit Unit)}{a:Wr×Wr→ρ}{W:List Wr}
  (h:∀ (k:Nat) x,W[k]?=some x→step () (k:Int)=match (W.take k).find? (fun y=>decide (y.2=x.2)) with | some y=>.ok (.rt (a (y,x))) | none=>.ok (.nx ())) :
  ∀ {xs d:List Wr},W=d++xs→forO (B:=B) step (rngI d.length xs.length) ()=match meets d xs with | some q=>.ok (.rt (a q)) | none=>.ok (.nx ())
 | [],d,_=>rfl
 | x::xs,d,e=>by
  have h1:=h d.length x (by rw [e]; simp)
  rw [show W.take d.length=d from by rw [e]; simp] at h1
  rw [List.length_cons,zh2_]
  unfold meets
  cases z:d.find? (fun y=>decide (y.2=x.2)) with
  | some y=>rw [z] at h1; rw [zg0_ h1]
  | none =>
   rw [z] at h1
   have:=zi9_ (B:=B) h (xs:=xs) (d:=d++[x]) (by rw [e]; simp)
   rw [show (((d++[x]).length:Nat):Int)=(d.length:Int)+1 from by simp] at this
   rw [zbL_ h1,this]
theorem zep_ (l:List Nat) (h:∀ c∈l,48≤c∧c≤57):zaO_ l=.ok (numL l):=by
 unfold zaO_ zbD_
 walk_at "mo"
 rw [zdN_ (fun (s:Int) (x:List Nat)=>s*10+((x.headD 0:Nat)-48))]
 ·rw [List.foldl_map]
  rfl
 ·intro s x hx
  obtain ⟨c,hc,rfl⟩:=List.mem_map.mp hx
  rw [zkc_ (by decide) (by decide)]
  walk_at "mo"
  have:=h c hc
  rw [zgx_ this,Mo.grd_ok (by lia)]
  rfl
def dgB (c:Nat):Bool:=decide (48≤c∧c≤57)
theorem zgT_ (c:Nat):inS [c] [48,49,50,51,52,53,54,55,56,57]=dgB c:=by
 show decide (c∈[48,49,50,51,52,53,54,55,56,57])=decide (48≤c∧c≤57)
 rw [decide_eq_decide]
 simp only [List.mem_cons,List.not_mem_nil,or_false]
 omega
theorem zjz_ {t:List Nat}(h:t.all dgB=true):∀ c∈t,48≤c∧c≤57:=fun c hc=>of_decide_eq_true (List.all_eq_true.mp h c hc)
def rwS (t:List Nat):Option Int:=if t=[] then none else if t.all dgB=false then none else if t.head?=some 48∧t≠[48] then none else some (numL t)
theorem atI_0 {t:List Nat}:atI t 0=t.head?:=by
 rw [ziq_ (by decide)]; cases t<;>rfl
theorem zm2_ (t:List Nat) (h:t.length≤100000):z6_ t=.ok (rwS t):=by
 unfold z6_ zaW_ rwS
 walk_at "mo"
 by_cases c0:t=[]
 ·rw [decide_eq_true c0,if_pos c0]; rfl
 ·rw [decide_eq_false c0,if_neg c0]
  walk_at "mo"
  rw [zae_ (f:=fun x_4=>cond1 (Mq true) (Mq (inS x_4 [48,49,50,51,52,53,54,55,56,57]))) (g:=fun x=>inS x [48,49,50,51,52,53,54,55,56,57]) (fun x hx=>rfl) (by simp; lia)]
  walk_at "mo"
  have e:([]++(t.map fun c=>[c]).map fun x=>inS x [48,49,50,51,52,53,54,55,56,57]).all id=t.all dgB:=by
   rw [List.nil_append,List.map_map,List.all_map]
   congr 1
   funext c
   exact zgT_ c
  rw [e]
  cases c1:t.all dgB with
  | false=>rfl
  | true =>
   walk_at "mo"
   rw [Mo.lim_ok h,atI_0]
   obtain ⟨d,r,rfl⟩:∃ d r,t=d::r:=by cases t with | nil=>exact absurd rfl c0 | cons d r=>exact ⟨d,r,rfl⟩
   rw [zep_ _ (zjz_ c1)]
   by_cases c2:d=48
   ·subst c2
    by_cases c3:r=[]
    ·subst c3; rfl
    ·have n1:¬ (48::r:List Nat)=[48]:=fun z=>by injection z with _ z; exact c3 z
     rw [if_neg (by decide),if_pos ⟨rfl,n1⟩]
     simp only [List.head?_cons,Option.map_some,Mo.optS,Mo.okB,decide_eq_false n1]
     rfl
   ·have n1:¬ ((d::r:List Nat).head?=some 48∧(d::r:List Nat)≠[48]):=fun z=>c2 (by simpa using z.1)
    have n2:¬ ([d]:List Nat)=[48]:=fun z=>c2 (by simpa using z)
    rw [if_neg (by decide),if_neg n1]
    simp only [List.head?_cons,Option.map_some,Mo.optS,Mo.okB,decide_eq_false n2]
    rfl
def colS (t:List Nat) (m:Int):Int:=if t=[]∨2<t.length∨t.head?=some 48 then 0 else if t.all dgB=false then 0 else if m<numL t then 0 else numL t
theorem zkF_ {t:List Nat}(h0:t≠[]) (h2:¬ 2<t.length) (h:t.all dgB=true):fig2B t=true∧fig2V t=numL t:=by
 have hd:=zjz_ h
 match t with
 | []=>exact absurd rfl h0
 | [c]=>exact ⟨decide_eq_true (hd c (by simp)),show (c:Int)-48=0*10+((c:Int)-48) by lia⟩
 | [c,d]=>exact ⟨decide_eq_true ⟨hd c (by simp),hd d (by simp)⟩,show 10*((c:Int)-48)+((d:Int)-48)=(0*10+((c:Int)-48))*10+((d:Int)-48) by lia⟩
 | c::d::e::r=>simp at h2
theorem zhe_ (t:List Nat) (m:Int) (h:t.length≤100000):zP_ t m=.ok (colS t m):=by
 unfold zP_ zaX_
 walk_at "mo"
 by_cases c0:t=[]
 ·rw [decide_eq_true c0,show colS t m=0 from if_pos (.inl c0)]; rfl
 ·rw [decide_eq_false c0]
  walk_at "mo"
  rw [Mo.lim_ok h,Mo.okB]
  by_cases c1:2<t.length
  ·rw [decide_eq_true (show (2:Int)<(t.length:Int) by lia),show colS t m=0 from if_pos (.inr (.inl c1))]; rfl
  ·rw [decide_eq_false (show ¬ (2:Int)<(t.length:Int) by lia)]
   walk_at "mo"
   rw [Mo.lim_ok h,atI_0]
   obtain ⟨d,r,rfl⟩:∃ d r,t=d::r:=by cases t with | nil=>exact absurd rfl c0 | cons d r=>exact ⟨d,r,rfl⟩
   simp only [List.head?_cons,Option.map_some,Mo.optS,Mo.okB]
   by_cases c2:d=48
   ·rw [decide_eq_true (by rw [c2]),show colS (d::r) m=0 from if_pos (.inr (.inr (by rw [c2]; rfl)))]; rfl
   ·have n2:¬ ([d]:List Nat)=[48]:=fun z=>c2 (by simpa using z)
    have n3:¬ ((d::r:List Nat)=[]∨2<(d::r).length∨(d::r).head?=some 48):=fun z=>by
     rcases z with z | z | z
     ·exact c0 z
     ·exact c1 z
     ·exact c2 (by simpa using z)
    rw [decide_eq_false n2]
    walk_at "mo"
    cases c3:(d::r).all dgB with
    | false =>
     obtain ⟨x,hx,hb⟩:=List.all_eq_false.mp c3
     have e:colS (d::r) m=0:=by unfold colS; rw [if_neg n3,if_pos c3]
     rw [e,zdm_ (p:=fun x:List Nat=>!inS x [48,49,50,51,52,53,54,55,56,57]) (a:=fun _=>(0:Int)) (fun x hx=>by cases inS x [48,49,50,51,52,53,54,55,56,57]<;>rfl)]
     cases z:((d::r).map fun c=>[c]).find? (fun x:List Nat=>!inS x [48,49,50,51,52,53,54,55,56,57]) with
     | some y=>rfl
     | none =>
      have:=List.find?_eq_none.mp z [x] (List.mem_map_of_mem hx)
      rw [zgT_] at this
      simp [hb] at this
    | true =>
     have c5:¬ (d::r).all dgB=false:=fun z=>by rw [c3] at z; cases z
     rw [zb9_ (fun x hx=>by
      obtain ⟨c,hc,rfl⟩:=List.mem_map.mp hx
      rw [zgT_,List.all_eq_true.mp c3 c hc]; rfl)]
     obtain ⟨f1,f2⟩:=zkF_ (List.cons_ne_nil d r) c1 c3
     walk_at "mo"
     rw [Mo.grd_ok f1,Mo.okB,f2]
     by_cases c4:m<numL (d::r)
     ·rw [decide_eq_true c4,show colS (d::r) m=0 from by unfold colS; rw [if_neg n3,if_neg c5,if_pos c4]]; rfl
     ·rw [decide_eq_false c4,show colS (d::r) m=numL (d::r) from by unfold colS; rw [if_neg n3,if_neg c5,if_neg c4]]
      rfl
theorem zgs_:∀ (r:List Nat) (s:Int),(∀ c∈r,48≤c∧c≤57)→1≤s→s≤r.foldl (fun (v:Int) (c:Nat)=>v*10+((c:Int)-48)) s
 | [],s,_,_=>Int.le_refl _
 | c::r,s,h,hs=>by
  have hc:=h c (by simp)
  have:=zgs_ r (s*10+((c:Int)-48)) (fun d hd=>h d (List.mem_cons_of_mem _ hd)) (by lia)
  rw [List.foldl_cons]
  lia
theorem zjO_ {d:Nat}{r:List Nat}(c3:(d::r).all dgB=true) (h:¬ ((d::r).head?=some 48∧(d::r:List Nat)≠[48])):rwS (d::r)=some (numL (d::r)):=by
 unfold rwS
 rw [if_neg (List.cons_ne_nil d r),if_neg (fun z=>by rw [c3] at z; cases z),if_neg h]
theorem zgp_ {d:Nat}{r:List Nat}(h:(d::r).all dgB=false∨((d::r).head?=some 48∧(d::r:List Nat)≠[48])):rwS (d::r)=none:=by
 unfold rwS
 rw [if_neg (List.cons_ne_nil d r)]
 by_cases c:(d::r).all dgB=false
 ·rw [if_pos c]
 ·rw [if_neg c,if_pos (h.resolve_left c)]
theorem zg8_ {t:List Nat}{m:Int}(h:(t=[]∨2<t.length∨t.head?=some 48)∨t.all dgB=false∨m<numL t):colS t m=0:=by
 unfold colS
 by_cases c1:t=[]∨2<t.length∨t.head?=some 48
 ·rw [if_pos c1]
 ·rw [if_neg c1]
  by_cases c2:t.all dgB=false
  ·rw [if_pos c2]
  ·rw [if_neg c2,if_pos ((h.resolve_left c1).resolve_left c2)]
theorem zhX_ (t:List Nat) {m:Int}(h0:0<m) (h1:m<100):colS t m=match rwS t with | some v=>if 1≤v∧v≤m then v else 0 | none=>0:=by
 match t with
 | []=>rfl
 | d::r =>
  cases c3:(d::r).all dgB with
  | false=>rw [zg8_ (.inr (.inl c3)),zgp_ (.inl c3)]
  | true =>
   have hd:=zjz_ c3
   have hd0:=hd d (by simp)
   by_cases c2:d=48
   ·subst c2
    rw [zg8_ (.inl (.inr (.inr rfl)))]
    by_cases c4:r=[]
    ·subst c4; rfl
    ·rw [zgp_ (.inr ⟨rfl,fun z=>c4 (by injection z)⟩)]
   ·have n1:¬ (d::r).head?=some 48:=fun z=>c2 (by simpa using z)
    rw [zjO_ c3 (fun z=>n1 z.1)]
    have e:numL (d::r)=r.foldl (fun (v:Int) (c:Nat)=>v*10+((c:Int)-48)) ((d:Int)-48):=by
     show r.foldl _ (0*10+((d:Int)-48))=_
     rw [show (0:Int)*10+((d:Int)-48)=(d:Int)-48 by lia]
    have g1:1≤numL (d::r):=by
     rw [e]
     have:=zgs_ r ((d:Int)-48) (fun c hc=>hd c (List.mem_cons_of_mem _ hc)) (by lia)
     lia
    show colS (d::r) m=if 1≤numL (d::r)∧numL (d::r)≤m then numL (d::r) else 0
    by_cases c1:2<(d::r).length
    ·have:100≤numL (d::r):=by
      match r with
      | []=>simp at c1
      | [_]=>simp at c1
      | a::b::r =>
       have ha:=hd a (by simp)
       have hb:=hd b (by simp)
       rw [e]
       have:=zgs_ r ((((d:Int)-48)*10+((a:Int)-48))*10+((b:Int)-48)) (fun c hc=>hd c (by simp [hc])) (by lia)
       show 100≤r.foldl _ ((((d:Int)-48)*10+((a:Int)-48))*10+((b:Int)-48))
       lia
     rw [zg8_ (.inl (.inr (.inl c1))),if_neg (by lia)]
    ·by_cases c4:m<numL (d::r)
     ·rw [zg8_ (.inr (.inr c4)),if_neg (by lia)]
     ·have n3:¬ ((d::r:List Nat)=[]∨2<(d::r).length∨(d::r).head?=some 48):=fun z=>by
       rcases z with z | z | z
       ·cases z
       ·exact c1 z
       ·exact n1 z
      rw [if_pos ⟨g1,by lia⟩]
      unfold colS
      rw [if_neg n3,if_neg (fun z=>by rw [c3] at z; cases z),if_neg c4]
def spanS (t:List Nat) (m:Int):Option (Int×Int):=match (splitC 45 t).map rwS with
 | [some a]=>if 1≤a∧a≤m then some (a,a) else none
 | [some a,some b]=>if a<b∧1≤a∧b≤m then some (a,b) else none
 | _=>none
def TxOk (t:List Nat):Prop:=t.length≤9000∧∀ c∈t,c<1000
theorem za6_ (c:Nat):∀ (l p:List Nat),p∈splitC c l→p.length≤l.length∧∀ x∈p,x∈l
 | [],p,h=>by obtain rfl:=List.mem_singleton.mp h; exact ⟨Nat.le_refl _,fun x hx=>hx⟩
 | d::r,p,h=>by
  unfold splitC at h
  split at h
  ·rcases List.mem_cons.mp h with rfl | h
   ·exact ⟨Nat.zero_le _,fun x hx=>by cases hx⟩
   ·obtain ⟨a,b⟩:=za6_ c r p h
    exact ⟨by rw [List.length_cons]; lia,fun x hx=>List.mem_cons_of_mem _ (b x hx)⟩
  ·split at h
   ·rename_i q qs e
    rcases List.mem_cons.mp h with rfl | h
    ·obtain ⟨a,b⟩:=za6_ c r q (by rw [e]; exact List.mem_cons_self ..)
     exact ⟨by rw [List.length_cons,List.length_cons]; lia,fun x hx=>by
      rcases List.mem_cons.mp hx with rfl | hx
      ·exact List.mem_cons_self ..
      ·exact List.mem_cons_of_mem _ (b x hx)⟩
    ·obtain ⟨a,b⟩:=za6_ c r p (by rw [e]; exact List.mem_cons_of_mem _ h)
     exact ⟨by rw [List.length_cons]; lia,fun x hx=>List.mem_cons_of_mem _ (b x hx)⟩
   ·rename_i e
    exact absurd e (zdi_ c r)
theorem zdV_ (c:Nat):∀ l:List Nat,(splitC c l).length≤l.length+1
 | []=>Nat.le_refl _
 | d::r=>by
  have ih:=zdV_ c r
  unfold splitC
  split
  ·rw [List.length_cons,List.length_cons]; lia
  ·split
   ·rename_i q qs e; rw [e] at ih; rw [List.length_cons] at ih ⊢; rw [List.length_cons]; lia
   ·simp
theorem splitG1 (c:Nat) (l:List Nat):splitG [c] l=splitC c l:=by
 have:=zfI_ ⟨l.toArray⟩ c
 exact this
theorem TxOk.part {t p:List Nat}{c:Nat}(h:TxOk t) (hp:p∈splitC c t):TxOk p:=by
 obtain ⟨a,b⟩:=za6_ c t p hp
 exact ⟨by have:=h.1; lia,fun x hx=>h.2 x (b x hx)⟩
theorem zf7_ {t:List Nat}(h:TxOk t) (m:Int):zal_ t m=match spanS t m with | some q=>.ok (some q.1,some q.2) | none=>.ex (Xc.pl "NoBoard"):=by
 unfold zal_ zbB_
 have hl:=h.1
 have h2:=h.2
 have hsl:=zdV_ 45 t
 walk_at "mo"
 rw [Mo.grd_ok ⟨by lia,by decide⟩,splitG1,Mo.okB]
 rw [zae_ (f:=fun x_4=>cond1 (Mq true) (z6_ x_4).noex) (g:=rwS) (fun x hx=>by rw [zm2_ x (by have:=(h.part hx).1; lia)]; rfl) (by simp; lia)]
 rw [List.nil_append]
 have hz:t.length≤9000∧∀ c∈t,c<1000:=h
 simp only [Mo.grd_ok hz,Mo.okB,List.length_cons (α:=Nat),List.length_nil (α:=Nat),Nat.reduceAdd,Nat.reduceLeDiff,zmO_,Mo.exB]
 unfold spanS
 have ne:(splitC 45 t).map rwS≠[]:=fun z=>zdi_ 45 t (List.map_eq_nil_iff.mp z)
 generalize (splitC 45 t).map rwS=cs at ne
 match cs with
 | []=>exact absurd rfl ne
 | [none]=>rfl
 | [some a] =>
  rw [show atI [some a] 0=some (some a) from rfl,show atI [some a] (-1)=some (some a) from rfl,show ([some a].any fun y=>decide (y=none))=false from rfl]
  simp only [Mo.optS,Mo.okB,List.length_cons,List.length_nil]
  by_cases c1:1≤a
  ·by_cases c2:a≤m
   ·rw [if_pos (c:=1≤a∧a≤m) ⟨c1,c2⟩,decide_eq_false (show ¬ a<1 by lia),decide_eq_false (show ¬ m<a by lia)]; rfl
   ·rw [if_neg (c:=1≤a∧a≤m) (fun z=>c2 z.2),decide_eq_false (show ¬ a<1 by lia),decide_eq_true (show m<a by lia)]; rfl
  ·rw [if_neg (c:=1≤a∧a≤m) (fun z=>c1 z.1),decide_eq_true (show a<1 by lia)]; rfl
 | [none,_]=>rfl
 | [some a,none]=>rfl
 | [some a,some b] =>
  rw [show atI [some a,some b] 0=some (some a) from rfl,show atI [some a,some b] 1=some (some b) from rfl,show atI [some a,some b] (-1)=some (some b) from rfl,show ([some a,some b].any fun y=>decide (y=none))=false from rfl]
  simp only [Mo.optS,Mo.okB,List.length_cons,List.length_nil]
  by_cases c0:a<b
  ·rw [decide_eq_false (show ¬ b≤a by lia)]
   by_cases c1:1≤a
   ·by_cases c2:b≤m
    ·rw [if_pos (c:=a<b∧1≤a∧b≤m) ⟨c0,c1,c2⟩,decide_eq_false (show ¬ a<1 by lia),decide_eq_false (show ¬ m<b by lia)]; rfl
    ·rw [if_neg (c:=a<b∧1≤a∧b≤m) (fun z=>c2 z.2.2),decide_eq_false (show ¬ a<1 by lia),decide_eq_true (show m<b by lia)]; rfl
   ·rw [if_neg (c:=a<b∧1≤a∧b≤m) (fun z=>c1 z.2.1),decide_eq_true (show a<1 by lia)]; rfl
  ·rw [if_neg (c:=a<b∧1≤a∧b≤m) (fun z=>c0 z.1),decide_eq_true (show b≤a by lia)]; rfl
 | x::y::z::r =>
  have e:decide ((2:Int)<((x::y::z::r).length:Int))=true:=decide_eq_true (by simp only [List.length_cons]; lia)
  rw [e]
  generalize ((x::y::z::r).any fun y=>decide (y=none))=b
  cases b<;>cases x<;>cases y<;>rfl
theorem ziy_ (t:List Nat) {m:Int}(h0:0<m) (h1:m<100):0≤colS t m∧colS t m≤m:=by
 rw [zhX_ t h0 h1]
 cases rwS t with
 | none=>exact ⟨Int.le_refl _,show (0:Int)≤m by lia⟩
 | some v=>show 0≤(if 1≤v∧v≤m then v else 0)∧(if 1≤v∧v≤m then v else 0)≤m; split<;>lia
theorem zhN_ {t:List Nat}{m:Int}(h:(45:Nat)∈t):colS t m=0:=zg8_ (.inr (.inl (List.all_eq_false.mpr ⟨45,h,by decide⟩)))
theorem zgW_:∀ {t:List Nat}{i:Nat},t.findIdx? (· == 45)=some i→t=t.take i++45::t.drop (i+1)∧(45:Nat)∉t.take i∧i<t.length:=fun {t i} h=>by
 obtain ⟨h1,h2,h3⟩:=List.findIdx?_eq_some_iff_getElem.mp h
 refine ⟨?_,fun z=>?_,h1⟩
 ·have:=(List.take_append_drop i t).symm
  rw [List.drop_eq_getElem_cons h1,show t[i]=45 from by simpa using h2] at this
  exact this
 ·obtain ⟨j,hj,e⟩:=List.getElem_of_mem z
  have hji:j<i:=by simp at hj; lia
  have:=h3 j hji
  rw [List.getElem_take] at e
  simp [e] at this
theorem zio_ {t:List Nat}(h:(45:Nat)∈t):∃ p q r,splitC 45 t=p::q::r:=by
 cases e:t.findIdx? (· == 45) with
 | none=>have:=List.findIdx?_eq_none_iff.mp e 45 h; simp at this
 | some i =>
  obtain ⟨et,hn,hi⟩:=zgW_ e
  rw [et,zaL_ 45 _ _ hn]
  cases e2:splitC 45 (t.drop (i+1)) with
  | nil=>exact absurd e2 (zdi_ 45 _)
  | cons q r=>exact ⟨_,q,r,rfl⟩
theorem ziG_ {t:List Nat}(h:TxOk t) {m:Int}(h0:0<m) (h1:m<100):∃ a b,zaF_ t m=.ok [a,b]∧(spanS t m=some (a,b)∧1≤a∧a≤b∧b≤m∨spanS t m=none∧a=0):=by
 have hl:=h.1
 unfold zaF_ zbZ_
 walk_at "mo"
 rw [zge_]
 cases e:t.findIdx? (· == 45) with
 | none =>
  have hn:(45:Nat)∉t:=fun z=>by have:=List.findIdx?_eq_none_iff.mp e 45 z; simp at this
  walk_at "mo"
  rw [zhe_ t m (by lia)]
  refine ⟨colS t m,colS t m,rfl,?_⟩
  unfold spanS
  rw [zak_ 45 t hn,zhX_ t h0 h1,List.map_cons,List.map_nil]
  cases rwS t with
  | none=>exact .inr ⟨rfl,rfl⟩
  | some v =>
   have ex:(match some v with | some v=>if 1≤v∧v≤m then v else 0 | none=>(0:Int))=if 1≤v∧v≤m then v else 0:=rfl
   rw [ex]
   show (if 1≤v∧v≤m then some (v,v) else none)=some _∧_∨(if 1≤v∧v≤m then some (v,v) else none)=none∧_
   by_cases c:1≤v∧v≤m
   ·rw [if_pos c,if_pos c]; exact .inl ⟨rfl,c.1,Int.le_refl _,c.2⟩
   ·rw [if_neg c,if_neg c]; exact .inr ⟨rfl,rfl⟩
 | some i =>
  obtain ⟨et,hn,hi⟩:=zgW_ e
  show ∃ a b,fnO (thenO (if decide ((i:Int)<0)=true then _ else _) _)=_∧_
  rw [decide_eq_false (show ¬ (i:Int)<0 by lia)]
  walk_at "mo"
  rw [Mo.lim_ok (by lia),Mo.lim_ok (by lia),zix_ (by lia),zbU_ (by lia),show ((i:Int)+1).toNat=i+1 by lia,Int.toNat_natCast]
  walk_at "mo"
  rw [zhe_ _ m (by rw [List.length_take]; lia),zhe_ _ m (by rw [List.length_drop]; lia)]
  walk_at "mo"
  obtain ⟨p0,p1⟩:=ziy_ (t.take i) h0 h1
  obtain ⟨q0,q1⟩:=ziy_ (t.drop (i+1)) h0 h1
  generalize hx:colS (t.take i) m=x at p0 p1
  generalize hy:colS (t.drop (i+1)) m=y at q0 q1
  rw [show atI [x,y] 0=some x from rfl,show atI [x,y] 1=some y from rfl]
  walk_at "mo"
  have sp:x<y→1≤x→spanS t m=some (x,y):=fun a b=>by
   unfold spanS
   have nd:(45:Nat)∉t.drop (i+1):=fun z=>by rw [zhN_ z] at hy; lia
   rw [et,zaL_ 45 _ _ hn,zak_ 45 _ nd]
   rw [zhX_ _ h0 h1] at hx hy
   rw [List.map_cons,List.map_cons,List.map_nil]
   cases e1:rwS (t.take i) with
   | none=>rw [e1] at hx; simp at hx; lia
   | some v =>
    rw [e1] at hx
    have hx:(if 1≤v∧v≤m then v else 0)=x:=hx
    cases e2:rwS (t.drop (i+1)) with
    | none=>rw [e2] at hy; simp at hy; lia
    | some w =>
     rw [e2] at hy
     have hy:(if 1≤w∧w≤m then w else 0)=y:=hy
     by_cases c1:1≤v∧v≤m
     ·rw [if_pos c1] at hx
      by_cases c2:1≤w∧w≤m
      ·rw [if_pos c2] at hy; subst hx; subst hy; exact if_pos ⟨a,b,c2.2⟩
      ·rw [if_neg c2] at hy; lia
     ·rw [if_neg c1] at hx; lia
  have sn:¬ (x<y∧1≤x)→spanS t m=none:=fun a=>by
   unfold spanS
   rw [et,zaL_ 45 _ _ hn]
   by_cases nd:(45:Nat)∈t.drop (i+1)
   ·obtain ⟨p,q,rr,e2⟩:=zio_ nd
    rw [e2,List.map_cons,List.map_cons,List.map_cons]
    cases rwS (t.take i)<;>cases rwS p<;>rfl
   ·rw [zak_ 45 _ nd,List.map_cons,List.map_cons,List.map_nil]
    rw [zhX_ _ h0 h1] at hx hy
    cases e1:rwS (t.take i) with
    | none=>rfl
    | some v =>
     rw [e1] at hx
     have hx:(if 1≤v∧v≤m then v else 0)=x:=hx
     cases e2:rwS (t.drop (i+1)) with
     | none=>rfl
     | some w =>
      rw [e2] at hy
      have hy:(if 1≤w∧w≤m then w else 0)=y:=hy
      refine if_neg fun z=>a ?_
      rw [if_pos (by lia)] at hx hy
      lia
  by_cases c:y≤x
  ·rw [decide_eq_true c]
   exact ⟨0,0,rfl,.inr ⟨sn (by lia),rfl⟩⟩
  ·rw [decide_eq_false c]
   refine ⟨x,y,rfl,?_⟩
   by_cases c1:1≤x
   ·exact .inl ⟨sp (by lia) c1,c1,by lia,q1⟩
   ·exact .inr ⟨sn (by lia),by lia⟩
def runW (h t:Int×Int):List Wr:=(rngI 0 (h.2-h.1+1).toNat).map fun k=>(h.1+k,t.1+k)
def pieceS (p:List Nat):Option (List Wr):=match splitC 62 p with
 | [x,y]=>match spanS x 40,spanS y 36 with
  | some h,some t=>if h.2-h.1=t.2-t.1 then some (runW h t) else none
  | _,_=>none
 | _=>none
theorem zeT_ {t:List Nat}{m:Int}{q:Int×Int}(h:spanS t m=some q):1≤q.1∧q.1≤q.2∧q.2≤m:=by
 unfold spanS at h
 split at h
 ·split at h
  ·cases h; rename_i c; exact ⟨c.1,Int.le_refl _,c.2⟩
  ·cases h
 ·split at h
  ·cases h; rename_i c; exact ⟨c.2.1,by show _≤_; lia,c.2.2⟩
  ·cases h
 ·cases h
theorem zmN_ {h t:Int×Int}(h1:1≤h.1∧h.1≤h.2∧h.2≤40) (h2:1≤t.1∧t.1≤t.2∧t.2≤36) (e:h.2-h.1=t.2-t.1):(∀ w∈runW h t,okW w)∧(runW h t).length≤40:=by
 refine ⟨fun w hw=>?_,by unfold runW; rw [List.length_map,zaI_]; lia⟩
 unfold runW at hw
 obtain ⟨k,hk,rfl⟩:=List.mem_map.mp hw
 obtain ⟨a,b⟩:=zb7_.mp hk
 exact ⟨by show 1≤h.1+k; lia,by show h.1+k≤40; lia,by show 1≤t.1+k; lia,by show t.1+k≤36; lia⟩
theorem zeL_ {p:List Nat}{ws:List Wr}(h:pieceS p=some ws):(∀ w∈ws,okW w)∧ws.length≤40:=by
 unfold pieceS at h
 split at h
 ·split at h
  ·rename_i q1 q2 e1 e2
   split at h
   ·cases h; rename_i c; exact zmN_ (zeT_ e1) (zeT_ e2) c
   ·cases h
  ·cases h
 ·cases h
theorem zjB_ {p:List Nat}(h:TxOk p):zaw_ p=match pieceS p with | some ws=>.ok ws | none=>.ex (Xc.pl "NoBoard"):=by
 have hl:=h.1
 unfold zaw_ za2_
 walk_at "mo"
 rw [Mo.grd_ok ⟨by lia,by decide⟩,splitG1,Mo.okB]
 have hz:p.length≤9000∧∀ c∈p,c<1000:=h
 simp only [Mo.grd_ok hz,Mo.okB,List.length_cons (α:=Nat),List.length_nil (α:=Nat),Nat.reduceAdd,Nat.reduceLeDiff,zmO_,Mo.exB]
 have hm:∀ q∈splitC 62 p,TxOk q:=fun q hq=>h.part hq
 unfold pieceS
 generalize splitC 62 p=qs at hm
 match qs with
 | []=>rfl
 | [x]=>rfl
 | x::y::z::r =>
  rw [decide_eq_false (show ¬ (((x::y::z::r).length:Nat):Int)=2 by simp only [List.length_cons]; lia)]; rfl
 | [x,y] =>
  rw [show (([x,y].length:Nat):Int)=2 from rfl,decide_eq_true rfl,show atI [x,y] 0=some x from rfl,show atI [x,y] 1=some y from rfl]
  walk_at "mo"
  rw [zf7_ (hm x (by simp)),zf7_ (hm y (by simp))]
  cases e1:spanS x 40 with
  | none=>rfl
  | some a =>
   cases e2:spanS y 36 with
   | none=>rfl
   | some b =>
    obtain ⟨a1,a2,a3⟩:=zeT_ e1
    obtain ⟨b1,b2,b3⟩:=zeT_ e2
    walk_at "mo"
    by_cases c:a.2-a.1=b.2-b.1
    ·rw [decide_eq_true c]
     walk_at "mo"
     rw [Mo.grd_ok ⟨by lia,by lia⟩]
     walk_at "mo"
     rw [zae_ (f:=fun x50=>cond1 (Mq true) (Mq (a.fst+x50,b.fst+x50))) (g:=fun k:Int=>(a.1+k,b.1+k)) (fun x hx=>rfl) (by rw [zaI_]; simp; lia),if_pos c]
     rfl
    ·rw [decide_eq_false c]
     show _=(match (if a.2-a.1=b.2-b.1 then some (runW a b) else none) with | some ws=>Mq ws | none=>Mo.ex (Xc.pl "NoBoard"))
     rw [if_neg c]; rfl
def piecesS:List (List Nat)→Option (List Wr)
 | []=>some []
 | p::r=>match pieceS p with
  | none=>none
  | some ws=>match piecesS r with | none=>none | some vs=>some (ws++vs)
theorem zeR_:∀ {ps:List (List Nat)}{W:List Wr},piecesS ps=some W→(∀ w∈W,okW w)∧W.length≤40*ps.length
 | [],W,h=>by cases h; exact ⟨fun w hw=>(by cases hw),Nat.le_refl _⟩
 | p::r,W,h=>by
  unfold piecesS at h
  split at h
  ·cases h
  ·rename_i ws e
   split at h
   ·cases h
   ·rename_i vs e2
    cases h
    obtain ⟨a,b⟩:=zeL_ e
    obtain ⟨c,d⟩:=zeR_ e2
    refine ⟨fun w hw=>?_,by rw [List.length_append,List.length_cons]; lia⟩
    rcases List.mem_append.mp hw with hw | hw
    ·exact a w hw
    ·exact c w hw
theorem zbu_ {ρ B:Type}{step:List Wr→List Nat→Mo (Out ρ (List Wr) (List Wr))}{no:Mo (Out ρ B (List Wr))}{bad:Mo (Out ρ (List Wr) (List Wr))}(hb:∀ k:Out ρ (List Wr) (List Wr)→Mo (Out ρ B (List Wr)),(∀ a,k (.rt a)=.ok (.rt a))→bad.bind k=no) :
  ∀ {ps:List (List Nat)}{s:List Wr},(∀ p∈ps,∀ s:List Wr,s.length≤99960→step s p=match pieceS p with | some ws=>.ok (.nx (s++ws)) | none=>bad)→s.length+40*ps.length≤99960→forO (B:=B) step ps s=match piecesS ps with | some W=>.ok (.nx (s++W)) | none=>no
 | [],s,_,_=>by rw [zgM_]; show _=Mq (Out.nx (s++[])); rw [List.append_nil]
 | p::r,s,h,hl=>by
  rw [List.length_cons] at hl
  have h1:=h p List.mem_cons_self s (by lia)
  unfold piecesS
  cases e:pieceS p with
  | none =>
   rw [e] at h1
   have h1:step s p=bad:=h1
   rw [zbm_,h1]
   exact hb _ fun a=>rfl
  | some ws =>
   rw [e] at h1
   have:=(zeL_ e).2
   rw [zbL_ h1,zbu_ hb (fun q hq=>h q (List.mem_cons_of_mem _ hq)) (by rw [List.length_append]; lia)]
   cases piecesS r with
   | none=>rfl
   | some vs=>show Mq (Out.nx (s++ws++vs))=Mq (Out.nx (s++(ws++vs))); rw [List.append_assoc]
theorem zed_ (sep l:List Nat):joinL sep (splitG sep l)=l:=by
 have hj:=StrLaws.join_split ⟨l.toArray⟩ ⟨sep.toArray⟩
 have h1:=zbz_ ⟨sep.toArray⟩ (Txt.split ⟨l.toArray⟩ ⟨sep.toArray⟩)
 rw [hj] at h1
 exact h1.symm
theorem zfb_ (sep:List Nat):∀ (ps:List (List Nat)) (p:List Nat),p∈ps→p.length≤(joinL sep ps).length∧∀ x∈p,x∈joinL sep ps
 | [],p,h=>by cases h
 | [q],p,h=>by obtain rfl:=List.mem_singleton.mp h; exact ⟨Nat.le_refl _,fun x hx=>hx⟩
 | q::q2::r,p,h=>by
  show p.length≤(q++sep++joinL sep (q2::r)).length∧∀ x∈p,x∈q++sep++joinL sep (q2::r)
  rcases List.mem_cons.mp h with rfl | h
  ·exact ⟨by simp only [List.length_append]; lia,fun x hx=>by simp [hx]⟩
  ·obtain ⟨a,b⟩:=zfb_ sep (q2::r) p h
   exact ⟨by simp only [List.length_append]; lia,fun x hx=>by simp [b x hx]⟩
theorem zff_ (sep:List Nat):∀ (ps:List (List Nat)),(ps.length-1)*sep.length≤(joinL sep ps).length
 | []=>by simp
 | [q]=>by simp
 | q::q2::r=>by
  have ih:=zff_ sep (q2::r)
  show _≤(q++sep++joinL sep (q2::r)).length
  rw [List.length_append,List.length_append]
  simp only [List.length_cons,Nat.add_sub_cancel] at ih ⊢
  rw [Nat.add_mul,Nat.one_mul]; lia
def TxS (t:List Nat):Prop:=t.length≤4000∧∀ c∈t,c<1000
theorem zdh_ {t:List Nat}(h:TxS t):(∀ p∈splitG [44,32] t,TxOk p)∧(splitG [44,32] t).length≤2001:=by
 have e:=zed_ [44,32] t
 refine ⟨fun p hp=>?_,?_⟩
 ·obtain ⟨a,b⟩:=zfb_ [44,32] _ p hp
  rw [e] at a b
  exact ⟨by have:=h.1; lia,fun x hx=>h.2 x (b x hx)⟩
 ·have:=zff_ [44,32] (splitG [44,32] t)
  rw [e] at this
  have h1:=h.1
  rw [show ([44,32]:List Nat).length=2 from rfl] at this
  lia
def readS (t:List Nat):Option (List Wr):=if t=[] then some [] else piecesS (splitG [44,32] t)
theorem zjb_ {t:List Nat}(h:TxS t):zax_ t=match readS t with | none=>.ex (Xc.pl "NoBoard") | some W=>if t=[] then .ok [] else zv_ W:=by
 obtain ⟨h1,h2⟩:=zdh_ h
 unfold zax_ zaZ_ readS
 walk_at "mo"
 by_cases c:t=[]
 ·rw [decide_eq_true c,if_pos c]
  show _=if t=[] then _ else _
  rw [if_pos c]; rfl
 ·rw [decide_eq_false c,if_neg c]
  walk_at "mo"
  rw [Mo.grd_ok ⟨by have:=h.1; lia,by decide⟩]
  walk_at "mo"
  rw [zbu_ (B:=Unit) (bad:=.ex (Xc.pl "NoBoard")) (no:=.ex (Xc.pl "NoBoard")) (fun k _=>rfl) (fun p hp s hs=>by
   rw [zjB_ (h1 p hp)]
   cases e:pieceS p with
   | none=>rfl
   | some ws =>
    have:=(zeL_ e).2
    walk_at "mo"
    rw [Mo.lim_ok (by lia)]) (by simp; lia)]
  cases piecesS (splitG [44,32] t) with
  | none=>rfl
  | some W =>
   show _=if t=[] then _ else _
   rw [if_neg c]
   show fnO ((zv_ ([]++W)).bind fun r_5=>Mq (Out.rt r_5))=_
   rw [List.nil_append]
   cases zv_ W<;>rfl
theorem zkP_ {t:List Nat}(h:TxS t):za9_ t=.ok (readS t):=by
 obtain ⟨h1,h2⟩:=zdh_ h
 unfold za9_ zcr_ readS
 walk_at "mo"
 by_cases c:t=[]
 ·rw [decide_eq_true c,if_pos c]; rfl
 ·rw [decide_eq_false c,if_neg c]
  walk_at "mo"
  rw [Mo.grd_ok ⟨by have:=h.1; lia,by decide⟩]
  walk_at "mo"
  rw [zbu_ (B:=Unit) (bad:=.ok (.rt none)) (no:=.ok (.rt none)) (fun k hk=>hk none) (fun p hp s hs=>by
   have hpt:=h1 p hp
   have hpl:=hpt.1
   rw [Mo.grd_ok ⟨by lia,by decide⟩,splitG1]
   walk_at "mo"
   have hm:∀ q∈splitC 62 p,TxOk q:=fun q hq=>hpt.part hq
   unfold pieceS
   generalize splitC 62 p=qs at hm
   match qs with
   | []=>rfl
   | [x]=>rfl
   | x::y::z::r =>
    rw [decide_eq_false (show ¬ (((x::y::z::r).length:Nat):Int)=2 by simp only [List.length_cons]; lia)]; rfl
   | [x,y] =>
    rw [show (([x,y].length:Nat):Int)=2 from rfl,decide_eq_true rfl,show atI [x,y] 0=some x from rfl,show atI [x,y] 1=some y from rfl]
    walk_at "mo"
    obtain ⟨a,a',ea,ha⟩:=ziG_ (hm x (by simp)) (m:=40) (by decide) (by decide)
    obtain ⟨b,b',eb,hb⟩:=ziG_ (hm y (by simp)) (m:=36) (by decide) (by decide)
    rw [ea,eb]
    walk_at "mo"
    rw [show atI [a,a'] 0=some a from rfl,show atI [b,b'] 0=some b from rfl,show atI [a,a'] 1=some a' from rfl,show atI [b,b'] 1=some b' from rfl]
    walk_at "mo"
    rcases ha with ⟨sa,a1,a2,a3⟩ | ⟨sa,a0⟩
    ·rcases hb with ⟨sb,b1,b2,b3⟩ | ⟨sb,b0⟩
     ·show _=(match (match spanS x 40,spanS y 36 with | some h,some t=>if h.2-h.1=t.2-t.1 then some (runW h t) else none | _,_=>none) with | some ws=>Mq (Out.nx (s++ws)) | none=>Mq (Out.rt none))
      rw [sa,sb,decide_eq_false (show ¬ a=0 by lia),decide_eq_false (show ¬ b=0 by lia)]
      walk_at "mo"
      by_cases cw:a'-a=b'-b
      ·rw [decide_eq_true cw]
       walk_at "mo"
       rw [Mo.grd_ok ⟨by lia,by lia⟩]
       walk_at "mo"
       rw [zae_ (f:=fun x70=>cond1 (Mq true) (Mq (a+x70,b+x70))) (g:=fun k:Int=>(a+k,b+k)) (fun x hx=>rfl) (by rw [zaI_]; simp; lia)]
       have ln:([]++(rngI 0 (a'-a+1).toNat).map fun k:Int=>(a+k,b+k)).length≤40:=by rw [List.nil_append,List.length_map,zaI_]; lia
       walk_at "mo"
       rw [Mo.lim_ok (by lia),List.nil_append]
       show _=(match (if a'-a=b'-b then some (runW (a,a') (b,b')) else none) with | some ws=>Mq (Out.nx (s++ws)) | none=>Mq (Out.rt none))
       rw [if_pos cw]
       rfl
      ·rw [decide_eq_false cw]
       show _=(match (if a'-a=b'-b then some (runW (a,a') (b,b')) else none) with | some ws=>Mq (Out.nx (s++ws)) | none=>Mq (Out.rt none))
       rw [if_neg cw]
       rfl
     ·show _=(match (match spanS x 40,spanS y 36 with | some h,some t=>if h.2-h.1=t.2-t.1 then some (runW h t) else none | _,_=>none) with | some ws=>Mq (Out.nx (s++ws)) | none=>Mq (Out.rt none))
      rw [sa,sb,decide_eq_false (show ¬ a=0 by lia),decide_eq_true b0]
      rfl
    ·show _=(match (match spanS x 40,spanS y 36 with | some h,some t=>if h.2-h.1=t.2-t.1 then some (runW h t) else none | _,_=>none) with | some ws=>Mq (Out.nx (s++ws)) | none=>Mq (Out.rt none))
     rw [sa,decide_eq_true a0]
     rfl) (by simp; lia)]
  cases piecesS (splitG [44,32] t) with
  | none=>rfl
  | some W=>show fnO (Mq (Out.rt (some ([]++W))))=_; rw [List.nil_append]; rfl
def dueT (t:List Nat):List Un:=match readS t with
 | none=>[.inl [110,111,110,101]]
 | some W=>match meets [] W with
  | some q=>[.inl [109,101,101,116],.inr q.1,.inr q.2]
  | none=>.inl [98,111,97,114,100]::(brd W).map .inr
theorem ziU_ {t:List Nat}{W:List Wr}(h:TxS t) (e:readS t=some W):(∀ w∈W,okW w)∧W.length≤100000:=by
 unfold readS at e
 split at e
 ·cases e; exact ⟨fun w hw=>(by cases hw),Nat.zero_le _⟩
 ·obtain ⟨a,b⟩:=zeR_ e
  have:=(zdh_ h).2
  exact ⟨a,by lia⟩
theorem zj4_ {t:List Nat}(h:TxS t):zbW_ t=.ok (dueT t):=by
 unfold zbW_ zdj_ dueT
 walk_at "mo"
 rw [zkP_ h]
 cases er:readS t with
 | none=>rfl
 | some W =>
  obtain ⟨hW,hl⟩:=ziU_ h er
  have h0:WF []:=⟨.nil,fun w hw=>by cases hw⟩
  walk_at "mo"
  rw [Mo.grd_ok ⟨by lia,by lia⟩]
  walk_at "mo"
  have e:rngI 0 (W.length:Int).toNat=rngI ((([]:List Wr).length:Nat):Int) W.length:=by rw [show ((W.length:Int).toNat)=W.length from by lia]; rfl
  rw [e,zi9_ (a:=fun q=>[Sum.inl [109,101,101,116],Sum.inr q.1,Sum.inr q.2]) (W:=W) (fun k x hk=>by
    have hkl:k<W.length:=(List.getElem?_eq_some_iff.mp hk).1
    have hx:atI W (k:Int)=some x:=by rw [ziq_ (by lia)]; exact hk
    rw [Mo.grd_ok ⟨by lia,by lia⟩]
    walk_at "mo"
    rw [zdm_ (p:=fun j=>decide ((W.getD j.toNat (0,0)).2=x.2)) (a:=fun j=>[Sum.inl [109,101,101,116],Sum.inr (W.getD j.toNat (0,0)),Sum.inr x]) (fun j hj=>by
     obtain ⟨j0,j1⟩:=zb7_.mp hj
     have hj:atI W j=some (W.getD j.toNat (0,0)):=by rw [ziq_ j0,List.getD_eq_getElem?_getD,List.getElem?_eq_getElem (by lia)]; rfl
     rw [hj,hx]
     walk_at "mo")]
    rw [show ((k:Int).toNat)=k from by lia,zks_ W k (by lia),List.find?_map]
    cases z:(rngI 0 k).find? ((fun y:Wr=>decide (y.2=x.2))∘fun j=>W.getD j.toNat (0,0)) with
    | none=>rw [show (rngI 0 k).find? (fun j=>decide ((W.getD j.toNat (0,0)).2=x.2))=none from z]; rfl
    | some j=>rw [show (rngI 0 k).find? (fun j=>decide ((W.getD j.toNat (0,0)).2=x.2))=some j from z]; rfl) (xs:=W) (d:=[]) rfl]
  cases em:meets [] W with
  | some q=>rfl
  | none =>
   have wf:WF W:=zbi_ h0 hW em
   have hlen:=wf.len
   walk_at "mo"
   rw [zae_ (f:=fun x45:Wr=>cond1 (Mq true) (Mq (x45.snd,x45.fst))) (g:=swp) (fun x hx=>rfl) (by simp; lia)]
   walk_at "mo"
   rw [List.nil_append,Mo.grd_ok (by simp; lia),Mo.okB,zae_ (f:=fun x45:Wr=>cond1 (Mq true) (Mq (x45.snd,x45.fst))) (g:=swp) (fun x hx=>rfl) (by rw [(zad_ _ _).length_eq]; simp; lia)]
   rw [List.nil_append,show (srtL (lxP ltI ltI) (W.map swp)).map swp=brd W from rfl]
   have lb:(brd W).length=W.length:=(zdo_ W).length_eq
   walk_at "mo"
   rw [Mo.lim_ok (by simp; lia)]
   rfl
theorem zhO_ {t:List Nat}(h:TxS t):zbc_ t=.ok (dueT t):=by
 unfold zbc_ zcc_ dueT
 walk_at "mo"
 rw [zjb_ h]
 cases er:readS t with
 | none=>rfl
 | some W =>
  obtain ⟨hW,hl⟩:=ziU_ h er
  have tail:∀ B:List Wr,forO (B:=Unit) (ρ:=List Un) (fun (_:Unit) x46=>(Mb (Mb (Mb (Mb (Mq x46) fun a47=>Mq (a47.elim (fun _=>false) fun _=>true)) fun a48=>Mq (!a48)) fun c63=>if c63 then Mq true else (Mb (Mb (Mb (Mb (Mq x46) fun a49=>Mo.opt a49.getRight?) fun c50=>Mq (2:Int)) fun a51=>Mb (Mq (2:Int)) fun b52=>Mq (!decide (a51=b52))) fun c62=>if c62 then Mq true else (Mb (Mb (Mb (Mb (Mb (Mq x46) fun a53=>Mo.opt a53.getRight?) fun a54=>Mq a54.1) fun c55=>Mo.noex (z3_ c55)) fun a56=>Mq (!a56)) fun c61=>if c61 then Mq true else (Mb (Mb (Mb (Mb (Mq x46) fun a57=>Mo.opt a57.getRight?) fun a58=>Mq a58.2) fun c59=>Mo.noex (z3_ c59)) fun a60=>Mq (!a60))))) fun c64=>if c64 then Mo.no else (Mq (.nx ())))) (B.map (Sum.inr (α:=List Nat))) ()=.ok (.nx ()):=fun B=>zb9_ (fun x hx=>by
   obtain ⟨w,_,rfl⟩:=List.mem_map.mp hx
   rfl)
  have h0:WF []:=⟨.nil,fun w hw=>by cases hw⟩
  have key:(if t=[] then Mq [] else zv_ W)=match meets [] W with | some q=>Mo.ex (mtX q) | none=>Mq (brd W):=by
   by_cases c:t=[]
   ·have eW:W=[]:=by unfold readS at er; rw [if_pos c] at er; cases er; rfl
    subst eW
    rw [if_pos c]
    show Mq []=Mq (brd [])
    rw [(zdo_ []).eq_nil]
   ·rw [if_neg c]
    rcases zk9_ hW with ⟨q,e,m⟩ | ⟨e,m⟩
    ·rw [m,e]
    ·rw [m,e]
  show fnO (thenO (Mo.tr (if t=[] then Mq [] else zv_ W) _ _) _)=_
  rw [key]
  show _=Mq (match meets [] W with | some q=>[Sum.inl [109,101,101,116],Sum.inr q.1,Sum.inr q.2] | none=>Sum.inl [98,111,97,114,100]::(brd W).map Sum.inr)
  cases e:meets [] W with
  | some q=>rfl
  | none =>
   have wf:WF W:=zbi_ h0 hW e
   have lb:(brd W).length=W.length:=(zdo_ W).length_eq
   have hlen:=wf.len
   simp only [Mo.tr]
   rw [Mo.lim_ok (by simp; lia)]
   walk_at "mo"
   have ec:cutG ([Sum.inl [98,111,97,114,100]]++(brd W).map (Sum.inr (α:=List Nat))) (some 1) none=(brd W).map Sum.inr:=by rw [zbU_ (by decide)]; rfl
   rw [ec]
   have:=tail (brd W)
   simp only [Mo.okB] at this
   rw [this]
   rfl
theorem wires30 (cs:List Int) (m:Bool) (hc:cs.length≤63):∃ W,z4_ cs m=.ok W∧W.length≤252∧∀ w∈W,okW w:=by
 unfold z4_ zaP_
 walk_at "mo"
 have fin:∀ s:List Wr×List Int,((s.2.length=s.1.length∧s.1.length≤4*cs.length)∧∀ w∈s.1,okW w)→∃ W,fnO (thenO (B:=Unit) (S':=Unit) (Mq (Out.nx s)) fun s_3=>Mq (Out.rt s_3.fst))=.ok W∧W.length≤252∧∀ w∈W,okW w:=fun s hs=>⟨_,rfl,by have:=hs.1.2; lia,hs.2⟩
 refine zaR_ (G:=fun mm=>∃ W,fnO (thenO mm fun s_3=>Mq (Out.rt s_3.fst))=.ok W∧W.length≤252∧∀ w∈W,okW w) (fun d (s:List Wr×List Int)=>(s.2.length=s.1.length∧s.1.length≤4*d.length)∧∀ w∈s.1,okW w) ?h0 (fun d x s hx hs=>?_) (fun s hs=>fin s hs)
 case h0=>exact ⟨⟨rfl,Nat.zero_le _⟩,fun w hw=>(by cases hw)⟩
 have hd:d.length<63:=by obtain ⟨r,e⟩:=hx; have:=congrArg List.length e; simp at this; lia
 have x0:0≤x % 2147483647:=Int.emod_nonneg _ (by decide)
 have x1:x % 2147483647<2147483647:=Int.emod_lt_of_pos _ (by decide)
 rw [zef_ (by lia) (by lia)]
 walk_at "mo"
 generalize hn:x % 2147483647*48271 % 2147483629=n
 have q0:0≤n / 1440 % 4:=Int.emod_nonneg _ (by decide)
 have q1:n / 1440 % 4<4:=Int.emod_lt_of_pos _ (by decide)
 have n0:0≤n % 40:=Int.emod_nonneg _ (by decide)
 have n1:0≤n / 40 % 36:=Int.emod_nonneg _ (by decide)
 rw [Mo.grd_ok ⟨by lia,by lia⟩]
 walk_at "mo"
 refine zaR_ (G:=fun mm=>∃ s',thenO mm (fun s49=>Mq (Out.nx (s49.fst,s49.snd)))=.ok (.nx s')∧((s'.2.length=s'.1.length∧s'.1.length≤4*(d++[x]).length)∧∀ w∈s'.1,okW w)) (fun e (t:List Wr×List Int)=>(t.2.length=t.1.length∧t.1.length≤s.1.length+e.length)∧∀ w∈t.1,okW w) ⟨⟨hs.1.1,Nat.le_refl _⟩,hs.2⟩ (fun e k t hx ht=>?_) (fun t ht=>⟨_,rfl,⟨ht.1.1,?_⟩,ht.2⟩)
 ·obtain ⟨r,hr⟩:=hx
  have hel:e.length<4:=by have:=congrArg List.length hr; rw [zaI_] at this; simp at this; lia
  have hk:0≤k:=(zb7_.mp (by rw [hr]; simp:k∈rngI 0 (1+n / 1440 % 4).toNat)).1
  obtain ⟨⟨t1,t2⟩,t3⟩:=ht
  have s12:=hs.1.2
  rw [List.length_append,List.length_singleton]
  have tail:∀ b:Bool,(b=true→okW (1+n % 40+k,1+n / 40 % 36+k))→∃ s',thenO (if b=true then Mo.lim (t.1.length+1) (Mo.lim (t.2.length+1) (Mq (.nx ((t.1++[(1+n % 40+k,1+n / 40 % 36+k)]),(t.2++[1+n / 40 % 36+k]))))) else (Mq (.nx (t.1,t.2)))) (fun s49=>(Mq (.nx (s49.1,s49.2)):Mo (Out (List Wr) (List Wr×List Int) (List Wr×List Int))))=.ok (.nx s')∧(s'.2.length=s'.1.length∧s'.1.length≤s.1.length+(e.length+1))∧∀ w∈s'.1,okW w:=fun b hb=>by
   cases b with
   | true =>
    rw [if_pos rfl,Mo.lim_ok (by lia),Mo.lim_ok (by lia)]
    refine ⟨_,rfl,⟨by simp; lia,by simp; lia⟩,fun w hw=>?_⟩
    rcases List.mem_append.mp hw with hw | hw
    ·exact t3 w hw
    ·rw [List.mem_singleton.mp hw]; exact hb rfl
   | false=>exact ⟨_,rfl,⟨t1,by simp; lia⟩,t3⟩
  by_cases c1:1+n % 40+k≤40
  ·rw [decide_eq_true c1,if_pos rfl]
   by_cases c2:1+n / 40 % 36+k≤36
   ·have okk:okW (1+n % 40+k,1+n / 40 % 36+k):=⟨by show 1≤1+n % 40+k; lia,c1,by show 1≤1+n / 40 % 36+k; lia,c2⟩
    rw [decide_eq_true c2,if_pos rfl]
    cases m with
    | true=>exact tail true fun _=>okk
    | false=>exact tail _ fun _=>okk
   ·rw [decide_eq_false c2]
    exact tail false nofun
  ·rw [decide_eq_false c1]
   exact tail false nofun
 ·rw [zaI_] at ht
  rw [List.length_append,List.length_singleton]
  have a1:=ht.1.2
  have a2:=hs.1.2
  show t.1.length≤_
  lia
def pcOk (p:List Nat):Prop:=p.length≤11∧∀ c∈p,c<1000
theorem str40c {i:Int}(h1:1≤i) (h2:i≤40):∀ c∈strI i,c<1000:=by
 have:∀ n:Fin 41,(strI (n.val:Int)).all (fun c=>decide (c<1000))=true:=by decide +kernel
 have:=this ⟨i.toNat,by lia⟩
 rw [show ((⟨i.toNat,by lia⟩:Fin 41).val:Int)=i from by show (i.toNat:Int)=i; lia] at this
 exact fun c hc=>of_decide_eq_true (List.all_eq_true.mp this c hc)
theorem wtext {w:Wr}(h:okW w):pcOk (strI w.1++[62]++strI w.2):=by
 obtain ⟨a1,a2,a3,a4⟩:=h
 have s1:=str40 a1 a2
 have s2:=str40 a3 (by lia)
 refine ⟨by simp; lia,fun c hc=>?_⟩
 rcases List.mem_append.mp hc with hc | hc
 ·rcases List.mem_append.mp hc with hc | hc
  ·exact str40c a1 a2 c hc
  ·rw [List.mem_singleton.mp hc]; decide
 ·exact str40c a3 (by lia) c hc
theorem zjC_ (P:List (List Nat)) (h:∀ p∈P,p.length≤11) (hl:P.length≤300):JoinOk ⟨[44,32].toArray⟩ (strsL P)=true:=by
 unfold JoinOk
 have key:∀ (l:List Str) (acc:Nat),(∀ z∈l,z.length≤11)→l.foldl (fun x1 x2=>x1+x2.length+2) acc≤acc+l.length*13:=by
  intro l
  induction l with
  | nil=>intro acc _; simp
  | cons z r ih =>
   intro acc hz
   have h2:=ih (acc+z.length+2) fun y hy=>hz y (List.mem_cons_of_mem _ hy)
   have h3:=hz z List.mem_cons_self
   rw [List.foldl_cons,List.length_cons]
   lia
 have hz:∀ z∈strsL P,z.length≤11:=fun z hz=>by
  unfold strsL at hz
  obtain ⟨p,hp,rfl⟩:=List.mem_map.mp hz
  exact h p hp
 have q:=key (strsL P) 0 hz
 have ql:(strsL P).length=P.length:=by unfold strsL; simp
 rw [List.foldl_toArray]
 unfold Builtin.Str.tooLong
 simp only [Bool.not_eq_true',decide_eq_false_iff_not]
 have hs:(100000:Nat)≤sizeLine:=by rw [sizeLine_eq]; lia
 have:(strsL P).foldl (fun x1 x2=>x1+x2.length+Str.length ⟨[44,32].toArray⟩) 0≤100000:=Nat.le_trans q (by lia)
 lia
theorem zgA_:∀ (P:List (List Nat)),(∀ p∈P,pcOk p)→(joinL [44,32] P).length≤P.length*13∧∀ c∈joinL [44,32] P,c<1000
 | [],_=>⟨Nat.le_refl _,fun c hc=>by cases hc⟩
 | [p],h=>by
  obtain ⟨a,b⟩:=h p (by simp)
  exact ⟨by show p.length≤_; simp; lia,b⟩
 | p::q::r,h=>by
  obtain ⟨a,b⟩:=h p (by simp)
  obtain ⟨c,d⟩:=zgA_ (q::r) fun z hz=>h z (List.mem_cons_of_mem _ hz)
  show (p++[44,32]++joinL [44,32] (q::r)).length≤_∧∀ c∈p++[44,32]++joinL [44,32] (q::r),c<1000
  refine ⟨?_,fun x hx=>?_⟩
  ·rw [List.length_append,List.length_append,List.length_cons (a:=p)]
   have:([44,32]:List Nat).length=2:=rfl
   lia
  ·rcases List.mem_append.mp hx with hx | hx
   ·rcases List.mem_append.mp hx with hx | hx
    ·exact b x hx
    ·have:x=44∨x=32:=by simpa using hx
     lia
   ·exact d x hx
theorem zkH_ {P:List (List Nat)}{n:Nat}{p:List Nat}(h:∀ q∈P,pcOk q) (hp:pcOk p):∀ q∈P.set n p,pcOk q:=fun q hq=>by
 rcases List.mem_or_eq_of_mem_set hq with hq | rfl
 ·exact h q hq
 ·exact hp
theorem zkA_ {W:List Wr}(b:Int) (hl:W.length≤252) (h:∀ w∈W,okW w):∃ t,zba_ W b=.ok t∧t.length≤3276∧∀ c∈t,c<1000:=by
 unfold zba_ zb2_
 walk_at "mo"
 refine zaR_ (G:=fun m=>∃ t:List Nat,fnO (thenO m _)=.ok t∧t.length≤3276∧∀ c∈t,c<1000) (fun d (s:List (List Nat))=>s.length=d.length∧∀ p∈s,pcOk p) ?h0 (fun d x s hx hs=>?_) (fun s hs=>?_)
 case h0=>exact ⟨rfl,fun p hp=>(by cases hp)⟩
 ·obtain ⟨r,hr⟩:=hx
  have hd:d.length<252:=by have:=congrArg List.length hr; simp at this; lia
  have hw:okW x:=h x (by rw [hr]; simp)
  obtain ⟨a1,a2,a3,a4⟩:=hw
  have s1:=str40 a1 a2
  have s2:=str40 a3 (by lia)
  rw [Mo.grd_ok (log40 a1 a2),Mo.grd_ok (log40 a3 (by lia))]
  walk_at "mo"
  have e1:(strI x.1++[62]).length=(strI x.1).length+1:=by simp
  rw [Mo.lim_ok (by simp; lia),Mo.okB,Mo.lim_ok (by rw [e1]; lia),Mo.okB,Mo.lim_ok (by lia)]
  refine ⟨_,rfl,by simp; lia,fun p hp=>?_⟩
  rcases List.mem_append.mp hp with hp | hp
  ·exact hs.2 p hp
  ·rw [List.mem_singleton.mp hp]; exact wtext ⟨a1,a2,a3,a4⟩
 ·rw [zeo_]
  have tail:∀ P:List (List Nat),P.length≤252→(∀ p∈P,pcOk p)→∃ t,fnO ((Mo.grd (JoinOk ⟨[44,32].toArray⟩ (strsL P)=true) (Mq (joinS [44,32] (strsL P)))).bind fun r=>(Mq (Out.rt r):Mo (Out (List Nat) Unit Unit)))=.ok t∧t.length≤3276∧∀ c∈t,c<1000:=fun P h1 h2=>by
   obtain ⟨a,b⟩:=zgA_ P h2
   rw [Mo.grd_ok (zjC_ P (fun p hp=>(h2 p hp).1) (by lia)),zfH_]
   exact ⟨_,rfl,by lia,b⟩
  have hsl:s.length≤252:=by rw [hs.1]; exact hl
  by_cases c1:(1:Int)<(W.length:Int)
  ·rw [decide_eq_true c1]
   by_cases c2:b % 2=1
   ·rw [decide_eq_true c2]
    walk_at "mo"
    obtain ⟨w,ew,hw⟩:=zcj_ (xs:=W) (k:=0) (by decide) (by lia)
    have hw:=h w hw
    obtain ⟨a1,a2,a3,a4⟩:=hw
    have s1:=str40 a1 a2
    have s2:=str40 a3 (by lia)
    have hp:pcOk (strI w.1++[62]++strI w.2):=wtext ⟨a1,a2,a3,a4⟩
    rw [ew]
    walk_at "mo"
    rw [zlU_ (by decide) (by rw [hs.1]; lia)]
    walk_at "mo"
    rw [Mo.grd_ok (log40 a1 a2),Mo.grd_ok (log40 a3 (by lia))]
    walk_at "mo"
    have e1:(strI w.1++[62]).length=(strI w.1).length+1:=by simp
    rw [Mo.lim_ok (by simp; lia),Mo.okB,Mo.lim_ok (by rw [e1]; lia),Mo.okB]
    have ei:∃ n,ixN ((s.set (Int.toNat 0) [49,45,50,62,51,53,45,51,54]).length) (-1)=some n:=by
     unfold ixN
     rw [if_neg (by decide)]
     have:1<s.length:=by rw [hs.1]; lia
     rw [List.length_set]
     rw [if_pos (by lia)]
     exact ⟨_,rfl⟩
    obtain ⟨n,en⟩:=ei
    rw [en]
    exact tail _ (by rw [List.length_set,List.length_set]; exact hsl) (zkH_ (zkH_ hs.2 ⟨by decide,by decide⟩) hp)
   ·rw [decide_eq_false c2]
    exact tail s hsl hs.2
  ·rw [decide_eq_false c1]
   exact tail s hsl hs.2
theorem zk0_ (c:Int):∃ t,zbk_ c=.ok t∧t.length≤1∧∀ x∈t,x<1000:=by
 unfold zbk_ zb3_
 walk_at "mo"
 have m0:0≤c / 2 % 14:=Int.emod_nonneg _ (by decide)
 have m1:c / 2 % 14<14:=Int.emod_lt_of_pos _ (by decide)
 have k0:0≤c / 2 % 96:=Int.emod_nonneg _ (by decide)
 have k1:c / 2 % 96<96:=Int.emod_lt_of_pos _ (by decide)
 have al:=zgH_
 rw [List.length_append] at al
 rw [Mo.lim_ok (by lia)]
 walk_at "mo"
 by_cases c1:c % 2=0
 ·rw [decide_eq_true c1]
  obtain ⟨x,ex,hx⟩:=zcj_ (xs:=([48,49,50,51,52,53,54,55,56,57,45,62,44,32]:List Nat)) m0 m1
  rw [ex,Mo.lim_ok (by decide)]
  refine ⟨_,rfl,Nat.le_refl _,fun y hy=>?_⟩
  rw [List.mem_singleton.mp hy]
  have:∀ z∈([48,49,50,51,52,53,54,55,56,57,45,62,44,32]:List Nat),z<1000:=by decide
  exact this x hx
 ·rw [decide_eq_false c1]
  walk_at "mo"
  obtain ⟨x,ex,hx⟩:=zcj_ (xs:=AnyL++AnyM) k0 (by rw [zgH_]; exact k1)
  rw [ex,Mo.lim_ok (by rw [zgH_]; decide)]
  refine ⟨_,rfl,Nat.le_refl _,fun y hy=>?_⟩
  rw [List.mem_singleton.mp hy]
  exact Nat.lt_trans (zh1_ x hx) (by decide)
theorem zmz_ (c:Int):∃ t,zaQ_ c=.ok t∧t.length≤20∧∀ x∈t,x<1000:=by
 unfold zaQ_ zdk_
 walk_at "mo"
 have k0:0≤c % 24:=Int.emod_nonneg _ (by decide)
 have k1:c % 24<24:=Int.emod_lt_of_pos _ (by decide)
 rw [Mo.lim_ok (by decide),Mo.okB,Mo.lim_ok (by decide),Mo.okB]
 obtain ⟨x,ex,hx⟩:=zcj_ (xs:=[[],[49,62,50,44,32],[44,32,49,62,50],[49,62,50,44,51,62,52],[49,45,49,62,50,45,50],[50,45,49,62,52,45,51],[49,45,50,62,51],[49,62,50,45,51],[48,49,62,50],[49,62,51,55],[52,49,62,49]]++[[48,62,49],[49,62,48],[32,49,62,50],[49,45,62,50],[49,62,50,62,51],[49,45,50,62,51,45,53],[49,45,51,62,51,45,52],[51,57,45,52,49,62,49,45,51],[49,45,51,62,51,53,45,51,55]]++[[49,62,49,44,32,50,62,49],[52,48,62,51,54],[51,55,45,52,48,62,51,51,45,51,54],[45,49,62,50]]) k0 (Int.lt_of_lt_of_le k1 (by decide))
 rw [ex]
 have:∀ z∈([[],[49,62,50,44,32],[44,32,49,62,50],[49,62,50,44,51,62,52],[49,45,49,62,50,45,50],[50,45,49,62,52,45,51],[49,45,50,62,51],[49,62,50,45,51],[48,49,62,50],[49,62,51,55],[52,49,62,49]]++[[48,62,49],[49,62,48],[32,49,62,50],[49,45,62,50],[49,62,50,62,51],[49,45,50,62,51,45,53],[49,45,51,62,51,45,52],[51,57,45,52,49,62,49,45,51],[49,45,51,62,51,53,45,51,55]]++[[49,62,49,44,32,50,62,49],[52,48,62,51,54],[51,55,45,52,48,62,51,51,45,51,54],[45,49,62,50]]:List (List Nat)),z.length≤20∧∀ x∈z,x<1000:=by decide
 exact ⟨x,rfl,this x hx⟩
theorem zid_ {a b:List Nat}{m n:Nat}(ha:a.length≤m∧∀ x∈a,x<1000) (hb:b.length≤n∧∀ x∈b,x<1000):(a++b).length≤m+n∧∀ x∈a++b,x<1000 :=
 ⟨by rw [List.length_append]; exact Nat.add_le_add ha.1 hb.1,fun x hx=>by rcases List.mem_append.mp hx with h | h; exact ha.2 x h; exact hb.2 x h⟩
theorem cut_tx {a:List Nat}{m:Nat}(ha:a.length≤m∧∀ x∈a,x<1000) (lo hi:Option Int):(cutG a lo hi).length≤m∧∀ x∈cutG a lo hi,x<1000:=⟨Nat.le_trans (zf8_ a lo hi) ha.1,fun x hx=>ha.2 x (zjf_ hx)⟩
theorem zku_ {T:List Nat}(ns:List Int) (hT:T.length≤3276∧∀ c∈T,c<1000):∃ t,zac_ T ns=.ok t∧TxS t:=by
 obtain ⟨f0,e0⟩:=zcE_ ns 0 (by decide)
 obtain ⟨f1,e1⟩:=zcE_ ns 1 (by decide)
 obtain ⟨f2,e2⟩:=zcE_ ns 2 (by decide)
 obtain ⟨f3,e3⟩:=zcE_ ns 3 (by decide)
 obtain ⟨g,eg,hg⟩:=zk0_ f3
 obtain ⟨o,eo,ho⟩:=zmz_ f1
 have hTl:=hT.1
 unfold zac_ zaH_
 walk_at "mo"
 rw [e0,e1,e2,e3]
 walk_at "mo"
 rw [eg,eo]
 walk_at "mo"
 simp only [Mo.lim_ok (show T.length≤100000 by lia),Mo.okB]
 rw [Mo.grd_ok (show (0:Int)<(T.length:Int)+1 by lia)]
 walk_at "mo"
 have hat:0≤f2 % ((T.length:Int)+1):=Int.emod_nonneg _ (by lia)
 generalize f2 % ((T.length:Int)+1)=at_ at hat
 rw [zix_ hat,zbU_ hat,zbU_ (show 0≤at_+1 by lia)]
 have hm:∀ (n:Nat) (g:List Nat) (m:Nat),n≤m→g.length≤1→(∀ x∈g,x<1000)→TxS (T.take n++g++T.drop m):=fun n g m h1 h2 h3=>by
  refine ⟨by simp only [List.length_append,List.length_take,List.length_drop]; lia,fun x hx=>?_⟩
  rcases List.mem_append.mp hx with hx | hx
  ·rcases List.mem_append.mp hx with hx | hx
   ·exact hT.2 x (List.mem_of_mem_take hx)
   ·exact h3 x hx
  ·exact hT.2 x (List.mem_of_mem_drop hx)
 have sp:([44,32]:List Nat).length≤2∧∀ x∈([44,32]:List Nat),x<1000:=⟨Nat.le_refl _,by decide⟩
 have fin:∀ t:List Nat,TxS t→∃ t',fnO (Mq (Out.rt t):Mo (Out (List Nat) Unit Unit))=.ok t'∧TxS t':=fun t ht=>⟨t,rfl,ht⟩
 have l1:(T.take at_.toNat).length≤3276:=by rw [List.length_take]; lia
 have l2:(T.drop at_.toNat).length≤3276:=by rw [List.length_drop]; lia
 have l3:(T.drop (at_+1).toNat).length≤3276:=by rw [List.length_drop]; lia
 have l4:=hg.1
 have l5:=ho.1
 have lg:(T.take at_.toNat++g).length≤3277:=by rw [List.length_append]; lia
 have lo:(o++[44,32]).length≤22:=by rw [List.length_append]; exact Nat.add_le_add l5 (Nat.le_refl 2)
 have lt:(T++[44,32]).length≤3278:=by rw [List.length_append]; exact Nat.add_le_add hTl (Nat.le_refl 2)
 generalize f0 / 2 % 7=wy
 by_cases w1:wy=1
 ·rw [decide_eq_true w1]
  walk_at "mo"
  rw [Mo.lim_ok (by lia),Mo.okB,Mo.lim_ok (by lia),Mo.okB]
  exact fin _ (hm _ g _ (Nat.le_refl _) l4 hg.2)
 ·rw [decide_eq_false w1]
  walk_at "mo"
  by_cases w2:wy=2
  ·rw [decide_eq_true w2]
   walk_at "mo"
   rw [Mo.lim_ok (by lia),Mo.okB,Mo.lim_ok (by lia),Mo.okB]
   exact fin _ (hm _ g _ (by lia) l4 hg.2)
  ·rw [decide_eq_false w2]
   walk_at "mo"
   by_cases w3:wy=3
   ·rw [decide_eq_true w3]
    walk_at "mo"
    rw [Mo.lim_ok (by lia),Mo.okB]
    have:=hm at_.toNat [] (at_+1).toNat (by lia) (Nat.zero_le _) (fun x hx=>by cases hx)
    rw [List.append_nil] at this
    exact fin _ this
   ·rw [decide_eq_false w3]
    walk_at "mo"
    by_cases w4:wy=4
    ·rw [decide_eq_true w4]
     walk_at "mo"
     exact fin _ ⟨by lia,ho.2⟩
    ·rw [decide_eq_false w4]
     walk_at "mo"
     by_cases w5:wy=5
     ·rw [decide_eq_true w5]
      walk_at "mo"
      rw [Mo.lim_ok (Nat.le_trans (Nat.add_le_add l5 sp.1) (by decide)),Mo.okB,Mo.lim_ok (by lia),Mo.okB]
      have:=zid_ (zid_ ho sp) hT
      exact fin _ ⟨Nat.le_trans this.1 (by decide),this.2⟩
     ·rw [decide_eq_false w5]
      walk_at "mo"
      by_cases w6:wy=6
      ·rw [decide_eq_true w6]
       walk_at "mo"
       rw [Mo.lim_ok (Nat.le_trans (Nat.add_le_add hTl sp.1) (by decide)),Mo.okB,Mo.lim_ok (by lia),Mo.okB]
       have:=zid_ (zid_ hT sp) ho
       exact fin _ ⟨Nat.le_trans this.1 (by decide),this.2⟩
      ·rw [decide_eq_false w6]
       walk_at "mo"
       exact fin _ ⟨by lia,hT.2⟩
theorem zjU_ (l:List Un):eqL (eqTw (fun a b=>decide (a=b)) (fun a b=>decide (a.fst=b.fst) && decide (a.snd=b.snd))) l l=true:=zeu_ (fun a=>by cases a<;>simp [eqTw]) l
theorem zkt_ (ns:List Int) (hl:ns.length≤63):f_law ns=.ok true:=by
 unfold f_law zmA_
 obtain ⟨f0,e0⟩:=zcE_ ns 0 (by decide)
 obtain ⟨f1,e1⟩:=zcE_ ns 1 (by decide)
 have h63:=zf8_ ns (some 4) (some 67)
 walk_at "mo"
 rw [e0,e1]
 walk_at "mo"
 obtain ⟨W,eW,lW,oW⟩:=wires30 (cutG ns (some 4) (some 67)) (decide (f0 % 2=1)) (by lia)
 rw [eW]
 walk_at "mo"
 obtain ⟨T,eT,hT⟩:=zkA_ (f1 / 24) lW oW
 rw [eT]
 walk_at "mo"
 obtain ⟨t,et,ht⟩:=zku_ ns hT
 rw [et]
 walk_at "mo"
 rw [zhO_ ht,zj4_ ht]
 walk_at "mo"
 rw [zjU_]
end K30
namespace K30
open PySem PySem.Spec PyProof.Rows L2
open Mo renaming bind→Mb,ok→Mq
open Sl renaming fz→Zf,dead→Zd,ow→Zo
theorem zmq_ {l:PySem.W.OpenLaw}{w:World}{K:Fgg}{mg:Str→Option Value}{base:Heap}{f:Addr}{fd:FuncData}(e:En K mg) (g0:zaG_ l.prog w K mg base) (g1:zcH_ l.prog w K mg base) (g4:zbJ_ l.prog w K mg base) (g5:zdB_ l.prog w K mg base) (g17:zd7_ l.prog w K mg base) (g21:zeU_ l.prog w K mg base) (F:Fun K "law" "law" zm4_ f fd):FnOk l.prog w K mg base CX0 7 f fd ["_law_script"] (spL K) :=
 okL (l:=l) (w:=w) (K:=K) (mg:=mg) (base:=base) (k:=6) (st:=zm4_) (x := "_law_script") (N:=["_law_script", "_law_first", "_law_wires_here", "_law_text_here"]) (t:=fun E=>t_law K) (g:=zmA_) 3 (fun _ _ _ _ _ _ E nd hr=>(zd_ (pst 1 (zt_ g0 (hm hr) (zb_ (za_ 0) (zb_ zg_ zf_)))) (zd_ (pst 2 (zt_ g1 (hm hr) (zb_ (zag_ sl_M (za_ 0) (po_M zg_) (po_M zg_)) (zb_ (zfj_ (zan_ hr.u60) (zJ_ zaq_ (za_ 1) zg_) zg_) zf_)))) (zd_ (pst 3 (zt_ g4 (hm hr) (zb_ (zt_ g5 (hm hr) (zb_ (za_ 2) (zb_ (zJ_ zcX_ (zt_ g0 (hm hr) (zb_ (za_ 0) (zb_ zg_ zf_))) zg_) zf_))) (zb_ (za_ 0) zf_)))) (zi_ (zE_ (zfj_ (zan_ hr.u60) (zt_ g17 (hm hr) (zb_ (za_ 3) zf_)) (zt_ g21 (hm hr) (zb_ (za_ 3) zf_))))))))) (fun ns hl hb=>zkt_ ns hl) (fun c E=>at_ [(Zf (tySc K) c),Zd,Zd,Zd]
 (zc3_ (i:=1) rfl zh_ (zl_ (zq_ (zc_ 0 rfl) (ze_ (zj_ 0)))) fun y1'=>(at_ [(Zf (tySc K) c),(Zf tyInt y1'),Zd,Zd] (z9_ (i:=2) rfl (zL_ (zG_ (zp_ zh_ (zo_ zh_)))) (zct_ (zq_ (EvO.fr (zk4_ (zc_ 0 rfl) (zgV_ (zj_ 4)) (zgV_ (zj_ 67)))) (ze_ (zm_ zbA_ (zm_ zar_ (zc_ 1 rfl) (zj_ 2)) (zj_ 1))))) fun y5'=>zdp_ (i:=2) rfl (at_ [(Zf (tySc K) c),(Zf tyInt y1'),(Zf (tyL Qq0) y5'),Zd] (zc3_ (i:=3) rfl zy_ (zl_ (zq_ (zl_ (zq_ (zc_ 2 rfl) (ze_ (zm_ zbx_ (zl_ (zq_ (zc_ 0 rfl) (ze_ (zj_ 1)))) (zj_ 24))))) (ze_ (zc_ 0 rfl)))) fun t18=>(at_ [(Zf (tySc K) c),(Zf tyInt y1'),(Zf (tyL Qq0) y5'),(Zf tyStr t18)] (zaB_ (zU_ zcz_) (EvF.ow (zm_ (zng_ (eqt_l (eqt_u zll_ (zkD_ (zkm_ zi8_ (zjq_ zi8_))) zjD_))) (zl_ (ze_ (zc_ 3 rfl))) (EvO.fr (O:=(owL (tyU tyStr Qq0))) (zct_ (ze_ (zc_ 3 rfl)))))))))))))) f fd F
theorem all_mk {l:PySem.W.OpenLaw}{w:World}{K:Fgg}{h:Heap}{mg:Str→Option Value}{fa:Addr}(X:K.In h) (G:h.Ns mainGlobals mg) (hfa:mg "law" = some (.ref fa)) (k:Ek K) :
  ∃ fd:FuncData,(∀ (s:Shared) (v:Value),BindsTo s fd ⟨[v],[]⟩ [("_law_script",v)])∧∀ base:Heap,K.In base→base.Ns mainGlobals mg→FnOk l.prog w K mg base CX0 7 fa fd ["_law_script"] (spL K):=by
 have e:En K mg:=⟨k,_,X,G⟩
 refine okLaw e.m e.f22 hfa (fun _ _ _ _ _ _ _ _=>rfl) fun base f fd F=>?_
 have g0:=zdb_ (P:=l.prog) (w:=w) (base:=base) e
 have g1:=zeA_ (P:=l.prog) (w:=w) (base:=base) e
 have g2:=zfF_ (P:=l.prog) (w:=w) (base:=base) e
 have g3:=zhb_ (P:=l.prog) (w:=w) (base:=base) e
 have g4:=zdf_ (P:=l.prog) (w:=w) (base:=base) e g0 g2 g3
 have g5:=zfu_ (P:=l.prog) (w:=w) (base:=base) e
 have g6:=zci_ (P:=l.prog) (w:=w) (base:=base) e
 have g7:=zft_ (P:=l.prog) (w:=w) (base:=base) e
 have g8:=zey_ (P:=l.prog) (w:=w) (base:=base) e g7
 have g9:=zdr_ (P:=l.prog) (w:=w) (base:=base) e g8 g6
 have g10:=zez_ (P:=l.prog) (w:=w) (base:=base) e
 have g11:=zdP_ (P:=l.prog) (w:=w) (base:=base) e g10
 have g12:=zeH_ (P:=l.prog) (w:=w) (base:=base) e g11
 have g13:=zdq_ (P:=l.prog) (w:=w) (base:=base) e g12
 have g14:=zdR_ (P:=l.prog) (w:=w) (base:=base) e g13 g9
 have g15:=zeb_ (P:=l.prog) (w:=w) (base:=base) e
 have g16:=zeO_ (P:=l.prog) (w:=w) (base:=base) e
 have g17:=zfG_ (P:=l.prog) (w:=w) (base:=base) e g14 g15 g16
 have g18:=zdL_ (P:=l.prog) (w:=w) (base:=base) e
 have g19:=zfN_ (P:=l.prog) (w:=w) (base:=base) e g18
 have g20:=zfO_ (P:=l.prog) (w:=w) (base:=base) e g19
 have g21:=zgB_ (P:=l.prog) (w:=w) (base:=base) e g20
 exact zmq_ (l:=l) (w:=w) (base:=base) e g0 g1 g4 g5 g17 g21 F
theorem walk {l:PySem.W.OpenLaw}{q:Program}{loose:List Str}{XP:(Str→Option Value)→Heap→Prop}{YP:World→Heap→Prop}{d:DefRec}{K:Params→Fgg}(hn:l.most=some 63) (hdf:d.params.defaults=[])
  (hY:∀ (w:World) (h:Heap),YP w h→(K w.params).In h)
  (F:∀ (w:World) (mg:Str→Option Value) (fa:Addr) (h:Heap),(K w.params).In h→h.Ns mainGlobals mg→mg d.name=some (.ref fa) →
   ∃ fd:FuncData,(∀ (s:Shared) (u:Value),BindsTo s fd ⟨[u],[]⟩ [("_law_script",u)])∧∀ base:Heap,(K w.params).In base→base.Ns mainGlobals mg→FnOk l.prog w (K w.params) mg base CX0 7 fa fd ["_law_script"] (spL (K w.params))) :
  PySem.W.WalkO q loose XP YP l.row.toRowW d [] (fun f vs=>PySem.call f vs) :=
 L2.zjP_ (n:=63) (k:=7) (x := "_law_script") (CX:=fun _=>CX0) (sp:=fun w=>spL (K w.params)) hn (by decide) hdf ⟨rfl,by decide,by decide⟩ hY F (fun _ _ a ns hl hb _ hS=>⟨a,ns,rfl,hS,hl,hb,fun _=>rfl⟩) fun _ _ _ _ _ z=>z
end K30
open PySem PySem.W PyProof.Rows
set_option maxRecDepth 100000 in
set_option maxHeartbeats 0 in
theorem PySem.Challenge.cw_cardshop_k30_board_texts_holds : PySem.Challenge.rw_cardshop_k30_board_texts.Holds := by
 w_on; o_law; k_head; (case hw=>w_witness2)
 k_fill
 refine K30.walk (l:=PySem.Challenge.rw_cardshop_k30_board_texts) rfl rfl (fun w h Y=>PySem.W.kIn_of Y) ?F
 case F =>
  intro w mg fa h KX G hmg
  refine K30.all_mk KX G hmg ?_
  constructor
  all_goals first | (refine' L2.Fg.mk_ ?x0 ?x1 ?x2 ?x3; (case x0=>k_is); (case x1=>k_is); (case x2=>k_is); (case x3=>k_is)) | (refine' L2.Fm.mk_ ?x0 ?x1 ?x2 ?x3 ?x4 ?x5; (case x0=>k_is); (case x1=>k_is); (case x2=>k_is); (case x3=>k_is); (case x4=>k_is); (case x5=>k_is)) | (refine' L2.Fs.mk_ ?x0 ?x1 ?x2 ?x3 ?x4 ?x5 ?x6; (case x0=>k_is); (case x1=>k_is); (case x2=>k_is); (case x3=>k_is); (case x4=>k_is); (case x5=>k_is); (case x6=>k_is)) | (refine' L2.Fc.mk_ ?x0 ?x1 ?x2 ?x3 ?x4 ?x5 ?x6; (case x0=>k_is); (case x1=>k_is); (case x2=>k_is); (case x3=>k_is); (case x4=>k_is); (case x5=>k_is); (case x6=>k_is)) | (refine' L2.Fa.mk_ ?x0 ?x1; (case x0=>k_is); (case x1=>k_is)) | (delta L2.Fb; k_is) | (refine' L2.Fv.mk_ ?x0 ?x1; (case x0=>k_is); (case x1=>exact ⟨_,rfl⟩)) | (refine' L2.Fk.mk_ ?x0; (case x0=>k_is)) | (refine' L2.Fe1.mk_ ?x0 ?x1; (case x0=>k_is); (case x1=>(show _=_; kernel_rfl!))) | (refine' L2.Fe2.mk_ ?x0 ?x1 ?x2; (case x0=>k_is); (case x1=>k_is); (case x2=>(show _=_; kernel_rfl!)))
#print axioms PySem.Challenge.cw_cardshop_k30_board_texts_holds
