import PyProof.Rows.All
import Wide.All
import OpenK.AllK
import Wide.FinOn
import Lean
import PyProof.EqAt
import PyProof.EqKinds
import PyProof.TupleCall
import PyProof.StrLawsRepr
import PyProof.NeKinds
import KE.KEqDict
import KE.KDictOf
import KE.KPairComp
import PySem.Challenge.RW_cardshop_k55_dealer_and_picker
set_option Elab.async false
set_option compiler.extract_closed false
set_option linter.all false
set_option maxRecDepth 100000
set_option maxHeartbeats 4000000
def PySem.W.Fast.tw15215006827219579239:Unit:=()
def PySem.W.Fast.tw17813819982686877299:Unit:=()
def PySem.W.Fast.tw6668741606986380475:Unit:=()
def PySem.W.Fast.tw9984620542270170097:Unit:=()
def PySem.W.Fast.tw8160904464748145867:Unit:=()
def PySem.W.Fast.tw6050824731563604986:Unit:=()
def PySem.W.Fast.tw11514566725608408737:Unit:=()
def PySem.W.Fast.tw10171103372793483790:Unit:=()
def PySem.W.Fast.tw15503361814717163028:Unit:=()
def PySem.W.Fast.tw6401835982906074864:Unit:=()
def PySem.W.Fast.tw4013276077917050942:Unit:=()
def PySem.W.Fast.tw9203600855843271052:Unit:=()
def PySem.W.Fast.tw1191317212282521567:Unit:=()
def PySem.W.Fast.tw11916889994671477564:Unit:=()
def PySem.W.Fast.tw16562266359070334583:Unit:=()
def PySem.W.Fast.tw7541730880235372150:Unit:=()
def PySem.W.Fast.tw9794001446114389923:Unit:=()
def PySem.W.Fast.tw1884636392700105080:Unit:=()
def PySem.W.Fast.tw8348069868346326181:Unit:=()
def PySem.W.Fast.tw9636810405083369667:Unit:=()
def PySem.W.Fast.tw13690786341761574906:Unit:=()
def PySem.W.Fast.tw16369045877550454971:Unit:=()
def PySem.W.Fast.tw3629797912618658484:Unit:=()
def PySem.W.Fast.tw5737469814468965530:Unit:=()
def PySem.W.Fast.tw17841905393168385127:Unit:=()
def PySem.W.Fast.tw8707903764519159004:Unit:=()
def PySem.W.Fast.tw16172850011844090629:Unit:=()
def PySem.W.Fast.tw8887343915908306633:Unit:=()
def PySem.W.Fast.tw6479111588621620663:Unit:=()
def PySem.W.Fast.tw763328645907364421:Unit:=()
def PySem.W.Fast.tw13433273241972289707:Unit:=()
def PySem.W.Fast.tw4174417304082348241:Unit:=()
def PySem.W.Fast.tw17465149546128502313:Unit:=()
def PySem.W.Fast.tw12197694237904529223:Unit:=()
def PySem.W.Fast.tw1660877004953666576:Unit:=()
def PySem.W.Fast.tw11358717694456757981:Unit:=()
def PySem.W.Fast.tw15135196709798351304:Unit:=()
def PySem.W.Fast.tw6047626881507732181:Unit:=()
def PySem.W.Fast.tw17120874191348884447:Unit:=()
def PySem.W.Fast.tw10067164956583566800:Unit:=()
def PySem.W.Fast.tw12579411583289024459:Unit:=()
def PySem.W.Fast.tw10564475560172823617:Unit:=()
def PySem.W.Fast.tw5489036319113699157:Unit:=()
noncomputable section
namespace L2
open PySem PySem.Spec PyProof.Rows
abbrev Fgg:=PySem.W.Frag
abbrev Pnn:=List (Addr×Obj)
abbrev Key:=Sum Int Str
def keyIs:Key→Value→Bool
 | .inl k,v=>Value.isInt k v
 | .inr x,v=>Value.isStrOf x v
def keyH (w:World):Key→Int
 | .inl k=>hashInt k
 | .inr x=>hashStr w x
theorem z6_:∀ {k:Key}{v:Value},keyIs k v=true→(∃ i t,k=Sum.inl i∧v=Value.int i t)∨(∃ x t,k=Sum.inr x∧v=Value.str x t)
 | .inl i,v,h=>by
  obtain ⟨t,e⟩:=Value.isInt_shape (k:=i) (v:=v) h
  exact .inl ⟨i,t,rfl,e⟩
 | .inr x,v,h=>by
  obtain ⟨t,e⟩:=Value.isStrOf_shape (x:=x) (v:=v) h
  exact .inr ⟨x,t,rfl,e⟩
theorem ziT_ (i:Int) (t:Tok):keyIs (.inl i) (.int i t)=true:=by simp [keyIs,Value.isInt]
theorem ziw_ (x:Str) (t:Tok):keyIs (.inr x) (.str x t)=true:=by simp [keyIs,Value.isStrOf]
theorem zmF_ (a b:Int):decide ((Sum.inl a:Key)=Sum.inl b)=(a == b):=by
 by_cases e:a=b
 ·subst e; simp
 ·have h:¬ (Sum.inl a:Key)=Sum.inl b:=fun q=>e (Sum.inl.inj q)
  rw [decide_eq_false h]
  exact (beq_eq_false_iff_ne.mpr e).symm
theorem zmU_ (a b:Str):decide ((Sum.inr a:Key)=Sum.inr b)=decide (a=b):=by
 by_cases e:a=b
 ·subst e; simp
 ·have h:¬ (Sum.inr a:Key)=Sum.inr b:=fun q=>e (Sum.inr.inj q)
  rw [decide_eq_false h,decide_eq_false e]
theorem znd_ (a:Int) (b:Str):decide ((Sum.inl a:Key)=Sum.inr b)=false:=decide_eq_false (fun q=>nomatch q)
theorem zmI_ (a:Str) (b:Int):decide ((Sum.inr a:Key)=Sum.inl b)=false:=decide_eq_false (fun q=>nomatch q)
def mixKind (prog:Program) (w:World):PySem.KeyKind prog w Key where
 is:=keyIs
 hash:=keyH w
 inj:=fun v a b ha hb=>by
  rcases z6_ ha with ⟨i,t,rfl,rfl⟩ | ⟨x,t,rfl,rfl⟩
  ·rcases z6_ hb with ⟨j,u,rfl,e⟩ | ⟨y,u,rfl,e⟩
   ·injection e with e1 _; rw [e1]
   ·exact nomatch e
  ·rcases z6_ hb with ⟨j,u,rfl,e⟩ | ⟨y,u,rfl,e⟩
   ·exact nomatch e
   ·injection e with e1 _; rw [e1]
 byValue:=fun k v h=>by
  rcases z6_ h with ⟨i,t,rfl,rfl⟩ | ⟨x,t,rfl,rfl⟩<;>rfl
 pyHash:=fun hv h=>by
  rcases z6_ hv with ⟨i,t,rfl,rfl⟩ | ⟨x,t,rfl,rfl⟩
  ·exact wpAny_pyHash_int h
  ·exact wpAny_pyHash_str h
 eqBool:=fun hu hv h=>by
  rcases z6_ hu with ⟨i,t,rfl,rfl⟩ | ⟨x,t,rfl,rfl⟩
  ·rcases z6_ hv with ⟨j,u,rfl,rfl⟩ | ⟨y,u,rfl,rfl⟩
   ·rw [zmF_] at h; exact wpAny_eqBool_int h
   ·rw [znd_] at h; exact SeqAt.EqAt.int_str i t y u _ _ _ _ h
  ·rcases z6_ hv with ⟨j,u,rfl,rfl⟩ | ⟨y,u,rfl,rfl⟩
   ·rw [zmI_] at h; exact SeqAt.EqAt.str_int x t j u _ _ _ _ h
   ·rw [zmU_] at h; exact wpAny_eqBool_str h
 «strs»:=fun k x t v h=>by
  rcases z6_ h with ⟨i,u,rfl,e⟩ | ⟨y,u,rfl,e⟩
  ·exact nomatch e
  ·injection e with e1 _
   subst e1
   cases v<;>rfl
theorem zgH_ (prog:Program) (w:World) (i:Int) (t:Tok):(mixKind prog w).is (.inl i) (.int i t)=true:=ziT_ i t
theorem zgW_ (prog:Program) (w:World) (x:Str) (t:Tok):(mixKind prog w).is (.inr x) (.str x t)=true:=ziw_ x t
end L2
namespace L2
open PySem PySem.Spec PyProof.Rows
inductive V where
 | non | bl (b:Bool) | int (i:Int) | str (x:Str) | byt (b:Array UInt8) | flt (b:UInt64) | ref (a:Addr) | ty (n:String)
 deriving DecidableEq
def RelV:V→Value→Prop
 | .non,u=>u=Value.none
 | .bl b,u=>u=Value.bool b
 | .int i,u=>∃ t,u=Value.int i t
 | .str x,u=>∃ t,u=Value.str x t
 | .byt b,u=>∃ t,u=Value.bytes b t
 | .flt b,u=>∃ t,u=Value.float b t
 | .ref a,u=>u=Value.ref a
 | .ty n,u=>u=Value.type n
abbrev Vals:List V→List Value→Prop:=Paired RelV
theorem Vals.length {xs:List V}{us:List Value}(r:Vals xs us):xs.length=us.length:=Paired.length r
theorem Vals.get:∀ {xs:List V}{us:List Value}{i:Nat}{x:V},Vals xs us→xs[i]?=some x→∃ u,us[i]?=some u∧RelV x u
 | _,_,_,_,.nil,e=>by simp at e
 | _,_,0,_,.cons r _,e=>by simp at e; subst e; exact ⟨_,rfl,r⟩
 | _,_,i+1,x,.cons _ t,e=>by
  obtain ⟨u,h1,h2⟩:=Vals.get (i:=i) (x:=x) t (by simpa using e)
  exact ⟨u,by simpa using h1,h2⟩
theorem Vals.set {x:V}{u:Value}(r:RelV x u):∀ {xs:List V}{us:List Value}(i:Nat),Vals xs us→Vals (xs.set i x) (us.set i u)
 | _,_,_,.nil=>.nil
 | _,_,0,.cons _ t=>.cons r t
 | _,_,i+1,.cons q t=>.cons q (Vals.set r i t)
theorem Vals.append:∀ {xs ys:List V}{us ws:List Value},Vals xs us→Vals ys ws→Vals (xs++ys) (us++ws)
 | _,_,_,_,.nil,s=>s
 | _,_,_,_,.cons r t,s=>.cons r (Vals.append t s)
theorem Vals.take:∀ {xs:List V}{us:List Value}(n:Nat),Vals xs us→Vals (xs.take n) (us.take n)
 | _,_,0,_=>.nil
 | _,_,_+1,.nil=>.nil
 | _,_,n+1,.cons r t=>.cons r (Vals.take n t)
theorem Vals.drop:∀ {xs:List V}{us:List Value}(n:Nat),Vals xs us→Vals (xs.drop n) (us.drop n)
 | _,_,0,r=>r
 | _,_,_+1,.nil=>.nil
 | _,_,n+1,.cons _ t=>Vals.drop n t
def RelO:Option V→Option Value→Prop
 | some v,some u=>RelV v u
 | none,none=>True
 | _,_=>False
def KV {κ:Type}:List (κ×V)→List (κ×Value)→Prop:=Paired fun (p:κ×V) (q:κ×Value)=>p.1=q.1∧RelV p.2 q.2
def kV:Key→V
 | .inl i=>.int i
 | .inr x=>.str x
inductive HO where
 | lst (xs:List V)
 | tup (xs:List V)
 | dK (kvs:List (Key×V)) | dT (kvs:List (List Key×V))
 | set (S:Int→Bool) (n:Nat)
 | ins (C dx:Addr) (fs:List (Str×V))
 | own (x:Addr)
 | xd (fs:List (Str×V))
 | met (f x:Addr)
 | rng (lo hi:Int)
 | frz (o:Obj) (u:HO)
 | tbl (ps:Array Value)
 | ext (φ:Heap→Prop)
abbrev Hp:=Addr→Option HO
def upd (H:Hp) (a:Addr) (o:HO):Hp:=fun b=>if b=a then some o else H b
theorem zP_ {H:Hp}{a:Addr}{o:HO}:upd H a o a=some o:=by unfold upd; rw [if_pos rfl]
theorem zN_ {H:Hp}{a b:Addr}{o:HO}(h:b≠a):upd H a o b=H b:=by unfold upd; rw [if_neg h]
theorem zbn_ {H:Hp}{a b:Addr}{o:HO}(h:H a=some o) (h':H b=none):a≠b:=by
 intro e; subst e; rw [h] at h'; cases h'
section
variable (P:Program) (w:World)
def ObjOk (H:Hp) (h:Heap) (a:Addr):HO→Prop
 | .lst xs=>xs.length≤sizeLine∧∃ (its:List Value) (n:Nat),Vals xs its∧h.get? a=some { cls:=.type "list",data:=.seq its.toArray n }
 | .tup xs=>xs.length≤sizeLine∧∃ its:List Value,Vals xs its∧IsTup h a its.toArray
 | .dK kvs=>kvs.length≤sizeLine∧(a == sysModules)=false∧∃ vs,KV kvs vs∧h.DictOf (mixKind P w) a vs
 | .dT kvs=>kvs.length≤sizeLine∧(a == sysModules)=false∧∃ xs:List (List Key×Addr×Value),
   Paired (fun (p:List Key×V) (q:List Key×Addr×Value)=>p.1=q.1∧H q.2.1=some (.tup (p.1.map kV))∧RelV p.2 q.2.2) kvs xs ∧
   ∃ o es ep,h.get? a=some o∧o.ExactDict∧o.data=.dict es ep∧es.toList=xs.map (entryOfKey (tupleKind (mixKind P w)))∧(xs.map (·.1)).Nodup
 | .set S n=>h.SetOf (intKind P w) a S n
 | .ins C dx fs=>H dx=some (.own a)∧fs.length≤1000∧dx≠a∧h.get? a=some (PySem.W.instObj C dx) ∧
   ∃ mA,h.Ns1 dx mA∧(∀ f,RelO (fs.lookup f) (mA f))∧PySem.Within mA (fs.map (·.1))
 | .own _=>∃ o,h.get? a=some o
 | .xd fs=>∃ mA,h.Ns1 a mA∧∀ f,RelO (fs.lookup f) (mA f)
 | .rng lo hi=>∃ t u v,h.get? a=some { cls:=.type "range",data:=.fields #[.int lo t,.int hi u,.int 1 v] }
 | .frz o u=>h.get? a=some o∧ObjOk H h a u
 | .tbl ps=>h.get? a=some { cls:=.none,data:=.fields ps }
 | .met f x=>h.get? a=some (PySem.W.methodObj (.ref f) (.ref x))
 | .ext φ=>φ h∧(∃ o,h.get? a=some o)∧∀ h1 h2:Heap,φ h1→(∀ o,h1.get? a=some o→h2.get? a=some o)→φ h2
def HOk (H:Hp) (h:Heap):Prop:=∀ a o,H a=some o→ObjOk P w H h a o
end
section
variable {P:Program}{w:World}{H H':Hp}{h h':Heap}{a:Addr}{o:HO}
theorem ObjOk.lt (x:ObjOk P w H h a o):a<h.objs.size:=by
 cases o with
 | lst xs=>obtain ⟨_,_,_,_,e⟩:=x; exact Heap.lt_size e
 | tup xs=>obtain ⟨_,_,_,p⟩:=x; exact p.lt
 | dK kvs=>obtain ⟨_,_,_,_,o,_,_,e,_⟩:=x; exact Heap.lt_size e
 | dT kvs=>obtain ⟨_,_,_,_,o,_,_,e,_⟩:=x; exact Heap.lt_size e
 | set S n=>obtain ⟨o,_,_,_,e,_⟩:=x; exact Heap.lt_size e
 | ins C dx fs=>obtain ⟨_,_,_,e,_⟩:=x; exact Heap.lt_size e
 | own y=>obtain ⟨_,e⟩:=x; exact Heap.lt_size e
 | xd fs=>obtain ⟨_,⟨_,_,_,e,_⟩,_⟩:=x; exact Heap.lt_size e
 | rng lo hi=>obtain ⟨_,_,_,e⟩:=x; exact Heap.lt_size e
 | frz ob u=>obtain ⟨e,_⟩:=x; exact Heap.lt_size e
 | tbl ps=>exact Heap.lt_size (show h.get? a=some _ from x)
 | met f y=>exact Heap.lt_size (show h.get? a=some _ from x)
 | ext φ=>obtain ⟨_,⟨_,e⟩,_⟩:=x; exact Heap.lt_size e
theorem Paired.mapP {α β:Type}{F G:α→β→Prop}:∀ {l₁:List α}{l₂:List β},Paired F l₁ l₂→(∀ a b,F a b→G a b)→Paired G l₁ l₂
 | _,_,.nil,_=>.nil
 | _,_,.cons r t,f=>.cons (f _ _ r) (Paired.mapP t f)
theorem ObjOk.stay (x:ObjOk P w H h a o) (k:∀ b u,(b=a∨H b=some (.own a))→h.get? b=some u→h'.get? b=some u)
  (ho:∀ b,H b=some (.own a)→H' b=some (.own a)) (ht:∀ b xs,H b=some (.tup xs)→H' b=some (.tup xs)):ObjOk P w H' h' a o:=by
 induction o with
 | lst xs=>obtain ⟨z,its,n,r,e⟩:=x; exact ⟨z,its,n,r,k _ _ (.inl rfl) e⟩
 | tup xs=>obtain ⟨z,its,r,ob,e,c⟩:=x; exact ⟨z,its,r,ob,k _ _ (.inl rfl) e,c⟩
 | dK kvs=>obtain ⟨z,y,vs,r,ob,es,ep,e,c⟩:=x; exact ⟨z,y,vs,r,ob,es,ep,k _ _ (.inl rfl) e,c⟩
 | dT kvs =>
  obtain ⟨z,y,xs,r,ob,es,ep,e,c⟩:=x
  exact ⟨z,y,xs,Paired.mapP r fun p q z=>⟨z.1,ht _ _ z.2.1,z.2.2⟩,ob,es,ep,k _ _ (.inl rfl) e,c⟩
 | set S n=>obtain ⟨ob,es,ep,t,e,c⟩:=x; exact ⟨ob,es,ep,t,k _ _ (.inl rfl) e,c⟩
 | ins C dx fs =>
  obtain ⟨d,z,ne,e,mA,⟨od,es,ep,e2,c⟩,r⟩:=x
  exact ⟨ho _ d,z,ne,k _ _ (.inl rfl) e,mA,⟨od,es,ep,k _ _ (.inr d) e2,c⟩,r⟩
 | own y=>obtain ⟨ob,e⟩:=x; exact ⟨ob,k _ _ (.inl rfl) e⟩
 | xd fs=>obtain ⟨mA,⟨od,es,ep,e,c⟩,r⟩:=x; exact ⟨mA,⟨od,es,ep,k _ _ (.inl rfl) e,c⟩,r⟩
 | rng lo hi=>obtain ⟨t,u,v,e⟩:=x; exact ⟨t,u,v,k _ _ (.inl rfl) e⟩
 | frz ob u ih=>obtain ⟨e,q⟩:=x; exact ⟨k _ _ (.inl rfl) e,ih q⟩
 | tbl ps =>
  have e:h.get? a=some { cls:=.none,data:=.fields ps }:=x
  show h'.get? a=some { cls:=.none,data:=.fields ps }
  exact k a _ (.inl rfl) e
 | met f y =>
  have e:h.get? a=some (PySem.W.methodObj (.ref f) (.ref y)):=x
  show h'.get? a=some (PySem.W.methodObj (.ref f) (.ref y))
  exact k a _ (.inl rfl) e
 | ext φ=>obtain ⟨p,⟨o,e⟩,st⟩:=x; exact ⟨st _ _ p fun o q=>k _ _ (.inl rfl) q,⟨o,k _ _ (.inl rfl) e⟩,st⟩
theorem HOk.lt (x:HOk P w H h) (e:H a=some o):a<h.objs.size:=(x a o e).lt
theorem HOk.fresh (x:HOk P w H h) (e:h.objs.size≤a):H a=none:=by
 cases q:H a with
 | none=>rfl
 | some u=>exact absurd (Nat.lt_of_lt_of_le (x.lt q) e) (Nat.lt_irrefl _)
theorem HOk.kept (x:HOk P w H h) (k:∀ b u,h.get? b=some u→h'.get? b=some u):HOk P w H h':=fun a o e =>
 (x a o e).stay (fun b u _ q=>k b u q) (fun _ q=>q) fun _ _ q=>q
theorem HOk.laid (x:HOk P w H h) (k:∀ b u,h.get? b=some u→h'.get? b=some u) (hp:h.objs.size≤a) (new:ObjOk P w (upd H a o) h' a o):HOk P w (upd H a o) h':=fun b u e=>by
 have hn:=x.fresh hp
 by_cases hb:b=a
 ·subst hb; rw [zP_] at e; cases e; exact new
 ·rw [zN_ hb] at e
  exact (x b u e).stay (fun c v _ q=>k c v q) (fun c q=>by rw [zN_ (zbn_ q hn)]; exact q) fun c xs q=>by rw [zN_ (zbn_ q hn)]; exact q
end
def Rd (H:Hp) (a:Addr) (u:HO):Prop:=H a=some u∨∃ o,H a=some (.frz o u)
theorem Rd.ok {P:Program}{w:World}{H:Hp}{h:Heap}{a:Addr}{u:HO}(r:Rd H a u) (x:HOk P w H h):ObjOk P w H h a u:=by
 rcases r with r | ⟨o,r⟩
 ·exact x a u r
 ·obtain ⟨_,q⟩:=x a _ r
  exact q
def Mut:Option HO→Prop
 | some (.lst _)=>True
 | some (.dK _)=>True
 | some (.dT _)=>True
 | some (.set _ _)=>True
 | some (.ins _ _ _)=>True
 | some (.ext _)=>True
 | _=>False
section
variable {P:Program}{w:World}{H:Hp}{h h':Heap}{x e:Addr}{o':HO}
theorem HOk.write (ok:HOk P w H h) (mu:Mut (H x)) (he:e=x∨H e=some (.own x)) (k:∀ b u,b≠e→h.get? b=some u→h'.get? b=some u) (heo:∃ u,h'.get? e=some u)
  (new:ObjOk P w (upd H x o') h' x o'):HOk P w (upd H x o') h':=fun b u q=>by
 have nown:∀ c y,H c=some (.own y)→c≠x:=fun c y r z=>by subst z; rw [r] at mu; exact mu
 have ntup:∀ c xs,H c=some (.tup xs)→c≠x:=fun c xs r z=>by subst z; rw [r] at mu; exact mu
 by_cases hb:b=x
 ·subst hb; rw [zP_] at q; cases q; exact new
 ·rw [zN_ hb] at q
  by_cases hbe:b=e
  ·have q':H b=some (.own x):=by
    rcases he with z | z
    ·exact absurd (hbe.trans z) hb
    ·rw [hbe]; exact z
   rw [q] at q'; cases q'
   obtain ⟨v,hv⟩:=heo
   exact ⟨v,by rw [hbe]; exact hv⟩
  ·refine (ok b u q).stay (fun c v hc r=>k c v ?_ r) (fun c r=>by rw [zN_ (nown c b r)]; exact r) fun c xs r=>by rw [zN_ (ntup c xs r)]; exact r
   rcases hc with rfl | hc
   ·exact hbe
   ·rintro rfl
    rcases he with z | z
    ·exact nown c b hc z
    ·rw [hc] at z; cases z; exact hb rfl
end
structure Un (fs ex:List Addr) (H H':Hp) (h h':Heap):Prop where
 keep:∀ b o,h.get? b=some o→H b=none→b∉fs→b∉ex→h'.get? b=some o
 slot:∀ b o,h.get? b=some o→H b=none→b∈fs→b∉ex→∃ sl,h'.get? b=some { o with slots:=sl }
 free:∀ b o,h.get? b=some o→H b=none→b∉ex→H' b=none
 there:∀ b o,h.get? b=some o→b∉ex→∃ o',h'.get? b=some o'
 tups:∀ b xs,H b=some (.tup xs)→H' b=some (.tup xs)
 frzs:∀ b o u,H b=some (.frz o u)→H' b=some (.frz o u)
 tbls:∀ b ps,H b=some (.tbl ps)→∃ more,H' b=some (.tbl (ps++more))
section
variable {fs fs' ex ex':List Addr}{H H1 H2:Hp}{h h1 h2 h':Heap}{a x e:Addr}{o:HO}
theorem Un.any (u:Un fs ex H H1 h h1) {b:Addr}{ob:Obj}(q:h.get? b=some ob) (n:H b=none) (hx:b∉ex):∃ sl,h1.get? b=some { ob with slots:=sl }:=by
 by_cases hb:b∈fs
 ·exact u.slot b ob q n hb hx
 ·exact ⟨ob.slots,u.keep b ob q n hb hx⟩
theorem Un.kept (k:∀ b u,h.get? b=some u→h'.get? b=some u):Un fs ex H H h h' :=
 ⟨fun b ob q _ _ _=>k b ob q,fun b ob q _ _ _=>⟨ob.slots,k b ob q⟩,fun _ _ _ n _=>n,fun b ob q _=>⟨ob,k b ob q⟩,fun _ _ q=>q,fun _ _ _ q=>q,fun _ ps q=>⟨#[],by rw [q]; simp⟩⟩
theorem Un.refl:Un fs ex H H h h:=Un.kept fun _ _ q=>q
theorem Un.laid (k:∀ b u,h.get? b=some u→h'.get? b=some u) (hp:h.objs.size≤a) (hn:H a=none):Un fs ex H (upd H a o) h h' where
 keep:=fun b u q _ _ _=>k b u q
 slot:=fun b u q _ _ _=>⟨u.slots,k b u q⟩
 free:=fun b u q n _=>by rw [zN_ (Nat.ne_of_lt (Nat.lt_of_lt_of_le (Heap.lt_size q) hp))]; exact n
 there:=fun b u q _=>⟨u,k b u q⟩
 tups:=fun b xs q=>by rw [zN_ (zbn_ q hn)]; exact q
 frzs:=fun b u xs q=>by rw [zN_ (zbn_ q hn)]; exact q
 tbls:=fun b ps q=>⟨#[],by rw [zN_ (zbn_ q hn),q]; simp⟩
theorem Un.write (mu:Mut (H x)) (he:e=x∨H e=some (.own x)) (k:∀ b u,b≠e→h.get? b=some u→h'.get? b=some u) (heo:∃ u,h'.get? e=some u):Un fs ex H (upd H x o) h h':=by
 have hx:∀ b,H b=none→b≠x:=fun b n z=>by subst z; rw [n] at mu; exact mu
 have hb:∀ b,H b=none→b≠e:=fun b n z=>by
  subst z
  rcases he with r | r
  ·exact hx b n r
  ·rw [n] at r; cases r
 have hm:∀ b u,H b=some u→¬ Mut (some u)→b≠x:=fun b u q nm z=>by subst z; rw [q] at mu; exact nm mu
 refine ⟨fun b u q n _ _=>k b u (hb b n) q,fun b u q n _ _=>⟨u.slots,k b u (hb b n) q⟩,fun b u q n _=>by rw [zN_ (hx b n)]; exact n,fun b u q _=>?_,
  fun b xs q=>by rw [zN_ (hm b _ q fun z=>z)]; exact q,fun b u xs q=>by rw [zN_ (hm b _ q fun z=>z)]; exact q,fun b ps q=>⟨#[],by rw [zN_ (hm b _ q fun z=>z),q]; simp⟩⟩
 by_cases hbe:b=e
 ·subst hbe; exact heo
 ·exact ⟨u,k b u hbe q⟩
end
def trk (h:Heap) (H:Hp):List Addr:=(List.range h.objs.size).filter fun a=>(H a).isSome
def hidT (h:Heap) (H:Hp):Heap:=PySem.W.hideAll h (trk h H)
theorem zi1_ (h:Heap) (H:Hp):(hidT h H).objs.size=h.objs.size:=PySem.W.hideAll_size _ _
theorem zjU_ {h:Heap}{H:Hp}{b:Addr}{o:Obj}(e:h.get? b=some o) (n:H b=none):(hidT h H).get? b=some o :=
 PySem.W.hideAll_get _ e fun hm=>by
  have q:(H b).isSome=true:=(List.mem_filter.mp hm).2
  rw [n] at q; simp at q
theorem zlU_ {h:Heap}{H:Hp}{b:Addr}{o:Obj}(e:(hidT h H).get? b=some o):h.get? b=some o∧H b=none:=by
 have e':h.get? b=some o:=PySem.W.of_hideAll (trk h H) e
 refine ⟨e',?_⟩
 cases q:H b with
 | none=>rfl
 | some x =>
  have hm:b∈trk h H:=List.mem_filter.mpr ⟨List.mem_range.mpr (Heap.lt_size e'),by simp [q]⟩
  have z:(hidT h H).get? b=none:=PySem.W.hideAll_none (trk h H) hm
  rw [z] at e; cases e
def allNews (g h:Heap) (L:Addr):Pnn:=(List.range h.objs.size).filterMap fun a=>if a=L∨(g.get? a).isSome=true then none else (h.get? a).map fun o=>(a,o)
def rest (g h:Heap) (L d:Addr):Pnn:=(allNews g h L).filter fun p=>decide (p.1≠d)
end L2
namespace L2
open PySem PySem.Spec PyProof.Rows
structure Mod (K:Fgg) (mg:Str→Option Value) (base:Heap):Prop where
 kin:K.In base
 glob:base.Ns mainGlobals mg
 blt:∃ mb,base.Ns builtinsNs mb∧∀ x:Str,x ≠ "__name__" → mb x=bootBuiltins x
 nolimit:base.NoLimit
structure Cx where
 prog:Program
 w:World
 K:Fgg
 mg:Str→Option Value
 base:Heap
 A:Around
 N:List Str
 s₀:Shared
 H₀:Hp
 env:Env
 outer:List Env
 stack:List Env
 ex:List Addr
 fn:Str→Bool
 calm:Bool
 pn:Pnn
 xe:Value→Shared→Prop
def frs (l:List Env):List Addr:=l.filterMap (·.frame)
abbrev Cx.fs (X:Cx):List Addr:=frs X.outer
def Vis (sc:Scope) (x:Str):Prop:=sc.names.lookup x=some .local∨sc.names.lookup x=some .cell∨sc.names.lookup x=some .free
def Loc (sc:Scope) (x:Str):Prop:=sc.names.lookup x=some .local∨sc.names.lookup x=some .cell
def Look (env:Env) (h:Heap) (m:Str→Option Value) (x:Str) (u:Value):Prop :=
 (env.kindOf x=some .local∧m x=some u)∨((env.kindOf x=some .cell∨env.kindOf x=some .free)∧∃ c,env.cells.lookup x=some c∧h.IsCell c (some u))
structure Cx.Ok (X:Cx):Prop where
 mod:Mod X.K X.mg X.base
 kind:X.env.scope.kind=.function
 glob:X.env.globals=mainGlobals
 blt:X.env.builtins=builtinsNs
 above:X.s₀.heap.objs.size≤X.env.locals
 inj:∀ x y c,X.env.cells.lookup x=some c→X.env.cells.lookup y=some c→x=y
 has:∀ x,(X.env.kindOf x=some .cell∨X.env.kindOf x=some .free)→∃ c,X.env.cells.lookup x=some c
 cab:∀ x c,X.fn x=true→X.env.cells.lookup x=some c→X.s₀.heap.objs.size≤c
 hd:X.calm=true→X.A.handled=none
 frames:X.A.frames=some X.stack
 stk:X.stack=X.outer∨(X.stack=X.env::X.outer∧X.env.frame=some X.env.locals)
 exf:∀ b∈X.ex,b≠X.env.locals∧∀ x c,X.env.cells.lookup x=some c→c≠b
 bs:∀ b o,X.base.get? b=some o→X.s₀.heap.get? b=some o∧X.H₀ b=none
 bsz:X.base.objs.size≤X.s₀.heap.objs.size
 noex:∀ b o,X.base.get? b=some o→b∉X.ex
 exfs:∀ b∈X.ex,b∉X.fs
 funs:X.s₀.heap.FunFrames X.base X.outer
 frf:∀ b∈X.fs,X.H₀ b=none
structure Inv (X:Cx) (pins:Pnn) (σ:List (Option V)) (H:Hp) (s:Shared):Prop where
 ok:X.Ok
 os:s.os=X.s₀.os
 bare:AllBare s.gens
 base:Un X.fs X.ex X.H₀ H X.s₀.heap s.heap
 loc:∃ m,s.heap.Ns X.env.locals m∧∀ (i:Nat) (x:Str) (v:V),X.N[i]?=some x→σ[i]?=some (some v)→Vis X.env.scope x→∃ u,RelV v u∧Look X.env s.heap m x u
 cell:∀ x c,X.env.cells.lookup x=some c→∃ v,s.heap.IsCell c v
 free:H X.env.locals=none
 freeC:∀ x c,X.env.cells.lookup x=some c→H c=none
 pin:∀ p∈X.pn++pins,s.heap.get? p.1=some p.2∧H p.1=none∧p.1≠X.env.locals∧p.1∉X.fs∧∀ v,p.2.data≠.cell v
 hok:HOk X.prog X.w H s.heap
 len:σ.length=X.N.length
section
variable {X:Cx}{pins:Pnn}{σ:List (Option V)}{H H':Hp}{s:Shared}{h':Heap}
theorem Cx.Ok.nofr (ok:X.Ok) {b:Addr}{o:Obj}(e:X.base.get? b=some o):b∉X.fs:=fun hb=>by
 have:=(ok.funs.mem hb).1
 rw [e] at this; cases this
theorem Inv.bs (I:Inv X pins σ H s):∀ b o,X.base.get? b=some o→s.heap.get? b=some o∧H b=none:=fun b o e =>
 ⟨I.base.keep b o (I.ok.bs b o e).1 (I.ok.bs b o e).2 (I.ok.nofr e) (I.ok.noex b o e),I.base.free b o (I.ok.bs b o e).1 (I.ok.bs b o e).2 (I.ok.noex b o e)⟩
theorem Inv.bk (I:Inv X pins σ H s):∀ b o,X.base.get? b=some o→s.heap.get? b=some o:=fun b o e=>(I.bs b o e).1
theorem Inv.mod (I:Inv X pins σ H s):Mod X.K X.mg X.base:=I.ok.mod
theorem Inv.kIn (I:Inv X pins σ H s):X.K.In s.heap:=I.ok.mod.kin.keeps I.bk
theorem Inv.lt (I:Inv X pins σ H s):X.env.locals<s.heap.objs.size:=let ⟨_,hn,_⟩:=I.loc; hn.lt
theorem Inv.sz (I:Inv X pins σ H s):X.s₀.heap.objs.size≤s.heap.objs.size:=Nat.le_trans I.ok.above (Nat.le_of_lt I.lt)
theorem Inv.nofs (I:Inv X pins σ H s) {a:Addr}(h:s.heap.objs.size≤a):a∉X.fs:=fun hb=>by
 obtain ⟨_,o,ho,_⟩:=I.ok.funs.mem hb
 exact absurd (Nat.lt_of_lt_of_le (Heap.lt_size ho) (Nat.le_trans I.sz h)) (Nat.lt_irrefl _)
theorem Inv.cne (I:Inv X pins σ H s):∀ x c,X.env.cells.lookup x=some c→c≠X.env.locals:=fun x c e z=>by
 obtain ⟨v,o,ho,hd⟩:=I.cell x c e
 obtain ⟨m,⟨o',es,ep,ho',hd',_⟩,_⟩:=I.loc
 rw [z,ho'] at ho; cases ho; rw [hd'] at hd; cases hd
theorem Inv.funs (I:Inv X pins σ H s):s.heap.FunFrames X.base X.outer:=by
 have all:∀ (l:List Env),(∀ b∈frs l,b∈X.fs)→X.s₀.heap.FunFrames X.base l→s.heap.FunFrames X.base l:=by
  intro l
  induction l with
  | nil=>intro _ _; trivial
  | cons env r ih =>
   intro hs hl
   obtain ⟨hk,⟨L,o,hf,hn,ho,hd⟩,hr⟩:=hl
   have hL:L∈X.fs:=hs L (by unfold frs; rw [List.filterMap_cons,hf]; exact List.mem_cons_self)
   obtain ⟨sl,e⟩:=I.base.slot L o ho (I.ok.frf L hL) hL fun z=>I.ok.exfs L z hL
   exact ⟨hk,⟨L,_,hf,hn,e,hd⟩,ih (fun b hb=>hs b (by unfold frs; rw [List.filterMap_cons,hf]; exact List.mem_cons_of_mem _ hb)) hr⟩
 exact all X.outer (fun _ hb=>hb) I.ok.funs
theorem Inv.stack (I:Inv X pins σ H s):s.heap.FunFrames X.base X.stack:=by
 rcases I.ok.stk with e | ⟨e,hf⟩
 ·rw [e]; exact I.funs
 ·rw [e]
  obtain ⟨m,hn,_⟩:=I.loc
  refine .cons (by rw [I.ok.kind]; decide) hf hn ?_ I.funs
  exact Heap.get?_none_of_le (Nat.le_trans I.ok.bsz I.ok.above)
theorem Inv.stkSub (I:Inv X pins σ H s):∀ b∈frs X.stack,b∈X.env.locals::X.fs:=fun b hb=>by
 rcases I.ok.stk with e | ⟨e,hf⟩
 ·rw [e] at hb; exact List.mem_cons_of_mem _ hb
 ·rw [e] at hb
  unfold frs at hb
  rw [List.filterMap_cons,hf] at hb
  exact hb
theorem Inv.stkFree (I:Inv X pins σ H s):∀ b∈frs X.stack,H b=none:=fun b hb=>by
 rcases List.mem_cons.mp (I.stkSub b hb) with e | hb
 ·rw [e]; exact I.free
 ·obtain ⟨_,o,ho,_⟩:=I.ok.funs.mem hb
  exact I.base.free b o ho (I.ok.frf b hb) fun z=>I.ok.exfs b z hb
theorem Inv.step {g':Array GenState}{t':Nat}{d':Drawn}{ch:List Addr}(I:Inv X pins σ H s)
  (hch:∀ b∈ch,(b∈X.ex∨X.s₀.heap.objs.size≤b)∧b≠X.env.locals∧(∀ x c,X.env.cells.lookup x=some c→c≠b)∧∀ p∈X.pn++pins,p.1≠b)
  (keep:∀ b o,b≠X.env.locals→b∉X.fs→b∉ch→s.heap.get? b=some o→H b=none→h'.get? b=some o)
  (slot:∀ b o,b≠X.env.locals→b∈X.fs→b∉ch→s.heap.get? b=some o→H b=none→∃ sl,h'.get? b=some { o with slots:=sl }) (free:∀ b o,b∉ch→s.heap.get? b=some o→H b=none→H' b=none)
  (there:∀ b o,b∉ch→s.heap.get? b=some o→∃ o',h'.get? b=some o')
  (tups:∀ b xs,H b=some (.tup xs)→H' b=some (.tup xs)) (frzs:∀ b o u,H b=some (.frz o u)→H' b=some (.frz o u)) (tbls:∀ b ps,H b=some (.tbl ps)→∃ more,H' b=some (.tbl (ps++more)))
  (ns:∀ m,s.heap.Ns X.env.locals m→h'.Ns X.env.locals m) (hok:HOk X.prog X.w H' h') (hg:AllBare g') :
  Inv X pins σ H' { s with heap:=h',gens:=g',drawn:=d',toks:=t' }:=by
 have neL:∀ b o,X.s₀.heap.get? b=some o→b≠X.env.locals:=fun b o e=>Nat.ne_of_lt (Nat.lt_of_lt_of_le (Heap.lt_size e) I.ok.above)
 have neC:∀ b o,X.s₀.heap.get? b=some o→b∉X.ex→b∉ch:=fun b o e hx hb=>by
  rcases (hch b hb).1 with z | z
  ·exact hx z
  ·exact absurd (Nat.lt_of_lt_of_le (Heap.lt_size e) z) (Nat.lt_irrefl _)
 have cellK:∀ x c,X.env.cells.lookup x=some c→∀ v,s.heap.IsCell c v→h'.IsCell c v:=fun x c e v ⟨o,ho,hd⟩=>by
  have nch:c∉ch:=fun z=>(hch c z).2.2.1 x c e rfl
  by_cases hc:c∈X.fs
  ·obtain ⟨sl,q⟩:=slot c o (I.cne x c e) hc nch ho (I.freeC x c e)
   exact ⟨_,q,hd⟩
  ·exact ⟨o,keep c o (I.cne x c e) hc nch ho (I.freeC x c e),hd⟩
 refine ⟨I.ok,I.os,hg,⟨fun b o e n hb hx=>?_,fun b o e n hb hx=>?_,fun b o e n hx=>?_,fun b o e hx=>?_,fun b xs e=>tups b xs (I.base.tups b xs e),fun b o xs e=>frzs b o xs (I.base.frzs b o xs e),fun b ps e=>?_⟩,?_,fun x c e=>?_,?_,fun x c e=>?_,fun p hp=>?_,hok,I.len⟩
 ·exact keep b o (neL b o e) hb (neC b o e hx) (I.base.keep b o e n hb hx) (I.base.free b o e n hx)
 ·obtain ⟨sl,e1⟩:=I.base.slot b o e n hb hx
  obtain ⟨sl',e2⟩:=slot b _ (neL b o e) hb (neC b o e hx) e1 (I.base.free b o e n hx)
  exact ⟨sl',e2⟩
 ·obtain ⟨o',e1⟩:=I.base.there b o e hx
  exact free b o' (neC b o e hx) e1 (I.base.free b o e n hx)
 ·obtain ⟨o',e1⟩:=I.base.there b o e hx
  exact there b o' (neC b o e hx) e1
 ·obtain ⟨m1,e1⟩:=I.base.tbls b ps e
  obtain ⟨m2,e2⟩:=tbls b _ e1
  exact ⟨m1++m2,by rw [e2,Array.append_assoc]⟩
 ·obtain ⟨m,hn,hl⟩:=I.loc
  refine ⟨m,ns m hn,fun i x v e1 e2 e3=>?_⟩
  obtain ⟨u,r,l⟩:=hl i x v e1 e2 e3
  refine ⟨u,r,?_⟩
  rcases l with l | ⟨k,c,e,z⟩
  ·exact .inl l
  ·exact .inr ⟨k,c,e,cellK x c e _ z⟩
 ·obtain ⟨v,z⟩:=I.cell x c e
  exact ⟨v,cellK x c e v z⟩
 ·obtain ⟨m,⟨o,_,_,ho,_⟩,_⟩:=I.loc
  exact free _ o (fun z=>(hch _ z).2.1 rfl) ho I.free
 ·obtain ⟨v,o,ho,hd⟩:=I.cell x c e
  exact free c o (fun z=>(hch c z).2.2.1 x c e rfl) ho (I.freeC x c e)
 ·obtain ⟨e,n,ne,nf,d⟩:=I.pin p hp
  have nch:p.1∉ch:=fun z=>(hch p.1 z).2.2.2 p hp rfl
  exact ⟨keep p.1 p.2 ne nf nch e n,free p.1 p.2 nch e n,ne,nf,d⟩
theorem Inv.un {t':Nat}(I:Inv X pins σ H s) (u:Un X.fs [] H H' s.heap h') (hok:HOk X.prog X.w H' h'):Inv X pins σ H' { s with heap:=h',toks:=t' }:=by
 obtain ⟨m,⟨o,es,ep,ho,r⟩,_⟩:=id I.loc
 obtain ⟨sl,hL⟩:=u.any ho I.free (by simp)
 exact I.step (g':=s.gens) (d':=s.drawn) (ch:=[]) (fun _ z=>nomatch z) (fun b o _ hb _ e n=>u.keep b o e n hb (by simp)) (fun b o _ hb _ e n=>u.slot b o e n hb (by simp)) (fun b o _ e n=>u.free b o e n (by simp)) (fun b o _ e=>u.there b o e (by simp)) u.tups u.frzs u.tbls (fun m' hm=>by
  obtain ⟨o',es',ep',ho',r'⟩:=hm
  rw [ho] at ho'; cases ho'
  exact ⟨_,es',ep',hL,r'⟩) hok I.bare
theorem Inv.call {g':Array GenState}{t':Nat}{d':Drawn}{ch:List Addr}(I:Inv X pins σ H s) (u:Un (frs X.stack) ch H H' s.heap h') (hok:HOk X.prog X.w H' h') (hg:AllBare g')
  (hch:∀ b∈ch,(b∈X.ex∨X.s₀.heap.objs.size≤b)∧b≠X.env.locals∧(∀ x c,X.env.cells.lookup x=some c→c≠b)∧∀ p∈X.pn++pins,p.1≠b) :
  Inv X pins σ H' { s with heap:=h',gens:=g',drawn:=d',toks:=t' }:=by
 obtain ⟨m,⟨o,es,ep,ho,r⟩,_⟩:=id I.loc
 obtain ⟨sl,hL⟩:=u.any ho I.free fun z=>(hch _ z).2.1 rfl
 exact I.step (ch:=ch) hch (fun b o hL hb hc e n=>u.keep b o e n (fun z=>(List.mem_cons.mp (I.stkSub b z)).elim hL hb) hc) (fun b o _ _ hc e n=>u.any e n hc) (fun b o hc e n=>u.free b o e n hc) (fun b o hc e=>u.there b o e hc) u.tups u.frzs u.tbls (fun m' hm=>by
  obtain ⟨o',es',ep',ho',r'⟩:=hm
  rw [ho] at ho'; cases ho'
  exact ⟨_,es',ep',hL,r'⟩) hok hg
theorem Inv.turned {t':Nat}{it:Addr}(I:Inv X pins σ H s) (k:∀ b o,b≠it→s.heap.get? b=some o→h'.get? b=some o) (hn:H it=none) (hL:it≠X.env.locals)
  (h1:it∈X.ex∨X.s₀.heap.objs.size≤it) (h2:∀ x c,X.env.cells.lookup x=some c→c≠it) (h3:∀ p∈X.pn++pins,p.1≠it):Inv X pins σ H { s with heap:=h',toks:=t' }:=by
 have nit:∀ b u,H b=some u→b≠it:=fun b u e z=>by rw [z,hn] at e; cases e
 refine I.step (g':=s.gens) (d':=s.drawn) (ch:=[it]) (fun b hb=>?_) (fun b o _ _ hc e _=>k b o (fun z=>hc (by simp [z])) e) (fun b o _ _ hc e _=>⟨o.slots,k b o (fun z=>hc (by simp [z])) e⟩) (fun _ _ _ _ n=>n)
  (fun b o hc e=>⟨o,k b o (fun z=>hc (by simp [z])) e⟩) (fun _ _ e=>e) (fun _ _ _ e=>e) (fun b ps e=>⟨#[],by rw [e]; simp⟩) (fun m hm=>?_) (fun b u e=>?_) I.bare
 ·have e:b=it:=by simpa using hb
  subst e
  exact ⟨h1,hL,h2,h3⟩
 ·obtain ⟨o,es,ep,ho,r⟩:=hm
  exact ⟨o,es,ep,k _ o (Ne.symm hL) ho,r⟩
 ·refine (I.hok b u e).stay (fun c v hc q=>k c v ?_ q) (fun _ q=>q) fun _ _ q=>q
  rcases hc with z | z
  ·rw [z]; exact nit b u e
  ·exact nit c _ z
theorem Inv.tok (I:Inv X pins σ H s) (t:Nat):Inv X pins σ H { s with toks:=t }:=I.un (h':=s.heap) (t':=t) Un.refl I.hok
theorem Inv.kept {t':Nat}(I:Inv X pins σ H s) (k:∀ b u,s.heap.get? b=some u→h'.get? b=some u):Inv X pins σ H { s with heap:=h',toks:=t' }:=I.un (Un.kept k) (I.hok.kept k)
theorem Inv.laid {a:Addr}{o:HO}{t':Nat}(I:Inv X pins σ H s) (k:∀ b u,s.heap.get? b=some u→h'.get? b=some u) (hp:s.heap.objs.size≤a) (new:ObjOk X.prog X.w (upd H a o) h' a o) :
  Inv X pins σ (upd H a o) { s with heap:=h',toks:=t' }:=I.un (Un.laid k hp (I.hok.fresh hp)) (I.hok.laid k hp new)
theorem Inv.write {x e:Addr}{o:HO}{t':Nat}(I:Inv X pins σ H s) (mu:Mut (H x)) (he:e=x∨H e=some (.own x)) (k:∀ b u,b≠e→s.heap.get? b=some u→h'.get? b=some u) (heo:∃ u,h'.get? e=some u)
  (new:ObjOk X.prog X.w (upd H x o) h' x o):Inv X pins σ (upd H x o) { s with heap:=h',toks:=t' }:=I.un (Un.write mu he k heo) (I.hok.write mu he k heo new)
theorem Inv.pins_of {pins':Pnn}(I:Inv X pins σ H s) (h:∀ p∈pins',s.heap.get? p.1=some p.2∧H p.1=none∧p.1≠X.env.locals∧p.1∉X.fs∧∀ v,p.2.data≠.cell v):Inv X pins' σ H s :=
 ⟨I.ok,I.os,I.bare,I.base,I.loc,I.cell,I.free,I.freeC,fun p hp=>(List.mem_append.mp hp).elim (fun z=>I.pin p (List.mem_append_left _ z)) (h p),I.hok,I.len⟩
theorem zhg_ {N:List Str}(hN:N.Nodup) {i j:Nat}{x:Str}(a:N[i]?=some x) (b:N[j]?=some x):i=j:=by
 obtain ⟨h1,e1⟩:=List.getElem?_eq_some_iff.mp a
 obtain ⟨h2,e2⟩:=List.getElem?_eq_some_iff.mp b
 exact (List.getElem_inj hN).mp (e1.trans e2.symm)
theorem zi4_ {M:Model}{A:Around}{E:Value→Shared→Prop}{i:Nat}{x:Str}{v:V}{u:Value}{Q:Unit→Shared→Prop}(I:Inv X pins σ H s) (hN:X.N.Nodup) (hi:X.N[i]?=some x) (hx:Loc X.env.scope x) (r:RelV v u)
  (h:∀ s',Inv X pins (σ.set i (some v)) H s'→(∃ a,Heap.SameBut a s.heap s'.heap∧(a=X.env.locals∨X.env.cells.lookup x=some a))→Q () s') (hf:X.fn x=true∨X.env.scope.names.lookup x=some .local:=by first | exact .inl rfl | exact .inr rfl | assumption):wpAny M A (storeName X.env x u) Q E s:=by
 obtain ⟨m,hn,hl⟩:=id I.loc
 have hcls:(X.env.scope.kind == .class || (X.env.scope.kind == .module && X.env.locals != X.env.globals))=false:=by rw [I.ok.kind]; rfl
 have hiσ:i<σ.length:=by rw [I.len]; exact (List.getElem?_eq_some_iff.mp hi).1
 have cne:=I.cne
 have tracked:∀ {a:Addr}{h':Heap},(∃ o,s.heap.get? a=some o∧H a=none)→Heap.SameBut a s.heap h'→HOk X.prog X.w H h':=fun {a h'} ha hs b ob e=>by
  obtain ⟨_,_,hfree⟩:=ha
  refine (I.hok b ob e).stay (fun c w' hc q=>(hs.2 c ?_).trans q) (fun _ q=>q) fun _ _ q=>q
  rintro rfl
  rcases hc with rfl | hc
  ·rw [hfree] at e; cases e
  ·rw [hfree] at hc; cases hc
 rcases hx with hk | hk
 ·refine wpAny_storeName_local hk hn (fun h' hn' hs=>?_) hcls
  obtain ⟨oL,_,_,hoL,_⟩:=id hn
  refine h _ ⟨I.ok,I.os,I.bare,⟨fun b o e n hb hx=>?_,fun b o e n hb hx=>?_,I.base.free,fun b o e hx=>?_,I.base.tups,I.base.frzs,I.base.tbls⟩,⟨_,hn',fun j y v' e1 e2 e3=>?_⟩,fun y c e=>?_,I.free,I.freeC,fun p hp=>?_,tracked ⟨oL,hoL,I.free⟩ hs,by simpa using I.len⟩ ⟨_,hs,.inl rfl⟩
  ·exact (hs.2 b (Nat.ne_of_lt (Nat.lt_of_lt_of_le (Heap.lt_size e) I.ok.above))).trans (I.base.keep b o e n hb hx)
  ·obtain ⟨sl,e1⟩:=I.base.slot b o e n hb hx
   exact ⟨sl,(hs.2 b (Nat.ne_of_lt (Nat.lt_of_lt_of_le (Heap.lt_size e) I.ok.above))).trans e1⟩
  ·obtain ⟨o',e1⟩:=I.base.there b o e hx
   exact ⟨o',(hs.2 b (Nat.ne_of_lt (Nat.lt_of_lt_of_le (Heap.lt_size e) I.ok.above))).trans e1⟩
  ·by_cases hj:j=i
   ·subst hj
    rw [hi] at e1; cases e1
    rw [List.getElem?_set_self hiσ] at e2
    cases e2
    exact ⟨u,r,.inl ⟨hk,by simp⟩⟩
   ·rw [List.getElem?_set_ne (Ne.symm hj)] at e2
    obtain ⟨u',r',q⟩:=hl j y v' e1 e2 e3
    refine ⟨u',r',?_⟩
    rcases q with ⟨k,e⟩ | ⟨k,c,e,z⟩
    ·refine .inl ⟨k,?_⟩
     have:y≠x:=fun e=>hj (zhg_ hN e1 (e ▸ hi))
     simp [this,e]
    ·exact .inr ⟨k,c,e,z.sameBut hs (cne y c e)⟩
  ·obtain ⟨w',z⟩:=I.cell y c e
   exact ⟨w',z.sameBut hs (cne y c e)⟩
  ·obtain ⟨e,n,ne,nf,d⟩:=I.pin p hp
   exact ⟨(hs.2 p.1 ne).trans e,n,ne,nf,d⟩
 ·have hfn:X.fn x=true:=by
   rcases hf with z | z
   ·exact z
   ·rw [z] at hk; cases hk
  obtain ⟨c,hc⟩:=I.ok.has x (.inl hk)
  obtain ⟨w',z⟩:=I.cell x c hc
  refine wpAny_storeName_cell I.ok.kind hk hc z (fun h' hc' hs=>?_)
  obtain ⟨oc,hoc,hocd⟩:=id z
  refine h { s with heap:=h' } ⟨I.ok,I.os,I.bare,⟨fun b o e n hb hx=>?_,fun b o e n hb hx=>?_,I.base.free,fun b o e hx=>?_,I.base.tups,I.base.frzs,I.base.tbls⟩,⟨m,hn.sameBut hs (Ne.symm (cne x c hc)),fun j y v' e1 e2 e3=>?_⟩,fun y c' e=>?_,I.free,I.freeC,fun p hp=>?_,tracked ⟨oc,hoc,I.freeC x c hc⟩ hs,by simpa using I.len⟩ ⟨c,hs,.inr hc⟩
  ·exact (hs.2 b (Nat.ne_of_lt (Nat.lt_of_lt_of_le (Heap.lt_size e) (I.ok.cab x c hfn hc)))).trans (I.base.keep b o e n hb hx)
  ·obtain ⟨sl,e1⟩:=I.base.slot b o e n hb hx
   exact ⟨sl,(hs.2 b (Nat.ne_of_lt (Nat.lt_of_lt_of_le (Heap.lt_size e) (I.ok.cab x c hfn hc)))).trans e1⟩
  ·obtain ⟨o',e1⟩:=I.base.there b o e hx
   exact ⟨o',(hs.2 b (Nat.ne_of_lt (Nat.lt_of_lt_of_le (Heap.lt_size e) (I.ok.cab x c hfn hc)))).trans e1⟩
  ·by_cases hj:j=i
   ·subst hj
    rw [hi] at e1; cases e1
    rw [List.getElem?_set_self hiσ] at e2
    cases e2
    exact ⟨u,r,.inr ⟨.inl hk,c,hc,hc'⟩⟩
   ·rw [List.getElem?_set_ne (Ne.symm hj)] at e2
    obtain ⟨u',r',q⟩:=hl j y v' e1 e2 e3
    refine ⟨u',r',?_⟩
    rcases q with q | ⟨k,c',e,z'⟩
    ·exact .inl q
    ·refine .inr ⟨k,c',e,z'.sameBut hs ?_⟩
     rintro rfl
     exact hj (zhg_ hN e1 (I.ok.inj _ _ _ e hc ▸ hi))
  ·by_cases hcc:c'=c
   ·subst hcc; exact ⟨_,hc'⟩
   ·obtain ⟨w2,z2⟩:=I.cell y c' e
    exact ⟨w2,z2.sameBut hs hcc⟩
  ·obtain ⟨e,n,ne,nf,d⟩:=I.pin p hp
   refine ⟨(hs.2 p.1 ?_).trans e,n,ne,nf,d⟩
   intro q
   rw [q,hoc] at e
   have q':oc=p.2:=Option.some.inj e
   exact d w' (by rw [← q']; exact hocd)
theorem zho_ {M:Model}{A:Around}{E:Value→Shared→Prop}{i:Nat}{x:Str}{v:V}{u:Value}{Q:Unit→Shared→Prop}(I:Inv X pins σ H s) (hN:X.N.Nodup) (hi:X.N[i]?=some x) (hx:Loc X.env.scope x) (r:RelV v u)
  (h:∀ s',Inv X pins (σ.set i (some v)) H s'→Q () s') (hf:X.fn x=true∨X.env.scope.names.lookup x=some .local:=by first | exact .inl rfl | exact .inr rfl | assumption):wpAny M A (storeName X.env x u) Q E s :=
 zi4_ I hN hi hx r (fun s' I' _=>h s' I') hf
theorem Inv.call' {s':Shared}{ch:List Addr}(I:Inv X pins σ H s) (ho:s'.os=s.os) (u:Un (frs X.stack) ch H H' s.heap s'.heap) (hok:HOk X.prog X.w H' s'.heap) (hg:AllBare s'.gens)
  (hch:∀ b∈ch,(b∈X.ex∨X.s₀.heap.objs.size≤b)∧b≠X.env.locals∧(∀ x c,X.env.cells.lookup x=some c→c≠b)∧∀ p∈X.pn++pins,p.1≠b):Inv X pins σ H' s':=by
 obtain ⟨h',g',d',t',o'⟩:=s'
 have e:o'=s.os:=ho
 subst e
 exact I.call (g':=g') (t':=t') (d':=d') u hok hg hch
end
abbrev XK:=Value→Option Addr→Hp→Prop
abbrev St:=List (Option V)
abbrev VK:=V→Hp→Prop
abbrev TE:=St→Hp→VK→Prop
abbrev TT:=St→Hp→(Bool→Hp→Prop)→Prop
abbrev TA:=St→Hp→(List V→Hp→Prop)→Prop
structure Ends where
 nx:St→Hp→Prop
 rt:VK
 bk:St→Hp→Prop:=fun _ _=>False
 ct:St→Hp→Prop:=fun _ _=>False
abbrev TS:=Ends→St→Hp→Prop
def EP (X:Cx) (pins:Pnn) (σ:St) (Q:VK) (u:Value) (s':Shared):Prop:=∃ v H',Inv X pins σ H' s'∧RelV v u∧Q v H'
def TP (X:Cx) (pins:Pnn) (σ:St) (Q:Bool→Hp→Prop) (b:Bool) (s':Shared):Prop:=∃ H',Inv X pins σ H' s'∧Q b H'
def AP (X:Cx) (pins:Pnn) (σ:St) (Q:List V→Hp→Prop) (us:List Value) (s':Shared):Prop:=∃ vs H',Inv X pins σ H' s'∧Vals vs us∧Q vs H'
def SP (X:Cx) (pins:Pnn) (D:Ends) (f:Flow) (s':Shared):Prop :=
 match f with
 | .next=>∃ σ' H',Inv X pins σ' H' s'∧D.nx σ' H'
 | .brk=>∃ σ' H',Inv X pins σ' H' s'∧D.bk σ' H'
 | .cont=>∃ σ' H',Inv X pins σ' H' s'∧D.ct σ' H'
 | .ret u=>∃ v σ' H',Inv X pins σ' H' s'∧RelV v u∧D.rt v H'
def PE (X:Cx) (e:Expr) (t:TE):Prop :=
 ∀ (pins:Pnn) (s:Shared) (σ:St) (H:Hp) (Q:VK),Inv X pins σ H s→t σ H Q→wpAny (model X.prog X.w) X.A (eval e X.env) (EP X pins σ Q) X.xe s
def PT (X:Cx) (e:Expr) (t:TT):Prop :=
 ∀ (pins:Pnn) (s:Shared) (σ:St) (H:Hp) (Q:Bool→Hp→Prop),Inv X pins σ H s→t σ H Q→wpAny (model X.prog X.w) X.A (isTrue e X.env (eval e X.env)) (TP X pins σ Q) X.xe s
def PW (X:Cx) (e:Expr) (t:TT):Prop :=
 ∀ (whole:Sem Value) (pins:Pnn) (s:Shared) (σ:St) (H:Hp) (Q:Bool→Hp→Prop),Inv X pins σ H s→t σ H Q→wpAny (model X.prog X.w) X.A (isTrue e X.env whole) (TP X pins σ Q) X.xe s
theorem PW.pt {X:Cx}{e:Expr}{t:TT}(h:PW X e t):PT X e t:=h _
def PA (X:Cx) (es:List Expr) (t:TA):Prop :=
 ∀ (pos:Pos) (pins:Pnn) (s:Shared) (σ:St) (H:Hp) (Q:List V→Hp→Prop),Inv X pins σ H s→t σ H Q→wpAny (model X.prog X.w) X.A (spliced (backTo pos (starEach es X.env))) (AP X pins σ Q) X.xe s
def PS (X:Cx) (st:Stmt) (t:TS):Prop :=
 ∀ (pins:Pnn) (s:Shared) (σ:St) (H:Hp) (D:Ends),Inv X pins σ H s→t D σ H→wpAny (model X.prog X.w) X.A (exec st X.env) (SP X pins D) X.xe s
def PSs (X:Cx) (st:List Stmt) (t:TS):Prop :=
 ∀ (pins:Pnn) (s:Shared) (σ:St) (H:Hp) (D:Ends),Inv X pins σ H s→t D σ H→wpAny (model X.prog X.w) X.A (execs st X.env) (SP X pins D) X.xe s
theorem thn {α:Type}{t:Sem α}{Q Q':α→Shared→Prop}{M:Model}{A:Around}{E:Value→Shared→Prop}{s:Shared}(h:wpAny M A t Q E s) (hQ:∀ a s,Q a s→Q' a s):wpAny M A t Q' E s:=wpAny_mono h hQ fun _ _ x=>x
end L2
namespace L2
open PySem PySem.Spec PyProof.Rows
section
variable {X:Cx}
theorem bin {a b:Expr}{ta tb:TE}(ha:PE X a ta) (hb:PE X b tb) {pins:Pnn}{s:Shared}{σ:St}{H:Hp}{R:V→V→Hp→Prop}(I:Inv X pins σ H s) (h:ta σ H fun x H1=>tb σ H1 fun y H2=>R x y H2)
  {α:Type}{Q:α→Shared→Prop}{f:Value→Value→Sem α}
  (hf:∀ v u s2 x y H2,Inv X pins σ H2 s2→RelV x v→RelV y u→R x y H2→wpAny (model X.prog X.w) X.A (f v u) Q X.xe s2) :
  wpAny (model X.prog X.w) X.A (eval a X.env) (fun v s₁=>wpAny (model X.prog X.w) X.A (eval b X.env) (fun u s₂=>wpAny (model X.prog X.w) X.A (f v u) Q X.xe s₂) X.xe s₁) X.xe s:=by
 refine thn (ha pins s σ H _ I h) fun v s1 hq_=>?_
 obtain ⟨x,H1,I1,r1,q1⟩:=hq_
 refine thn (hb pins s1 σ H1 _ I1 q1) fun u s2 hq_=>?_
 obtain ⟨y,H2,I2,r2,q2⟩:=hq_
 exact hf v u s2 x y H2 I2 r1 r2 q2
def tVar (i:Nat):TE:=fun σ H Q=>∃ v,σ[i]?=some (some v)∧Q v H
def tC (v:V):TE:=fun _ H Q=>Q v H
theorem zmD_ {i:Nat}{x:Str}{pos:Pos}(hN:X.N[i]?=some x) (hv:Vis X.env.scope x) (hd:(x == ("__debug__" : Str))=false:=by decide) (hcd:(x == ("__classdict__" : Str))=false:=by decide):PE X (.Name x pos) (tVar i):=by
 intro pins s σ H Q I h
 obtain ⟨v,e,h⟩:=h
 obtain ⟨m,hn,hl⟩:=I.loc
 obtain ⟨u,r,l⟩:=hl i x v hN e hv
 have fin:EP X pins σ Q u s:=⟨v,H,I,r,h⟩
 rcases l with ⟨hk,hm⟩ | ⟨hk,c,hc,hcell⟩
 ·exact wpAny_Name (wpAny_loadName_local I.ok.kind hk hn hm fin) hd
 ·rcases hk with hk | hk
  ·exact wpAny_Name (wpAny_loadName_cell I.ok.kind hk hc hcell fin) hd
  ·exact wpAny_Name (wpAny_loadName_free I.ok.kind hk hc hcell fin hcd) hd
theorem zB_ {i j pos}:PE X (.Constant (.int i) j pos) (tC (.int i)):=fun _ _ _ H _ I h=>wpAny_Constant_int ⟨.int i,H,I.tok _,⟨_,rfl⟩,h⟩
theorem zfa_ {b j pos}:PE X (.Constant (.bool b) j pos) (tC (.bl b)):=fun _ _ _ H _ I h=>Constant_bool ⟨.bl b,H,I,rfl,h⟩
theorem zi0_ {j pos}:PE X (.Constant .none j pos) (tC .non):=fun _ _ _ H _ I h=>Constant_none ⟨.non,H,I,rfl,h⟩
theorem zmM_ {x j pos}:PE X (.Constant (.str x) j pos) (tC (.str x)):=fun _ _ _ H _ I h=>Calls.Constant_str ⟨.str x,H,I.tok _,⟨_,rfl⟩,h⟩
def Gl (X:Cx) (x:Str):Prop:=X.env.kindOf x=some .globalImplicit
theorem zfg_ {E:Value→Shared→Prop}{pins:Pnn}{s:Shared}{σ:St}{H:Hp}{x:Str}{u:Value}{pos:Pos}{Q:Value→Shared→Prop}(I:Inv X pins σ H s) (hg:Gl X x) (hm:X.mg x=some u) (h:Q u s)
  (hd:(x == ("__debug__" : Str))=false:=by decide):wpAny (model X.prog X.w) X.A (eval (.Name x pos) X.env) Q E s :=
 Calls.Name_function_global I.ok.kind hg (Calls.loadGlobal_global (by rw [I.ok.glob]; exact I.mod.glob.keeps I.bk) hm h) hd
theorem zgR_ {E:Value→Shared→Prop}{pins:Pnn}{s:Shared}{σ:St}{H:Hp}{x:Str}{u:Value}{pos:Pos}{Q:Value→Shared→Prop}(I:Inv X pins σ H s) (hg:Gl X x) (hm:X.mg x=none) (hv:bootBuiltins x=some u) (h:Q u s)
  (hn:x ≠ "__name__" := by decide) (hd:(x == ("__debug__" : Str))=false:=by decide):wpAny (model X.prog X.w) X.A (eval (.Name x pos) X.env) Q E s:=by
 obtain ⟨mb,h1,h2⟩:=I.mod.blt
 exact Calls.Name_function_global I.ok.kind hg (Calls.loadGlobal_builtin (by rw [I.ok.glob]; exact I.mod.glob.keeps I.bk) hm (by rw [I.ok.blt]; exact h1.keeps I.bk) ((h2 x hn).trans hv) h) hd
theorem zjr_ {x:Str}{v:V}{u:Value}{pos:Pos}(hg:Gl X x) (hm:X.mg x=some u) (r:RelV v u) (hd:(x == ("__debug__" : Str))=false:=by decide):PE X (.Name x pos) (tC v) :=
 fun _ _ _ H _ I h=>zfg_ I hg hm ⟨v,H,I,r,h⟩ hd
theorem zkY_ {x:Str}{v:V}{u:Value}{pos:Pos}(hg:Gl X x) (hm:X.mg x=none) (hv:bootBuiltins x=some u) (r:RelV v u) (hn:x ≠ "__name__" := by decide) (hd:(x == ("__debug__" : Str))=false:=by decide):PE X (.Name x pos) (tC v) :=
 fun _ _ _ H _ I h=>zgR_ I hg hm hv ⟨v,H,I,r,h⟩ hn hd
variable {a b:Expr}{ta tb:TE}{pos:Pos}
def PC (X:Cx) (op:CmpOp) (a b:Expr) (t:TE):Prop :=
 ∀ (pins:Pnn) (s:Shared) (σ:St) (H:Hp) (Q:VK),Inv X pins σ H s→t σ H Q →
  wpAny (model X.prog X.w) X.A (eval a X.env) (fun v s₁=>wpAny (model X.prog X.w) X.A (eval b X.env) (fun u s₂=>wpAny (model X.prog X.w) X.A (compareOp op v u) (EP X pins σ Q) X.xe s₂) X.xe s₁) X.xe s
theorem nobehind (b:Expr) {op:CmpOp}(h:op≠.In) (h2:op≠.NotIn):behindInMarks op b=false:=by
 have e1:(op == CmpOp.In)=false:=by cases op<;>first | rfl | exact absurd rfl h
 have e2:(op == CmpOp.NotIn)=false:=by cases op<;>first | rfl | exact absurd rfl h2
 cases b<;>simp [behindInMarks,e1,e2]
variable {tA tB':TT}{rest:List Expr}
def tNot (t:TT):TT:=fun σ H Q=>t σ H fun c H1=>Q (!c) H1
theorem zk8_ (ha:PT X a tA):PW X (.BoolOp .And [a] pos) tA:=by
 intro wh pins s σ H Q I h
 refine isTrue_and (thn (ha pins s σ H Q I h) fun c s1 e=>?_)
 cases c with
 | true=>exact isTrue_and_nil e
 | false=>exact e
theorem zdW_ (ha:PT X a tA):PW X (.BoolOp .Or [a] pos) tA:=by
 intro wh pins s σ H Q I h
 refine isTrue_or (thn (ha pins s σ H Q I h) fun c s1 e=>?_)
 cases c with
 | false=>exact isTrue_or_nil e
 | true=>exact e
theorem zbD_ (ha:PT X a tA):PT X (.UnaryOp .Not a pos) (tNot tA):=by
 intro pins s σ H Q I h
 exact isTrue_not (ha pins s σ H (fun c H1=>Q (!c) H1) I h)
theorem ziA_ {op} {t:TE}(h:PE X a t):PE X (.BoolOp op [a] pos) t:=fun pins s σ H Q I hw=>BoolOp_one (h pins s σ H Q I hw)
end
end L2
namespace L2
open PySem PySem.Spec PyProof.Rows
def SqL (K:Fgg) (H:Hp) (a:Addr) (xs:List V):Prop :=
 Rd H a (.lst xs) ∨
  ∃ (o:Obj) (its:Array Value) (n:Nat),K.lookup a=some o∧o.cls=.type "list" ∧ o.dict=none∧o.data=.seq its n∧its.size≤sizeLine∧Vals xs its.toList
def SqT (K:Fgg) (H:Hp) (a:Addr) (xs:List V):Prop :=
 Rd H a (.tup xs) ∨
  ∃ (o:Obj) (its:Array Value) (n:Nat),K.lookup a=some o∧o.cls=.type "tuple" ∧ o.data=.seq its n∧its.size≤sizeLine∧Vals xs its.toList
def absV:Value→Option V
 | .none=>some .non
 | .bool b=>some (.bl b)
 | .int i _=>some (.int i)
 | .str x _=>some (.str x)
 | .bytes b _=>some (.byt b)
 | .float b _=>some (.flt b)
 | .ref a=>some (.ref a)
 | .type n=>some (.ty n)
 | _=>none
theorem RelV.abs {x:V}{u:Value}(r:RelV x u):absV u=some x:=by
 cases x with
 | non=>cases r; rfl
 | bl _=>cases r; rfl
 | int _=>obtain ⟨t,rfl⟩:=r; rfl
 | str _=>obtain ⟨t,rfl⟩:=r; rfl
 | byt _=>obtain ⟨t,rfl⟩:=r; rfl
 | flt _=>obtain ⟨t,rfl⟩:=r; rfl
 | ref _=>cases r; rfl
 | ty _=>cases r; rfl
theorem RelV.inj {x y:V}{u:Value}(r:RelV x u) (q:RelV y u):x=y:=Option.some.inj (r.abs.symm.trans q.abs)
theorem Vals.inj:∀ {xs ys:List V}{us:List Value},Vals xs us→Vals ys us→xs=ys
 | _,_,_,.nil,.nil=>rfl
 | _,_,_,.cons r t,.cons r' t'=>by rw [r.inj r',Vals.inj t t']
section
variable {X:Cx}{pins:Pnn}{σ:St}{H:Hp}{s:Shared}{a:Addr}{xs ys:List V}
theorem SqL.of {K:Fgg}(h:H a=some (.lst xs)):SqL K H a xs:=.inl (.inl h)
theorem SqT.of {K:Fgg}(h:H a=some (.tup xs)):SqT K H a xs:=.inl (.inl h)
theorem Inv.list (I:Inv X pins σ H s) (h:SqL X.K H a xs):∃ its:List Value,Vals xs its∧PlainL s.heap a its.toArray∧xs.length≤sizeLine:=by
 rcases h with h | ⟨o,its,n,hk,hc,hd,hs,hz,r⟩
 ·obtain ⟨z,its,n,r,e⟩:=h.ok I.hok
  exact ⟨its,r,⟨_,n,e,rfl,rfl,rfl⟩,z⟩
 ·refine ⟨its.toList,r,⟨o,n,I.kIn a o hk,hc,hd,by simpa using hs⟩,?_⟩
  have e:=r.length
  simp only [Array.length_toList] at e
  lia
theorem Inv.tuple (I:Inv X pins σ H s) (h:SqT X.K H a xs):∃ its:List Value,Vals xs its∧IsTup s.heap a its.toArray∧xs.length≤sizeLine:=by
 rcases h with h | ⟨o,its,n,hk,hc,hs,hz,r⟩
 ·obtain ⟨z,its,r,p⟩:=h.ok I.hok
  exact ⟨its,r,p,z⟩
 ·refine ⟨its.toList,r,⟨o,I.kIn a o hk,hc,n,by simpa using hs⟩,?_⟩
  have e:=r.length
  simp only [Array.length_toList] at e
  lia
theorem Inv.list_inj (I:Inv X pins σ H s) (h:SqL X.K H a xs) (h':SqL X.K H a ys):xs=ys:=by
 obtain ⟨its,r,⟨o,n,e,_,_,d⟩,_⟩:=I.list h
 obtain ⟨its',r',⟨o',n',e',_,_,d'⟩,_⟩:=I.list h'
 rw [e] at e'; cases e'
 rw [d] at d'
 injection d' with d1 _
 have:its=its':=by simpa using congrArg Array.toList d1
 subst this
 exact r.inj r'
theorem Inv.tuple_inj (I:Inv X pins σ H s) (h:SqT X.K H a xs) (h':SqT X.K H a ys):xs=ys:=by
 obtain ⟨its,r,⟨o,e,_,n,d⟩,_⟩:=I.tuple h
 obtain ⟨its',r',⟨o',e',_,n',d'⟩,_⟩:=I.tuple h'
 rw [e] at e'; cases e'
 rw [d] at d'
 injection d' with d1 _
 have:its=its':=by simpa using congrArg Array.toList d1
 subst this
 exact r.inj r'
end
abbrev Cx.wish (X:Cx) (E:Value→Shared→Prop):Cx:={ X with xe:=E }
abbrev Cx.nox (X:Cx):Cx:=X.wish fun _ _=>False
theorem Cx.Ok.wish {X:Cx}(ok:X.Ok) (E:Value→Shared→Prop):(X.wish E).Ok :=
 ⟨ok.mod,ok.kind,ok.glob,ok.blt,ok.above,ok.inj,ok.has,ok.cab,ok.hd,ok.frames,ok.stk,ok.exf,ok.bs,ok.bsz,ok.noex,ok.exfs,ok.funs,ok.frf⟩
theorem Cx.Ok.unwish {X:Cx}{E:Value→Shared→Prop}(ok:(X.wish E).Ok):X.Ok :=
 ⟨ok.mod,ok.kind,ok.glob,ok.blt,ok.above,ok.inj,ok.has,ok.cab,ok.hd,ok.frames,ok.stk,ok.exf,ok.bs,ok.bsz,ok.noex,ok.exfs,ok.funs,ok.frf⟩
section
variable {X:Cx}{pins:Pnn}{σ:St}{H:Hp}{s:Shared}{E:Value→Shared→Prop}
theorem Inv.wish (I:Inv X pins σ H s) (E:Value→Shared→Prop):Inv (X.wish E) pins σ H s:=⟨I.ok.wish E,I.os,I.bare,I.base,I.loc,I.cell,I.free,I.freeC,I.pin,I.hok,I.len⟩
theorem Inv.unwish (I:Inv (X.wish E) pins σ H s):Inv X pins σ H s:=⟨I.ok.unwish,I.os,I.bare,I.base,I.loc,I.cell,I.free,I.freeC,I.pin,I.hok,I.len⟩
theorem SP.unwish {D:Ends}{f:Flow}{s':Shared}(h:SP (X.wish E) pins D f s'):SP X pins D f s':=by
 cases f with
 | next=>obtain ⟨σ',H',I,q⟩:=h; exact ⟨σ',H',I.unwish,q⟩
 | brk=>obtain ⟨σ',H',I,q⟩:=h; exact ⟨σ',H',I.unwish,q⟩
 | cont=>obtain ⟨σ',H',I,q⟩:=h; exact ⟨σ',H',I.unwish,q⟩
 | ret u=>obtain ⟨v,σ',H',I,r,q⟩:=h; exact ⟨v,σ',H',I.unwish,r,q⟩
theorem PSs.nox {st:List Stmt}{t:TS}(h:PSs X.nox st t):PSs X st t:=fun pins s σ H D I hw =>
 wpAny_mono (h pins s σ H D (I.wish _) hw) (fun _ _ q=>q.unwish) fun _ _ z=>False.elim z
end
section
variable {X:Cx}{st:Stmt}{rest:List Stmt}{t u:TS}{e:Expr}{te:TE}{pos:Pos}
def tNext:TS:=fun D σ H=>D.nx σ H
def tSeq (t u:TS):TS:=fun D σ H=>t { D with nx:=u D } σ H
theorem zE_:PSs X [] tNext:=fun _ _ σ H _ I h=>wpAny_execs_nil ⟨σ,H,I,h⟩
theorem zd_ (h1:PS X st t) (h2:PSs X rest u):PSs X (st::rest) (tSeq t u):=by
 intro pins s σ H D I h
 refine wpAny_execs_cons (thn (h1 pins s σ H { D with nx:=u D } I h) fun f s1 q=>?_)
 cases f with
 | next =>
  obtain ⟨σ',H',I',q⟩:=q
  exact h2 pins s1 σ' H' D I' q
 | ret v=>exact q
 | brk=>exact q
 | cont=>exact q
theorem ze_ (h1:PS X st t):PSs X [st] t:=by
 intro pins s σ H D I h
 refine wpAny_execs_cons (thn (h1 pins s σ H D I h) fun f s1 q=>?_)
 cases f with
 | next=>exact wpAny_execs_nil q
 | ret v=>exact q
 | brk=>exact q
 | cont=>exact q
theorem Inv.quiet {pins:Pnn}{σ:St}{H:Hp}{s:Shared}(I:Inv X pins σ H s):interactive X.env=false:=by simp [interactive,I.ok.kind]
def tDrop (te:TE):TS:=fun D σ H=>te σ H fun _ H1=>D.nx σ H1
theorem zaB_ (he:PE X e te) (hs:swapsWith e none pos.line X.env=pure false:=by rfl):PS X (.Expr e pos) (tDrop te):=by
 intro pins s σ H D I h
 exact wpAny_Expr_any (thn (he pins s σ H _ I h) fun v s1 ⟨x,H1,I1,r1,q1⟩=>⟨σ,H1,I1,q1⟩) I.quiet hs
def tRet (te:TE):TS:=fun D σ H=>te σ H D.rt
theorem zJ_ (he:PE X e te):PS X (.Return (some e) pos) (tRet te):=by
 intro pins s σ H D I h
 exact wpAny_Return_some (thn (he pins s σ H _ I h) fun v s1 ⟨x,H1,I1,r1,q1⟩=>⟨x,σ,H1,I1,r1,q1⟩)
def tRetN:TS:=fun D _ H=>D.rt .non H
theorem zjj_:PS X (.Return none pos) tRetN:=fun _ _ σ H _ I h=>wpAny_Return_none ⟨.non,σ,H,I,rfl,h⟩
def tNever:TS:=fun _ _ _=>False
theorem zbk_:PS X st tNever:=fun _ _ _ _ _ _ h=>h.elim
end
abbrev TG:=V→St→Hp→(St→Hp→Prop)→Prop
abbrev TGs:=List V→St→Hp→(St→Hp→Prop)→Prop
def PG (X:Cx) (target:Expr) (t:TG):Prop :=
 ∀ (pins:Pnn) (s:Shared) (σ:St) (H:Hp) (v:V) (u:Value) (Q:St→Hp→Prop),Inv X pins σ H s→RelV v u→t v σ H Q →
  wpAny (model X.prog X.w) X.A (assign target X.env u) (fun _ s'=>∃ σ' H',Inv X pins σ' H' s'∧Q σ' H') X.xe s
def PGs (X:Cx) (ts:List Expr) (t:TGs):Prop :=
 ∀ (pins:Pnn) (s:Shared) (σ:St) (H:Hp) (vs:List V) (us:List Value) (Q:St→Hp→Prop),Inv X pins σ H s→Vals vs us→t vs σ H Q →
  wpAny (model X.prog X.w) X.A (assignInOrder ((assignEach ts X.env).map (·.2)) us) (fun _ s'=>∃ σ' H',Inv X pins σ' H' s'∧Q σ' H') X.xe s
abbrev TSet:=V→V→V→Hp→(Hp→Prop)→Prop
def PSet (X:Cx) (t:TSet):Prop :=
 ∀ (pins:Pnn) (s:Shared) (σ:St) (H:Hp) (o i v:V) (ov iv u:Value) (Q:Hp→Prop),Inv X pins σ H s→RelV o ov→RelV i iv→RelV v u→t o i v H Q →
  wpAny (model X.prog X.w) X.A (setItem ov iv u) (fun _ s'=>∃ H',Inv X pins σ H' s'∧Q H') X.xe s
section
variable {X:Cx}{pos:Pos}
def gName (i:Nat):TG:=fun v σ H Q=>Q (σ.set i (some v)) H
theorem zjG_ {i:Nat}{x:Str}(hN:X.N.Nodup) (hi:X.N[i]?=some x) (hx:Loc X.env.scope x) (hf:X.fn x=true∨X.env.scope.names.lookup x=some .local:=by first | exact .inl rfl | exact .inr rfl | assumption):PG X (.Name x pos) (gName i):=by
 intro pins s σ H v u Q I r h
 exact wpAny_assign_Name (zho_ I hN hi hx r (fun s' I'=>⟨_,H,I',h⟩) hf)
def gNil:TGs:=fun vs σ H Q=>vs=[]∧Q σ H
def gCons (t:TG) (u:TGs):TGs:=fun vs σ H Q=>∃ v r,vs=v::r∧t v σ H fun σ' H'=>u r σ' H' Q
theorem zkX_:PGs X [] gNil:=by
 intro pins s σ H vs us Q I r h
 obtain ⟨e,h⟩:=h
 subst e
 cases r
 exact assignInOrder_nil ⟨σ,H,I,h⟩
theorem zjO_ {e:Expr}{es:List Expr}{t:TG}{u:TGs}(h1:PG X e t) (h2:PGs X es u)
  (hs:(assignEach (e::es) X.env).map (·.2)=assign e X.env::(assignEach es X.env).map (·.2):=by rfl):PGs X (e::es) (gCons t u):=by
 intro pins s σ H vs us Q I r h
 obtain ⟨v,vr,e1,h⟩:=h
 subst e1
 cases r with
 | cons r rr =>
  rw [hs]
  refine assignInOrder_cons (thn (h1 pins s σ H _ _ _ I r h) fun _ s1 hq_=>?_)
  obtain ⟨σ1,H1,I1,q1⟩:=hq_
  exact h2 pins s1 σ1 H1 _ _ Q I1 rr q1
def gTup (K:Fgg) (n:Nat) (t:TGs):TG:=fun v σ H Q=>∃ a xs,v=.ref a∧SqT K H a xs∧xs.length=n∧t xs σ H Q
theorem zm7_ {es:List Expr}{k:Nat}{t:TGs}{n:Nat}(hc:X.calm=true) (h:PGs X es t)
  (hn:(assignEach es X.env).length=n:=by rfl) (hst:(assignEach es X.env).findIdx? (·.1)=none:=by rfl):PG X (.Tuple es k pos) (gTup X.K n t):=by
 intro pins s σ H v u Q I r hw
 obtain ⟨a,xs,e1,hq,hl,hw⟩:=hw
 subst e1
 cases r
 obtain ⟨its,rv,ht,hz⟩:=I.tuple hq
 refine assign_Tuple_tuple (I.ok.hd hc) ht (by simp [hn,← hl,rv.length]) hst fun h' hx=>?_
 have I1:Inv X pins σ H { s with heap:=h' }:=I.kept (t':=s.toks) fun b o e=>hx b o (Nat.ne_of_lt (Heap.lt_size e)) e
 exact h pins _ σ H xs _ Q I1 (by simpa using rv) hw
def gSub (to ti:TE) (t:TSet):TG:=fun v σ H Q=>to σ H fun o H1=>ti σ H1 fun i H2=>t o i v H2 fun H3=>Q σ H3
theorem zmS_ {o i:Expr}{to ti:TE}{t:TSet}(ho:PE X o to) (hi:PE X i ti) (hs:PSet X t)
  (ha:∀ v,assign (.Subscript o i pos) X.env v=(do
   let ov ← holding [v] (eval o X.env)
   let iv ← holding [v,ov] (eval i X.env)
   standAt pos
   holding [v,ov,iv] (setItem ov iv v)
   release [v,ov,iv] []):=by intro _; rfl):PG X (.Subscript o i pos) (gSub to ti t):=by
 intro pins s σ H v u Q I r h
 rw [ha]
 refine wpAny_bind (wpAny_holding (thn (ho pins s σ H _ I h) fun ov s1 hq_=>?_))
 obtain ⟨x,H1,I1,r1,q1⟩:=hq_
 refine wpAny_bind (wpAny_holding (thn (hi pins s1 σ H1 _ I1 q1) fun iv s2 hq_=>?_))
 obtain ⟨y,H2,I2,r2,q2⟩:=hq_
 refine wpAny_bind (wpAny_standAt (wpAny_bind (wpAny_holding (thn (hs pins s2 σ H2 x y v ov iv u _ I2 r1 r2 r q2) fun _ s3 hq_=>?_))))
 obtain ⟨H3,I3,q3⟩:=hq_
 exact wpAny_release ⟨σ,H3,I3,q3⟩
def tAsg (te:TE) (g:TG):TS:=fun D σ H=>te σ H fun x H1=>g x σ H1 D.nx
theorem zkV_ {tg e:Expr}{te:TE}{g:TG}(he:PE X e te) (hg:PG X tg g) (hs:swapsWithSole [tg] e pos.line X.env=pure false:=by rfl) (hw:swappedStores [tg] e X.env=pure none:=by rfl)
  (h1:(assignEach [tg] X.env).map (·.2)=[assign tg X.env]:=by rfl):PS X (.Assign [tg] e pos) (tAsg te g):=by
 intro pins s σ H D I h
 refine wpAny_Assign_stores (thn (he pins s σ H _ I h) fun v s1 hq_=>?_) hs hw
 obtain ⟨x,H1,I1,r1,q1⟩:=hq_
 rw [h1]
 exact thn (hg pins s1 σ H1 x v _ I1 r1 q1) fun _ s2 q=>q
theorem zmT_ {i:Nat}{x:Str}{e:Expr}{te:TE}{pos':Pos}(hN:X.N.Nodup) (hi:X.N[i]?=some x) (hx:Loc X.env.scope x) (he:PE X e te) (hs:swapsWith e (some (.Name x pos')) pos.line X.env=pure false:=by rfl) (hf:X.fn x=true∨X.env.scope.names.lookup x=some .local:=by first | exact .inl rfl | exact .inr rfl | assumption) :
  PS X (.Assign [.Name x pos'] e pos) (tAsg te (gName i)):=by
 intro pins s σ H D I h
 refine wpAny_Assign_Name (thn (he pins s σ H _ I h) fun v s1 hq_=>?_) hs
 obtain ⟨y,H1,I1,r1,q1⟩:=hq_
 exact zho_ I1 hN hi hx r1 (fun s2 I2=>⟨_,H1,I2,q1⟩) hf
end
section
variable {X:Cx}{pos:Pos}
end
structure It where
 go:Nat→Hp→Prop
 yld:Nat→Hp→V→Hp→Prop
 stop:Nat→Hp→Prop
def FpOk (X:Cx) (pins:Pnn) (H:Hp) (b:Addr):Prop :=
 H b=none∧b≠X.env.locals∧b∉X.fs∧(b∈X.ex∨X.s₀.heap.objs.size≤b)∧(∀ x c,X.env.cells.lookup x=some c→c≠b)∧∀ p∈X.pn++pins,p.1≠b
theorem Inv.fpOk {X:Cx}{pins:Pnn}{σ:St}{H H':Hp}{s:Shared}{b:Addr}(I:Inv X pins σ H s) (hb:s.heap.objs.size≤b) (hn:H' b=none):FpOk X pins H' b:=by
 refine ⟨hn,Nat.ne_of_gt (Nat.lt_of_lt_of_le I.lt hb),I.nofs hb,.inr (Nat.le_trans I.sz hb),fun x c e z=>?_,fun p hp z=>?_⟩
 ·obtain ⟨v,q⟩:=I.cell x c e
  exact absurd (Nat.lt_of_lt_of_le q.lt (by rw [z]; exact hb)) (Nat.lt_irrefl _)
 ·exact absurd (Nat.lt_of_lt_of_le (Heap.lt_size (I.pin p hp).1) (by rw [z]; exact hb)) (Nat.lt_irrefl _)
structure Turn (P:Program) (w:World) (K:Fgg) (tg:Expr) (J:It) (fp:List Addr) (it:Addr) (tn:Nat→Heap→Prop):Prop where
 mem:it∈fp
 obj:∀ i h,tn i h→∀ b∈fp,∃ o,h.get? b=some o∧∀ v,o.data≠.cell v
 keep:∀ i h h',tn i h→(∀ b∈fp,∀ o,h.get? b=some o→h'.get? b=some o)→tn i h'
 item:∀ (X:Cx),X.prog=P→X.w=w→X.K=K→X.calm=true→∀ (i:Nat) (pins:Pnn) (s:Shared) (σ:St) (H:Hp) (E:Value→Shared→Prop),Inv X pins σ H s→(∀ b∈fp,FpOk X pins H b)→tn i s.heap→J.go i H →
  wpAny (model P w) X.A (pyNext (.ref it)) (fun r s1=>∃ u,r=some u ∧
   wpAny (model P w) X.A (letOwnedTupleGo tg (.ref it) u) (fun _ s2=>∃ x H',Inv X pins σ H' s2∧RelV x u∧J.yld i H x H'∧tn (i+1) s2.heap∧∀ b∈fp,H' b=none) E s1) E s
 done:∀ (X:Cx),X.prog=P→X.w=w→X.K=K→X.calm=true→∀ (i:Nat) (pins:Pnn) (s:Shared) (σ:St) (H:Hp) (E:Value→Shared→Prop),Inv X pins σ H s→(∀ b∈fp,FpOk X pins H b)→tn i s.heap→J.stop i H →
  wpAny (model P w) X.A (pyNext (.ref it)) (fun r s1=>r=none∧Inv X pins σ H s1) E s
 self:∀ (A:Around) (i:Nat) (s:Shared) (Q:Value→Shared→Prop) (E:Value→Shared→Prop),tn i s.heap→Q (.ref it) s→wpAny (model P w) A (pyIter (.ref it)) Q E s
abbrev TI:=St→Hp→(It→Hp→Prop)→Prop
def PIE (X:Cx) (pins:Pnn) (σ:St) (tg:Expr) (R:It→Hp→Prop) (itv:Value) (s2:Shared):Prop :=
 ∃ (it:Addr) (fp:List Addr) (tn:Nat→Heap→Prop) (J:It) (H':Hp),itv=.ref it∧Inv X pins σ H' s2∧Turn X.prog X.w X.K tg J fp it tn∧tn 0 s2.heap∧(∀ b∈fp,FpOk X pins H' b)∧R J H'
def PI (X:Cx) (tg iter:Expr) (wi:TI):Prop :=
 ∀ (pins:Pnn) (s:Shared) (σ:St) (H:Hp) (R:It→Hp→Prop),Inv X pins σ H s→wi σ H R →
  wpAny (model X.prog X.w) X.A (eval iter X.env) (fun v s1=>wpAny (model X.prog X.w) X.A (pyIter v) (PIE X pins σ tg R) X.xe s1) X.xe s
theorem zmc_ {M:Model}{A:Around}{E:Value→Shared→Prop}{s:Shared}{tg:Expr}{it:Addr}{u:Value}{o:Obj}{n:String}{vs:Array Value}{Q:Unit→Shared→Prop}(ho:s.heap.get? it=some o) (hc:o.cls=.type n) (hd:o.data=.fields vs)
  (hn:["enumerate", "zip", "dict_itemiterator", "dict_reverseitemiterator", "odict_iterator", "itertools.zip_longest", "itertools.pairwise"].contains n=false) (hQ:Q () s):wpAny M A (letOwnedTupleGo tg (.ref it) u) Q E s:=by
 unfold letOwnedTupleGo
 cases tg<;>first
  | exact wpAny_pure hQ
  | (cases u<;>first
    | exact wpAny_pure hQ
    | (refine wpAny_bind (wpAny_load ho ?_)
       rw [hc,hd]
       show wpAny M A (if (["enumerate", "zip", "dict_itemiterator", "dict_reverseitemiterator", "odict_iterator", "itertools.zip_longest", "itertools.pairwise"].contains n && vs[0]? == some (rawInt _))=true then _ else _) Q E s
       rw [if_neg (by intro h; rw [hn,Bool.false_and] at h; cases h)]
       exact wpAny_pure hQ))
def Itl (K:Fgg) (a:Addr):It :=
 ⟨fun i H=>∃ xs x,SqL K H a xs∧xs[i]?=some x,fun i H x H'=>H'=H∧∀ xs,SqL K H a xs→xs[i]?=some x,fun i H=>∃ xs,SqL K H a xs∧xs.length≤i⟩
def Itt (K:Fgg) (a:Addr):It :=
 ⟨fun i H=>∃ xs x,SqT K H a xs∧xs[i]?=some x,fun i H x H'=>H'=H∧∀ xs,SqT K H a xs→xs[i]?=some x,fun i H=>∃ xs,SqT K H a xs∧xs.length≤i⟩
def Itr (lo:Int) (n:Nat):It:=⟨fun i _=>i<n,fun i H x H'=>H'=H∧x=.int (lo+i),fun i _=>n≤i⟩
theorem ziz_ {P:Program}{w:World}{K:Fgg}{tg:Expr}(a it:Addr):Turn P w K tg (Itl K a) [it] it (fun i h=>h.IsListIter it a i) where
 mem:=by simp
 obj:=fun i h st b hb=>by
  have e:b=it:=by simpa using hb
  subst e
  obtain ⟨o,e,c,d⟩:=st
  exact ⟨o,e,fun v z=>by rw [d] at z; cases z⟩
 keep:=fun i h h' st k=>st.at fun o e=>k it (by simp) o e
 item:=by
  intro X hP hw hK hc i pins s σ H E I hf st hg
  subst hP hw hK
  obtain ⟨xs,x,hq,hx⟩:=hg
  obtain ⟨its,rv,p,hz⟩:=I.list hq
  obtain ⟨u,hu,ru⟩:=rv.get hx
  obtain ⟨f0,f1,f2,f3,f4,f5⟩:=hf it (by simp)
  refine wpAny_pyNext_list_item st p.isList (x:=u) (by simpa using hu) fun h' st' sb=>?_
  have I1:Inv X pins σ H { s with heap:=h' }:=I.turned (t':=s.toks) (fun b o hb e=>(sb.2 b hb).trans e) f0 f1 f3 f4 f5
  obtain ⟨o,e,c,d⟩:=id st'
  exact ⟨u,rfl,zmc_ (s:={ s with heap:=h' }) e c d (by decide) ⟨x,H,I1,ru,⟨rfl,fun ys hy=>by rw [I.list_inj hy hq]; exact hx⟩,st',fun b hb=>(hf b hb).1⟩⟩
 done:=by
  intro X hP hw hK hc i pins s σ H E I hf st hg
  subst hP hw hK
  obtain ⟨xs,hq,hx⟩:=hg
  obtain ⟨its,rv,p,hz⟩:=I.list hq
  obtain ⟨f0,f1,f2,f3,f4,f5⟩:=hf it (by simp)
  have hl:=rv.length
  exact wpAny_pyNext_list_end (I.ok.hd hc) st p.isList (by simp; lia) fun h' eb=>⟨rfl,I.turned (t':=s.toks) (fun b o hb e=>eb b o hb e) f0 f1 f3 f4 f5⟩
 self:=fun _ _ _ _ _ st h=>wpAny_pyIter_listiter st h
theorem zhd_ {P:Program}{w:World}{K:Fgg}{tg:Expr}(a it:Addr):Turn P w K tg (Itt K a) [it] it (fun i h=>h.IsTupleIter it a i) where
 mem:=by simp
 obj:=fun i h st b hb=>by
  have e:b=it:=by simpa using hb
  subst e
  obtain ⟨o,e,c,d⟩:=st
  exact ⟨o,e,fun v z=>by rw [d] at z; cases z⟩
 keep:=fun i h h' st k=>st.at fun o e=>k it (by simp) o e
 item:=by
  intro X hP hw hK hc i pins s σ H E I hf st hg
  subst hP hw hK
  obtain ⟨xs,x,hq,hx⟩:=hg
  obtain ⟨its,rv,p,hz⟩:=I.tuple hq
  obtain ⟨u,hu,ru⟩:=rv.get hx
  obtain ⟨f0,f1,f2,f3,f4,f5⟩:=hf it (by simp)
  refine wpAny_pyNext_tuple_item st (show s.heap.IsTuple a its.toArray from p) (x:=u) (by simpa using hu) fun h' st' sb=>?_
  have I1:Inv X pins σ H { s with heap:=h' }:=I.turned (t':=s.toks) (fun b o hb e=>(sb.2 b hb).trans e) f0 f1 f3 f4 f5
  obtain ⟨o,e,c,d⟩:=id st'
  exact ⟨u,rfl,zmc_ (s:={ s with heap:=h' }) e c d (by decide) ⟨x,H,I1,ru,⟨rfl,fun ys hy=>by rw [I.tuple_inj hy hq]; exact hx⟩,st',fun b hb=>(hf b hb).1⟩⟩
 done:=by
  intro X hP hw hK hc i pins s σ H E I hf st hg
  subst hP hw hK
  obtain ⟨xs,hq,hx⟩:=hg
  obtain ⟨its,rv,p,hz⟩:=I.tuple hq
  obtain ⟨f0,f1,f2,f3,f4,f5⟩:=hf it (by simp)
  have hl:=rv.length
  exact wpAny_pyNext_tuple_end (I.ok.hd hc) st (show s.heap.IsTuple a its.toArray from p) (by simp; lia) fun h' eb=>⟨rfl,I.turned (t':=s.toks) (fun b o hb e=>eb b o hb e) f0 f1 f3 f4 f5⟩
 self:=fun _ _ _ _ _ st h=>wpAny_pyIter_tupleiter st h
theorem zhJ_ {P:Program}{w:World}{K:Fgg}{tg:Expr}(it:Addr) (lo:Int) (n:Nat):Turn P w K tg (Itr lo n) [it] it (fun i h=>IsRangeIter h it (lo+(i:Nat)*1) ((n:Int)-(i:Nat)) 1) where
 mem:=by simp
 obj:=fun i h st b hb=>by
  have e:b=it:=by simpa using hb
  subst e
  exact ⟨_,st,fun v z=>by
   have z':Data.fields _=Data.cell v:=z
   cases z'⟩
 keep:=fun i h h' st k=>k it (by simp) _ st
 item:=by
  intro X hP hw hK hc i pins s σ H E I hf st hg
  subst hP hw hK
  obtain ⟨f0,f1,f2,f3,f4,f5⟩:=hf it (by simp)
  have W:=Walks.range (prog:=X.prog) (w:=X.w) (I.ok.hd hc) it lo 1 n
  refine W.item i s _ _ hg st fun v h' tk hv st' kk=>?_
  obtain ⟨t,rfl⟩:=hv
  have I1:Inv X pins σ H { s with heap:=h',toks:=tk }:=I.turned (fun b o hb e=>kk b o (by simpa using hb) e) f0 f1 f3 f4 f5
  refine ⟨_,rfl,zmc_ (s:={ s with heap:=h',toks:=tk }) (n := "range_iterator") st' rfl rfl (by decide) ⟨.int (lo+i),H,I1,⟨t,?_⟩,⟨rfl,rfl⟩,st',fun b hb=>(hf b hb).1⟩⟩
  rw [Int.mul_one]
 done:=by
  intro X hP hw hK hc i pins s σ H E I hf st hg
  subst hP hw hK
  obtain ⟨f0,f1,f2,f3,f4,f5⟩:=hf it (by simp)
  exact wpAny_pyNext_range_end (I.ok.hd hc) st (by have:n≤i:=hg; lia) fun h' eb=>⟨rfl,I.turned (t':=s.toks) (fun b o hb e=>eb b o hb e) f0 f1 f3 f4 f5⟩
 self:=fun _ _ _ _ _ st h=>wpAny_pyIter_rangeiter st h
end L2
namespace L2
open PySem PySem.Spec PyProof.Rows
section
variable {X:Cx}{tg:Expr}
theorem zkb_ {pins:Pnn}{σ:St}{H:Hp}{s:Shared}{R:It→Hp→Prop}{E:Value→Shared→Prop}{lo hi:Int}{t u v:Tok}{tk:Nat}(I:Inv X pins σ H s) (h1 : -(2 ^ 62)≤lo) (h2:lo<2 ^ 62) (h3 : -(2 ^ 62)≤hi) (h4:hi<2 ^ 62)
  (q:R (Itr lo (hi-lo).toNat) H):wpAny (model X.prog X.w) X.A (pyIter (.ref s.heap.objs.size)) (PIE X pins σ tg R) E { s with heap:=s.heap.push { cls:=.type "range",data:=.fields #[.int lo t,.int hi u,.int 1 v] },toks:=tk }:=by
 refine wpAny_pyIter_range (IsRange.new ..) (small_one h1 h2 h3 h4) ?_
 have I1:Inv X pins σ H { s with heap:=s.heap.push { cls:=.type "range",data:=.fields #[.int lo t,.int hi u,.int 1 v] },toks:=tk }:=I.kept fun b o e=>Heap.get?_push_of_some _ e
 refine ⟨(s.heap.push { cls:=.type "range",data:=.fields #[.int lo t,.int hi u,.int 1 v] }).objs.size,[(s.heap.push { cls:=.type "range",data:=.fields #[.int lo t,.int hi u,.int 1 v] }).objs.size],_,_,H,rfl,
  I1.kept (t':=tk) fun b o e=>Heap.get?_push_of_some _ e,zhJ_ _ lo (hi-lo).toNat,?_,fun b hb=>?_,q⟩
 ·have e1:lo+((0:Nat):Int)*1=lo:=by simp
  have e2:(((hi-lo).toNat:Nat):Int)-((0:Nat):Int)=Builtin.Range.rangeSize lo hi 1:=by rw [rangeSize_one]; split<;>omega
  show IsRangeIter _ _ (lo+((0:Nat):Int)*1) ((((hi-lo).toNat:Nat):Int)-((0:Nat):Int)) 1
  rw [e1,e2]
  exact Heap.get?_push_size _ rfl
 ·have e:b=(s.heap.push { cls:=.type "range",data:=.fields #[.int lo t,.int hi u,.int 1 v] }).objs.size:=by simpa using hb
  subst e
  exact I1.fpOk (Nat.le_refl _) (I1.hok.fresh (Nat.le_refl _))
def tFor (wi:TI) (g:TG) (tb:TS):TS:=fun D σ H=>wi σ H fun J H1=>∃ W:Nat→Nat→St→Hp→Prop,(∃ m,W 0 m σ H1)∧∀ i m σ H,W i m σ H →
 (J.stop i H∧D.nx σ H)∨(J.go i H∧∃ N:St→Hp→Prop,(∀ σ' H',N σ' H'→∃ m',m'<m∧W (i+1) m' σ' H')∧∀ x H',J.yld i H x H'→g x σ H' fun σ2 H2=>tb { D with nx:=N,ct:=N,bk:=D.nx } σ2 H2)
def pinsAt (fp:List Addr) (h:Heap):Pnn:=fp.filterMap fun b=>(h.get? b).map fun o=>(b,o)
theorem zcG_ {fp:List Addr}{h:Heap}{b:Addr}{o:Obj}(hb:b∈fp) (e:h.get? b=some o):(b,o)∈pinsAt fp h:=List.mem_filterMap.mpr ⟨b,hb,by rw [e]; rfl⟩
theorem ziU_ {fp:List Addr}{h:Heap}{p:Addr×Obj}(hp:p∈pinsAt fp h):p.1∈fp∧h.get? p.1=some p.2:=by
 obtain ⟨b,hb,e⟩:=List.mem_filterMap.mp hp
 cases q:h.get? b with
 | none=>rw [q] at e; cases e
 | some o =>
  rw [q] at e
  have e':(b,o)=p:=Option.some.inj e
  subst e'
  exact ⟨hb,q⟩
theorem Inv.pinned {pins:Pnn}{σ:St}{H:Hp}{s:Shared}{fp:List Addr}(I:Inv X pins σ H s) (hf:∀ b∈fp,FpOk X pins H b) (ho:∀ b∈fp,∃ o,s.heap.get? b=some o∧∀ v,o.data≠.cell v):Inv X (pins++pinsAt fp s.heap) σ H s :=
 I.pins_of fun p hp=>(List.mem_append.mp hp).elim (fun z=>I.pin p (List.mem_append_right _ z)) fun z=>by
  obtain ⟨hb,e⟩:=ziU_ z
  obtain ⟨f0,f1,f2,_⟩:=hf p.1 hb
  obtain ⟨o,e',d⟩:=ho p.1 hb
  rw [e] at e'; cases e'
  exact ⟨e,f0,f1,f2,d⟩
theorem Inv.unpinned {pins pl:Pnn}{σ:St}{H:Hp}{s:Shared}(I:Inv X (pins++pl) σ H s):Inv X pins σ H s:=I.pins_of fun p hp=>I.pin p (List.mem_append_right _ (List.mem_append_left _ hp))
theorem zeW_ {iter:Expr}{body:List Stmt}{wi:TI}{g:TG}{tb:TS}{pos:Pos}(hp:PassesOwn (model X.prog X.w) X.A X.env X.xe) (hc:X.calm=true) (hi:PI X tg iter wi) (hg:PG X tg g) (hb:PSs X body tb)
  (hs:∀ x,foldedSetIterable iter X.env x=pure x:=by intro _; rfl):PS X (.For tg iter body [] pos) (tFor wi g tb):=by
 intro pins s σ H D I h
 refine wpAny_For (thn (hi pins s σ H _ I h) fun v s1 h1=>thn h1 fun itv s2 h2=>?_) hs
 obtain ⟨it,fp,tn,J,H2,e,I2,T,st2,f2,W,⟨m0,w0⟩,turn⟩:=h2
 subst e
 have stat:∀ {H':Hp},(∀ b∈fp,H' b=none)→∀ b∈fp,FpOk X pins H' b:=fun hn b hb=>⟨hn b hb,(f2 b hb).2⟩
 refine codeAny_forLoop_any (fun n s'=>∃ i σ' H',Inv X pins σ' H' s'∧tn i s'.heap∧(∀ b∈fp,H' b=none)∧W i n σ' H') ?_ m0 ⟨0,σ,H2,I2,st2,fun b hb=>(f2 b hb).1,w0⟩
 rintro n s3 ⟨i,σ3,H3,I3,st3,fr3,w3⟩
 rcases turn i n σ3 H3 w3 with ⟨stop,qn⟩ | ⟨go,N,hN,step⟩
 ·refine wpAny_passesOwn hp (thn (T.done X rfl rfl rfl hc i pins s3 σ3 H3 X.xe I3 (stat fr3) st3 stop) fun r s4 hq_=>?_)
  obtain ⟨hr,I4⟩:=hq_
  subst hr
  exact wpAny_execs_nil ⟨σ3,H3,I4,qn⟩
 ·refine wpAny_passesOwn hp (thn (T.item X rfl rfl rfl hc i pins s3 σ3 H3 X.xe I3 (stat fr3) st3 go) fun r s4 hq_=>?_)
  obtain ⟨u,hr,h4⟩:=hq_
  subst hr
  refine wpAny_passesOwn hp (thn h4 fun _ s5 hq_=>?_)
  obtain ⟨x,H5,I5,r5,y5,st5,fr5⟩:=hq_
  have I5':=I5.pinned (stat fr5) (T.obj _ _ st5)
  refine wpAny_passesOwn hp (thn (hg _ s5 σ3 H5 x u _ I5' r5 (step x H5 y5)) fun _ s6 hq_=>?_)
  obtain ⟨σ6,H6,I6,q6⟩:=hq_
  refine wpAny_passesOwn hp (thn (hb _ s6 σ6 H6 _ I6 q6) fun f s7 q7=>?_)
  have again:∀ {σ7:St}{H7:Hp},Inv X (pins++pinsAt fp s5.heap) σ7 H7 s7→N σ7 H7→∃ m,m<n∧∃ i σ' H',Inv X pins σ' H' s7∧tn i s7.heap∧(∀ b∈fp,H' b=none)∧W i m σ' H':=fun {σ7 H7} I7 n7=>by
   obtain ⟨m',hm,w7⟩:=hN σ7 H7 n7
   refine ⟨m',hm,i+1,σ7,H7,I7.unpinned,T.keep _ _ _ st5 fun b hb o e=>(I7.pin (b,o) (List.mem_append_right _ (List.mem_append_right _ (zcG_ hb e)))).1,fun b hb=>?_,w7⟩
   obtain ⟨o,e,d⟩:=T.obj _ _ st5 b hb
   exact (I7.pin (b,o) (List.mem_append_right _ (List.mem_append_right _ (zcG_ hb e)))).2.1
  cases f with
  | next=>obtain ⟨σ7,H7,I7,n7⟩:=q7; exact again I7 n7
  | cont=>obtain ⟨σ7,H7,I7,n7⟩:=q7; exact again I7 n7
  | brk=>obtain ⟨σ7,H7,I7,q7⟩:=q7; exact ⟨σ7,H7,I7.unpinned,q7⟩
  | ret v=>obtain ⟨x7,σ7,H7,I7,r7,q7⟩:=q7; exact ⟨x7,σ7,H7,I7.unpinned,r7,q7⟩
end
end L2
namespace L2
open PySem PySem.Spec PyProof.Rows
abbrev R2:=V→V→Hp→VK→Prop
def OpR (X:Cx) (f:Value→Value→Sem Value) (r:R2):Prop :=
 ∀ (pins:Pnn) (s:Shared) (σ:St) (H:Hp) (x y:V) (v u:Value) (Q:VK),Inv X pins σ H s→RelV x v→RelV y u→r x y H Q →
  wpAny (model X.prog X.w) X.A (f v u) (EP X pins σ Q) X.xe s
def CallR (X:Cx) (f:Value) (r:List V→Hp→VK→Prop):Prop :=
 ∀ (pins:Pnn) (s:Shared) (σ:St) (H:Hp) (xs:List V) (us:List Value) (Q:VK),Inv X pins σ H s→Vals xs us→r xs H Q →
  wpAny (model X.prog X.w) X.A (call f us) (EP X pins σ Q) X.xe s
def tOp (r:R2) (ta tb:TE):TE:=fun σ H Q=>ta σ H fun x H1=>tb σ H1 fun y H2=>r x y H2 Q
def tUn (r:V→Hp→VK→Prop) (ta:TE):TE:=fun σ H Q=>ta σ H fun x H1=>r x H1 Q
def rI (C:Int→Int→Prop) (g:Int→Int→V):R2:=fun x y H Q=>∃ i j,x=.int i∧y=.int j∧C i j∧Q (g i j) H
def rI0 (g:Int→Int→V):R2:=fun x y H Q=>∃ i j,x=.int i∧y=.int j∧Q (g i j) H
section
variable {X:Cx}{a b c:Expr}{ta tb tc:TE}{pos:Pos}
theorem binT (ha:PE X a ta) (hb:PE X b tb) {pins:Pnn}{s:Shared}{σ:St}{H:Hp}{R:V→V→Hp→Prop}(I:Inv X pins σ H s)
  (h:ta σ H fun x H1=>tb σ H1 fun y H2=>R x y H2) {Q:Value→Shared→Prop}{f:Value→Value→Sem Value}
  (hf:∀ v u s2 x y H2,Inv X pins σ H2 s2→RelV x v→RelV y u→R x y H2→wpAny (model X.prog X.w) X.A (f v u) Q X.xe s2) :
  wpAny (model X.prog X.w) X.A (eval a X.env) (fun v s₁=>wpAny (model X.prog X.w) X.A (eval b X.env) (fun u s₂=>wpAny (model X.prog X.w) X.A (f v u) Q X.xe s₂) X.xe s₁) X.xe s:=by
 refine thn (ha pins s σ H _ I h) fun v s1 hq_=>?_
 obtain ⟨x,H1,I1,r1,q1⟩:=hq_
 refine thn (hb pins s1 σ H1 _ I1 q1) fun u s2 hq_=>?_
 obtain ⟨y,H2,I2,r2,q2⟩:=hq_
 exact hf v u s2 x y H2 I2 r1 r2 q2
theorem zca_ {op:Operator}{r:R2}(ho:OpR X (binaryOp op) r) (ha:PE X a ta) (hb:PE X b tb):PE X (.BinOp a op b pos) (tOp r ta tb):=by
 intro pins s σ H Q I h
 exact wpAny_BinOp (binT ha hb I h fun v u s2 x y H2 I2 rx ry q=>ho pins s2 σ H2 x y v u Q I2 rx ry q)
theorem opI {f:Value→Value→Sem Value}{C:Int→Int→Prop}{g:Int→Int→Int}
  (rule:∀ (i j:Int) (t u:Tok) (s:Shared) (Q:Value→Shared→Prop) (E:Value→Shared→Prop),C i j→Q (.int (g i j) s.toks) { s with toks:=s.toks+1 }→wpAny (model X.prog X.w) X.A (f (.int i t) (.int j u)) Q E s) :
  OpR X f (rI C fun i j=>.int (g i j)):=by
 intro pins s σ H x y v u Q I rx ry h
 obtain ⟨i,j,rfl,rfl,hc,q⟩:=h
 obtain ⟨t,rfl⟩:=rx
 obtain ⟨t',rfl⟩:=ry
 exact rule i j t t' s _ _ hc ⟨.int (g i j),H,I.tok _,⟨_,rfl⟩,q⟩
theorem opI0 {f:Value→Value→Sem Value}{g:Int→Int→Int}
  (rule:∀ (i j:Int) (t u:Tok) (s:Shared) (Q:Value→Shared→Prop) (E:Value→Shared→Prop),Q (.int (g i j) s.toks) { s with toks:=s.toks+1 }→wpAny (model X.prog X.w) X.A (f (.int i t) (.int j u)) Q E s) :
  OpR X f (rI0 fun i j=>.int (g i j)):=by
 intro pins s σ H x y v u Q I rx ry h
 obtain ⟨i,j,rfl,rfl,q⟩:=h
 obtain ⟨t,rfl⟩:=rx
 obtain ⟨t',rfl⟩:=ry
 exact rule i j t t' s _ _ ⟨.int (g i j),H,I.tok _,⟨_,rfl⟩,q⟩
theorem opB0 {f:Value→Value→Sem Value}{g:Int→Int→Bool}
  (rule:∀ (i j:Int) (t u:Tok) (s:Shared) (Q:Value→Shared→Prop) (E:Value→Shared→Prop),Q (.bool (g i j)) s→wpAny (model X.prog X.w) X.A (f (.int i t) (.int j u)) Q E s) :
  OpR X f (rI0 fun i j=>.bl (g i j)):=by
 intro pins s σ H x y v u Q I rx ry h
 obtain ⟨i,j,rfl,rfl,q⟩:=h
 obtain ⟨t,rfl⟩:=rx
 obtain ⟨t',rfl⟩:=ry
 exact rule i j t t' s _ _ ⟨.bl (g i j),H,I,rfl,q⟩
def CDiv (i j:Int):Prop:=0<j∧j<1073741824
def CPow (i j:Int):Prop:=0≤j∧j≤1000000∧i.natAbs<2 ^ 64
def CMul (i j:Int):Prop:=(-(2 ^ 64)<i∧i<2 ^ 64)∨(-(2 ^ 64)<j∧j<2 ^ 64)
theorem CMul.ok {i j:Int}(h:CMul i j):IntMulOk i j:=by
 rcases h with ⟨h1,h2⟩ | ⟨h1,h2⟩
 ·exact .of_left (intBits_le_64 h1 h2)
 ·exact .of_right (intBits_le_64 h1 h2)
theorem zmP_:OpR X (binaryOp .Add) (rI0 fun i j=>.int (i+j)):=opI0 fun _ _ _ _ _ _ _ q=>add_int q
theorem zmA_:OpR X (binaryOp .Sub) (rI0 fun i j=>.int (i-j)):=opI0 fun _ _ _ _ _ _ _ q=>sub_int q
theorem zmk_:OpR X (binaryOp .Mod) (rI (fun _ j=>0<j) fun i j=>.int (i % j)):=opI fun i j _ _ _ _ _ hc q=>by
 have h1:(0:Int)<j:=hc
 exact mod_int' (by lia) (by rw [Int.fmod_eq_emod_of_nonneg i (by lia)]; exact q)
end
def scal:V→V→Bool
 | .non,.non=>true | .non,.int _=>true | .int _,.non=>true | .non,.bl _=>true | .bl _,.non=>true | .non,.str _=>true | .str _,.non=>true
 | .int _,.int _=>true | .bl _,.bl _=>true | .str _,.str _=>true | .byt _,.byt _=>true
 | .int _,.str _=>true | .str _,.int _=>true | .bl _,.str _=>true | .str _,.bl _=>true
 | _,_=>false
def rEq:R2:=fun x y H Q=>scal x y=true∧Q (.bl (decide (x=y))) H
def rNe:R2:=fun x y H Q=>scal x y=true∧Q (.bl (!decide (x=y))) H
theorem zjq_ {i j:Int}:decide (V.int i=V.int j)=(i == j):=by
 rw [Bool.eq_iff_iff]
 simp
theorem zla_ {i j:Bool}:decide (V.bl i=V.bl j)=(i == j):=by
 rw [Bool.eq_iff_iff]
 simp
theorem zjJ_ {i j:Str}:decide (V.str i=V.str j)=(i == j):=by
 rw [Bool.eq_iff_iff]
 simp
theorem zjA_ {i j:Array UInt8}:decide (V.byt i=V.byt j)=(i.toList == j.toList):=by
 rw [Bool.eq_iff_iff]
 cases i
 cases j
 simp
section
variable {X:Cx}{a b c:Expr}{ta tb tc:TE}{pos:Pos}
theorem zab_ {pins:Pnn}{σ:St}{H:Hp}{s:Shared}{Q:VK}{k k':Bool}(I:Inv X pins σ H s) (q:Q (.bl k) H) (e:k=k'):EP X pins σ Q (.bool k') s:=by
 subst e
 exact ⟨.bl k,H,I,rfl,q⟩
theorem op_eq:OpR X (compareOp .Eq) rEq:=by
 intro pins s σ H x y v u Q I rx ry h
 obtain ⟨hs,q⟩:=h
 cases x with
 | non =>
  cases rx
  cases y with
  | non=>cases ry; exact PySem.EqNone.eq_none_none (zab_ I q (by simp))
  | bl j=>cases ry; exact PySem.EqNone.eq_none_bool (zab_ I q (by simp))
  | int j=>obtain ⟨t',rfl⟩:=ry; exact PySem.EqNone.eq_none_int (zab_ I q (by simp))
  | str j=>obtain ⟨t',rfl⟩:=ry; exact PySem.EqNone.eq_none_str (zab_ I q (by simp))
  | _=>exact absurd (show false=true from hs) Bool.false_ne_true
 | bl i =>
  cases rx
  cases y with
  | non=>cases ry; exact PySem.EqNone.eq_bool_none (zab_ I q (by simp))
  | bl j=>cases ry; exact eq_bool (zab_ I q zla_)
  | str j=>obtain ⟨t',rfl⟩:=ry; exact PySem.EqMixed.eq_bool_str (zab_ I q (by simp))
  | _=>exact absurd (show false=true from hs) Bool.false_ne_true
 | int i =>
  obtain ⟨t,rfl⟩:=rx
  cases y with
  | non=>cases ry; exact PySem.EqNone.eq_int_none (zab_ I q (by simp))
  | int j=>obtain ⟨t',rfl⟩:=ry; exact eq_int (zab_ I q zjq_)
  | str j=>obtain ⟨t',rfl⟩:=ry; exact PySem.EqMixed.eq_int_str (zab_ I q (by simp))
  | _=>exact absurd (show false=true from hs) Bool.false_ne_true
 | str i =>
  obtain ⟨t,rfl⟩:=rx
  cases y with
  | non=>cases ry; exact PySem.EqNone.eq_str_none (zab_ I q (by simp))
  | bl j=>cases ry; exact PySem.EqMixed.eq_str_bool (zab_ I q (by simp))
  | int j=>obtain ⟨t',rfl⟩:=ry; exact PySem.EqMixed.eq_str_int (zab_ I q (by simp))
  | str j=>obtain ⟨t',rfl⟩:=ry; exact eq_str (zab_ I q zjJ_)
  | _=>exact absurd (show false=true from hs) Bool.false_ne_true
 | byt i =>
  obtain ⟨t,rfl⟩:=rx
  cases y with
  | byt j=>obtain ⟨t',rfl⟩:=ry; exact PySem.W.eq_bytes (zab_ I q zjA_)
  | _=>exact absurd (show false=true from hs) Bool.false_ne_true
 | _=>cases y<;>exact absurd (show false=true from hs) Bool.false_ne_true
theorem op_ne:OpR X (compareOp .NotEq) rNe:=by
 intro pins s σ H x y v u Q I rx ry h
 obtain ⟨hs,q⟩:=h
 cases x with
 | non =>
  cases rx
  cases y with
  | non=>cases ry; exact PySem.EqNone.ne_none_none (zab_ I q (by simp))
  | bl j=>cases ry; exact PySem.EqNone.ne_none_bool (zab_ I q (by simp))
  | int j=>obtain ⟨t',rfl⟩:=ry; exact PySem.EqNone.ne_none_int (zab_ I q (by simp))
  | str j=>obtain ⟨t',rfl⟩:=ry; exact PySem.EqNone.ne_none_str (zab_ I q (by simp))
  | _=>exact absurd (show false=true from hs) Bool.false_ne_true
 | bl i =>
  cases rx
  cases y with
  | non=>cases ry; exact PySem.EqNone.ne_bool_none (zab_ I q (by simp))
  | bl j=>cases ry; exact ne_bool (zab_ I q (congrArg not zla_))
  | str j=>obtain ⟨t',rfl⟩:=ry; exact PySem.EqMixed.ne_bool_str (zab_ I q (by simp))
  | _=>exact absurd (show false=true from hs) Bool.false_ne_true
 | int i =>
  obtain ⟨t,rfl⟩:=rx
  cases y with
  | non=>cases ry; exact PySem.EqNone.ne_int_none (zab_ I q (by simp))
  | int j=>obtain ⟨t',rfl⟩:=ry; exact ne_int (zab_ I q (congrArg not zjq_))
  | str j=>obtain ⟨t',rfl⟩:=ry; exact PySem.EqMixed.ne_int_str (zab_ I q (by simp))
  | _=>exact absurd (show false=true from hs) Bool.false_ne_true
 | str i =>
  obtain ⟨t,rfl⟩:=rx
  cases y with
  | non=>cases ry; exact PySem.EqNone.ne_str_none (zab_ I q (by simp))
  | bl j=>cases ry; exact PySem.EqMixed.ne_str_bool (zab_ I q (by simp))
  | int j=>obtain ⟨t',rfl⟩:=ry; exact PySem.EqMixed.ne_str_int (zab_ I q (by simp))
  | str j=>obtain ⟨t',rfl⟩:=ry; exact ne_str (zab_ I q (congrArg not zjJ_))
  | _=>exact absurd (show false=true from hs) Bool.false_ne_true
 | byt i =>
  obtain ⟨t,rfl⟩:=rx
  cases y with
  | byt j=>obtain ⟨t',rfl⟩:=ry; exact PySem.W.ne_bytes (zab_ I q (congrArg not zjA_))
  | _=>exact absurd (show false=true from hs) Bool.false_ne_true
 | _=>cases y<;>exact absurd (show false=true from hs) Bool.false_ne_true
theorem op_lt:OpR X (compareOp .Lt) (rI0 fun i j=>.bl (decide (i<j))):=opB0 fun _ _ _ _ _ _ _ q=>lt_int q
theorem op_gt:OpR X (compareOp .Gt) (rI0 fun i j=>.bl (decide (j<i))):=opB0 fun _ _ _ _ _ _ _ q=>gt_int q
theorem ziH_:OpR X (compareOp .In) (fun x y H Q=>∃ i j,x=.str i∧y=.str j∧Q (.bl (!(Builtin.Str.occurrences j i 0 j.length 1).isEmpty)) H):=by
 intro pins s σ H x y v u Q I rx ry h
 obtain ⟨i,j,rfl,rfl,q⟩:=h
 obtain ⟨t,rfl⟩:=rx
 obtain ⟨t',rfl⟩:=ry
 exact in_str (zab_ I q rfl)
theorem zl9_:OpR X (compareOp .IsNot) (fun x y H Q=>y=.non∧Q (.bl (!decide (x=.non))) H):=by
 intro pins s σ H x y v u Q I rx ry h
 obtain ⟨rfl,q⟩:=h
 cases ry
 refine isnot_none_gen (zab_ I q ?_)
 cases x<;>first
  | (cases rx; rfl)
  | (obtain ⟨t,rfl⟩:=rx; rfl)
theorem zma_ {op:CmpOp}{r:R2}(ho:OpR X (compareOp op) r) (ha:PE X a ta) (hb:PE X b tb) (hm:behindInMarks op b=false):PE X (.Compare a [op] [b] pos) (tOp r ta tb):=by
 intro pins s σ H Q I h
 exact wpAny_Compare1 (binT ha hb I h fun v u s2 x y H2 I2 rx ry q=>ho pins s2 σ H2 x y v u Q I2 rx ry q) hm
theorem line63:(sizeLine:Nat)<2 ^ 63:=by rw [sizeLine_eq]; decide
theorem zhj_:OpR X (binaryOp .Add) (fun x y H Q=>∃ i j,x=.str i∧y=.str j∧i.length+j.length≤sizeLine∧Q (.str (i++j)) H):=by
 intro pins s σ H x y v u Q I rx ry h
 obtain ⟨i,j,rfl,rfl,hz,q⟩:=h
 obtain ⟨t,rfl⟩:=rx
 obtain ⟨t',rfl⟩:=ry
 exact add_str (fun t' tk=>⟨.str (i++j),H,I.tok _,⟨_,rfl⟩,q⟩) hz
theorem vals1 {x:V}{us:List Value}(r:Vals [x] us):∃ u,us=[u]∧RelV x u:=by
 cases r with
 | cons r1 r2=>cases r2; exact ⟨_,rfl,r1⟩
theorem vals2 {x y:V}{us:List Value}(r:Vals [x,y] us):∃ u w',us=[u,w']∧RelV x u∧RelV y w':=by
 cases r with
 | cons r1 r2 =>
  cases r2 with
  | cons r3 r4=>cases r4; exact ⟨_,_,rfl,r1,r3⟩
theorem zfR_:CallR X (.type "str") (fun xs H Q=>∃ i,xs=[.int i]∧i.natAbs.log2<1920∧Q (.str (toString i)) H):=by
 intro pins s σ H xs us Q I r h
 obtain ⟨i,rfl,hz,q⟩:=h
 obtain ⟨u,rfl,t,rfl⟩:=vals1 r
 exact PySem.P.str_of_int hz ⟨.str _,H,I.tok _,⟨_,rfl⟩,q⟩
end
end L2
namespace L2
open PySem PySem.Spec PyProof.Rows
structure ObjM (h:Heap) (x dx C:Addr) (mA:Str→Option Value):Prop where
 obj:h.get? x=some (PySem.W.instObj C dx)
 ns:h.Ns1 dx mA
 ne:dx≠x
theorem zi6_ {h:Heap}{dx:Addr}{mA:Str→Option Value}(n:h.Ns1 dx mA):∃ od,h.get? dx=some od∧∀ name,PySem.W.lookIn name od=some (mA name):=by
 obtain ⟨o,es,ep,ho,hd,hk,_,hm⟩:=n
 refine ⟨o,ho,fun name=>?_⟩
 have e:=hm name
 unfold nsFind findBy at e
 rw [← Array.find?_toList] at e
 unfold PySem.W.lookIn
 rw [hd]
 dsimp only
 split
 ·rename_i y q
  rw [q] at e
  exact congrArg some e
 ·rename_i q
  rw [q] at e
  have a:es.toList.any (·.refKey)=false:=by
   rw [List.any_eq_false]
   intro y hy
   obtain ⟨z,t,hkey⟩:=hk y (Array.mem_toList_iff.mp hy)
   simp [DictEntry.refKey,hkey]
  have a':¬ es.toList.any (·.refKey)=true:=by rw [a]; exact Bool.false_ne_true
  rw [if_neg a']
  exact congrArg some e
theorem ObjM.look {h:Heap}{x dx C:Addr}{mA:Str→Option Value}(I:ObjM h x dx C mA):∃ od,PySem.W.InstAt h x (PySem.W.instObj C dx) C (some od)∧∀ name,PySem.W.lookIn name od=some (mA name) :=
 let ⟨od,ho,hl⟩:=zi6_ I.ns
 ⟨od,⟨I.obj,rfl,rfl,ho⟩,hl⟩
section
variable {prog:Program}{w:World}{A:Around}{E:Value→Shared→Prop}{s:Shared}{K:Fgg}{x dx C f:Addr}{mA:Str→Option Value}{name:Str}{v:Value}
theorem zlR_ {expr:Bool}{Q:Value→Shared→Prop}(X:K.In s.heap) (I:ObjM s.heap x dx C mA) (hg:PySem.W.plainGet K C name=true) (hh:PySem.W.hasDictIn K C=true)
  (ha:PySem.W.findIn K (.ref C) name=some none) (hv:mA name=some v) (hv':PySem.W.handedIn v=true) (h:Q v { s with toks:=s.toks+1 }) :
  wpAny (model prog w) A (getAttr (.ref x) name expr) Q E s:=by
 obtain ⟨od,J,hl⟩:=I.look
 exact PySem.W.get_value X J (PySem.W.plainGet_of hg).1 (PySem.W.findObj_own hh ha rfl (by rw [hl,hv])) hv' h
theorem zjW_ {pl:Sem Bool}{Q:Value×List Value→Shared→Prop}(X:K.In s.heap) (I:ObjM s.heap x dx C mA) (hg:PySem.W.plainGet K C name=true)
  (hf:PySem.W.findIn K (.ref C) name=some (some (.ref f))) (ht:PySem.W.isFn K (.ref f)=true) (hv:mA name=none) (h:Q (.ref f,[.ref x]) s) :
  wpAny (model prog w) A (getMethod (.ref x) name pl) Q E s:=by
 obtain ⟨od,J,hl⟩:=I.look
 exact PySem.W.method_fn X J (PySem.W.plainGet_of hg).1 (PySem.W.plainGet_of hg).2 hf (beq_iff_eq.mp ht) (by show (PySem.W.lookIn name od).map (·.isSome)=some false; rw [hl,hv]; rfl) h
theorem zk5_ {ns:List Str}{Q:Unit→Shared→Prop}(X:K.In s.heap) (I:ObjM s.heap x dx C mA)
  (hs:PySem.W.findIn K (.ref C) "__setattr__" = some (some (.builtin "object.__setattr__"))) (hp:PySem.W.plainOver K C=true) (ht:PySem.W.takerIn K C name=some none) (hh:PySem.W.hasDictIn K C=true)
  (hw:PySem.Within mA ns) (hsz:ns.length≤sizeLine)
  (h:∀ h',ObjM h' x dx C (fun y=>if y=name then some v else mA y)→Heap.SameBut dx s.heap h'→Q () { s with heap:=h',toks:=s.toks+2 }) :
  wpAny (model prog w) A (setAttr (.ref x) name v) Q E s:=by
 obtain ⟨od,J,hl⟩:=I.look
 refine PySem.W.set_plain X J hs (PySem.W.osa_open (s:={ s with toks:=s.toks+1 }) (r:=none) X J hp ht fun b=>?_)
 obtain ⟨cd,hc,hd'⟩:=PySem.W.any_some hh
 have hx:s.heap.get? x=some ⟨.ref C,some dx,.plain,#[]⟩:=I.obj
 refine wpAny_bind (wpAny_pure (wpAny_bind (wpAny_bind (wpAny_loadPart hx (wpAny_bind (PySem.W.Looks.here (s:={ s with toks:=s.toks+1 }) (PySem.W.looks_clsIn X hc) ?_))))))
 rw [hd']
 refine wpAny_pure (a:=some dx) (wpAny_bind (wpAny_pure (wpAny_bind ?_)))
 refine wpAny_nsSet1 (s:={ s with toks:=s.toks+1 }) I.ns fun h' hn2 hs2=>?_
 obtain ⟨oD,esD,epD,hoD,hdD,hcD⟩:=hn2.count (PySem.Within.cons name v hw)
 refine wpAny_bind (wpAny_lookBehind hoD (by rw [hdD]; exact pastItsLine_dict (Nat.le_trans hcD (by rw [List.length_cons]; lia))) ?_)
 exact wpAny_pure (h _ ⟨(hs2.2 _ (Ne.symm I.ne)).trans I.obj,hn2,I.ne⟩ hs2)
theorem zjV_ {R:Result→Shared→Prop}{vs:List Value}{kw:List (Str×Value)}(X:K.In s.heap) (hm:PySem.W.makesIn K C=true)
  (hi:PySem.W.findIn K (.ref C) "__init__" = some (some (.ref f))) (hf:PySem.W.typeIn K (.ref f)=some (.type "function"))
  (h:codeAny (model prog w) (A.under (.builtin "type.__call__" ⟨.ref C::vs,kw⟩)) (.call (.ref f) ⟨.ref (s.heap.objs.size+1)::vs,kw⟩) (PySem.W.InitBack (s.heap.objs.size+1) R)
   { s with heap:=(s.heap.push PySem.W.emptyDict).push (PySem.W.instObj C s.heap.objs.size) }) :
  codeAny (model prog w) A (.call (.ref C) ⟨vs,kw⟩) R s:=by
 obtain ⟨hh,g,d,t,os⟩:=s
 exact PySem.W.make_core (PySem.W.makes_of X hm) (PySem.W.looks_findIn X hi) (fun self=>PySem.W.bind_fn X self hf) (.inl rfl) h
end
def putF (f:Str) (v:V):List (Str×V)→List (Str×V)
 | []=>[(f,v)]
 | (g,x)::r=>if g=f then (g,v)::r else (g,x)::putF f v r
theorem zeq_ (f g:Str) (v:V):∀ fs:List (Str×V),(putF f v fs).lookup g=if g=f then some v else fs.lookup g
 | []=>by
  show List.lookup g [(f,v)]=_
  by_cases h:g=f
  ·have hb:(g == f)=true:=beq_iff_eq.mpr h
   simp only [List.lookup,hb,if_pos h]
  ·have hb:(g == f)=false:=beq_eq_false_iff_ne.mpr h
   simp only [List.lookup,hb,if_neg h]
 | (k,x)::r=>by
  have ih:=zeq_ f g v r
  rw [show putF f v ((k,x)::r)=(if k=f then (k,v)::r else (k,x)::putF f v r) from rfl]
  by_cases hk:k=f
  ·rw [if_pos hk]
   by_cases h:g=k
   ·have hb:(g == k)=true:=beq_iff_eq.mpr h
    simp only [List.lookup,hb,if_pos (h.trans hk)]
   ·have hb:(g == k)=false:=beq_eq_false_iff_ne.mpr h
    simp only [List.lookup,hb,if_neg (fun e:g=f=>h (e.trans hk.symm))]
  ·rw [if_neg hk]
   by_cases h:g=k
   ·have hb:(g == k)=true:=beq_iff_eq.mpr h
    simp only [List.lookup,hb,if_neg (fun e:g=f=>hk (h.symm.trans e))]
   ·have hb:(g == k)=false:=beq_eq_false_iff_ne.mpr h
    simp only [List.lookup,hb]
    exact ih
theorem zeS_ (f:Str) (v:V):∀ fs:List (Str×V),f∈(putF f v fs).map (·.1)∧∀ g,g∈fs.map (·.1)→g∈(putF f v fs).map (·.1)
 | []=>⟨by simp [putF],fun g h=>by simp at h⟩
 | (k,x)::r=>by
  obtain ⟨i1,i2⟩:=zeS_ f v r
  rw [show putF f v ((k,x)::r)=(if k=f then (k,v)::r else (k,x)::putF f v r) from rfl]
  by_cases hk:k=f
  ·rw [if_pos hk]
   subst hk
   exact ⟨by simp,fun g h=>by simpa using h⟩
  ·rw [if_neg hk]
   refine ⟨?_,fun g h=>?_⟩
   ·rw [List.map_cons]
    exact List.mem_cons_of_mem _ i1
   ·rw [List.map_cons] at h ⊢
    rcases List.mem_cons.mp h with e | e
    ·exact List.mem_cons.mpr (.inl e)
    ·exact List.mem_cons_of_mem _ (i2 g e)
theorem zej_ (f:Str) (v:V):∀ fs:List (Str×V),(putF f v fs).length≤fs.length+1
 | []=>by simp [putF]
 | (k,x)::r=>by
  have ih:=zej_ f v r
  rw [show putF f v ((k,x)::r)=(if k=f then (k,v)::r else (k,x)::putF f v r) from rfl]
  by_cases hk:k=f
  ·rw [if_pos hk,List.length_cons,List.length_cons]; lia
  ·rw [if_neg hk,List.length_cons,List.length_cons]; lia
theorem RelO.some_of {v:V}{o:Option Value}(r:RelO (some v) o):∃ u,o=some u∧RelV v u:=by
 cases o with
 | none=>exact (show False from r).elim
 | some u=>exact ⟨u,rfl,r⟩
theorem RelO.none_of {o:Option Value}(r:RelO none o):o=none:=by
 cases o with
 | none=>rfl
 | some u=>exact (show False from r).elim
theorem zi3_ {v:V}{u:Value}(r:RelV v u):PySem.W.handedIn u=true:=by
 cases v with
 | non=>cases (show u=Value.none from r); rfl
 | bl b=>cases (show u=Value.bool b from r); rfl
 | int i=>obtain ⟨t,e⟩:=(show ∃ t,u=Value.int i t from r); cases e; rfl
 | str x=>obtain ⟨t,e⟩:=(show ∃ t,u=Value.str x t from r); cases e; rfl
 | byt b=>obtain ⟨t,e⟩:=(show ∃ t,u=Value.bytes b t from r); cases e; rfl
 | flt b=>obtain ⟨t,e⟩:=(show ∃ t,u=Value.float b t from r); cases e; rfl
 | ref a=>cases (show u=Value.ref a from r); rfl
 | ty n=>cases (show u=Value.type n from r); rfl
section
variable {P:Program}{w:World}{H H':Hp}{h h':Heap}{a C dx:Addr}{fs fs':List (Str×V)}
theorem zgd_ (hok:HOk P w H h) (e:H a=some (.ins C dx fs)):∃ mA,ObjM h a dx C mA∧(∀ f,RelO (fs.lookup f) (mA f))∧PySem.Within mA (fs.map (·.1))∧fs.length≤1000∧H dx=some (.own a):=by
 obtain ⟨d,z,ne,ob,mA,n,r,q⟩:=(show ObjOk P w H h a (.ins C dx fs) from hok a _ e)
 exact ⟨mA,⟨ob,n,ne⟩,r,q,z,d⟩
end
structure Cls (K:Fgg) (C:Addr):Prop where
 pg:PySem.W.plainGet K C Str.empty=true
 hd:PySem.W.hasDictIn K C=true
 po:PySem.W.plainOver K C=true
 sa:PySem.W.findIn K (.ref C) "__setattr__" = some (some (.builtin "object.__setattr__"))
theorem Cls.get {K:Fgg}{C:Addr}(c:Cls K C) (f:Str):PySem.W.plainGet K C f=true:=c.pg
def NoAttr (K:Fgg) (C:Addr) (f:Str):Prop:=PySem.W.findIn K (.ref C) f=some none
theorem NoAttr.taker {K:Fgg}{C:Addr}{f:Str}(n:NoAttr K C f):PySem.W.takerIn K C f=some none:=by
 unfold PySem.W.takerIn
 rw [show PySem.W.findIn K (.ref C) f=some none from n]
 rfl
structure Meth (K:Fgg) (C:Addr) (m:Str) (f:Addr):Prop where
 at_:PySem.W.findIn K (.ref C) m=some (some (.ref f))
 fn:PySem.W.isFn K (.ref f)=true
 kp:PySem.W.keepIn K (.ref f)=true
section
variable {X:Cx}{pins:Pnn}{σ:St}{H:Hp}{s:Shared}{a C dx:Addr}{fs:List (Str×V)}{f:Str}{v:V}{A:Around}{E:Value→Shared→Prop}
theorem zhf_ {b:Bool}{Q:Value→Shared→Prop}(I:Inv X pins σ H s) (e:H a=some (.ins C dx fs)) (c:Cls X.K C) (n:NoAttr X.K C f) (l:fs.lookup f=some v)
  (h:∀ u s',Inv X pins σ H s'→RelV v u→Q u s'):wpAny (model X.prog X.w) A (getAttr (.ref a) f b) Q E s:=by
 obtain ⟨mA,O,r,_,_,_⟩:=zgd_ I.hok e
 obtain ⟨u,hu,ru⟩:=RelO.some_of (v:=v) (o:=mA f) (by rw [← l]; exact r f)
 exact zlR_ I.kIn O (c.get f) c.hd n hu (zi3_ ru) (h u _ (I.tok _) ru)
theorem zdF_ {m:Str}{g:Addr}{pl:Sem Bool}{Q:Value×List Value→Shared→Prop}(I:Inv X pins σ H s) (e:H a=some (.ins C dx fs)) (c:Cls X.K C) (k:Meth X.K C m g) (l:fs.lookup m=none)
  (h:Q (.ref g,[.ref a]) s):wpAny (model X.prog X.w) A (getMethod (.ref a) m pl) Q E s:=by
 obtain ⟨mA,O,r,_,_,_⟩:=zgd_ I.hok e
 have hn:mA m=none:=RelO.none_of (by rw [← l]; exact r m)
 exact zjW_ I.kIn O (c.get m) k.at_ k.fn hn h
theorem zhM_ {y:V}{u:Value}{Q:Unit→Shared→Prop}(I:Inv X pins σ H s) (e:H a=some (.ins C dx fs)) (c:Cls X.K C) (n:NoAttr X.K C f) (hl:fs.length<1000) (ry:RelV y u)
  (h:∀ s',Inv X pins σ (upd H a (.ins C dx (putF f y fs))) s'→Q () s'):wpAny (model X.prog X.w) A (setAttr (.ref a) f u) Q E s:=by
 obtain ⟨mA,O,r,wi,_,ho⟩:=zgd_ I.hok e
 have hz:(fs.map (·.1)).length≤sizeLine:=by rw [List.length_map,sizeLine_eq]; lia
 refine zk5_ I.kIn O c.sa c.po n.taker c.hd wi hz fun h' O' sb=>h _ ?_
 have hd:∃ o,h'.get? dx=some o:=let ⟨o,_,_,e',_⟩:=O'.ns; ⟨o,e'⟩
 refine I.write (x:=a) (e:=dx) (by rw [e]; exact True.intro) (.inr ho) (fun b q hb z=>(sb.2 b hb).trans z) hd ?_
 refine ⟨by rw [zN_ O.ne]; exact ho,?_,O.ne,O'.obj,_,O'.ns,fun g=>?_,fun g hg=>?_⟩
 ·have:=zej_ f y fs; lia
 ·show RelO ((putF f y fs).lookup g) (if g=f then some u else mA g)
  rw [zeq_]
  by_cases q:g=f
  ·rw [if_pos q,if_pos q]; exact ry
  ·rw [if_neg q,if_neg q]; exact r g
 ·by_cases q:g=f
  ·rw [q]; exact (zeS_ f y fs).1
  ·refine (zeS_ f y fs).2 g (wi g fun z=>hg ?_)
   show (if g=f then some u else mA g)=none
   rw [if_neg q]; exact z
theorem Inv.made (I:Inv X pins σ H s):Inv X pins σ (upd (upd H s.heap.objs.size (.own (s.heap.objs.size+1))) (s.heap.objs.size+1) (.ins C s.heap.objs.size []))
  { s with heap:=(s.heap.push PySem.W.emptyDict).push (PySem.W.instObj C s.heap.objs.size) }:=by
 have e1:(s.heap.push PySem.W.emptyDict).get? s.heap.objs.size=some PySem.W.emptyDict:=Heap.get?_push_size s.heap rfl
 have e2:((s.heap.push PySem.W.emptyDict).push (PySem.W.instObj C s.heap.objs.size)).get? (s.heap.objs.size+1)=some (PySem.W.instObj C s.heap.objs.size):=by
  have:=Heap.get?_push_size (s.heap.push PySem.W.emptyDict) (o:=PySem.W.instObj C s.heap.objs.size) rfl
  rwa [Heap.size_push] at this
 have e3:(s.heap.push PySem.W.emptyDict).Ns s.heap.objs.size (fun _=>none):=⟨PySem.W.emptyDict,#[],_,e1,rfl,(fun e he=>absurd he (by simp)),fun _=>rfl⟩
 have I1:=I.laid (a:=s.heap.objs.size) (o:=.own (s.heap.objs.size+1)) (h':=s.heap.push PySem.W.emptyDict) (t':=s.toks) (fun b u q=>Heap.get?_push_of_some _ q) (Nat.le_refl _) ⟨_,e1⟩
 refine I1.laid (a:=s.heap.objs.size+1) (o:=.ins C s.heap.objs.size []) (t':=s.toks) (fun b u q=>Heap.get?_push_of_some _ q) (Nat.le_of_eq (Heap.size_push _ _)) ?_
 have ne:s.heap.objs.size≠s.heap.objs.size+1:=Nat.ne_of_lt (Nat.lt_succ_self _)
 refine ⟨by rw [zN_ ne,zP_],Nat.zero_le _,ne,e2,fun _=>none,(Heap.Ns1.of_empty e3).at fun o q=>Heap.get?_push_of_some _ q,fun _=>True.intro,fun y hy=>absurd rfl hy⟩
theorem zlO_ {prog:Program}{w:World}{env:Env}{e:Expr}{f:Str}{pos:Pos}{s:Shared}{Q:Value→Shared→Prop}(hb:attributeBase e f env (eval e env)=eval e env)
  (h:wpAny (model prog w) A (eval e env) (fun o s₁=>wpAny (model prog w) A (getAttr o f true) Q E s₁) E s):wpAny (model prog w) A (eval (.Attribute e f pos) env) Q E s :=
 Attribute_any_ h (by rw [arm_eval_Attribute,hb])
end
section
variable {X:Cx}{o e value:Expr}{f:Str}{pos pos' tpos:Pos}{ta tv:TE}
theorem zkR_ {pl:Sem Bool}{m:Str}{apos:Pos}{args:List Expr}{pins:Pnn}{s:Shared}{σ:St}{H:Hp}{Q:Value→Shared→Prop}{te:TE}(he:PE X e te) (I:Inv X pins σ H s)
  (h:te σ H fun x H1=>∃ a C dx fs g,x=.ref a∧H1 a=some (.ins C dx fs)∧Cls X.K C∧Meth X.K C m g∧fs.lookup m=none ∧
   ∀ s1,Inv X pins σ H1 s1→wpAny (model X.prog X.w) X.A (callWith pos (.ref g) [.ref a] (backTo pos (starEach args X.env)) (backToKw pos (keywordEach [] X.env))) Q X.xe s1)
  (ht:eval (.Call (.Attribute e m apos) args [] pos) X.env=(do
   let ov ← eval e X.env
   standAt apos.atName
   let (f,first) ← holding [ov] (getMethod ov m pl)
   callWith pos f first (backTo pos (starEach args X.env)) (backToKw pos (keywordEach [] X.env)))) :
  wpAny (model X.prog X.w) X.A (eval (.Call (.Attribute e m apos) args [] pos) X.env) Q X.xe s:=by
 refine PySem.W.methodCall_KW (pl:=pl) (thn (he pins s σ H _ I h) fun u s1 hq_=>?_) ht
 obtain ⟨x,H1,I1,rx,a,C,dx,fs,g,ex,ea,c,k,l,q⟩:=hq_
 subst ex
 obtain rfl:u=Value.ref a:=rx
 exact zdF_ I1 ea c k l (q s1 I1)
end
section
variable {X:Cx}{pins:Pnn}{σ:St}{H:Hp}{s:Shared}{A:Around}{E:Value→Shared→Prop}{Q:Value→Shared→Prop}{c:Value}{b:Bool}
inductive TyOf (K:Fgg) (H:Hp):V→Value→Prop where
 | non:TyOf K H .non (.type "NoneType")
 | bl (x:Bool):TyOf K H (.bl x) (.type "bool")
 | int (i:Int):TyOf K H (.int i) (.type "int")
 | str (x:Str):TyOf K H (.str x) (.type "str")
 | flt (x:UInt64):TyOf K H (.flt x) (.type "float")
 | lst {a:Addr}{xs:List V}(e:H a=some (.lst xs)):TyOf K H (.ref a) (.type "list")
 | frz {a:Addr}{o:Obj}{xs:List V}(e:H a=some (.frz o (.lst xs))):TyOf K H (.ref a) (.type "list")
 | tup {a:Addr}{xs:List V}(e:H a=some (.tup xs)):TyOf K H (.ref a) (.type "tuple")
 | dK {a:Addr}{kvs:List (Key×V)}(e:H a=some (.dK kvs)):TyOf K H (.ref a) (.type "dict")
 | dT {a:Addr}{kvs:List (List Key×V)}(e:H a=some (.dT kvs)):TyOf K H (.ref a) (.type "dict")
 | ins {a C dx:Addr}{fs:List (Str×V)}(e:H a=some (.ins C dx fs)) (cl:Cls K C) (ha:PySem.W.findIn K (.ref C) "__class__" = some (some (.builtin "object.__class__")))
   (hn:PySem.W.specialIn K (.builtin "object.__class__") "__get__" = some (some (.builtin "getset_descriptor.__get__"))) (htk:PySem.W.takesIn K (.builtin "object.__class__")=some true)
   (hm:PySem.W.mroIn K C (.type "object")=some true):TyOf K H (.ref a) (.ref C)
theorem zf8_ {x:V}{u t:Value}(I:Inv X pins σ H s) (rx:RelV x u) (ty:TyOf X.K H x t) (e:PySem.W.kitOne X.K t c=some b) (h:∀ tk,Q (.bool b) { s with toks:=tk }) :
  wpAny (model X.prog X.w) A (call (.builtin "isinstance") [u,c]) Q E s:=by
 cases ty with
 | non=>cases (show u=Value.none from rx); exact PySem.W.kia_one PySem.W.kitx_none I.kIn True.intro e (fun z=>nomatch z) h
 | bl y=>cases (show u=Value.bool y from rx); exact PySem.W.kia_one PySem.W.kitx_bool I.kIn True.intro e (fun z=>nomatch z) h
 | int i=>obtain ⟨t,q⟩:=(show ∃ t,u=Value.int i t from rx); cases q; exact PySem.W.kia_one PySem.W.kitx_int I.kIn True.intro e (fun z=>nomatch z) h
 | str y=>obtain ⟨t,q⟩:=(show ∃ t,u=Value.str y t from rx); cases q; exact PySem.W.kia_one PySem.W.kitx_str I.kIn True.intro e (fun z=>nomatch z) h
 | flt y=>obtain ⟨t,q⟩:=(show ∃ t,u=Value.float y t from rx); cases q; exact PySem.W.kia_one PySem.W.kitx_float I.kIn True.intro e (fun z=>nomatch z) h
 | @lst a xs ea =>
  cases (show u=Value.ref a from rx)
  obtain ⟨_,_,n,_,h1⟩:=(show ObjOk X.prog X.w H s.heap a (.lst xs) from I.hok a _ ea)
  exact PySem.W.kia_one PySem.W.kitx_list I.kIn ⟨_,h1,rfl⟩ e (fun z=>nomatch z) h
 | @frz a ob xs ea =>
  cases (show u=Value.ref a from rx)
  obtain ⟨_,_,_,n,_,h1⟩:=(show ObjOk X.prog X.w H s.heap a (.frz ob (.lst xs)) from I.hok a _ ea)
  exact PySem.W.kia_one PySem.W.kitx_list I.kIn ⟨_,h1,rfl⟩ e (fun z=>nomatch z) h
 | @tup a xs ea =>
  cases (show u=Value.ref a from rx)
  obtain ⟨_,_,_,p⟩:=(show ObjOk X.prog X.w H s.heap a (.tup xs) from I.hok a _ ea)
  obtain ⟨o,h1,h2,_⟩:=p
  exact PySem.W.kia_one PySem.W.kitx_tuple I.kIn ⟨o,h1,h2⟩ e (fun z=>nomatch z) h
 | @dK a kvs ea =>
  cases (show u=Value.ref a from rx)
  obtain ⟨_,_,vs,_,p⟩:=(show ObjOk X.prog X.w H s.heap a (.dK kvs) from I.hok a _ ea)
  obtain ⟨o,es,ep,h1,h2,_⟩:=p
  exact PySem.W.kia_one PySem.W.kitx_dict I.kIn ⟨o,h1,h2.1⟩ e (fun z=>nomatch z) h
 | @dT a kvs ea =>
  cases (show u=Value.ref a from rx)
  obtain ⟨_,_,xs,_,o,es,ep,h1,h2,_⟩:=(show ObjOk X.prog X.w H s.heap a (.dT kvs) from I.hok a _ ea)
  exact PySem.W.kia_one PySem.W.kitx_dict I.kIn ⟨o,h1,h2.1⟩ e (fun z=>nomatch z) h
 | @ins a C dx fs ea cl ha hn htk hm =>
  cases (show u=Value.ref a from rx)
  obtain ⟨mA,O,_⟩:=zgd_ I.hok ea
  obtain ⟨od,J,_⟩:=O.look
  exact PySem.W.kia_one (PySem.W.kitx_own (cl.get _) cl.hd ha hn htk hm) I.kIn J e (fun z=>nomatch z) h
end
end L2
namespace L2
open PySem PySem.Spec PyProof.Rows
structure Room (k:Nat) (A:Around):Prop where
 hd:A.handled=none
 dp:A.depth+3*k+5<recursionLimit
 un:A.units+16*k+200<cLine
theorem Room.mono {j k:Nat}{A:Around}(r:Room k A) (h:j≤k):Room j A:=⟨r.hd,by have:=r.dp; lia,by have:=r.un; lia⟩
theorem Room.deeper {k:Nat}{A:Around}(r:Room (k+1) A) (env:Env):Room k (A.deeper env) :=
 ⟨r.hd,by have:=r.dp; show A.depth+1+3*k+5<_; lia,by have:=r.un; show A.units+3+16*k+200<_; lia⟩
theorem zh6_ {A:Around}{C:Addr}{us:List Value}{kw:List (Str×Value)}:(A.under (.builtin "type.__call__" ⟨.ref C::us,kw⟩)).depth=A.depth+1:=by
 first | rfl | simp [Around.under,Code.weight,Code.isCreation,Code.isGuard,Code.isCaller,Code.frames,Code.isFrame,guardIds]
theorem zhe_ {A:Around}{C:Addr}{us:List Value}{kw:List (Str×Value)}:(A.under (.builtin "type.__call__" ⟨.ref C::us,kw⟩)).units=A.units+1:=by
 first | rfl | simp [Around.under,Code.cUnits,Code.frames,Code.isFrame]
theorem Room.make {k:Nat}{A:Around}(r:Room (k+1) A) (C:Addr) (us:List Value) (kw:List (Str×Value)):Room k (A.under (.builtin "type.__call__" ⟨.ref C::us,kw⟩)) :=
 ⟨r.hd,by have:=r.dp; rw [zh6_]; lia,by have:=r.un; rw [zhe_]; lia⟩
theorem Room.depth {k:Nat}{A:Around}(r:Room k A):A.depth<recursionLimit:=by have:=r.dp; lia
theorem Room.units {k:Nat}{A:Around}(r:Room k A):A.units+64<cLine:=by have:=r.un; lia
def tNil:TA:=fun _ H Q=>Q [] H
def tCons (ta:TE) (tr:TA):TA:=fun σ H Q=>ta σ H fun x H1=>tr σ H1 fun xs H2=>Q (x::xs) H2
section
variable {X:Cx}{e:Expr}{es:List Expr}{te:TE}{t:TA}{pos:Pos}
theorem zg_:PA X [] tNil:=fun _ _ _ _ H Q I h=>Calls.spliced_nil ⟨[],H,I,.nil,h⟩
theorem zb_ (ha:PE X e te) (hr:PA X es t) (hs:starEach (e::es) X.env=(false,eval e X.env)::starEach es X.env:=by rfl):PA X (e::es) (tCons te t):=by
 intro pos pins s σ H Q I h
 rw [hs]
 show wpAny _ _ (spliced ((false,eval e X.env)::backTo pos (starEach es X.env))) _ _ s
 refine Calls.spliced_cons (thn (ha pins s σ H _ I h) fun u s1 hq_=>?_)
 obtain ⟨x,H1,I1,r1,q1⟩:=hq_
 exact thn (hr pos pins s1 σ H1 _ I1 q1) fun us s2 ⟨xs,H2,I2,r2,q2⟩=>⟨x::xs,H2,I2,.cons r1 r2,q2⟩
def tTup (t:TA):TE:=fun σ H Q=>t σ H fun xs H1=>xs.length≤sizeLine∧∀ p,H1 p=none→Q (.ref p) (upd H1 p (.tup xs))
def tLst (t:TA):TE:=fun σ H Q=>t σ H fun xs H1=>xs.length≤sizeLine∧∀ p,H1 p=none→Q (.ref p) (upd H1 p (.lst xs))
theorem zmb_ {x1} (h:PA X es t):PE X (.Tuple es x1 pos) (tTup t):=by
 intro pins s σ H Q I hq
 refine wpAny_Tuple_spliced (thn (h pos pins s σ H _ I hq) fun us s1 ⟨xs,H1,I1,r,z,q⟩=>⟨by rw [← r.length]; exact z,?_⟩)
 have hf:H1 s1.heap.objs.size=none:=I1.hok.fresh (Nat.le_refl _)
 refine ⟨.ref s1.heap.objs.size,upd H1 s1.heap.objs.size (.tup xs),I1.laid (t':=s1.toks) (fun b u e=>Heap.get?_push_of_some _ e) (Nat.le_refl _) ?_,rfl,q _ hf⟩
 exact ⟨z,us,r,⟨_,Heap.get?_push_size _ rfl,rfl,_,rfl⟩⟩
theorem zaC_ (h:PA X es t):PE X (.List es pos) (tLst t):=by
 intro pins s σ H Q I hq
 refine wpAny_List_spliced (thn (h pos pins s σ H _ I hq) fun us s1 ⟨xs,H1,I1,r,z,q⟩=>⟨by rw [← r.length]; exact z,?_⟩)
 have hf:H1 s1.heap.objs.size=none:=I1.hok.fresh (Nat.le_refl _)
 refine ⟨.ref s1.heap.objs.size,upd H1 s1.heap.objs.size (.lst xs),I1.laid (t':=s1.toks) (fun b u e=>Heap.get?_push_of_some _ e) (Nat.le_refl _) ?_,rfl,q _ hf⟩
 exact ⟨z,us,0,r,Heap.get?_push_size _ rfl⟩
end
abbrev Sp:=List V→Hp→VK→XK→Prop
abbrev CXT:=List Env→Hp→Shared→XK→Value→Shared→Prop
structure Env0 (P:Program) (w:World) (K:Fgg) (mg:Str→Option Value) (base:Heap) (A:Around) (outer:List Env) (s:Shared) (H:Hp):Prop where
 frames:A.frames=some outer
 mod:Mod K mg base
 bs:∀ b o,base.get? b=some o→s.heap.get? b=some o∧H b=none
 bsz:base.objs.size≤s.heap.objs.size
 funs:s.heap.FunFrames base outer
 frf:∀ b∈frs outer,H b=none
 hok:HOk P w H s.heap
 bare:AllBare s.gens
def CE (outer:List Env) (P:Program) (w:World) (H:Hp) (s:Shared) (Q:VK) (u:Value) (s':Shared):Prop :=
 ∃ v H',s'.os=s.os∧AllBare s'.gens∧Un (frs outer) [] H H' s.heap s'.heap∧HOk P w H' s'.heap∧RelV v u∧Q v H'
def CR (CX:CXT) (outer:List Env) (P:Program) (w:World) (H:Hp) (s:Shared) (Q:VK) (E:XK) (r:Result) (s':Shared):Prop :=
 match r with
 | .ok (.ret u)=>CE outer P w H s Q u s'
 | .ok _=>False
 | .error e=>CX outer H s E e s'
structure FnOk (P:Program) (w:World) (K:Fgg) (mg:Str→Option Value) (base:Heap) (CX:CXT) (k:Nat) (f:Addr) (fd:FuncData) (ps:List Str) (sp:Sp):Prop where
 len:∀ vs H Q E,sp vs H Q E→vs.length=ps.length
 run:∀ (A:Around) (outer:List Env) (s:Shared) (H:Hp) (args:Args) (us:List Value) (vs:List V) (Q:VK) (E:XK),Room k A→Env0 P w K mg base A outer s H→BindsTo s fd args (ps.zip us)→Vals vs us→sp vs H Q E →
  codeAny (model P w) A (.call (.ref f) args) (CR CX outer P w H s Q E) s
theorem Env0.make {P:Program}{w:World}{K:Fgg}{mg:Str→Option Value}{base:Heap}{A:Around}{outer:List Env}{s:Shared}{H:Hp}(e:Env0 P w K mg base A outer s H) (C:Addr) (us:List Value) (kw:List (Str×Value)) :
  Env0 P w K mg base (A.under (.builtin "type.__call__" ⟨.ref C::us,kw⟩)) outer s H:=⟨by first | exact e.frames | (simpa [Around.under,Code.envs,Code.isFrame,pushEnvs] using e.frames),e.mod,e.bs,e.bsz,e.funs,e.frf,e.hok,e.bare⟩
section
variable {X:Cx}{pins:Pnn}{σ:St}{H:Hp}{s s':Shared}
theorem Inv.env0 (I:Inv X pins σ H s):Env0 X.prog X.w X.K X.mg X.base X.A X.stack s H :=
 ⟨I.ok.frames,I.ok.mod,I.bs,Nat.le_trans I.ok.bsz I.sz,I.stack,I.stkFree,I.hok,I.bare⟩
theorem Inv.after {Q:VK}{u:Value}(I:Inv X pins σ H s) (h:CE X.stack X.prog X.w H s Q u s'):EP X pins σ Q u s':=by
 obtain ⟨v,H',os,bare,un,hok,r,q⟩:=h
 obtain ⟨hh,g,d,t,os'⟩:=s'
 obtain rfl:os'=s.os:=os
 exact ⟨v,H',I.call (h':=hh) (g':=g) (d':=d) (t':=t) (ch:=[]) un hok bare (fun b z=>absurd z (by simp)),r,q⟩
end
def tCall (sp:Sp) (dvs:List V) (E:XK) (t:TA):TE:=fun σ H Q=>t σ H fun vs H1=>sp (vs++dvs) H1 Q E
def tMeth (C:Addr) (m:Str) (sp:Sp) (dvs:List V) (E:XK) (ta:TE) (t:TA):TE:=fun σ H Q=>ta σ H fun x H1=>∃ a dx fs,x=.ref a∧H1 a=some (.ins C dx fs)∧fs.lookup m=none ∧
 t σ H1 fun vs H2=>sp (x::(vs++dvs)) H2 Q E
def tMake (C:Addr) (sp:Sp) (dvs:List V) (E:XK) (t:TA):TE:=fun σ H Q=>t σ H fun vs H1=>∀ x dx,H1 x=none→H1 dx=none→dx≠x →
 sp (.ref x::(vs++dvs)) (upd (upd H1 dx (.own x)) x (.ins C dx [])) (fun v H2=>v=.non∧Q (.ref x) H2) E
def Binds (K:Fgg) (fd:FuncData) (ps:List Str) (ds:List Value):Prop :=
 ∀ (s:Shared) (us:List Value),K.In s.heap→(us++ds).length=ps.length→BindsTo s fd ⟨us,[]⟩ (ps.zip (us++ds))
theorem Binds.all {K:Fgg}{fd:FuncData}{ps:List Str}(h:∀ us:List Value,us.length=ps.length→bindArgs fd ⟨us,[]⟩=pure (ps.zip us)):Binds K fd ps []:=fun s us _ hl=>by
 rw [List.append_nil] at hl ⊢
 exact .of_eq (h us hl)
def Passes (CX:CXT) (X:Cx) (E:XK):Prop:=∀ (pins:Pnn) (σ:St) (H:Hp) (s:Shared) (e:Value) (s':Shared),Inv X pins σ H s→CX X.stack H s E e s'→X.xe e s'
section
variable {X:Cx}{CX:CXT}{k:Nat}{f C:Addr}{fd:FuncData}{ps:List Str}{sp:Sp}{dvs:List V}{ds:List Value}{E:XK}{x m:Str}{p pos apos:Pos}{e o:Expr}{es:List Expr}{ta:TE}{t:TA}
theorem zhI_ {pins:Pnn}{σ:St}{H:Hp}{s:Shared}{Q:VK}{us:List Value}{vs:List V}(F:FnOk X.prog X.w X.K X.mg X.base CX k f fd ps sp) (hr:Room k X.A) (hb:Binds X.K fd ps ds) (hd:Vals dvs ds) (hx:Passes CX X E)
  (I:Inv X pins σ H s) (r:Vals vs us) (h:sp (vs++dvs) H Q E):wpAny (model X.prog X.w) X.A (call (.ref f) us) (EP X pins σ Q) X.xe s:=by
 have r2:Vals (vs++dvs) (us++ds):=r.append hd
 have hl:(us++ds).length=ps.length:=by rw [← r2.length]; exact F.len _ _ _ _ h
 refine wpAny_call (codeAny_mono (F.run X.A X.stack s H ⟨us,[]⟩ (us++ds) (vs++dvs) Q E hr I.env0 (hb s us I.kIn hl) r2 h) fun r s' hq=>?_)
 cases r with
 | error e=>exact hx pins σ H s e s' I hq
 | ok fl =>
  cases fl with
  | ret u=>exact I.after hq
  | next=>exact False.elim hq
  | brk=>exact False.elim hq
  | cont=>exact False.elim hq
theorem zjg_ (F:FnOk X.prog X.w X.K X.mg X.base CX k f fd ps sp) (hr:Room k X.A) (hg:Gl X x) (hm:X.mg x=some (.ref f)) (hk:PySem.W.keepIn X.K (.ref f)=true) (hb:Binds X.K fd ps ds) (hd:Vals dvs ds) (hx:Passes CX X E)
  (ha:PA X (e::es) t) (hdb:(x == ("__debug__" : Str))=false:=by decide) (he:starEach (e::es) X.env=(false,eval e X.env)::starEach es X.env:=by rfl) (hpl:(backTo pos (starEach es X.env)).any (·.1)=false:=by rfl) :
  PE X (.Call (.Name x p) (e::es) [] pos) (tCall sp dvs E t):=by
 intro pins s σ H Q I h
 refine wpAny_Call_Name_kw (zfg_ I hg hm ?_ hdb)
 refine PySem.W.callWith_K (h₀:=X.base) I.ok.mod.kin hk (thn (ha pos pins s σ H _ I h) fun us s1 ⟨vs,H1,I1,r,q⟩=>⟨I1.kIn,?_⟩) he hpl
 exact zhI_ F hr hb hd hx I1 r q
theorem zkL_ (F:FnOk X.prog X.w X.K X.mg X.base CX k f fd ps sp) (hr:Room k X.A) (hg:Gl X x) (hm:X.mg x=some (.ref f)) (hk:PySem.W.keepIn X.K (.ref f)=true) (hb:Binds X.K fd ps ds) (hd:Vals dvs ds) (hx:Passes CX X E)
  (hdb:(x == ("__debug__" : Str))=false:=by decide):PE X (.Call (.Name x p) [] [] pos) (tCall sp dvs E tNil):=by
 intro pins s σ H Q I h
 refine wpAny_Call_Name_kw (zfg_ I hg hm ?_ hdb)
 exact PySem.W.callWith_K0 I.kIn hk (zhI_ (us:=[]) F hr hb hd hx I .nil h)
theorem zli_ {pl:Sem Bool}(he:PE X o ta) (c:Cls X.K C) (hm:Meth X.K C m f) (F:FnOk X.prog X.w X.K X.mg X.base CX k f fd ps sp) (hr:Room k X.A) (hb:Binds X.K fd ps ds) (hd:Vals dvs ds) (hx:Passes CX X E) (ha:PA X (e::es) t)
  (hst:starEach (e::es) X.env=(false,eval e X.env)::starEach es X.env:=by rfl) (hpl:(backTo pos (starEach es X.env)).any (·.1)=false:=by rfl)
  (ht:eval (.Call (.Attribute o m apos) (e::es) [] pos) X.env=(do
   let ov ← eval o X.env
   standAt apos.atName
   let (f,first) ← holding [ov] (getMethod ov m pl)
   callWith pos f first (backTo pos (starEach (e::es) X.env)) (backToKw pos (keywordEach [] X.env))):=by rfl) :
  PE X (.Call (.Attribute o m apos) (e::es) [] pos) (tMeth C m sp dvs E ta t):=by
 intro pins s σ H Q I h
 refine PySem.W.methodCall_KW (pl:=pl) (thn (he pins s σ H _ I h) fun u s1 hq_=>?_) ht
 obtain ⟨x,H1,I1,rx,a,dx,fs,ex,ea,l,q⟩:=hq_
 subst ex
 obtain rfl:u=Value.ref a:=rx
 refine zdF_ I1 ea c hm l ?_
 refine PySem.W.callWith_K (first:=[.ref a]) (h₀:=X.base) I.ok.mod.kin hm.kp (thn (ha pos pins s1 σ H1 _ I1 q) fun us s2 ⟨vs,H2,I2,r,q2⟩=>⟨I2.kIn,?_⟩) hst hpl
 exact zhI_ (us:=.ref a::us) (vs:=.ref a::vs) F hr hb hd hx I2 (.cons rfl r) q2
theorem zj7_ {pl:Sem Bool}(he:PE X o ta) (c:Cls X.K C) (hm:Meth X.K C m f) (F:FnOk X.prog X.w X.K X.mg X.base CX k f fd ps sp) (hr:Room k X.A) (hb:Binds X.K fd ps ds) (hd:Vals dvs ds) (hx:Passes CX X E)
  (ht:eval (.Call (.Attribute o m apos) [] [] pos) X.env=(do
   let ov ← eval o X.env
   standAt apos.atName
   let (f,first) ← holding [ov] (getMethod ov m pl)
   callWith pos f first (backTo pos (starEach [] X.env)) (backToKw pos (keywordEach [] X.env))):=by rfl) :
  PE X (.Call (.Attribute o m apos) [] [] pos) (tMeth C m sp dvs E ta tNil):=by
 intro pins s σ H Q I h
 refine PySem.W.methodCall_KW (pl:=pl) (thn (he pins s σ H _ I h) fun u s1 hq_=>?_) ht
 obtain ⟨x,H1,I1,rx,a,dx,fs,ex,ea,l,q⟩:=hq_
 subst ex
 obtain rfl:u=Value.ref a:=rx
 refine zdF_ I1 ea c hm l ?_
 exact PySem.W.callWith_K0 (first:=[.ref a]) I1.kIn hm.kp (zhI_ (us:=[.ref a]) (vs:=[.ref a]) F hr hb hd hx I1 (.cons rfl .nil) q)
structure Mk (K:Fgg) (C f:Addr):Prop where
 makes:PySem.W.makesIn K C=true
 init:PySem.W.findIn K (.ref C) "__init__" = some (some (.ref f))
 fn:PySem.W.isFn K (.ref f)=true
 kp:PySem.W.keepIn K (.ref C)=true
theorem zkH_ {pins:Pnn}{σ:St}{H:Hp}{s:Shared}{Q:VK}{us:List Value}{vs:List V}(M:Mk X.K C f) (F:FnOk X.prog X.w X.K X.mg X.base CX k f fd ps sp) (hr:Room (k+1) X.A) (hb:Binds X.K fd ps ds) (hd:Vals dvs ds)
  (hx:Passes CX X E) (I:Inv X pins σ H s) (r:Vals vs us)
  (h:∀ x dx,H x=none→H dx=none→dx≠x→sp (.ref x::(vs++dvs)) (upd (upd H dx (.own x)) x (.ins C dx [])) (fun v H2=>v=.non∧Q (.ref x) H2) E) :
  wpAny (model X.prog X.w) X.A (call (.ref C) us) (EP X pins σ Q) X.xe s:=by
 have hq:=h (s.heap.objs.size+1) s.heap.objs.size (I.hok.fresh (Nat.le_succ _)) (I.hok.fresh (Nat.le_refl _)) (Nat.ne_of_lt (Nat.lt_succ_self _))
 have I2:=Inv.made (C:=C) I
 have r2:Vals (V.ref (s.heap.objs.size+1)::(vs++dvs)) (Value.ref (s.heap.objs.size+1)::(us++ds)):=.cons rfl (r.append hd)
 have hl:(Value.ref (s.heap.objs.size+1)::us++ds).length=ps.length:=by
  have e:=r2.length
  rw [F.len _ _ _ _ hq] at e
  exact e.symm
 refine wpAny_call (zjV_ (f:=f) I.kIn M.makes M.init (beq_iff_eq.mp M.fn) (codeAny_mono (F.run _ X.stack _ _ ⟨Value.ref (s.heap.objs.size+1)::us,[]⟩ (Value.ref (s.heap.objs.size+1)::(us++ds)) _ _ E (hr.make C us [])
  (I2.env0.make C us []) (hb _ (Value.ref (s.heap.objs.size+1)::us) I2.kIn hl) r2 hq) fun r s' hq'=>?_))
 cases r with
 | error e=>exact hx pins σ _ _ e s' I2 hq'
 | ok fl =>
  cases fl with
  | ret u =>
   obtain ⟨v,H',I3,rv,ev,q3⟩:=I2.after hq'
   subst ev
   exact ⟨rv,⟨V.ref (s.heap.objs.size+1),H',I3,rfl,q3⟩⟩
  | next=>exact False.elim hq'
  | brk=>exact False.elim hq'
  | cont=>exact False.elim hq'
theorem zlF_ (M:Mk X.K C f) (F:FnOk X.prog X.w X.K X.mg X.base CX k f fd ps sp) (hr:Room (k+1) X.A) (hg:Gl X x) (hm:X.mg x=some (.ref C)) (hb:Binds X.K fd ps ds) (hd:Vals dvs ds) (hx:Passes CX X E)
  (ha:PA X (e::es) t) (hdb:(x == ("__debug__" : Str))=false:=by decide) (he:starEach (e::es) X.env=(false,eval e X.env)::starEach es X.env:=by rfl) (hpl:(backTo pos (starEach es X.env)).any (·.1)=false:=by rfl) :
  PE X (.Call (.Name x p) (e::es) [] pos) (tMake C sp dvs E t):=by
 intro pins s σ H Q I h
 refine wpAny_Call_Name_kw (zfg_ I hg hm ?_ hdb)
 refine PySem.W.callWith_K (h₀:=X.base) I.ok.mod.kin M.kp (thn (ha pos pins s σ H _ I h) fun us s1 ⟨vs,H1,I1,r,q⟩=>⟨I1.kIn,?_⟩) he hpl
 exact zkH_ M F hr hb hd hx I1 r q
end
section
variable {X:Cx}{CX:CXT}{k:Nat}{f C:Addr}{fd:FuncData}{ps ks:List Str}{sp:Sp}{E:XK}{x m:Str}{p pos apos kpos:Pos}{e o:Expr}{es:List Expr}{kws:List Keyword}{te ta:TE}{t tk:TA}{nm:Option Str}
variable {g:List Value→List Value→List Value}{gV:List V→List V→List V}
end
structure FnScope (N P:List Str) (sc:Scope):Prop where
 kind:sc.kind=.function
 co:sc.isCoroutine=false
 gen:sc.isGenerator=false
 nd:N.Nodup
 pre:N.take P.length=P
 par:∀ x∈P,sc.names.lookup x=some .local∨sc.names.lookup x=some .cell
 nofree:∀ y∈sc.names,y.2≠.free
theorem zgu_ {kindOf:Str→Option NameKind}{x:Str}:∀ {binds:List (Str×Value)}{m:Str→Option Value},(∀ v,(x,v)∉binds)→bindL kindOf binds m x=m x
 | [],_,_=>rfl
 | (n,v)::r,m,h=>by
  unfold bindL
  rw [zgu_ fun w hw=>h w (List.mem_cons_of_mem _ hw)]
  split
  ·have:x≠n:=by rintro rfl; exact h v List.mem_cons_self
   simp [this]
  ·rfl
theorem zgr_ {kindOf:Str→Option NameKind}{x:Str}:∀ {binds:List (Str×Value)}{m:Str→Option Value},(∀ v,(x,v)∉binds)→bindC kindOf binds m x=m x
 | [],_,_=>rfl
 | (n,v)::r,m,h=>by
  unfold bindC
  rw [zgr_ fun w hw=>h w (List.mem_cons_of_mem _ hw)]
  split
  ·rfl
  ·have:x≠n:=by rintro rfl; exact h v List.mem_cons_self
   simp [this]
theorem zgp_ {kindOf:Str→Option NameKind}{x:Str}{v:Value}:∀ {P:List Str}{vs:List Value}{i:Nat}{m:Str→Option Value},P.Nodup→P[i]?=some x→vs[i]?=some v→kindOf x=some .local →
  bindL kindOf (P.zip vs) m x=some v
 | [],_,_,_,_,h,_,_=>by simp at h
 | _::_,[],_,_,_,_,h,_=>by simp at h
 | p::P,w::vs,0,m,nd,h1,h2,hk=>by
  simp at h1 h2; subst h1; subst h2
  show bindL kindOf ((p,w)::P.zip vs) m p=_
  unfold bindL
  rw [zgu_ fun v hv=>(List.nodup_cons.mp nd).1 (List.of_mem_zip hv).1,if_pos hk]
  simp
 | p::P,w::vs,i+1,m,nd,h1,h2,hk=>by
  show bindL kindOf ((p,w)::P.zip vs) m x=_
  unfold bindL
  exact zgp_ (i:=i) (List.nodup_cons.mp nd).2 (by simpa using h1) (by simpa using h2) hk
theorem zgA_ {kindOf:Str→Option NameKind}{x:Str}{v:Value}:∀ {P:List Str}{vs:List Value}{i:Nat}{m:Str→Option Value},P.Nodup→P[i]?=some x→vs[i]?=some v→kindOf x≠some .local →
  bindC kindOf (P.zip vs) m x=some v
 | [],_,_,_,_,h,_,_=>by simp at h
 | _::_,[],_,_,_,_,h,_=>by simp at h
 | p::P,w::vs,0,m,nd,h1,h2,hk=>by
  simp at h1 h2; subst h1; subst h2
  show bindC kindOf ((p,w)::P.zip vs) m p=_
  unfold bindC
  rw [zgr_ fun v hv=>(List.nodup_cons.mp nd).1 (List.of_mem_zip hv).1,if_neg hk]
  simp
 | p::P,w::vs,i+1,m,nd,h1,h2,hk=>by
  show bindC kindOf ((p,w)::P.zip vs) m x=_
  unfold bindC
  exact zgA_ (i:=i) (List.nodup_cons.mp nd).2 (by simpa using h1) (by simpa using h2) hk
def start (N:List Str) (vs:List V):St:=vs.map some++List.replicate (N.length-vs.length) none
def cxOf (CX:CXT) (P:Program) (w:World) (K:Fgg) (mg:Str→Option Value) (base:Heap) (N:List Str) (qual:Str) (scope:Scope) (f:Addr) (cd:Value) (A:Around) (outer:List Env) (s:Shared) (H:Hp) (E:XK):Cx where
 prog:=P
 w:=w
 K:=K
 mg:=mg
 base:=base
 A:=A.deeper (envOfC qual scope s.heap.objs.size f cd)
 N:=N
 s₀:=s
 H₀:=H
 env:=envOfC qual scope s.heap.objs.size f cd
 outer:=outer
 stack:=envOfC qual scope s.heap.objs.size f cd::outer
 ex:=[]
 calm:=true
 fn:=fun _=>true
 pn:=[]
 xe:=fun e s'=>wpAny (model P w) (A.deeper (envOfC qual scope s.heap.objs.size f cd)) (leaving (envOfC qual scope s.heap.objs.size f cd) e) (fun _ s''=>CX outer H s E e s'') (fun e' s''=>CX outer H s E e' s'') s'
theorem zic_ {sc:Scope}{n:Nat}{x:Str}(h:sc.names.lookup x=some .cell):∃ c,(cellsFrom n sc.names []).lookup x=some c:=by
 have q:=PySem.W.cellsFrom_some sc.names n [] (.inl h)
 exact Option.isSome_iff_exists.mp q
theorem ziC_ {CX:CXT}{P:Program}{w:World}{K:Fgg}{mg:Str→Option Value}{base:Heap}{N ps:List Str}{qual:Str}{scope:Scope}{f:Addr}{cd:Value}{A:Around}{outer:List Env}{s s1:Shared}{H:Hp}{E:XK}{us:List Value}{vs:List V}
  (S:FnScope N ps scope) (hd:A.handled=none) (e0:Env0 P w K mg base A outer s H) (hl:vs.length=ps.length) (r:Vals vs us)
  (x:InCallC s s.heap.objs.size (bindL (envOfC qual scope s.heap.objs.size f cd).kindOf (ps.zip us) fun _=>none) (cellsFrom (s.heap.objs.size+1) scope.names []) (bindC (envOfC qual scope s.heap.objs.size f cd).kindOf (ps.zip us) fun _=>none) s1) :
  Inv (cxOf CX P w K mg base N qual scope f cd A outer s H E) [] (start N vs) H s1:=by
 have hpl:ps.length≤N.length:=by have:=congrArg List.length S.pre; rw [List.length_take] at this; lia
 obtain ⟨h1,tk,rfl,hk⟩:=x.done
 have noA:∀ b:Addr,b∉(cxOf CX P w K mg base N qual scope f cd A outer s H E).ex:=fun b z=>absurd (show b∈([]:List Addr) from z) (by simp)
 refine ⟨⟨e0.mod,S.kind,rfl,rfl,Nat.le_refl _,fun y z c h1 h2=>?_,fun y hy=>?_,fun y c _ h=>?_,fun _=>hd,Around.frames_deeper e0.frames,.inr ⟨rfl,rfl⟩,fun b z=>absurd z (noA b),e0.bs,e0.bsz,fun b _ _=>noA b,fun b z=>absurd z (noA b),e0.funs,e0.frf⟩,
  rfl,e0.bare,Un.kept hk,⟨_,x.toInCall.ns,fun i y v h1 h2 h3=>?_⟩,fun y c h=>⟨_,x.cell y c h⟩,e0.hok.fresh (Nat.le_refl _),fun y c h=>?_,fun p hp=>absurd (show p∈([]:Pnn) from hp) (by simp),e0.hok.kept hk,?_⟩
 ·exact name_of_addr x.apart (PySem.mem_of_lookup h1) (PySem.mem_of_lookup h2)
 ·have hy:scope.names.lookup y=some .cell∨scope.names.lookup y=some .free:=hy
  rcases hy with hy | hy
  ·exact zic_ hy
  ·exact absurd rfl (S.nofree _ (PySem.mem_of_lookup hy))
 ·exact Nat.le_of_lt (x.above y c (PySem.mem_of_lookup h))
 ·have hi:i<vs.length:=by
   unfold start at h2
   by_cases hi:i<vs.length
   ·exact hi
   ·rw [List.getElem?_append_right (by simpa using hi)] at h2
    rw [List.getElem?_replicate] at h2
    split at h2<;>cases h2
  have ha:vs[i]?=some v:=by
   unfold start at h2
   rw [List.getElem?_append_left (by simpa using hi),List.getElem?_map] at h2
   cases e:vs[i]? with
   | none=>rw [e] at h2; cases h2
   | some a=>rw [e] at h2; cases h2; rfl
  obtain ⟨u,hu,rv⟩:=r.get ha
  have hp:ps[i]?=some y:=by
   rw [← S.pre,List.getElem?_take_of_lt (by lia)]; exact h1
  have ndP:ps.Nodup:=by rw [← S.pre]; exact S.nd.sublist (List.take_sublist _ _)
  refine ⟨u,rv,?_⟩
  rcases S.par y (List.mem_of_getElem? hp) with k | k
  ·exact .inl ⟨k,zgp_ ndP hp hu k⟩
  ·obtain ⟨c,e⟩:=zic_ (n:=s.heap.objs.size+1) k
   refine .inr ⟨.inl k,c,e,?_⟩
   have q:=x.cell y c e
   rw [zgA_ ndP hp hu (by show scope.names.lookup y≠_; rw [k]; decide)] at q
   exact q
 ·exact e0.hok.fresh (Nat.le_of_lt (x.above y c (PySem.mem_of_lookup h)))
 ·unfold start
  show _=N.length
  rw [List.length_append,List.length_map,List.length_replicate]
  lia
theorem fn_of {CX:CXT}{P:Program}{w:World}{K:Fgg}{mg:Str→Option Value}{base:Heap}{k:Nat}{f:Addr}{name qual:Str}{params:Arguments}{body:List Stmt}{scope:Scope}{dV kV doc pm cdv ct oc:Value}{an od:Option Addr}
  {osl:Array (Option Value)}{N ps:List Str}{sp:Sp}(lk:K.lookup f=some ⟨oc,od,.func (PySem.W.fnOf name qual params body scope dV kV doc pm an cdv ct),osl⟩) (hcd:PySem.W.codeIn K cdv qual=true) (S:FnScope N ps scope)
  (len:∀ vs H Q E,sp vs H Q E→vs.length=ps.length)
  (hbody:∀ (A:Around) (outer:List Env) (s:Shared) (H:Hp) (vs:List V) (Q:VK) (E:XK),Room k (A.deeper (envOfC qual scope s.heap.objs.size f cdv))→sp vs H Q E →
   ∃ t,PSs (cxOf CX P w K mg base N qual scope f cdv A outer s H E) body t∧t { nx:=fun _ H'=>Q .non H',rt:=Q } (start N vs) H) :
  FnOk P w K mg base CX (k+1) f (PySem.W.fnOf name qual params body scope dV kV doc pm an cdv ct) ps sp:=by
 refine ⟨len,fun A outer s H args us vs Q E hr e0 hb r hsp=>?_⟩
 have hl:=len _ _ _ _ hsp
 have KX:K.In s.heap:=e0.mod.kin.keeps fun b o e=>(e0.bs b o e).1
 have lim:s.heap.NoLimit:=e0.mod.nolimit.keeps fun b o e=>(e0.bs b o e).1
 have hkind:∀ y∈ps.zip us,scope.names.lookup y.1=some .local∨(scope.names.lookup y.1=some .cell∧((cellsFrom (s.heap.objs.size+1) scope.names []).lookup y.1).isSome=true):=fun ⟨n,v⟩ hy=>by
  rcases S.par n (List.of_mem_zip hy).1 with q | q
  ·exact .inl q
  ·exact .inr ⟨q,PySem.W.cellsFrom_some _ _ _ (.inl q)⟩
 refine codeAny_call_function hr.depth (KX _ _ lk) rfl S.co S.gen rfl (PySem.W.codeRec_of KX hcd) (hb _ _ _ _ ?_)
 refine wpAny_newFunctionEnv_cells S.kind hkind fun env he s1 x=>?_
 subst he
 refine ⟨lim.keeps x.toInCall.keep,codeAny_func ?_⟩
 obtain ⟨t,ht,hq⟩:=hbody A outer s H vs Q E (hr.deeper _) hsp
 have I:Inv (cxOf CX P w K mg base N qual scope f cdv A outer s H E) [] (start N vs) H s1:=ziC_ S hr.hd e0 hl r x
 refine wpAny_mono (ht [] s1 (start N vs) H _ I hq) (fun fl s' hs=>?_) fun e s' hs=>hs
 have fin:∀ {σ':St}{H':Hp}{v:V}{u:Value},Inv (cxOf CX P w K mg base N qual scope f cdv A outer s H E) [] σ' H' s'→RelV v u→Q v H'→CE outer P w H s Q u s' :=
  fun {σ' H' v u} J rv q=>⟨v,H',J.os,J.bare,J.base,J.hok,rv,q⟩
 cases fl with
 | ret u =>
  obtain ⟨v,σ',H',J,rv,q⟩:=hs
  exact fin J rv q
 | next =>
  obtain ⟨σ',H',J,q⟩:=hs
  exact fin (v:=V.non) (u:=Value.none) J rfl q
 | brk =>
  obtain ⟨_,_,_,q⟩:=hs
  exact False.elim q
 | cont =>
  obtain ⟨_,_,_,q⟩:=hs
  exact False.elim q
end L2
namespace L2
open PySem PySem.Spec PyProof.Rows
section
variable {X:Cx}{x:Str}{p pos:Pos}{e:Expr}{es:List Expr}{t:TA}{id T:String}{r:List V→Hp→VK→Prop}
def tCB (r:List V→Hp→VK→Prop) (t:TA):TE:=fun σ H Q=>t σ H fun vs H1=>r vs H1 Q
theorem zj4_ (hc:CallR X (.builtin id) r) (hg:Gl X x) (hm:X.mg x=none) (hv:bootBuiltins x=some (.builtin id)) (ha:PA X (e::es) t) (hn:x ≠ "__name__" := by decide) (hdb:(x == ("__debug__" : Str))=false:=by decide)
  (he:starEach (e::es) X.env=(false,eval e X.env)::starEach es X.env:=by rfl) (hpl:(backTo pos (starEach es X.env)).any (·.1)=false:=by rfl):PE X (.Call (.Name x p) (e::es) [] pos) (tCB r t):=by
 intro pins s σ H Q I h
 refine wpAny_Call_Name_kw (zgR_ I hg hm hv ?_ hn hdb)
 exact PyProof.Rows.callWith_builtin1 (thn (ha pos pins s σ H _ I h) fun us s1 ⟨vs,H1,I1,r1,q1⟩=>hc pins s1 σ H1 vs us Q I1 r1 q1) he hpl
theorem ziR_ (hc:CallR X (.type T) r) (hg:Gl X x) (hm:X.mg x=none) (hv:bootBuiltins x=some (.type T)) (ha:PA X (e::es) t) (hn:x ≠ "__name__" := by decide) (hdb:(x == ("__debug__" : Str))=false:=by decide)
  (he:starEach (e::es) X.env=(false,eval e X.env)::starEach es X.env:=by rfl) (hpl:(backTo pos (starEach es X.env)).any (·.1)=false:=by rfl):PE X (.Call (.Name x p) (e::es) [] pos) (tCB r t):=by
 intro pins s σ H Q I h
 refine wpAny_Call_Name_kw (zgR_ I hg hm hv ?_ hn hdb)
 exact PyProof.Rows.callWith_type1 (thn (ha pos pins s σ H _ I h) fun us s1 ⟨vs,H1,I1,r1,q1⟩=>hc pins s1 σ H1 vs us Q I1 r1 q1) he hpl
end
end L2
namespace HT
open PySem PyProof.Rows
section
open PySem.SeqAt
open PySem.AutoSeq1 (wpAny_loadPart')
open PySem.MeetsSeq PySem.MeetsSeq2 PySem.MeetsSeq3
end
section
variable {prog:Program}{w:World}{A:Around}{E:Value→Shared→Prop}{s:Shared}
def sIx (n d:Nat):Option Int→Nat
 | none=>d
 | some v=>if v<0 then (v+(n:Int)).toNat else min v.toNat n
theorem sIx_le (n d:Nat) (hd:d≤n) (o:Option Int):sIx n d o≤n:=by
 cases o with
 | none=>exact hd
 | some v =>
  show (if v<0 then (v+(n:Int)).toNat else min v.toNat n)≤n
  by_cases hv:v<0
  ·rw [if_pos hv]; lia
  ·rw [if_neg hv]; exact Nat.min_le_right _ _
end
end HT
namespace L2
open PySem PySem.Spec PyProof.Rows
abbrev TO:=St→Hp→(Option Int→Hp→Prop)→Prop
def PO (X:Cx) (e:Option Expr) (t:TO):Prop :=
 ∀ (pins:Pnn) (s:Shared) (σ:St) (H:Hp) (Q:Option Int→Hp→Prop),Inv X pins σ H s→t σ H Q →
  wpAny (model X.prog X.w) X.A (evalPart e X.env) (fun u s'=>∃ o H',Inv X pins σ H' s'∧IsPart u o∧Q o H') X.xe s
def tNoPart:TO:=fun _ H Q=>Q none H
section
variable {X:Cx}{e:Expr}{te:TE}{lo hi:Option Expr}{tl th:TO}{pos p2:Pos}
theorem zim_:PO X none tNoPart:=by
 intro pins s σ H Q I h
 rw [evalPart_none]
 exact wpAny_pure ⟨none,H,I,.none,h⟩
def SlR (X:Cx) (r:V→Option Int→Option Int→Hp→VK→Prop):Prop :=
 ∀ (pins:Pnn) (s:Shared) (σ:St) (H:Hp) (x:V) (v vl vu:Value) (lo hi:Option Int) (sl:Addr) (Q:VK),Inv X pins σ H s→RelV x v→s.heap.IsSliceOf sl vl vu .none→IsPart vl lo→IsPart vu hi→r x lo hi H Q →
  ∃ T id,typeLookup (.type T) "__getitem__" = pure (some (.builtin id))∧s.TypeIs v T∧wpAny (model X.prog X.w) X.A (getItem v (.ref sl)) (EP X pins σ Q) X.xe s
def tSl (r:V→Option Int→Option Int→Hp→VK→Prop) (te:TE) (tl th:TO):TE:=fun σ H Q=>te σ H fun x H1=>tl σ H1 fun l H2=>th σ H2 fun u H3=>r x l u H3 Q
theorem ze2_ {r:V→Option Int→Option Int→Hp→VK→Prop}(hr:SlR X r) (he:PE X e te) (hl:PO X lo tl) (hu:PO X hi th):PE X (.Subscript e (.Slice lo hi none p2) pos) (tSl r te tl th):=by
 intro pins s σ H Q I h
 refine Subscript_ (thn (he pins s σ H _ I h) fun v s1 hq_=>?_)
 obtain ⟨x,H1,I1,r1,q1⟩:=hq_
 refine wpAny_Slice (thn (hl pins s1 σ H1 _ I1 q1) fun vl s2 ⟨l,H2,I2,pl,q2⟩=>thn (hu pins s2 σ H2 _ I2 q2) fun vu s3 hq_=>?_)
 obtain ⟨u,H3,I3,pu,q3⟩:=hq_
 rw [evalPart_none]
 refine wpAny_pure ?_
 have I4:Inv X pins σ H3 { s3 with heap:=s3.heap.push { cls:=.type "slice",data:=.fields #[vl,vu,.none] } }:=I3.kept (t':=s3.toks) fun b ob q=>Heap.get?_push_of_some _ q
 obtain ⟨T,id,hT,ht,hg⟩:=hr pins { s3 with heap:=s3.heap.push { cls:=.type "slice",data:=.fields #[vl,vu,.none] } } σ H3 x v vl vu l u s3.heap.objs.size Q I4 r1 (Heap.IsSliceOf.new ..) pl pu q3
 show wpAny (model X.prog X.w) X.A (subscriptTail e (.Slice lo hi none p2) v (.ref s3.heap.objs.size)) (EP X pins σ Q) X.xe { s3 with heap:=s3.heap.push { cls:=.type "slice",data:=.fields #[vl,vu,.none] } }
 exact tail_any (ops:=[.ref s3.heap.objs.size,v]) ht hT hg (by with_unfolding_all rfl)
def cutV (xs:List V) (lo hi:Option Int):List V:=(xs.drop (HT.sIx xs.length 0 lo)).take (HT.sIx xs.length xs.length hi-HT.sIx xs.length 0 lo)
theorem zgE_ (xs:List V) (lo hi:Option Int):(cutV xs lo hi).length≤xs.length:=by
 unfold cutV
 rw [List.length_take,List.length_drop]
 lia
end
end L2
namespace L2
open PySem PySem.Spec PyProof.Rows
def ixN (n:Nat) (i:Int):Option Nat:=if 0≤i then (if i<n then some i.toNat else none) else if -(n:Int)≤i then some (i+n).toNat else none
def atI {α:Type}(xs:List α) (i:Int):Option α:=(ixN xs.length i).bind fun j=>xs[j]?
theorem zjt_ {n:Nat}{i:Int}{j:Nat}(h:ixN n i=some j):seqIndex? i n=some j∧j<n ∧ -(n:Int)≤i∧i<n:=by
 unfold ixN at h
 by_cases h0:0≤i
 ·rw [if_pos h0] at h
  by_cases h1:i<n
  ·rw [if_pos h1] at h
   have e:i.toNat=j:=Option.some.inj h
   exact ⟨by rw [seqIndex_of h0 h1,e],by lia,by lia,h1⟩
  ·rw [if_neg h1] at h; cases h
 ·rw [if_neg h0] at h
  by_cases h1 : -(n:Int)≤i
  ·rw [if_pos h1] at h
   have e:(i+n).toNat=j:=Option.some.inj h
   exact ⟨by rw [seqIndex_neg (by lia) h1,e],by lia,h1,by lia⟩
  ·rw [if_neg h1] at h; cases h
theorem zhy_ {α:Type}{xs:List α}{i:Int}{v:α}(h:atI xs i=some v):∃ j,seqIndex? i xs.length=some j∧xs[j]?=some v∧j<xs.length ∧ -(xs.length:Int)≤i∧i<xs.length:=by
 unfold atI at h
 cases e:ixN xs.length i with
 | none=>rw [e] at h; cases h
 | some j =>
  rw [e] at h
  obtain ⟨h1,h2,h3,h4⟩:=zjt_ e
  exact ⟨j,h1,h,h2,h3,h4⟩
def PlainIx (b:Expr):Prop:=∀ o i,subscripted b false o i=operate [o,i] (getItem o i)
def IxR (X:Cx) (r:R2):Prop :=
 ∀ (value slice:Expr) (pins:Pnn) (s:Shared) (σ:St) (H:Hp) (x y:V) (v u:Value) (Q:VK),Inv X pins σ H s→RelV x v→RelV y u→r x y H Q →
  subscripted slice false v u=operate [v,u] (getItem v u)→wpAny (model X.prog X.w) X.A (subscriptTail value slice v u) (EP X pins σ Q) X.xe s
def MtR (X:Cx) (id:String) (r:V→List V→Hp→VK→Prop):Prop :=
 ∀ (pins:Pnn) (s:Shared) (σ:St) (H:Hp) (x:V) (xs:List V) (v:Value) (us:List Value) (Q:VK),Inv X pins σ H s→RelV x v→Vals xs us→r x xs H Q →
  wpAny (model X.prog X.w) X.A (call (.builtin id) (v::us)) (EP X pins σ Q) X.xe s
section
variable {X:Cx}{a b:Expr}{ta tb:TE}{pos:Pos}
theorem zdT_ {r:R2}(hr:IxR X r) (ha:PE X a ta) (hb:PE X b tb) (hs:PlainIx b):PE X (.Subscript a b pos) (tOp r ta tb):=by
 intro pins s σ H Q I h
 exact Subscript_ (binT ha hb I h fun v u s2 x y H2 I2 rx ry q=>hr a b pins s2 σ H2 x y v u Q I2 rx ry q (hs _ _))
def rIxL (K:Fgg):R2:=fun x y H Q=>∃ p xs i v,x=.ref p∧y=.int i∧SqL K H p xs∧atI xs i=some v∧Q v H
def rIxT (K:Fgg):R2:=fun x y H Q=>∃ p xs i v,x=.ref p∧y=.int i∧SqT K H p xs∧atI xs i=some v∧Q v H
def rIxS:R2:=fun x y H Q=>∃ z i c,x=.str z∧y=.int i∧z.length≤sizeLine∧atI z.cps.toList i=some c∧Q (.str ⟨#[c]⟩) H
theorem zl3_:IxR X (rIxL X.K):=by
 intro value slice pins s σ H x y v u Q I rx ry h hs
 obtain ⟨p,xs,i,z,rfl,rfl,hq,he,q⟩:=h
 cases rx
 obtain ⟨t,rfl⟩:=ry
 obtain ⟨its,r,pl,hz⟩:=I.list hq
 obtain ⟨j,h1,h2,h3,h4,h5⟩:=zhy_ he
 obtain ⟨w,ew,rw'⟩:=r.get h2
 have hl:=r.length
 have hn:=line63
 have fin:EP X pins σ Q w s:=⟨z,H,I,rw',q⟩
 by_cases h0:0≤i
 ·have hj:i.toNat=j:=by
   rw [seqIndex_of h0 h5] at h1
   exact Option.some.inj h1
  exact item_listR pl.isList h0 (by lia) (by rw [hj]; simpa using ew) fin hs
 ·have hj:(i+(its.toArray.size:Int)).toNat=j:=by
   rw [seqIndex_neg (by lia) h4] at h1
   rw [List.size_toArray,← hl]
   exact Option.some.inj h1
  exact subscriptTail_builtinR (x:=w) pl.isList.typeIs slot_list_getitem.lookup
   (wpAny_getItem_list_neg (Q:=fun r s'=>r=w∧EP X pins σ Q r s') pl.isList (by lia) (by rw [List.size_toArray]<;>lia) (by lia) (by rw [hj]; simpa using ew) ⟨rfl,fin⟩) hs
theorem zmH_:IxR X (rIxT X.K):=by
 intro value slice pins s σ H x y v u Q I rx ry h hs
 obtain ⟨p,xs,i,z,rfl,rfl,hq,he,q⟩:=h
 cases rx
 obtain ⟨t,rfl⟩:=ry
 obtain ⟨its,r,pl,hz⟩:=I.tuple hq
 obtain ⟨j,h1,h2,h3,h4,h5⟩:=zhy_ he
 obtain ⟨w,ew,rw'⟩:=r.get h2
 have hl:=r.length
 have hn:=line63
 have fin:EP X pins σ Q w s:=⟨z,H,I,rw',q⟩
 exact subscriptTail_builtinR (x:=w) pl.typeIs slot_tuple_getitem.lookup
  (getItem_tuple (j:=j) (Q:=fun r s'=>r=w∧EP X pins σ Q r s') pl (by lia) (by lia) (by rw [List.size_toArray,← hl]; exact h1) (by simpa using ew) ⟨rfl,fin⟩) hs
theorem zmu_:IxR X rIxS:=by
 intro value slice pins s σ H x y v u Q I rx ry h hs
 obtain ⟨z,i,c,rfl,rfl,hz,he,q⟩:=h
 obtain ⟨t,rfl⟩:=rx
 obtain ⟨t',rfl⟩:=ry
 obtain ⟨j,h1,h2,h3,h4,h5⟩:=zhy_ he
 have hl:z.cps.toList.length=z.length:=by simp [Str.length]
 rw [hl] at h1 h4 h5
 have hn:=line63
 exact tail_any (typeIs_str s z t) slot_str_getitem.lookup (getItem_str (c:=c) (by
  have e1:decide (i < -(2 ^ 63:Int))=false:=decide_eq_false (by lia)
  have e2:decide (i ≥ 2 ^ 63)=false:=decide_eq_false (by lia)
  rw [e1,e2,Bool.or_false]) (by rw [h1]; simpa using h2) ⟨.str ⟨#[c]⟩,H,I.tok _,⟨_,rfl⟩,q⟩) hs
theorem zhk_ (its:List Value) (n j:Nat) (u:Value):Obj.mapSeq (·.setIfInBounds j u) { cls:=.type "list",data:=.seq its.toArray n }={ cls:=.type "list",data:=.seq (its.set j u).toArray n }:=by
 simp [Obj.mapSeq]
theorem Inv.lst {pins:Pnn}{σ:St}{H:Hp}{s:Shared}{p:Addr}{xs:List V}(I:Inv X pins σ H s) (h:H p=some (.lst xs)) :
  ∃ (its:List Value) (n:Nat),Vals xs its∧s.heap.get? p=some { cls:=.type "list",data:=.seq its.toArray n }∧xs.length≤sizeLine:=by
 obtain ⟨z,its,n,r,e⟩:=I.hok p _ h
 exact ⟨its,n,r,e,z⟩
theorem Inv.lstUpd {pins:Pnn}{σ:St}{H:Hp}{s:Shared}{p:Addr}{xs ys:List V}{its its':List Value}{n n':Nat}{f:Obj→Obj}(I:Inv X pins σ H s) (h:H p=some (.lst xs))
  (ho:s.heap.get? p=some { cls:=.type "list",data:=.seq its.toArray n }) (hf:f { cls:=.type "list",data:=.seq its.toArray n }={ cls:=.type "list",data:=.seq its'.toArray n' }) (r:Vals ys its') (hz:ys.length≤sizeLine) (t:Nat) :
  Inv X pins σ (upd H p (.lst ys)) { s with heap:=s.heap.update p f,toks:=t }:=by
 have e:(s.heap.update p f).get? p=some { cls:=.type "list",data:=.seq its'.toArray n' }:=by
  rw [Heap.get?_update_self f ho (by rw [hf]<;>rfl),hf]
 refine I.write (x:=p) (e:=p) (by rw [h]; trivial) (.inl rfl) (fun b u hb q=>(Heap.get?_update_other _ _ (Ne.symm hb)).trans q) ⟨_,e⟩ ?_
 exact ⟨hz,its',n',r,e⟩
def rSetL:V→V→V→Hp→(Hp→Prop)→Prop:=fun o i v H Q=>∃ p xs k j,o=.ref p∧i=.int k∧H p=some (.lst xs)∧ixN xs.length k=some j∧Q (upd H p (.lst (xs.set j v)))
theorem zkF_:PSet X rSetL:=by
 intro pins s σ H o i v ov iv u Q I ro ri rv h
 obtain ⟨p,xs,k,j,rfl,rfl,hp,hj,q⟩:=h
 cases ro
 obtain ⟨t,rfl⟩:=ri
 obtain ⟨its,n,r,ho,hz⟩:=I.lst hp
 obtain ⟨h1,h2,h3,h4⟩:=zjt_ hj
 have hl:=r.length
 have hn:=line63
 have I':Inv X pins σ (upd H p (.lst (xs.set j v))) { s with heap:=s.heap.update p (Obj.mapSeq (·.setIfInBounds j u)) } :=
  I.lstUpd hp ho (zhk_ its n j u) (r.set rv j) (by rw [List.length_set]; exact hz) s.toks
 by_cases h0:0≤k
 ·have hk:k.toNat=j:=by
   rw [seqIndex_of h0 h4] at h1
   exact Option.some.inj h1
  exact PySem.W.ki_setAt ho h0 (by lia) (by rw [List.size_toArray,← hl]; exact h4) (by rw [hk]; exact ⟨_,I',q⟩)
 ·have hk:(k+(its.toArray.size:Int)).toNat=j:=by
   rw [seqIndex_neg (by lia) h3] at h1
   rw [List.size_toArray,← hl]
   exact Option.some.inj h1
  exact PySem.W.ki_setBack ho (by lia) (by rw [List.size_toArray,← hl]; exact h3) (by lia) (by rw [hk]; exact ⟨_,I',q⟩)
theorem zfK_ (lo hi:Option Int) (n:Nat):(sliceBounds lo hi none n).1=((HT.sIx n 0 lo:Nat):Int)∧(sliceBounds lo hi none n).2.1=((HT.sIx n n hi:Nat):Int)∧(sliceBounds lo hi none n).2.2=1:=by
 refine ⟨?_,?_,rfl⟩
 ·cases lo with
  | none=>simp [sliceBounds,HT.sIx]
  | some i =>
   simp only [sliceBounds,HT.sIx,Option.getD_none,show (1:Int) > 0 by decide,if_true]
   by_cases h:i<0
   ·simp only [h,if_true]<;>lia
   ·simp only [h,if_false]<;>lia
 ·cases hi with
  | none=>simp [sliceBounds,HT.sIx]
  | some i =>
   simp only [sliceBounds,HT.sIx,Option.getD_none,show (1:Int) > 0 by decide,if_true]
   by_cases h:i<0
   ·simp only [h,if_true]<;>lia
   ·simp only [h,if_false]<;>lia
theorem zfr_ (its:List Value) (lo hi:Option Int):slicePick its.toArray lo hi none=((its.drop (HT.sIx its.length 0 lo)).take (HT.sIx its.length its.length hi-HT.sIx its.length 0 lo)).toArray:=by
 obtain ⟨h1,h2,h3⟩:=zfK_ lo hi its.toArray.size
 unfold slicePick
 rw [h1,h2,h3]
 simp only [sliceRange_one,pick_run,List.size_toArray]<;>rfl
def rSlL (K:Fgg):V→Option Int→Option Int→Hp→VK→Prop:=fun x lo hi H Q=>∃ a xs,x=.ref a∧SqL K H a xs∧∀ p,H p=none→Q (.ref p) (upd H p (.lst (cutV xs lo hi)))
theorem zlY_:SlR X (rSlL X.K):=by
 intro pins s σ H x v vl vu lo hi sl Q I rx hs pl pu h
 obtain ⟨a,xs,rfl,hx,q⟩:=h
 cases rx
 obtain ⟨its,r,ht,hz⟩:=I.list hx
 have hlen:=r.length
 refine ⟨"list",_,slot_list_getitem.lookup,ht.isList.typeIs,?_⟩
 refine wpAny_getItem_list_slice ht.isList hs pl pu .none (by simp) ?_ (by rw [List.size_toArray]<;>lia)
 rw [zfr_,← hlen]
 refine ⟨.ref s.heap.objs.size,_,I.laid (t':=s.toks) (o:=.lst (cutV xs lo hi)) (fun b ob q=>Heap.get?_push_of_some _ q) (Nat.le_refl _) ?_,rfl,q _ (I.hok.fresh (Nat.le_refl _))⟩
 exact ⟨Nat.le_trans (zgE_ xs lo hi) hz,_,0,(r.drop (HT.sIx xs.length 0 lo)).take (HT.sIx xs.length xs.length hi-HT.sIx xs.length 0 lo),Heap.get?_push_size _ rfl⟩
def flatV:V→Bool
 | .non=>true
 | .bl _=>true
 | .int _=>true
 | .str _=>true
 | _=>false
def eqV:V→V→Bool
 | .non,.non=>true
 | .bl a,.bl b=>a == b
 | .bl a,.int b=>(if a then 1 else 0) == b
 | .int a,.bl b=>a == (if b then 1 else 0)
 | .int a,.int b=>a == b
 | .str a,.str b=>a == b
 | _,_=>false
theorem zk9_ {A:Around}{s:Shared}{y x:V}{u v:Value}(ry:RelV y u) (rx:RelV x v) (fy:flatV y=true) (fx:flatV x=true):SeqAt.EqAt A s u v (eqV y x):=by
 cases y with
 | non =>
  cases ry
  cases x with
  | non=>cases rx; exact SeqAt.EqAt.same _
  | bl b=>cases rx; exact SeqAt.EqAt.none_bool b
  | int b=>obtain ⟨t,rfl⟩:=rx; exact SeqAt.EqAt.none_int b t
  | str b=>obtain ⟨t,rfl⟩:=rx; exact SeqAt.EqAt.none_str b t
  | _=>exact absurd (show false=true from fx) Bool.false_ne_true
 | bl a =>
  cases ry
  cases x with
  | non=>cases rx; exact SeqAt.EqAt.bool_none a
  | bl b=>cases rx; exact SeqAt.EqAt.bool_bool a b
  | int b=>obtain ⟨t,rfl⟩:=rx; exact SeqAt.EqAt.bool_int a b t
  | str b=>obtain ⟨t,rfl⟩:=rx; exact SeqAt.EqAt.bool_str a b t
  | _=>exact absurd (show false=true from fx) Bool.false_ne_true
 | int a =>
  obtain ⟨t',rfl⟩:=ry
  cases x with
  | non=>cases rx; exact SeqAt.EqAt.int_none a t'
  | bl b=>cases rx; exact SeqAt.EqAt.int_bool a t' b
  | int b=>obtain ⟨t,rfl⟩:=rx; exact SeqAt.EqAt.int_int a t' b t
  | str b=>obtain ⟨t,rfl⟩:=rx; exact SeqAt.EqAt.int_str a t' b t
  | _=>exact absurd (show false=true from fx) Bool.false_ne_true
 | str a =>
  obtain ⟨t',rfl⟩:=ry
  cases x with
  | non=>cases rx; exact SeqAt.EqAt.str_none a t'
  | bl b=>cases rx; exact SeqAt.EqAt.str_bool a t' b
  | int b=>obtain ⟨t,rfl⟩:=rx; exact SeqAt.EqAt.str_int a t' b t
  | str b=>obtain ⟨t,rfl⟩:=rx; exact SeqAt.EqAt.str_str a t' b t
  | _=>exact absurd (show false=true from fx) Bool.false_ne_true
 | _=>exact absurd (show false=true from fy) Bool.false_ne_true
def eqU (x:V) (u:Value):Bool:=match u with
 | .none=>eqV .non x
 | .bool b=>eqV (.bl b) x
 | .int i _=>eqV (.int i) x
 | .str z _=>eqV (.str z) x
 | _=>false
theorem zlx_ {x y:V}{u:Value}(r:RelV y u) (f:flatV y=true):eqU x u=eqV y x:=by
 cases y with
 | non=>cases r; rfl
 | bl b=>cases r; rfl
 | int i=>obtain ⟨t,rfl⟩:=r; rfl
 | str z=>obtain ⟨t,rfl⟩:=r; rfl
 | _=>exact absurd (show false=true from f) Bool.false_ne_true
theorem zh9_ {x:V}:∀ {xs:List V}{us:List Value},Vals xs us→xs.all flatV=true→us.any (eqU x)=xs.any fun y=>eqV y x
 | _,_,.nil,_=>rfl
 | y::xs,u::us,.cons r t,f=>by
  rw [List.all_cons,Bool.and_eq_true] at f
  rw [List.any_cons,List.any_cons,zlx_ r f.1,zh9_ t f.2]
theorem zf2_ {A:Around}{s:Shared}{x:V}{v:Value}(rx:RelV x v) (fx:flatV x=true):∀ {xs:List V}{us:List Value},Vals xs us→xs.all flatV=true→∀ u∈us,SeqAt.EqAt A s u v (eqU x u)
 | _,_,.nil,_=>fun u hu=>by cases hu
 | y::xs,u::us,.cons r t,f=>fun u' hu=>by
  rw [List.all_cons,Bool.and_eq_true] at f
  rcases List.mem_cons.mp hu with rfl | hu
  ·rw [zlx_ r f.1]; exact zk9_ r rx f.1 fx
  ·exact zf2_ rx fx t f.2 u' hu
def inV (x:V) (xs:List V):Bool:=xs.any fun y=>eqV y x
def rIn (K:Fgg) (neg:Bool):R2:=fun x y H Q=>∃ p xs,y=.ref p∧(SqL K H p xs∨SqT K H p xs)∧flatV x=true∧xs.all flatV=true∧Q (.bl (if neg then !inV x xs else inV x xs)) H
theorem zi5_:OpR X (compareOp .In) (rIn X.K false):=by
 intro pins s σ H x y v u Q I rx ry h
 obtain ⟨p,xs,rfl,hq,fx,fs,q⟩:=h
 cases ry
 rcases hq with hq | hq
 ·obtain ⟨its,r,pl,hz⟩:=I.list hq
  refine SeqAt.in_listAt (eqU x) pl.isList (fun w hw=>zf2_ rx fx r fs w (by simpa using hw)) ⟨.bl _,H,I,rfl,?_⟩
  rw [show its.toArray.any (eqU x)=its.any (eqU x) by simp,zh9_ r fs]
  exact q
 ·obtain ⟨its,r,pl,hz⟩:=I.tuple hq
  refine SeqAt.in_tupleAt (eqU x) pl (fun w hw=>zf2_ rx fx r fs w (by simpa using hw)) ⟨.bl _,H,I,rfl,?_⟩
  rw [show its.toArray.any (eqU x)=its.any (eqU x) by simp,zh9_ r fs]
  exact q
theorem zfG_:CallR X (.builtin "len") (fun xs H Q=>∃ p ys,xs=[.ref p]∧(SqL X.K H p ys∨SqT X.K H p ys)∧Q (.int ys.length) H):=by
 intro pins s σ H xs us Q I r h
 obtain ⟨p,ys,rfl,hq,q⟩:=h
 obtain ⟨u,rfl,rx⟩:=vals1 r
 cases rx
 have hn:=line63
 rcases hq with hq | hq
 ·obtain ⟨its,r',pl,hz⟩:=I.list hq
  have hlen:=r'.length
  exact Calls.call_len_list pl.isList (by simp only [List.size_toArray]<;>lia) ⟨.int ys.length,H,I.tok _,⟨s.toks+1,by rw [List.size_toArray,hlen]⟩,q⟩
 ·obtain ⟨its,r',pl,hz⟩:=I.tuple hq
  have hlen:=r'.length
  exact len_tuple pl (by simp only [List.size_toArray]<;>lia) ⟨.int ys.length,H,I.tok _,⟨s.toks+1,by rw [List.size_toArray,hlen]⟩,q⟩
theorem zfV_:CallR X (.builtin "len") (fun xs H Q=>∃ z,xs=[.str z]∧z.length≤sizeLine∧Q (.int z.length) H):=by
 intro pins s σ H xs us Q I r h
 obtain ⟨z,rfl,hz,q⟩:=h
 obtain ⟨u,rfl,t,rfl⟩:=vals1 r
 have hn:=line63
 exact len_str (by lia) ⟨.int z.length,H,I.tok _,⟨_,rfl⟩,q⟩
theorem zf3_:CallR X (.type "list") (fun xs H Q=>∃ p ys,xs=[.ref p]∧(SqL X.K H p ys∨SqT X.K H p ys)∧∀ l,H l=none→Q (.ref l) (upd H l (.lst ys))):=by
 intro pins s σ H xs us Q I r h
 obtain ⟨p,ys,rfl,hq,q⟩:=h
 obtain ⟨u,rfl,rx⟩:=vals1 r
 cases rx
 have fin:∀ (its:List Value),Vals ys its→ys.length≤sizeLine→∀ (h':Heap) (c':Nat),(∀ b o',s.heap.get? b=some o'→h'.get? b=some o') →
   h'.get? s.heap.objs.size=some { cls:=.type "list",dict:=none,data:=.seq its.toArray c',slots:=#[] }→EP X pins σ Q (.ref s.heap.objs.size) { s with heap:=h' }:=fun its r' hz h' c' kp e =>
  ⟨.ref s.heap.objs.size,_,I.laid (t':=s.toks) kp (Nat.le_refl _) (show ObjOk X.prog X.w _ h' _ (.lst ys) from ⟨hz,its,c',r',e⟩),rfl,q _ (I.hok.fresh (Nat.le_refl _))⟩
 rcases hq with hq | hq
 ·obtain ⟨its,r',pl,hz⟩:=I.list hq
  have hlen:=r'.length
  obtain ⟨o,ho,hc,n,hd⟩:=pl.isList
  exact call_list_seq p (.inl rfl) ho hc hd (fun h' c' kp e=>fin its r' hz h' c' kp e) (by simp only [List.size_toArray]<;>lia)
 ·obtain ⟨its,r',pl,hz⟩:=I.tuple hq
  have hlen:=r'.length
  obtain ⟨o,ho,hc,n,hd⟩:=pl
  exact call_list_seq p (.inr rfl) ho hc hd (fun h' c' kp e=>fin its r' hz h' c' kp e) (by simp only [List.size_toArray]<;>lia)
def tyV (K:Fgg) (T:String) (x:V) (H:Hp):Prop:=match x with
 | .str _=>T = "str"
 | .int _=>T = "int"
 | .ref p=>(T = "list" ∧ ∃ xs,SqL K H p xs)∨(T = "tuple" ∧ ∃ o,K.lookup p=some o∧o.cls=.type "tuple" ∧ o.dict=none) ∨
   (T = "dict" ∧ ((∃ kvs,H p=some (.dK kvs))∨∃ kvs,H p=some (.dT kvs)))∨(T = "set" ∧ ∃ S n,H p=some (.set S n))
 | _=>False
theorem zmj_ {pins:Pnn}{σ:St}{H:Hp}{s:Shared}{T:String}{x:V}{v:Value}(I:Inv X pins σ H s) (r:RelV x v) (ty:tyV X.K T x H) :
  s.TypeIs v T∧∀ a,v=.ref a→∃ ob,s.heap.get? a=some ob∧ob.dict=none:=by
 cases x with
 | str z =>
  obtain ⟨t,rfl⟩:=r
  cases (show T = "str" from ty)
  exact ⟨typeIs_str s z t,fun _ e=>nomatch e⟩
 | int i =>
  obtain ⟨t,rfl⟩:=r
  cases (show T = "int" from ty)
  exact ⟨typeIs_int s i t,fun _ e=>nomatch e⟩
 | ref p =>
  cases r
  rcases ty with ⟨rfl,xs,hq⟩ | ⟨rfl,o,hk,hc,hd⟩ | ⟨rfl,hk⟩ | ⟨rfl,S,n,hk⟩
  ·obtain ⟨its,_,pl,_⟩:=I.list hq
   refine ⟨pl.isList.typeIs,fun a e=>?_⟩
   cases e
   obtain ⟨o,n,e,c,hd,_⟩:=pl
   exact ⟨o,e,hd⟩
  ·refine ⟨⟨o,I.kIn p o hk,hc⟩,fun a e=>?_⟩
   cases e
   exact ⟨o,I.kIn _ o hk,hd⟩
  ·have z:∃ o,s.heap.get? p=some o∧o.ExactDict:=by
    rcases hk with ⟨kvs,hk⟩ | ⟨kvs,hk⟩
    ·obtain ⟨_,_,_,_,o,_,_,e,ex,_⟩:=I.hok p _ hk
     exact ⟨o,e,ex⟩
    ·obtain ⟨_,_,_,_,o,_,_,e,ex,_⟩:=I.hok p _ hk
     exact ⟨o,e,ex⟩
   obtain ⟨o,e,ex⟩:=z
   refine ⟨⟨o,e,ex.1⟩,fun a e2=>?_⟩
   cases e2
   exact ⟨o,e,ex.2.1⟩
  ·obtain ⟨o,_,_,_,e,ex,_⟩:=I.hok p _ hk
   refine ⟨⟨o,e,ex.1⟩,fun a e2=>?_⟩
   cases e2
   exact ⟨o,e,ex.2.1⟩
 | _=>exact False.elim ty
def tBM (K:Fgg) (T:String) (r:V→List V→Hp→VK→Prop) (to:TE) (t:TA):TE:=fun σ H Q=>to σ H fun x H1=>tyV K T x H1∧t σ H1 fun xs H2=>r x xs H2 Q
variable {o e:Expr}{es:List Expr}{to:TE}{t:TA}{name:Str}{apos cpos:Pos}{T id:String}{r:V→List V→Hp→VK→Prop}
theorem zgX_ (pa:PlainAttrs T) (slot:Slot T name id) (hty:typeOf (.builtin id)=pure (.type "method_descriptor")) (hm:MtR X id r) (ho:PE X o to) (ha:PA X (e::es) t)
  (hbase:attributeBase o name X.env (eval o X.env)=eval o X.env:=by rfl)
  (hfew:((backTo cpos (starEach (e::es) X.env)).all (fun x=>!x.1) && (backToKw cpos (keywordEach [] X.env)).all (fun x=>x.1.isSome)
   && decide ((e::es).length+([]:List Keyword).length+(if ([]:List Keyword).isEmpty then 0 else 1)<30))=true:=by rfl)
  (hline:(apos.endLine == cpos.line)=true:=by rfl) (hs:starEach (e::es) X.env=(false,eval e X.env)::starEach es X.env:=by rfl) (hplain:(backTo cpos (starEach es X.env)).any (·.1)=false:=by rfl) :
  PE X (.Call (.Attribute o name apos) (e::es) [] cpos) (tBM X.K T r to t):=by
 intro pins s σ H Q I h
 refine wpAny_Call_method_late hbase hfew hline rfl (thn (ho pins s σ H _ I h) fun v s1 hq_=>?_)
 obtain ⟨x,H1,I1,r1,ty,q1⟩:=hq_
 obtain ⟨h1,h2⟩:=zmj_ I1 r1 ty
 refine ⟨T,id,pa,slot,hty,h1,h2,?_⟩
 have hA:=ha cpos pins s1 σ H1 _ I1 q1
 rw [hs] at hA ⊢
 refine Calls.callWith_builtin (by show (false || (backTo cpos (starEach es X.env)).any (·.1))=false; rw [hplain]<;>rfl) (Calls.evalArgs_plain ?_)
 exact thn hA fun us s2 ⟨vs,H2,I2,r2,q2⟩=>hm pins s2 σ H2 x vs v us Q I2 r1 r2 q2
end
end L2
namespace L2
open PySem PySem.Spec PyProof.Rows
def MtM (X:Cx) (id:String) (r:V→List V→Hp→VK→Prop):Prop :=
 ∀ (pins:Pnn) (s:Shared) (σ:St) (H:Hp) (x:V) (xs:List V) (v:Value) (us:List Value) (Q:VK),Inv X pins σ H s→RelV x v→Vals xs us→r x xs H Q →
  wpAny (model X.prog X.w) X.A (call (.builtin id) (v::us)) (EP X pins σ Q) X.xe s
theorem Vals.one:∀ {x:V}{us:List Value},Vals [x] us→∃ u,us=[u]∧RelV x u
 | _,_,.cons r .nil=>⟨_,rfl,r⟩
theorem Vals.dropLast {xs:List V}{us:List Value}(h:Vals xs us):Vals xs.dropLast us.dropLast:=by
 induction h with
 | nil=>exact .nil
 | cons r t ih =>
  cases t with
  | nil=>exact .nil
  | cons q t'=>exact .cons r ih
theorem Vals.rep {xs:List V}{us:List Value}(h:Vals xs us):∀ k:Nat,Vals (List.replicate k xs).flatten (List.replicate k us).flatten
 | 0=>.nil
 | k+1=>by
  rw [List.replicate_succ,List.replicate_succ,List.flatten_cons,List.flatten_cons]
  exact Vals.append h (Vals.rep h k)
theorem zgo_ (its:List Value):∀ (k:Nat) (acc:List Value),
  List.foldl (fun x1 x2=>x1++x2) acc.toArray (List.replicate k its.toArray)=(acc++(List.replicate k its).flatten).toArray
 | 0,acc=>by simp
 | k+1,acc=>by
  have e:acc.toArray++its.toArray=(acc++its).toArray:=by simp
  have e2:(acc++its)++(List.replicate k its).flatten=acc++(List.replicate (k+1) its).flatten:=by
   rw [List.replicate_succ,List.flatten_cons,List.append_assoc]
  rw [← e2,← zgo_ its k (acc++its),← e,List.replicate_succ,List.foldl_cons]
section
variable {X:Cx}{pins:Pnn}{σ:St}{H:Hp}{s:Shared}{l b:Addr}{xs ys zs:List V}
theorem Inv.lset {its its':List Value}{n:Nat}{f:Array Value→Array Value}{t':Nat}(I:Inv X pins σ H s) (hH:H l=some (.lst xs))
  (e:s.heap.get? l=some { cls:=.type "list",data:=.seq its.toArray n }) (hf:f its.toArray=its'.toArray) (hv:Vals ys its') (hz:ys.length≤sizeLine) :
  Inv X pins σ (upd H l (.lst ys)) { s with heap:=s.heap.update l (Obj.mapSeq f),toks:=t' }:=by
 have q:=PySem.IsL.update e f
 rw [hf] at q
 refine I.write (x:=l) (e:=l) (by rw [hH]; exact trivial) (.inl rfl) (fun b' u hb hu=>(Heap.get?_update_other s.heap (Obj.mapSeq f) (Ne.symm hb)).trans hu) ⟨_,q⟩ ?_
 exact ⟨hz,its',_,hv,q⟩
theorem Inv.lnew {its:List Value}{t':Nat}(I:Inv X pins σ H s) (hv:Vals ys its) (hz:ys.length≤sizeLine) :
  Inv X pins σ (upd H s.heap.objs.size (.lst ys)) { s with heap:=s.heap.push { cls:=.type "list",data:=.seq its.toArray },toks:=t' } :=
 I.laid (fun _ _ q=>Heap.get?_push_of_some _ q) (Nat.le_refl _) ⟨hz,its,0,hv,Heap.get?_push_size _ rfl⟩
theorem Inv.fresh (I:Inv X pins σ H s):H s.heap.objs.size=none:=I.hok.fresh (Nat.le_refl _)
theorem Inv.lstM (I:Inv X pins σ H s) (hH:H l=some (.lst xs)):xs.length≤sizeLine∧∃ (its:List Value) (n:Nat),Vals xs its∧xs.length=its.length∧s.heap.get? l=some { cls:=.type "list",data:=.seq its.toArray n }:=by
 obtain ⟨z,its,n,r,e⟩:=I.hok l _ hH
 exact ⟨z,its,n,r,r.length,e⟩
theorem notLongL {n:Nat}(h:n≤sizeLine):Builtin.List.listTooLong n=false:=by
 unfold Builtin.List.listTooLong
 exact decide_eq_false (by lia)
end
section
variable {X:Cx}
def rAppend:V→List V→Hp→VK→Prop:=fun x vs H Q=>∃ l xs y,x=.ref l∧vs=[y]∧H l=some (.lst xs)∧xs.length<sizeLine∧Q .non (upd H l (.lst (xs++[y])))
theorem zal_:MtM X "list.append" rAppend:=by
 intro pins s σ H x vs v us Q I rx rv h
 obtain ⟨l,xs,y,rfl,rfl,hH,hz,q⟩:=h
 cases rx
 obtain ⟨u,rfl,ru⟩:=rv.one
 obtain ⟨z,its,n,r,hl,e⟩:=I.lstM hH
 refine call_meets F.slot_list_append ⟨_,e,rfl⟩ F.entry_list_append (F.args_list_append_2 _ _) (PySem.list_append l its.toArray n u (by rw [List.size_toArray]; lia)) ⟨e,?_⟩
 refine ⟨.non,_,I.lset (its':=its++[u]) hH e (by simp) (r.append (.cons ru .nil)) ?_,rfl,q⟩
 rw [List.length_append,List.length_singleton]
 lia
def rExtend:V→List V→Hp→VK→Prop:=fun x vs H Q=>∃ l b xs zs,x=.ref l∧vs=[.ref b]∧H l=some (.lst xs)∧H b=some (.lst zs)∧xs.length+zs.length≤sizeLine∧Q .non (upd H l (.lst (xs++zs)))
theorem ziW_:MtM X "list.extend" rExtend:=by
 intro pins s σ H x vs v us Q I rx rv h
 obtain ⟨l,b,xs,zs,rfl,rfl,hH,hB,hz,q⟩:=h
 cases rx
 obtain ⟨u,rfl,ru⟩:=rv.one
 cases ru
 obtain ⟨z,its,n,r,hl,e⟩:=I.lstM hH
 obtain ⟨z2,its2,n2,r2,hl2,e2⟩:=I.lstM hB
 have hsz:its.toArray.size+its2.toArray.size≤sizeLine:=by rw [List.size_toArray,List.size_toArray]; lia
 have hlong:¬ (!its.toArray.isEmpty && Builtin.List.listTooLong (its.toArray.size+its2.toArray.size))=true:=by
  rw [notLongL hsz,Bool.and_false]
  exact Bool.false_ne_true
 refine call_meets F.slot_list_extend ⟨_,e,rfl⟩ F.entry_list_extend (F.args_list_extend_2 _ _)
  (AutoSeq1.list_extend_list_list_0 l its.toArray n b its2.toArray n2 hlong (by rw [List.size_toArray]; lia) (by lia)) ⟨e,e2,?_⟩
 refine ⟨.non,_,I.lset (its':=its++its2) hH e (by simp) (r.append r2) ?_,rfl,q⟩
 rw [List.length_append]
 lia
def rCat:R2:=fun x y H Q=>∃ l b xs zs,x=.ref l∧y=.ref b∧H l=some (.lst xs)∧H b=some (.lst zs)∧xs.length+zs.length≤sizeLine∧∀ p,H p=none→Q (.ref p) (upd H p (.lst (xs++zs)))
theorem zmw_:OpR X (binaryOp .Add) rCat:=by
 intro pins s σ H x y v u Q I rx ry h
 obtain ⟨l,b,xs,zs,rfl,rfl,hH,hB,hz,q⟩:=h
 cases rx
 cases ry
 obtain ⟨z,its,n,r,hl,e⟩:=I.lstM hH
 obtain ⟨z2,its2,n2,r2,hl2,e2⟩:=I.lstM hB
 refine PySem.P.add_list e e2 ?_ (by rw [List.size_toArray,List.size_toArray]; lia)
 have ea:its.toArray++its2.toArray=(its++its2).toArray:=by simp
 rw [ea]
 exact ⟨.ref _,_,I.lnew (t':=s.toks) (r.append r2) (by rw [List.length_append]; lia),rfl,q _ I.fresh⟩
def rRep:R2:=fun x y H Q=>∃ l k xs,x=.ref l∧y=.int k∧H l=some (.lst xs) ∧ -(2 ^ 63)≤k∧k<2 ^ 63∧xs.length*k.toNat≤sizeLine ∧
 ∀ p,H p=none→Q (.ref p) (upd H p (.lst (List.replicate k.toNat xs).flatten))
theorem zjl_ {α:Type}(xs:List α) (k:Nat):(List.replicate k xs).flatten.length=k*xs.length:=by
 induction k with
 | zero=>simp
 | succ k ih=>rw [List.replicate_succ,List.flatten_cons,List.length_append,ih,Nat.succ_mul,Nat.add_comm]
theorem zm1_:OpR X (binaryOp .Mult) rRep:=by
 intro pins s σ H x y v u Q I rx ry h
 obtain ⟨l,k,xs,rfl,rfl,hH,h1,h2,hz,q⟩:=h
 cases rx
 obtain ⟨t,rfl⟩:=ry
 obtain ⟨z,its,n,r,hl,e⟩:=I.lstM hH
 have hlen:its.toArray.size*k.toNat≤sizeLine:=by rw [List.size_toArray,← hl]; exact hz
 have hcap:¬ its.toArray.size*k.toNat > (2 ^ 63-1) / 8:=by
  have:(sizeLine:Nat)≤(2 ^ 63-1) / 8:=by decide
  lia
 have hfit:¬ (!Builtin.List.listFitsIndex k)=true:=by
  rw [fitsIndex_both h1 h2]
  exact Bool.false_ne_true
 have hlong:¬ Builtin.List.listTooLong (its.toArray.size*k.toNat)=true:=by
  rw [notLongL hlen]
  exact Bool.false_ne_true
 have hnew:List.foldl (fun x1 x2=>x1++x2) #[] (List.replicate (if its.toArray.isEmpty=true then 0 else k.toNat) its.toArray)=(List.replicate k.toNat its).flatten.toArray:=by
  have f0:∀ m:Nat,List.foldl (fun x1 x2=>x1++x2) #[] (List.replicate m its.toArray)=(List.replicate m its).flatten.toArray:=fun m=>by
   have:=zgo_ its m []
   rw [List.nil_append] at this
   exact this
  rw [f0]
  cases its with
  | nil=>simp
  | cons a r'=>rw [if_neg (by simp)]
 refine wpAny_binaryOp_repeat_ref (T := "list") (U := "int") (by decide) ⟨_,e,rfl⟩ (fun s'=>typeIs_int s' k t) noFill_list_mul F.fills_int_mul F.slot_int_rmul repeat_list F.slot_int_index.lookup
  (call_meets F.slot_int_rmul (typeIs_int s k t) F.entry_int_rmul (F.args_int_rmul_2 _ _) (int___rmul___int_list k t l its.toArray n)
   ⟨e,rfl,⟨_,e,rfl⟩,call_meets F.slot_list_mul ⟨_,e,rfl⟩ F.entry_list_mul (F.args_list_mul_2 _ _) (AutoListH.list___mul___list_int_3 l its.toArray n k t hfit hcap hlong) ⟨e,?_⟩⟩)
 rw [hnew]
 exact ⟨.ref _,_,I.lnew (t':=s.toks) (r.rep k.toNat) (by rw [zjl_,Nat.mul_comm]; exact hz),rfl,q _ I.fresh⟩
end
section
variable {prog:Program}{w:World}{A:Around}{E:Value→Shared→Prop}{s:Shared}
end
section
variable {X:Cx}
end
end L2
namespace Att
open PySem PySem.W PySem.Calls PyProof.Rows
theorem zd7_ {P:Params}{h:Heap}:∀ (ns:List Int) (vs:List Value),WellAll P h vs (ns.map WData.int)→IntsAre vs ns:=by
 intro ns
 induction ns with
 | nil =>
  intro vs w
  rw [List.map_nil] at w
  cases w
  exact .nil
 | cons n ns ih =>
  intro vs w
  rw [List.map_cons] at w
  cases w with
  | cons a b =>
   cases a
   exact .cons _ _ (ih _ b)
theorem ziJ_ {l:OpenLaw}{n:Nat}(hn:l.most=some n) {P:Params}{h:Heap}{args:List WData}{vals:List Value}
  (hpre:l.row.toRowW.claim.pre args=true) (hwl:WellAll P h vals args) :
  ∃ a vs ns,vals=[Value.ref a]∧args=[WData.list (ns.map WData.int)]∧h.get? a=some { cls:=.type "list",data:=.seq vs.toArray }∧IntsAre vs ns∧ns.length≤n:=by
 have hsh:WShape.hasAll [] args [.list .int]=true:=(pre_splitW hpre).1
 have hc:l.pre.holds [] { args:=args }=true:=(pre_splitW hpre).2
 obtain ⟨d,r,rfl,h1,h2⟩:=hasAllW_cons hsh
 obtain rfl:=hasAllW_nil h2
 obtain ⟨xs,rfl,h3⟩:=hasW_list h1
 obtain ⟨ns,rfl⟩:=items_int h3
 have hlen:ns.length≤n:=by
  unfold OpenLaw.pre at hc
  have h4:(WTm.not (.lt (.lit (.int (n:Int))) (.len (.arg 0)))).holds [] { args:=[.list (ns.map .int)] }=true:=by
   have h4:=(holds_andW hc).1
   rw [hn] at h4
   exact h4
  have h5:=condW_of h4 (w_not (w_lt w_lit (w_len_list (w_arg rfl))))
  rw [List.length_map] at h5
  refine Nat.le_of_not_lt fun q=>?_
  have q':(n:Int)<((ns.length:Nat):Int):=by lia
  first
   | (rw [decide_eq_true q'] at h5; exact absurd h5 (by decide))
   | (simp at h5; lia)
 cases hwl with
 | cons w1 w2 =>
  cases w2
  cases w1 with
  | list ho hall=>exact ⟨_,_,ns,rfl,rfl,ho,zd7_ ns _ hall,hlen⟩
theorem ziS_ (l:OpenLaw) (args:List WData):l.row.toRowW.claim.post args (.bool true) args=true :=
 postW_of (r:=l.row.toRowW) (X:=(true == true))
  (show WShape.has [] (.bool true) .bool=true by first | rfl | decide | simp [WShape.has,WShape.arms,WShape.armsAll])
  (show (WTm.eq .res (.lit (.bool true))).value [] { args:=args,res:=some (.bool true),after:=args }=some (.bool (true == true)) from w_eq_bool (w_res rfl) w_lit) rfl
section
variable {prog:Program}{w:World}{A:Around}{E:Value→Shared→Prop}{s:Shared}{K:Frag}
end
end Att
namespace L2
open PySem PySem.Spec PyProof.Rows
theorem zgc_:∀ {vs:List Value}{ns:List Int},IntsAre vs ns→Vals (ns.map V.int) vs
 | _,_,.nil=>.nil
 | _,_,.cons n t h=>.cons ⟨t,rfl⟩ (zgc_ h)
def Only (H:Hp):Prop:=∀ b,H b=none∨∃ o xs,H b=some (.frz o (.lst xs))
theorem zkx_ {P:Program}{w:World}{K:Fgg}{mg mb:Str→Option Value}{CX:CXT}{k:Nat}{fa a:Addr}{fd:FuncData}{x:Str}{sp:Sp}{s₁:Shared}{vs:List Value}{ns:List Int}
  (KX:K.In s₁.heap) (hns:s₁.heap.Ns mainGlobals mg) (hb:s₁.heap.Ns builtinsNs mb) (hbb:∀ x:Str,x ≠ "__name__" → mb x=bootBuiltins x) (hlim:s₁.heap.NoLimit) (hg:s₁.gens=#[])
  (ha:s₁.heap.get? a=some { cls:=.type "list",data:=.seq vs.toArray }) (hi:IntsAre vs ns) (hl:ns.length≤sizeLine) (hr:Room k callerA)
  (F:∀ base:Heap,K.In base→base.Ns mainGlobals mg→FnOk P w K mg base CX k fa fd [x] sp) (hbind:∀ (s:Shared) (u:Value),BindsTo s fd ⟨[u],[]⟩ [(x,u)])
  (hsp:∀ H:Hp,Only H→SqL K H a (ns.map V.int)→sp [.ref a] H (fun v _=>v=.bl true) fun _ _ _=>False)
  (hCX:∀ H e s',CX [] H s₁ (fun _ _ _=>False) e s'→False) :
  codeAny (model P w) callerA (.call (.ref fa) ⟨[.ref a],[]⟩) (fun r s'=>r=.ok (.ret (.bool true))∧OldK s₁.heap s'.heap∧s'.os=s₁.os∧AllBare s'.gens) s₁:=by
 have rv:=zgc_ hi
 have lenV:=hi.length
 have core:∀ H:Hp,Only H→SqL K H a (ns.map V.int)→HOk P w H s₁.heap→(∀ b,H b≠none→b=a)→(H a≠none→K.lookup a=none) →
   codeAny (model P w) callerA (.call (.ref fa) ⟨[.ref a],[]⟩) (fun r s'=>r=.ok (.ret (.bool true))∧OldK s₁.heap s'.heap∧s'.os=s₁.os∧AllBare s'.gens) s₁:=by
  intro H hO hS hok hA hK
  have base_of:∀ {b:Addr}{o:Obj},s₁.heap.get? b=some o→H b=none→(hidT s₁.heap H).get? b=some o:=fun e n=>zjU_ e n
  have noA:∀ {b:Addr}{o:Obj}{es:Array DictEntry}{ep:Nat},s₁.heap.get? b=some o→o.data=.dict es ep→H b=none:=fun {b o es ep} e d=>by
   cases q:H b with
   | none=>rfl
   | some u =>
    have e':b=a:=hA b (by rw [q]; simp)
    subst e'
    rw [ha] at e; cases e
    have d':Data.seq vs.toArray _=Data.dict es ep:=d
    cases d'
  have nsK:∀ {b:Addr}{m:Str→Option Value},s₁.heap.Ns b m→(hidT s₁.heap H).Ns b m:=fun {b m} ⟨o,es,ep,e,d,r⟩=>⟨o,es,ep,base_of e (noA e d),d,r⟩
  have hKb:K.In (hidT s₁.heap H):=fun b o e=>base_of (KX b o e) (by
   cases q:H b with
   | none=>rfl
   | some u =>
    have e':b=a:=hA b (by rw [q]; simp)
    subst e'
    rw [hK (by rw [q]; simp)] at e; cases e)
  have hM:Mod K mg (hidT s₁.heap H):=⟨hKb,nsK hns,⟨mb,nsK hb,hbb⟩,let ⟨mc,h1,h2⟩:=hlim; ⟨mc,nsK h1,h2⟩⟩
  have e0:Env0 P w K mg (hidT s₁.heap H) callerA [] s₁ H:=⟨rfl,hM,fun b o e=>zlU_ e,Nat.le_of_eq (zi1_ _ _),trivial,fun b hb=>absurd (show b∈([]:List Addr) from hb) (by simp),hok,.of_eq hg⟩
  refine codeAny_mono ((F _ hKb (nsK hns)).run callerA [] s₁ H ⟨[.ref a],[]⟩ [.ref a] [.ref a] _ _ hr e0 (hbind s₁ (.ref a)) (.cons rfl .nil) (hsp H hO hS)) fun r s' h=>?_
  cases r with
  | error e=>exact (hCX H e s' h).elim
  | ok fl =>
   cases fl with
   | next=>exact False.elim h
   | brk=>exact False.elim h
   | cont=>exact False.elim h
   | ret u =>
    obtain ⟨v,H',os,bare,un,hok',r',q⟩:=h
    have q':v=.bl true:=q
    subst q'
    obtain rfl:u=Value.bool true:=r'
    refine ⟨rfl,OldK.of_keep fun b o e=>?_,os,bare⟩
    cases q:H b with
    | none=>exact un.keep b o e q (by intro z; exact absurd (show b∈([]:List Addr) from z) (by simp)) (by simp)
    | some u =>
     rcases hO b with z | ⟨ob,xs,z⟩
     ·rw [q] at z; cases z
     ·have z2:=un.frzs b ob _ z
      obtain ⟨e1,_⟩:=hok b _ z
      obtain ⟨e2,_⟩:=hok' b _ z2
      rw [e] at e1; cases e1
      exact e2
 cases hk:K.lookup a with
 | some o =>
  have e:=KX a o hk
  rw [ha] at e
  cases e
  refine core (fun _=>none) (fun _=>.inl rfl) (.inr ⟨_,vs.toArray,_,hk,rfl,rfl,rfl,by rw [List.size_toArray,lenV]; exact hl,by simpa using rv⟩) (fun b u z=>by have z':(none:Option HO)=some u:=z; cases z') (fun b z=>absurd rfl z) fun z=>absurd rfl z
 | none =>
  refine core (fun b=>if b=a then some (.frz { cls:=.type "list",data:=.seq vs.toArray } (.lst (ns.map V.int))) else none) (fun b=>?_) (.inl (.inr ⟨{ cls:=.type "list",data:=.seq vs.toArray },if_pos rfl⟩)) (fun b u z=>?_) (fun b z=>?_) fun _=>hk
  ·by_cases hb:b=a
   ·exact .inr ⟨_,_,if_pos hb⟩
   ·exact .inl (if_neg hb)
  ·by_cases hb:b=a
   ·have z':=(if_pos hb).symm.trans z
    cases z'
    subst hb
    exact ⟨ha,by rw [List.length_map]; exact hl,vs,_,rv,ha⟩
   ·have z':=(if_neg hb).symm.trans z
    cases z'
  ·by_cases hb:b=a
   ·exact hb
   ·exact absurd (if_neg hb) z
end L2
namespace L2
open PySem PySem.Spec PyProof.Rows
end L2
namespace L2
open PySem PySem.Spec PyProof.Rows
def inClass (s:Stmt) (j:Nat):Stmt:=match s with
 | .ClassDef _ _ _ body _ _ _ _ _ _ _=>body.getD j (.Pass ⟨0,0,0,0⟩)
 | _=>.Pass ⟨0,0,0,0⟩
def defArgs (s:Stmt):Arguments:=match s with
 | .FunctionDef _ a _ _ _ _ _ _ _ _=>a
 | _=>{ posonlyargs:=[],args:=[],vararg:=none,kwonlyargs:=[],kw_defaults:=[],kwarg:=none,defaults:=[] }
def defBody (s:Stmt):List Stmt:=match s with
 | .FunctionDef _ _ b _ _ _ _ _ _ _=>b
 | _=>[]
def defScope (s:Stmt):Scope:=match s with
 | .FunctionDef _ _ _ _ _ _ sc _ _ _=>sc
 | _=>{ kind:=.function,names:=[],isGenerator:=false,isCoroutine:=false }
abbrev CX0:CXT:=fun _ _ _ _ _ _=>False
abbrev E0:XK:=fun _ _ _=>False
theorem pass0 {X:Cx}:Passes CX0 X E0:=fun _ _ _ _ _ _ _ h=>h.elim
structure Fun (K:Fgg) (x qual:Str) (st:Stmt) (f:Addr) (fd:FuncData):Prop where
 ex:∃ (oc:Value) (od:Option Addr) (kV doc pm:Value) (an:Option Addr) (cdv ct:Value) (osl:Array (Option Value)),
  fd=PySem.W.fnOf x qual (defArgs st) (defBody st) (defScope st) .none kV doc pm an cdv ct∧K.lookup f=some ⟨oc,od,.func fd,osl⟩∧PySem.W.codeIn K cdv qual=true
 kp:PySem.W.keepIn K (.ref f)=true
section
variable {P:Program}{w:World}{K:Fgg}{mg:Str→Option Value}{base:Heap}
theorem Fun.ok {x qual:Str}{st:Stmt}{f:Addr}{fd:FuncData}{N ps:List Str}{k:Nat}{sp:Sp}(F:Fun K x qual st f fd) (S:FnScope N ps (defScope st)) (len:∀ vs H Q E,sp vs H Q E→vs.length=ps.length)
  (hbody:∀ (cdv:Value) (A:Around) (outer:List Env) (s:Shared) (H:Hp) (vs:List V) (Q:VK) (E:XK),Room k (A.deeper (envOfC qual (defScope st) s.heap.objs.size f cdv))→sp vs H Q E →
   ∃ t,PSs (cxOf CX0 P w K mg base N qual (defScope st) f cdv A outer s H E).nox (defBody st) t∧t { nx:=fun _ H'=>Q .non H',rt:=Q } (start N vs) H):FnOk P w K mg base CX0 (k+1) f fd ps sp:=by
 obtain ⟨oc,od,kV,doc,pm,an,cdv,ct,osl,rfl,lk,hcd⟩:=F.ex
 refine fn_of lk hcd S len fun A outer s H vs Q E hr hsp=>?_
 obtain ⟨t,h,q⟩:=hbody cdv A outer s H vs Q E hr hsp
 exact ⟨t,h.nox,q⟩
theorem Fun.binds {x qual:Str}{st:Stmt}{f:Addr}{fd:FuncData}{ps:List Str}(F:Fun K x qual st f fd)
  (h:∀ (kV doc pm:Value) (an:Option Addr) (cdv ct:Value) (us:List Value),us.length=ps.length→bindArgs (PySem.W.fnOf x qual (defArgs st) (defBody st) (defScope st) .none kV doc pm an cdv ct) ⟨us,[]⟩=pure (ps.zip us)):Binds K fd ps []:=by
 obtain ⟨oc,od,kV,doc,pm,an,cdv,ct,osl,rfl,lk,hcd⟩:=F.ex
 exact .all (h kV doc pm an cdv ct)
theorem zlC_ {x qual:Str}{st:Stmt}{f:Addr}{oc:Value}{od an:Option Addr}{osl:Array (Option Value)}{kV doc pm cdv ct:Value}(l:K.lookup f=some ⟨oc,od,.func (PySem.W.fnOf x qual (defArgs st) (defBody st) (defScope st) .none kV doc pm an cdv ct),osl⟩)
  (c:PySem.W.codeIn K cdv qual=true) (k:PySem.W.keepIn K (.ref f)=true):Fun K x qual st f (PySem.W.fnOf x qual (defArgs st) (defBody st) (defScope st) .none kV doc pm an cdv ct):=⟨⟨oc,od,kV,doc,pm,an,cdv,ct,osl,rfl,l,c⟩,k⟩
end
section
variable {X:Cx}
end
def Same (H H':Hp):Prop:=∀ b o,H b=some o→H' b=some o
theorem Same.refl (H:Hp):Same H H:=fun _ _ h=>h
theorem Same.trans {H H1 H2:Hp}(a:Same H H1) (b:Same H1 H2):Same H H2:=fun c o h=>b c o (a c o h)
theorem Same.free {H H':Hp}(e:Same H H') {l:Addr}(h:H' l=Option.none):H l=Option.none:=by
 cases q:H l with
 | none=>rfl
 | some o =>
  rw [e l o q] at h
  cases h
theorem Same.seq {K:Fgg}{H H':Hp}{a:Addr}{xs:List V}(e:Same H H') (h:SqL K H a xs):SqL K H' a xs:=by
 rcases h with (h | ⟨o,h⟩) | h
 ·exact .inl (.inl (e _ _ h))
 ·exact .inl (.inr ⟨o,e _ _ h⟩)
 ·exact .inr h
end L2
namespace L2
open PySem PySem.Spec PyProof.Rows
def Itp (n:Nat) (f:Nat→V):It:=⟨fun i _=>i<n,fun i H x H'=>H'=H∧x=f i,fun i _=>n≤i⟩
def ownTups:List String:=["enumerate", "zip", "dict_itemiterator", "dict_reverseitemiterator", "odict_iterator", "itertools.zip_longest", "itertools.pairwise"]
theorem ziZ_ {P:Program}{w:World}{K:Fgg}{tg:Expr}{it:Addr}{n:Nat}{f:Nat→V}{Pw:Nat→Value→Prop}{St:Nat→Heap→Prop}
  (W:∀ A:Around,A.handled=none→Walks P w A it [it] [it] n Pw St) (hv:∀ i v,i<n→Pw i v→RelV (f i) v)
  (ho:∀ i h,St i h→∃ o nm vs,h.get? it=some o∧o.cls=.type nm∧o.data=.fields vs∧ownTups.contains nm=false)
  (hself:∀ (A:Around) (i:Nat) (s:Shared) (Q:Value→Shared→Prop) (E:Value→Shared→Prop),St i s.heap→Q (.ref it) s→wpAny (model P w) A (pyIter (.ref it)) Q E s)
  (hkeep:∀ i h h',St i h→(∀ b∈[it],∀ o,h.get? b=some o→h'.get? b=some o)→St i h') :
  Turn P w K tg (Itp n f) [it] it (fun i h=>i≤n∧St i h) where
 mem:=by simp
 obj:=fun i h st b hb=>by
  have e:b=it:=by simpa using hb
  subst e
  obtain ⟨o,nm,vs,e,c,d,_⟩:=ho i h st.2
  exact ⟨o,e,fun v z=>by rw [d] at z; cases z⟩
 keep:=fun i h h' st k=>⟨st.1,hkeep i h h' st.2 k⟩
 item:=by
  intro X hP hw hK hc i pins s σ H E I hf st hg
  subst hP hw hK
  obtain ⟨f0,f1,f2,f3,f4,f5⟩:=hf it (by simp)
  have hi:i<n:=hg
  refine (W X.A (I.ok.hd hc)).item i s _ _ hi st.2 fun v h' tk hv' st' kk=>?_
  have I1:Inv X pins σ H { s with heap:=h',toks:=tk }:=I.turned (fun b o hb e=>kk b o (by simpa using hb) e) f0 f1 f3 f4 f5
  obtain ⟨o,nm,vs,e,c,d,hn⟩:=ho _ _ st'
  exact ⟨_,rfl,zmc_ (s:={ s with heap:=h',toks:=tk }) (n:=nm) e c d hn ⟨f i,H,I1,hv i v hi hv',⟨rfl,rfl⟩,⟨hi,st'⟩,fun b hb=>(hf b hb).1⟩⟩
 done:=by
  intro X hP hw hK hc i pins s σ H E I hf st hg
  subst hP hw hK
  obtain ⟨f0,f1,f2,f3,f4,f5⟩:=hf it (by simp)
  have hi:n≤i:=hg
  have e:i=n:=Nat.le_antisymm st.1 hi
  subst e
  exact (W X.A (I.ok.hd hc)).done s _ _ st.2 fun h' tk kk=>⟨rfl,I.turned (fun b o hb e=>kk b o (by simpa using hb) e) f0 f1 f3 f4 f5⟩
 self:=fun A i s Q E st h=>hself A i s Q E st.2 h
def sgn (x:Str) (i:Nat):V:=.str ⟨#[x.cps.getD i 0]⟩
theorem ziP_ {P:Program}{w:World}{it:Addr}{x:Str}{t:Tok}(A:Around) (hA:A.handled=none):Walks P w A it [it] [it] x.cps.size (SignAt x) (fun i h=>h.IsStrIter it (strIterType x) x t i):=by
 cases ha:x.cps.all (·<128)
 ·have e:strIterType x = "str_iterator" := by simp [strIterType,ha]
  rw [e]; exact Walks.strWide hA it x t
 ·have e:strIterType x = "str_ascii_iterator" := by simp [strIterType,ha]
  rw [e]; exact Walks.strAscii hA it x t
theorem zfm_ {x:Str}{i:Nat}{v:Value}(h:SignAt x i v):RelV (sgn x i) v:=by
 obtain ⟨c,u,e,rfl⟩:=h
 refine ⟨u,?_⟩
 have:x.cps.getD i 0=c:=by simp [Array.getD_eq_getD_getElem?,e]
 rw [this]
theorem zeX_ (x:Str):ownTups.contains (strIterType x)=false:=by
 unfold strIterType; split<;>decide
theorem zkC_ {P:Program}{w:World}{K:Fgg}{tg:Expr}(it:Addr) (x:Str) (t:Tok):Turn P w K tg (Itp x.cps.size (sgn x)) [it] it (fun i h=>i≤x.cps.size∧h.IsStrIter it (strIterType x) x t i):=by
 refine ziZ_ (Pw:=SignAt x) (fun A hA=>ziP_ A hA) (fun i v _ h=>zfm_ h) (fun i h st=>?_) (fun A i s Q E st h=>?_) (fun i h h' st k=>?_)
 ·obtain ⟨o,e,c,d⟩:=st
  exact ⟨o,_,_,e,c,d,zeX_ x⟩
 ·cases ha:x.cps.all (·<128)
  ·have e:strIterType x = "str_iterator" := by simp [strIterType,ha]
   rw [e] at st; exact wpAny_pyIter_striter_wide st h
  ·have e:strIterType x = "str_ascii_iterator" := by simp [strIterType,ha]
   rw [e] at st; exact wpAny_pyIter_striter_ascii st h
 ·obtain ⟨o,e,r⟩:=st
  exact ⟨o,k it (by simp) o e,r⟩
section
variable {X:Cx}{tg:Expr}
end
end L2
namespace L2
open PySem PySem.Spec PyProof.Rows
theorem Inv.turnedL {X:Cx}{pins:Pnn}{σ:St}{H:Hp}{s:Shared}{h':Heap}{t':Nat}{ch:List Addr}(I:Inv X pins σ H s) (k:∀ b o,b∉ch→s.heap.get? b=some o→h'.get? b=some o)
  (hf:∀ b∈ch,FpOk X pins H b):Inv X pins σ H { s with heap:=h',toks:=t' }:=by
 have nit:∀ b u,H b=some u→b∉ch:=fun b u e z=>by rw [(hf b z).1] at e; cases e
 refine I.step (g':=s.gens) (d':=s.drawn) (ch:=ch) (fun b hb=>?_) (fun b o _ _ hc e _=>k b o hc e) (fun b o _ _ hc e _=>⟨o.slots,k b o hc e⟩) (fun _ _ _ _ n=>n)
  (fun b o hc e=>⟨o,k b o hc e⟩) (fun _ _ e=>e) (fun _ _ _ e=>e) (fun b ps e=>⟨#[],by rw [e]; simp⟩) (fun m hm=>?_) (fun b u e=>?_) I.bare
 ·obtain ⟨f0,f1,f2,f3,f4,f5⟩:=hf b hb
  exact ⟨f3,f1,f4,f5⟩
 ·obtain ⟨o,es,ep,ho,r⟩:=hm
  exact ⟨o,es,ep,k _ o (fun z=>(hf _ z).2.1 rfl) ho,r⟩
 ·refine (I.hok b u e).stay (fun c v hc q=>k c v ?_ q) (fun _ q=>q) fun _ _ q=>q
  rcases hc with z | z
  ·rw [z]; exact nit b u e
  ·exact nit c _ z
theorem zgl_ {X:Cx}{pins:Pnn}{σ:St}{H:Hp}{s:Shared}{h1:Heap}{tk:Nat}{tk':Tok}{e it:Addr}{i:Nat}{x:Value}{y:V}{St:Heap→Prop}{elts:List Expr}{kk:Nat}{pos:Pos}{E:Value→Shared→Prop}
  (I:Inv X pins σ H s) (hf:∀ b∈[e,it],FpOk X pins H b) (he:e<s.heap.objs.size) (hit:it<s.heap.objs.size) (hei:e≠it) (heo:IsEnumOut h1 e it ((i:Int)+1) x s.heap.objs.size) (ry:RelV y x)
  (ht:h1.get? s.heap.objs.size=some { cls:=.type "tuple",data:=.seq #[.int i tk',x] }) (hz:h1.objs.size=s.heap.objs.size+1) (hk:∀ b o,b≠e→b≠it→s.heap.get? b=some o→h1.get? b=some o)
  (hSt:∀ h2,Heap.SameBut e h1 h2→St h2) :
  wpAny (model X.prog X.w) X.A (letOwnedTupleGo (.Tuple elts kk pos) (.ref e) (.ref s.heap.objs.size)) (fun _ s2=>∃ z H',Inv X pins σ H' s2∧RelV z (.ref s.heap.objs.size) ∧
   (∃ p,H p=none∧z=.ref p∧H'=upd H p (.tup [.int i,y]))∧(IsEnum s2.heap e it ((i+1:Nat):Int) x∧St s2.heap)∧∀ b∈[e,it],H' b=none) E { s with heap:=h1,toks:=tk }:=by
 refine wpAny_letOwnedTupleGo_enum heo fun h2 he2 hs2=>?_
 replace hs2:Heap.SameBut e h1 h2:=hs2
 have hp:H s.heap.objs.size=none:=I.hok.fresh (Nat.le_refl _)
 have hne:s.heap.objs.size≠e:=Nat.ne_of_gt he
 have hni:s.heap.objs.size≠it:=Nat.ne_of_gt hit
 have I1:Inv X pins σ (upd H s.heap.objs.size (.tup [.int i,y])) { s with heap:=s.heap.push { cls:=.type "tuple",data:=.seq #[.int i tk',x] },toks:=tk }:=by
  refine I.laid (fun b u q=>Heap.get?_push_of_some _ q) (Nat.le_refl _) ⟨?_,[.int i tk',x],.cons ⟨_,rfl⟩ (.cons ry .nil),⟨_,Heap.get?_push_size _ rfl,rfl,_,rfl⟩⟩
  show 2≤sizeLine
  decide
 have hf1:∀ b∈[e,it],FpOk X pins (upd H s.heap.objs.size (.tup [.int i,y])) b:=fun b hb=>by
  obtain ⟨f0,r⟩:=hf b hb
  refine ⟨?_,r⟩
  rw [zN_ (by rcases List.mem_cons.mp hb with rfl | hb; exact hne.symm; rcases List.mem_cons.mp hb with rfl | hb; exact hni.symm; cases hb)]
  exact f0
 have I2:Inv X pins σ (upd H s.heap.objs.size (.tup [.int i,y])) { s with heap:=h2,toks:=tk }:=by
  refine Inv.turnedL (s:={ s with heap:=s.heap.push { cls:=.type "tuple",data:=.seq #[.int i tk',x] },toks:=tk }) (ch:=[e,it]) I1 (fun b o hb q=>?_) hf1
  have nbe:b≠e:=fun z=>hb (by simp [z])
  have nbi:b≠it:=fun z=>hb (by simp [z])
  refine (hs2.2 b nbe).trans ?_
  rcases Heap.get?_push_cases q with ⟨rfl,rfl⟩ | q'
  ·exact ht
  ·exact hk b o nbe nbi q'
 refine ⟨.ref s.heap.objs.size,_,I2,rfl,⟨s.heap.objs.size,hp,rfl,rfl⟩,⟨?_,hSt h2 hs2⟩,fun b hb=>(hf1 b hb).1⟩
 have:((i+1:Nat):Int)=(i:Int)+1:=by push_cast; rfl
 rw [this]; exact he2
def Ite (K:Fgg) (l:Addr):It :=
 ⟨fun i H=>∃ xs x,SqL K H l xs∧xs[i]?=some x,fun i H y H'=>∃ p x,(∀ xs,SqL K H l xs→xs[i]?=some x)∧H p=none∧y=.ref p∧H'=upd H p (.tup [.int i,x]),fun i H=>∃ xs,SqL K H l xs∧xs.length≤i⟩
theorem zh0_ {P:Program}{w:World}{K:Fgg}{elts:List Expr}{kk:Nat}{pos:Pos}(e it l:Addr) (hei:e≠it) :
  Turn P w K (.Tuple elts kk pos) (Ite K l) [e,it] e (fun i h=>(∃ old,IsEnum h e it (i:Nat) old)∧h.IsListIter it l i) where
 mem:=by simp
 obj:=fun i h st b hb=>by
  obtain ⟨⟨old,he⟩,o,ho,c,d⟩:=st
  rcases List.mem_cons.mp hb with rfl | hb
  ·exact ⟨_,he,fun v z=>by cases z⟩
  ·have e:b=it:=by simpa using hb
   subst e
   exact ⟨o,ho,fun v z=>by rw [d] at z; cases z⟩
 keep:=fun i h h' st k=>by
  obtain ⟨⟨old,he⟩,hit⟩:=st
  exact ⟨⟨old,k e (by simp) _ he⟩,hit.at fun o q=>k it (by simp) o q⟩
 item:=by
  intro X hP hw hK hc i pins s σ H E I hf st hg
  subst hP hw hK
  obtain ⟨xs,x,hq,hx⟩:=hg
  obtain ⟨its,rv,p,hz⟩:=I.list hq
  obtain ⟨u,hu,ru⟩:=rv.get hx
  obtain ⟨⟨old,he⟩,hit⟩:=st
  refine wpAny_pyNext_enum_item he hit p.isList (x:=u) (by simpa using hu) hei fun h1 heo hit1 ht1 hz1 hk1=>?_
  refine ⟨_,rfl,?_⟩
  have hel:e<s.heap.objs.size:=Heap.lt_size he
  have hil:it<s.heap.objs.size:=by obtain ⟨o,ho,_⟩:=id hit; exact Heap.lt_size ho
  refine thn (zgl_ (St:=fun h2=>h2.IsListIter it l (i+1)) I hf hel hil hei heo ru ht1 hz1 hk1 fun h2 hs=>hit1.extBut hs.extBut hei.symm) fun _ s2 q=>?_
  obtain ⟨z,H',I2,rz,⟨p,hp,rfl,rfl⟩,⟨he2,hit2⟩,fr⟩:=q
  exact ⟨.ref p,_,I2,rz,⟨p,x,fun ys hy=>by rw [I.list_inj hy hq]; exact hx,hp,rfl,rfl⟩,⟨⟨u,he2⟩,hit2⟩,fr⟩
 done:=by
  intro X hP hw hK hc i pins s σ H E I hf st hg
  subst hP hw hK
  obtain ⟨xs,hq,hx⟩:=hg
  obtain ⟨its,rv,p,hz⟩:=I.list hq
  obtain ⟨⟨old,he⟩,hit⟩:=st
  have hl:=rv.length
  obtain ⟨f0,f1,f2,f3,f4,f5⟩:=hf it (by simp)
  exact wpAny_pyNext_enum_end (I.ok.hd hc) he hit p.isList (by simp; lia) fun h' eb=>⟨rfl,I.turned (t':=s.toks) (fun b o hb e=>eb b o hb e) f0 f1 f3 f4 f5⟩
 self:=fun _ _ _ _ _ st h=>by
  obtain ⟨⟨old,he⟩,_⟩:=st
  exact wpAny_pyIter_enum he h
theorem zgB_ {P:Program}{w:World}{it:Addr}{x:Str}{t:Tok}(A:Around) (hA:A.handled=none):Draws P w A it [it] x.cps.size (fun i v=>∃ c u,x.cps[i]?=some c∧v=.str ⟨#[c]⟩ u) (fun i h=>h.IsStrIter it (strIterType x) x t i):=by
 cases ha:x.cps.all (·<128)
 ·have e:strIterType x = "str_iterator" := by simp [strIterType,ha]
  rw [e]; exact Draws.strWide hA it x t
 ·have e:strIterType x = "str_ascii_iterator" := by simp [strIterType,ha]
  rw [e]; exact Draws.strAscii hA it x t
def Ites (n:Nat) (f:Nat→V):It :=
 ⟨fun i _=>i<n,fun i H y H'=>∃ p,H p=none∧y=.ref p∧H'=upd H p (.tup [.int i,f i]),fun i _=>n≤i⟩
theorem zid_ {P:Program}{w:World}{K:Fgg}{elts:List Expr}{kk:Nat}{pos:Pos}(e it:Addr) (x:Str) (t:Tok) (hei:e≠it) :
  Turn P w K (.Tuple elts kk pos) (Ites x.cps.size (sgn x)) [e,it] e (fun i h=>(∃ old,IsEnum h e it (i:Nat) old)∧i≤x.cps.size∧h.IsStrIter it (strIterType x) x t i) where
 mem:=by simp
 obj:=fun i h st b hb=>by
  obtain ⟨⟨old,he⟩,_,o,ho,c,d⟩:=st
  rcases List.mem_cons.mp hb with rfl | hb
  ·exact ⟨_,he,fun v z=>by cases z⟩
  ·have e:b=it:=by simpa using hb
   subst e
   exact ⟨o,ho,fun v z=>by rw [d] at z; cases z⟩
 keep:=fun i h h' st k=>by
  obtain ⟨⟨old,he⟩,hn,o,ho,r⟩:=st
  exact ⟨⟨old,k e (by simp) _ he⟩,hn,o,k it (by simp) o ho,r⟩
 item:=by
  intro X hP hw hK hc i pins s σ H E I hf st hg
  subst hP hw hK
  obtain ⟨⟨old,he⟩,hn,hit⟩:=st
  have hi:i<x.cps.size:=hg
  refine wpAny_pyNext_enum_itemD (zgB_ X.A.in1 (I.ok.hd hc)) he hit hi hei (by simpa using hei) fun u h1 tk hP heo hit1 ht1 hz1 hk1=>?_
  refine ⟨_,rfl,?_⟩
  have hel:e<s.heap.objs.size:=Heap.lt_size he
  have hil:it<s.heap.objs.size:=by obtain ⟨o,ho,_⟩:=id hit; exact Heap.lt_size ho
  have ru:RelV (sgn x i) u:=zfm_ hP
  refine thn (zgl_ (St:=fun h2=>h2.IsStrIter it (strIterType x) x t (i+1)) I hf hel hil hei heo ru ht1 hz1 hk1 fun h2 hs=>?_) fun _ s2 q=>?_
  ·obtain ⟨o,ho,r⟩:=hit1
   exact ⟨o,(hs.2 it hei.symm).trans ho,r⟩
  ·obtain ⟨z,H',I2,rz,⟨p,hp,rfl,rfl⟩,⟨he2,hit2⟩,fr⟩:=q
   exact ⟨.ref p,_,I2,rz,⟨p,hp,rfl,rfl⟩,⟨⟨u,he2⟩,hi,hit2⟩,fr⟩
 done:=by
  intro X hP hw hK hc i pins s σ H E I hf st hg
  subst hP hw hK
  obtain ⟨⟨old,he⟩,hn,hit⟩:=st
  have hi:x.cps.size≤i:=hg
  have ei:i=x.cps.size:=Nat.le_antisymm hn hi
  subst ei
  obtain ⟨f0,f1,f2,f3,f4,f5⟩:=hf it (by simp)
  exact wpAny_pyNext_enum_endD (zgB_ X.A.in1 (I.ok.hd hc)) he hit fun h' eb=>⟨rfl,I.turned (t':=s.toks) (fun b o hb e=>eb b o hb e) f0 f1 f3 f4 f5⟩
 self:=fun _ _ _ _ _ st h=>by
  obtain ⟨⟨old,he⟩,_⟩:=st
  exact wpAny_pyIter_enum he h
section
variable {X:Cx}{elts:List Expr}{kk:Nat}{tpos:Pos}
end
end L2
namespace L2
open PySem PySem.Spec PyProof.Rows
section
variable {prog:Program}{w:World}{A:Around}{R:Result→Shared→Prop}{s:Shared}
theorem zgU_ {elt target iter:Expr}{ifs:List Expr}{scope:Scope}{pos:Pos}{it acc:Value}{env:Env}(I:Nat→Shared→Prop)
  (turn:∀ n s,I n s→wpAny (model prog w) A (pyNext it) (fun r s₁=>match r with
   | none=>R (.ok .next) s₁
   | some v=>wpAny (model prog w) A (letOwnedTupleGo target it v) (fun _ s₂=>wpAny (model prog w) A (assign target env v) (fun _ s₃ =>
     wpAny (model prog w) A (forIn ifs true fun c r=>if r=true then do let ok ← isTrue c env (eval c env); pure (ForInStep.yield ok) else pure (ForInStep.yield r)) (fun ok s₄ =>
      if ok=true then wpAny (model prog w) A (eval elt env) (fun x s₅ =>
       wpAny (model prog w) A (call (.builtin "list.append") [acc,x]) (fun _ s₆=>∃ m,m<n∧I m s₆) (fun _ _=>False) s₅) (fun _ _=>False) s₄
      else ∃ m,m<n∧I m s₄) (fun _ _=>False) s₃) (fun _ _=>False) s₂) (fun _ _=>False) s₁) (fun _ _=>False) s)
  (n:Nat) (h:I n s) :
  codeAny (model prog w) A (.compLoop (.ListComp elt [⟨target,iter,ifs,0⟩] scope pos) 0 it acc env) R s:=by
 refine codeAny_loop rfl I (fun n s hI=>?_) n h
 show wpAny _ A ((compTurn (.ListComp elt [⟨target,iter,ifs,0⟩] scope pos) 0 it acc env).onRaise (fun x=>do noteFrame x env; theTreesLotGoes x)) _ _ s
 refine wpAny_noted ?_
 rw [compTurn_list]
 refine wpAny_bind (wpAny_standAt (wpAny_bind (wpAny_mono (turn n s hI) (fun r s₁ h₁=>?_) fun _ _ h'=>h'.elim)))
 cases r with
 | none=>exact wpAny_pure h₁
 | some v =>
  refine wpAny_bind (wpAny_mono h₁ (fun _ s₂ h₂=>?_) fun _ _ h'=>h'.elim)
  refine wpAny_bind (wpAny_mono h₂ (fun _ s₃ h₃=>wpAny_bind (wpAny_mono h₃ (fun ok s₄ h₄=>?_) fun _ _ h'=>h'.elim)) fun _ _ h'=>h'.elim)
  cases ok with
  | false=>exact wpAny_pure ⟨rfl,h₄⟩
  | true =>
   exact wpAny_bind (wpAny_bind (wpAny_mono h₄ (fun x s₅ h₅=>wpAny_bind (wpAny_mono h₅ (fun _ s₆ h₆=>wpAny_pure (wpAny_pure ⟨rfl,h₆⟩)) fun _ _ h'=>h'.elim)) fun _ _ h'=>h'.elim))
end
def closeL (cells:List (Str×Addr)):List (Str×NameKind)→List (Str×Addr)→Option (List (Str×Addr))
 | [],acc=>some acc
 | (n,k)::r,acc=>if (k == .free)=true then (match cells.lookup n with | some c=>closeL cells r ((n,c)::acc) | none=>none) else closeL cells r acc
theorem zdw_ {env:Env}{f:Str×NameKind→List (Str×Addr)→Sem (ForInStep (List (Str×Addr)))}
  (hf:∀ n k cs,f (n,k) cs=if (k == NameKind.free)=true then (do let c ← cellOf env n; pure (ForInStep.yield ((n,c)::cs))) else pure (ForInStep.yield cs)) :
  ∀ (names:List (Str×NameKind)) (acc cl:List (Str×Addr)),closeL env.cells names acc=some cl→(forIn names acc f:Sem (List (Str×Addr)))=pure cl
 | [],acc,cl,h=>by cases h; rfl
 | (n,k)::r,acc,cl,h=>by
  rw [List.forIn_cons,hf]
  unfold closeL at h
  by_cases hk:(k == NameKind.free)=true
  ·rw [if_pos hk] at h
   rw [if_pos hk]
   cases hc:env.cells.lookup n with
   | none=>rw [hc] at h; cases h
   | some c =>
    rw [hc] at h
    have e:cellOf env n=pure c:=by unfold cellOf; rw [hc]
    rw [e]
    simp only [pure_bind]
    exact zdw_ hf r _ cl h
  ·rw [if_neg hk] at h
   rw [if_neg hk]
   simp only [pure_bind]
   exact zdw_ hf r _ cl h
theorem zgj_ {env:Env}{scope:Scope}{cl:List (Str×Addr)}(h:closeL env.cells scope.names []=some cl):closureFor scope env=pure cl:=by
 unfold closureFor
 dsimp only
 rw [zdw_ (env:=env) (fun n k cs=>rfl) scope.names [] cl h]
 rfl
theorem zcD_ {cells:List (Str×Addr)}:∀ (names:List (Str×NameKind)) (acc cl:List (Str×Addr)),closeL cells names acc=some cl→(∀ x c,acc.lookup x=some c→cells.lookup x=some c) →
  (∀ x c,cl.lookup x=some c→cells.lookup x=some c)
 | [],acc,cl,h,ha=>by cases h; exact ha
 | (n,k)::r,acc,cl,h,ha=>by
  unfold closeL at h
  by_cases hk:(k == NameKind.free)=true
  ·rw [if_pos hk] at h
   cases hc:cells.lookup n with
   | none=>rw [hc] at h; cases h
   | some c =>
    rw [hc] at h
    refine zcD_ r _ cl h fun x c' e=>?_
    rw [List.lookup_cons] at e
    cases hx:x == n with
    | true=>rw [hx] at e; cases e; rw [eq_of_beq hx]; exact hc
    | false=>rw [hx] at e; exact ha x c' e
  ·rw [if_neg hk] at h
   exact zcD_ r _ cl h ha
theorem zdt_ {cells:List (Str×Addr)}:∀ (names:List (Str×NameKind)) (acc cl:List (Str×Addr)),closeL cells names acc=some cl→∀ x,((x,NameKind.free)∈names∨∃ c,acc.lookup x=some c)→∃ c,cl.lookup x=some c
 | [],acc,cl,h,x,hx=>by
  cases h
  rcases hx with hx | hx
  ·cases hx
  ·exact hx
 | (n,k)::r,acc,cl,h,x,hx=>by
  unfold closeL at h
  by_cases hk:(k == NameKind.free)=true
  ·rw [if_pos hk] at h
   cases hc:cells.lookup n with
   | none=>rw [hc] at h; cases h
   | some c =>
    rw [hc] at h
    refine zdt_ r _ cl h x ?_
    rcases hx with hx | ⟨c',e⟩
    ·rcases List.mem_cons.mp hx with e | hx
     ·cases e; exact .inr ⟨c,by rw [List.lookup_cons,beq_self_eq_true]⟩
     ·exact .inl hx
    ·refine .inr ?_
     rw [List.lookup_cons]
     cases hxn:x == n with
     | true=>exact ⟨c,rfl⟩
     | false=>exact ⟨c',e⟩
  ·rw [if_neg hk] at h
   refine zdt_ r _ cl h x ?_
   rcases hx with hx | hx
   ·rcases List.mem_cons.mp hx with e | hx
    ·cases e; exact absurd rfl hk
    ·exact .inl hx
   ·exact .inr hx
theorem zeo_ {scope:Scope}{env:Env}{x:Str}{k:NameKind}(h:(relabel scope env).names.lookup x=some k) (hk:k=.cell∨k=.free) (hcell:∀ y∈scope.names,y.2≠.cell):(x,NameKind.free)∈scope.names:=by
 have m:=PySem.mem_of_lookup h
 obtain ⟨⟨n,k0⟩,hm,e⟩:=List.mem_map.mp m
 dsimp only at e
 split at e
 ·rename_i hc
  cases e
  have:k0=.free:=by
   simp only [Bool.and_eq_true,beq_iff_eq] at hc
   exact hc.1.1
  subst this; exact hm
 ·cases e
  rcases hk with rfl | rfl
  ·exact absurd rfl (hcell _ hm)
  ·exact hm
def cxComp (X:Cx) (scope:Scope) (cl:List (Str×Addr)) (C:Addr) (N:List Str) (fp:List Addr) (s2:Shared) (H2:Hp):Cx where
 prog:=X.prog
 w:=X.w
 K:=X.K
 mg:=X.mg
 base:=X.base
 A:=X.A
 N:=N
 s₀:=s2
 H₀:=H2
 env:=compEnvC scope cl C X.env
 outer:=X.stack
 stack:=X.stack
 ex:=fp
 fn:=fun _=>false
 calm:=X.calm
 pn:=[]
 xe:=fun _ _=>False
structure CScope (X:Cx) (scope:Scope) (cl:List (Str×Addr)) (lv:List Str) (fr:List (Str×Nat)):Prop where
 clos:closeL X.env.cells scope.names []=some cl
 cell:∀ y∈scope.names,y.2≠.cell
 kind:scope.kind=.function
 names:∀ z∈scope.names,z.2=.local→scope.names.lookup z.1=some .local
 fr:∀ q∈fr,X.N[q.2]?=some q.1∧(q.1,NameKind.free)∈scope.names∧(X.env.kindOf q.1=some .cell∨X.env.kindOf q.1=some .free) ∧
  ((relabel scope X.env).names.lookup q.1=some .cell∨(relabel scope X.env).names.lookup q.1=some .free)
def cN (lv:List Str) (fr:List (Str×Nat)):List Str:=lv++fr.map (·.1)
def cS (lv:List Str) (fr:List (Str×Nat)) (σ:St):St:=lv.map (fun _=>none)++fr.map fun q=>(σ[q.2]?).join
theorem zko_ {X:Cx}{pins:Pnn}{σ:St}{H2:Hp}{s2:Shared}{scope:Scope}{cl:List (Str×Addr)}{lv:List Str}{fr:List (Str×Nat)}{fp:List Addr}{h4:Heap}{tk:Nat}{m:Str→Option Value}{n:Nat}
  (I:Inv X pins σ H2 s2) (S:CScope X scope cl lv fr) (hf:∀ b∈fp,FpOk X pins H2 b) (hlt:∀ b∈fp,b<s2.heap.objs.size) (hC:h4.Ns (s2.heap.objs.size+1) m) (hD:h4.get? s2.heap.objs.size=some { cls:=.type "list",data:=.seq #[] n })
  (hk:∀ b o,s2.heap.get? b=some o→h4.get? b=some o) :
  Inv (cxComp X scope cl (s2.heap.objs.size+1) (cN lv fr) fp s2 H2) [] (cS lv fr σ) (upd H2 s2.heap.objs.size (.lst [])) { s2 with heap:=h4,toks:=tk }:=by
 have hcl:=zcD_ scope.names [] cl S.clos (fun x c e=>by cases e)
 have hhas:=zdt_ scope.names [] cl S.clos
 have hDn:H2 s2.heap.objs.size=none:=I.hok.fresh (Nat.le_refl _)
 have hCn:H2 (s2.heap.objs.size+1)=none:=I.hok.fresh (Nat.le_succ _)
 have hCD:s2.heap.objs.size+1≠s2.heap.objs.size:=Nat.ne_of_gt (Nat.lt_succ_self _)
 have fpC:∀ b∈fp,(b∈X.ex∨X.s₀.heap.objs.size≤b):=fun b hb=>(hf b hb).2.2.2.1
 have cellLt:∀ x c,cl.lookup x=some c→c<s2.heap.objs.size:=fun x c e=>by
  obtain ⟨v,o,ho,_⟩:=I.cell x c (hcl x c e)
  exact Heap.lt_size ho
 refine ⟨⟨I.ok.mod,S.kind,I.ok.glob,I.ok.blt,Nat.le_succ _,fun x y c h1 h2=>I.ok.inj x y c (hcl x c h1) (hcl y c h2),fun x hx=>?_,fun x c hfn=>(by cases hfn),I.ok.hd,I.ok.frames,.inl rfl,fun b hb=>?_,I.bs,Nat.le_trans I.ok.bsz I.sz,fun b o e hb=>?_,fun b hb z=>?_,I.stack,I.stkFree⟩,
  rfl,I.bare,?_,⟨m,hC,fun i x v h1 h2 h3=>?_⟩,fun x c e=>?_,?_,fun x c e=>?_,fun p hp=>absurd (show p∈([]:Pnn) from hp) (by simp),?_,?_⟩
 ·-- has
  have hx':(relabel scope X.env).names.lookup x=some .cell∨(relabel scope X.env).names.lookup x=some .free:=hx
  have hm:(x,NameKind.free)∈scope.names:=hx'.elim (fun z=>zeo_ z (.inl rfl) S.cell) fun z=>zeo_ z (.inr rfl) S.cell
  exact hhas x (.inl hm)
 ·-- exf
  obtain ⟨f0,f1,f2,f3,f4,f5⟩:=hf b hb
  refine ⟨fun z=>?_,fun x c e=>f4 x c (hcl x c e)⟩
  have z':b=s2.heap.objs.size+1:=z
  have:=hlt b hb
  rw [z'] at this
  exact absurd this (Nat.not_lt.mpr (Nat.le_succ _))
 ·rcases fpC b hb with z | z
  ·exact I.ok.noex b o e z
  ·exact absurd (Nat.lt_of_lt_of_le (Nat.lt_of_lt_of_le (Heap.lt_size e) I.ok.bsz) z) (Nat.lt_irrefl _)
 ·obtain ⟨f0,f1,f2,_⟩:=hf b hb
  rcases List.mem_cons.mp (I.stkSub b z) with q | q
  ·exact f1 q
  ·exact f2 q
 ·exact Un.laid hk (Nat.le_refl _) hDn
 ·-- loc
  have h1':(lv++fr.map (·.1))[i]?=some x:=h1
  have h2':(lv.map (fun _=>none)++fr.map fun q=>(σ[q.2]?).join:St)[i]?=some (some v):=h2
  by_cases hi:i<lv.length
  ·rw [List.getElem?_append_left (by simpa using hi),List.getElem?_map] at h2'
   cases hq:lv[i]? with
   | none=>rw [hq] at h2'; cases h2'
   | some z=>rw [hq] at h2'; cases h2'
  ·rw [List.getElem?_append_right (by simpa using hi),List.getElem?_map] at h2'
   rw [List.getElem?_append_right (by lia),List.getElem?_map] at h1'
   simp only [List.length_map] at h2'
   cases hq:fr[i-lv.length]? with
   | none=>rw [hq] at h1'; cases h1'
   | some q =>
    rw [hq] at h1' h2'
    have e1:q.1=x:=Option.some.inj h1'
    have e2:(σ[q.2]?).join=some v:=Option.some.inj h2'
    have e3:σ[q.2]?=some (some v):=by
     cases hz:σ[q.2]? with
     | none=>rw [hz] at e2; cases e2
     | some z=>rw [hz] at e2; exact congrArg some e2
    obtain ⟨g1,g2,g3,g4⟩:=S.fr q (List.mem_of_getElem? hq)
    obtain ⟨m0,hn0,hl0⟩:=I.loc
    have vis:Vis X.env.scope q.1:=by
     rcases g3 with g3 | g3
     ·exact .inr (.inl g3)
     ·exact .inr (.inr g3)
    obtain ⟨u,r,l⟩:=hl0 q.2 q.1 v g1 e3 vis
    refine ⟨u,r,.inr ⟨?_,?_⟩⟩
    ·rw [← e1]; exact g4
    ·rcases l with ⟨lk,_⟩ | ⟨_,c,ec,ic⟩
     ·rcases g3 with g3 | g3<;>(rw [lk] at g3; cases g3)
     ·obtain ⟨c',ec'⟩:=hhas q.1 (.inl g2)
      have:c'=c:=by
       have:=hcl q.1 c' ec'
       rw [ec] at this; exact (Option.some.inj this).symm
      subst this
      obtain ⟨o,ho,hd⟩:=ic
      exact ⟨c',by rw [← e1]; exact ec',o,hk _ _ ho,hd⟩
 ·obtain ⟨v,o,ho,hd⟩:=I.cell x c (hcl x c e)
  exact ⟨v,o,hk _ _ ho,hd⟩
 ·show upd H2 _ _ (s2.heap.objs.size+1)=none
  rw [zN_ hCD]; exact hCn
 ·have:=cellLt x c e
  rw [zN_ (Nat.ne_of_lt this)]
  exact I.freeC x c (hcl x c e)
 ·exact I.hok.laid hk (Nat.le_refl _) ⟨Nat.zero_le _,[],n,.nil,hD⟩
 ·show (cS lv fr σ).length=(cN lv fr).length
  simp [cS,cN]
end L2
namespace L2
open PySem PySem.Spec PyProof.Rows
def PIf (X:Cx) (ifs:List Expr) (t:TT):Prop :=
 ∀ (pins:Pnn) (s:Shared) (σ:St) (H:Hp) (Q:Bool→Hp→Prop),Inv X pins σ H s→t σ H Q →
  wpAny (model X.prog X.w) X.A (forIn ifs true fun c r=>if r=true then do let ok ← isTrue c X.env (eval c X.env); pure (ForInStep.yield ok) else pure (ForInStep.yield r)) (TP X pins σ Q) X.xe s
def tTrue:TT:=fun _ H Q=>Q true H
theorem zhP_ {X:Cx}:PIf X [] tTrue:=fun pins s σ H Q I h=>wpAny_tests_nil ⟨H,I,h⟩
theorem zhU_ {X:Cx}{c:Expr}{t:TT}(h:PT X c t):PIf X [c] t:=fun pins s σ H Q I hw=>wpAny_tests_one (h pins s σ H Q I hw)
def tCompR (J:It) (g:TG) (tt:TT) (te:TE) (σ0:St) (H1:Hp) (Q:VK):Prop :=
 ∀ D,H1 D=none→∃ W:Nat→Nat→List V→St→Hp→Prop,(∃ m,W 0 m [] σ0 (upd H1 D (.lst [])))∧∀ i m ys σ H,W i m ys σ H →
  (J.stop i H∧Q (.ref D) H)∨(J.go i H∧∃ N:List V→St→Hp→Prop,(∀ ys' σ' H',N ys' σ' H'→∃ m',m'<m∧W (i+1) m' ys' σ' H') ∧
   ∀ x H',J.yld i H x H'→g x σ H' fun σ2 H2=>tt σ2 H2 fun b H3=>if b=true then te σ2 H3 fun v H4=>H4 D=some (.lst ys)∧ys.length<sizeLine∧N (ys++[v]) σ2 (upd H4 D (.lst (ys++[v]))) else N ys σ2 H3)
section
variable {X:Cx}{scope:Scope}{cl:List (Str×Addr)}{lv:List Str}{fr:List (Str×Nat)}{elt tg iter:Expr}{ifs:List Expr}{pos:Pos}{g:TG}{tt:TT}{te:TE}
theorem zfv_ {pins:Pnn}{σ:St}{H2:Hp}{s2:Shared}{it:Addr}{fp:List Addr}{tn:Nat→Heap→Prop}{J:It}{Q:VK}{E:Value→Shared→Prop}{use:Option (Value→Sem Unit)}{Q':Value→Shared→Prop}
  (I:Inv X pins σ H2 s2) (S:CScope X scope cl lv fr) (T:Turn X.prog X.w X.K tg J fp it tn) (st:tn 0 s2.heap) (hf:∀ b∈fp,FpOk X pins H2 b) (hc:X.calm=true)
  (hg:∀ C fp s2 H2,PG (cxComp X scope cl C (cN lv fr) fp s2 H2) tg g) (ht:∀ C fp s2 H2,PIf (cxComp X scope cl C (cN lv fr) fp s2 H2) ifs tt) (he:∀ C fp s2 H2,PE (cxComp X scope cl C (cN lv fr) fp s2 H2) elt te)
  (hq:tCompR J g tt te (cS lv fr σ) H2 Q)
  (fin:∀ D C oC H' s',Inv X (pins++[(C,oC)]) σ H' s'→(∀ h:Heap,h.get? C=some oC→∃ m,h.Ns C m)→FpOk X pins H' C→Q (.ref D) H'→compPost (model X.prog X.w) X.A E use Q' (.ref D) C (.ok .next) s') :
  wpAny (model X.prog X.w) X.A (newList []) (fun acc s₃=>wpAny (model X.prog X.w) X.A (newFunctionEnv scope X.env.globals cl [] X.env.qual none .none (some X.env)) (fun cenv s₄ =>
   codeAny (model X.prog X.w) X.A (.compStart (.ListComp elt [⟨tg,iter,ifs,0⟩] scope pos) 0 (.ref it) acc { cenv with scope:=relabel scope X.env }) (compPost (model X.prog X.w) X.A E use Q' acc cenv.locals) s₄) E s₃) E s2:=by
 have hlt:∀ b∈fp,b<s2.heap.objs.size:=fun b hb=>by
  obtain ⟨o,ho,_⟩:=T.obj 0 _ st b hb
  exact Heap.lt_size ho
 refine wpAny_newList (wpAny_newFunctionEnv S.cell (by intro y hy; simp at hy) (fun h₁ hns₁ hsb₁=>?_) S.kind)
 dsimp only at hns₁ hsb₁ ⊢
 have hsz:(s2.heap.push { cls:=.type "list",data:=.seq ([]:List Value).toArray }).objs.size=s2.heap.objs.size+1:=Heap.size_push ..
 rw [hsz] at hns₁ hsb₁ ⊢
 have old:∀ b o,s2.heap.get? b=some o→h₁.get? b=some o:=fun b o e=>hsb₁.extBut b o (Nat.ne_of_lt (Nat.lt_succ_of_lt (Heap.lt_size e))) (Heap.get?_push_of_some _ (Heap.get?_push_of_some _ e))
 have hacc:h₁.get? s2.heap.objs.size=some { cls:=.type "list",data:=.seq #[] }:=hsb₁.extBut _ _ (Nat.ne_of_lt (Nat.lt_succ_self _)) (Heap.get?_push_of_some _ (Heap.get?_push_size _ rfl))
 have I4:Inv (cxComp X scope cl (s2.heap.objs.size+1) (cN lv fr) fp s2 H2) [] (cS lv fr σ) (upd H2 s2.heap.objs.size (.lst [])) { s2 with heap:=h₁,toks:=s2.toks+([]:List (Str×Value)).length } :=
  zko_ I S hf hlt hns₁ hacc old
 generalize hX':cxComp X scope cl (s2.heap.objs.size+1) (cN lv fr) fp s2 H2=X' at I4
 have eP:X'.prog=X.prog:=by rw [← hX']; rfl
 have ew:X'.w=X.w:=by rw [← hX']; rfl
 have eK:X'.K=X.K:=by rw [← hX']; rfl
 have eA:X'.A=X.A:=by rw [← hX']; rfl
 have ec:X'.calm=true:=by rw [← hX']; exact hc
 have ex:X'.xe=fun _ _=>False:=by rw [← hX']; rfl
 have een:X'.env=compEnvC scope cl (s2.heap.objs.size+1) X.env:=by rw [← hX']; rfl
 have hg':PG X' tg g:=hX' ▸ hg _ _ _ _
 have ht':PIf X' ifs tt:=hX' ▸ ht _ _ _ _
 have he':PE X' elt te:=hX' ▸ he _ _ _ _
 obtain ⟨W,⟨m0,w0⟩,turn⟩:=hq s2.heap.objs.size (I.hok.fresh (Nat.le_refl _))
 have st1:tn 0 h₁:=T.keep _ _ _ st fun b _ o e=>old b o e
 have f4:∀ b∈fp,FpOk X' [] (upd H2 s2.heap.objs.size (.lst [])) b:=fun b hb=>by
  obtain ⟨f0,f1,f2,f3,f4,f5⟩:=hf b hb
  have:=hlt b hb
  refine ⟨?_,?_,?_,.inl ?_,?_,?_⟩
  ·rw [zN_ (Nat.ne_of_lt this)]; exact f0
  ·rw [een]; exact Nat.ne_of_lt (Nat.lt_succ_of_lt this)
  ·intro z
   have z':b∈frs X.stack:=by rw [← hX'] at z; exact z
   rcases List.mem_cons.mp (I.stkSub b z') with q | q
   ·exact f1 q
   ·exact f2 q
  ·rw [← hX']; exact hb
  ·intro x c e
   rw [een] at e
   exact f4 x c (zcD_ scope.names [] cl S.clos (fun x c e=>by cases e) x c e)
  ·intro p hp
   rw [← hX'] at hp
   exact absurd (show p∈([]:Pnn) from hp) (by simp)
 have stat:∀ {H':Hp},(∀ b∈fp,H' b=none)→∀ b∈fp,FpOk X' [] H' b:=fun hn b hb=>⟨hn b hb,(f4 b hb).2⟩
 have loop:∀ s₃:Shared,s₃={ s2 with heap:=h₁,toks:=s2.toks+([]:List (Str×Value)).length } →
   codeAny (model X.prog X.w) X.A (.compLoop (.ListComp elt [⟨tg,iter,ifs,0⟩] scope pos) 0 (.ref it) (.ref s2.heap.objs.size) (compEnvC scope cl (s2.heap.objs.size+1) X.env))
    (compPost (model X.prog X.w) X.A E use Q' (.ref s2.heap.objs.size) (s2.heap.objs.size+1)) s₃:=by
  rintro s₃ rfl
  refine zgU_ (fun n s'=>∃ i ys σ' H',Inv X' [] σ' H' s'∧tn i s'.heap∧(∀ b∈fp,H' b=none)∧W i n ys σ' H') ?_ m0 ⟨0,[],_,_,I4,st1,fun b hb=>(f4 b hb).1,w0⟩
  rintro n s3 ⟨i,ys,σ3,H3,I3,st3,fr3,w3⟩
  rcases turn i n ys σ3 H3 w3 with ⟨stop,qn⟩ | ⟨go,N,hN,step⟩
  ·have a0:=T.done X' eP ew eK ec i [] s3 σ3 H3 (fun _ _=>False) I3 (stat fr3) st3 stop
   rw [eA] at a0
   refine thn a0 fun r s4 hq_=>?_
   obtain ⟨hr,I4'⟩:=hq_
   subst hr
   have un:Un (frs X.stack) fp H2 H3 s2.heap s4.heap:=by
    have:=I4'.base
    rw [← hX'] at this
    exact this
   have os:s4.os=s2.os:=by
    have:=I4'.os
    rw [← hX'] at this
    exact this
   have hok:HOk X.prog X.w H3 s4.heap:=by
    have:=I4'.hok
    rw [← hX'] at this
    exact this
   have J1:Inv X pins σ H3 s4:=I.call' os un hok I4'.bare fun b hb=>by
    obtain ⟨f0,f1,f2,f3,f4,f5⟩:=hf b hb
    exact ⟨f3,f1,f4,f5⟩
   obtain ⟨m,hn,_⟩:=I4'.loc
   have hn':s4.heap.Ns (s2.heap.objs.size+1) m:=by rw [een] at hn; exact hn
   have hCn:H3 (s2.heap.objs.size+1)=none:=by
    have:=I4'.free
    rw [een] at this; exact this
   have fC:FpOk X pins H3 (s2.heap.objs.size+1):=I.fpOk (Nat.le_succ _) hCn
   obtain ⟨oC,es,ep,hoC,hdC,rC⟩:=id hn'
   have J2:Inv X (pins++[(s2.heap.objs.size+1,oC)]) σ H3 s4:=J1.pins_of fun p hp=>by
    rcases List.mem_append.mp hp with hp | hp
    ·exact J1.pin p (List.mem_append_right _ hp)
    ·have e:p=(s2.heap.objs.size+1,oC):=by simpa using hp
     subst e
     exact ⟨hoC,hCn,fC.2.1,fC.2.2.1,fun v z=>by rw [hdC] at z; cases z⟩
   exact fin _ _ oC H3 s4 J2 (fun h e=>⟨m,oC,es,ep,e,hdC,rC⟩) fC qn
  ·have a0:=T.item X' eP ew eK ec i [] s3 σ3 H3 (fun _ _=>False) I3 (stat fr3) st3 go
   rw [eA] at a0
   refine thn a0 fun r s4 hq_=>?_
   obtain ⟨u,hr,h4⟩:=hq_
   subst hr
   refine thn h4 fun _ s5 hq_=>?_
   obtain ⟨x,H5,I5,r5,y5,st5,fr5⟩:=hq_
   have I5':=I5.pinned (stat fr5) (T.obj _ _ st5)
   have a1:=hg' _ s5 σ3 H5 x u _ I5' r5 (step x H5 y5)
   rw [eP,ew,eA,een,ex] at a1
   refine thn a1 fun _ s6 hq_=>?_
   obtain ⟨σ6,H6,I6,q6⟩:=hq_
   have a2:=ht' _ s6 σ6 H6 _ I6 q6
   rw [eP,ew,eA,een,ex] at a2
   refine thn a2 fun ok s7 hq_=>?_
   obtain ⟨H7,I7,q7⟩:=hq_
   have again:∀ {ys7:List V}{H7:Hp}{s7:Shared},Inv X' ([]++pinsAt fp s5.heap) σ6 H7 s7→N ys7 σ6 H7→∃ m,m<n∧∃ i ys σ' H',Inv X' [] σ' H' s7∧tn i s7.heap∧(∀ b∈fp,H' b=none)∧W i m ys σ' H':=fun {ys7 H7 s7} I7 n7=>by
    obtain ⟨m',hm,w7⟩:=hN ys7 σ6 H7 n7
    refine ⟨m',hm,i+1,ys7,σ6,H7,I7.unpinned,T.keep _ _ _ st5 fun b hb o e=>(I7.pin (b,o) (List.mem_append_right _ (List.mem_append_right _ (zcG_ hb e)))).1,fun b hb=>?_,w7⟩
    obtain ⟨o,e,d⟩:=T.obj _ _ st5 b hb
    exact (I7.pin (b,o) (List.mem_append_right _ (List.mem_append_right _ (zcG_ hb e)))).2.1
   cases ok with
   | false=>exact again I7 q7
   | true =>
    have a3:=he' _ s7 σ6 H7 _ I7 q7
    rw [eP,ew,eA,een,ex] at a3
    refine thn a3 fun y s8 hq_=>?_
    obtain ⟨v,H8,I8,r8,hD8,hl8,n8⟩:=hq_
    have a4:=zal_ (X:=X') _ s8 σ6 H8 (.ref s2.heap.objs.size) [v] (.ref s2.heap.objs.size) [y] (fun _ H9=>N (ys++[v]) σ6 H9) I8 rfl (.cons r8 .nil) ⟨_,_,_,rfl,rfl,hD8,hl8,n8⟩
    rw [eP,ew,eA,ex] at a4
    refine thn a4 fun _ s9 hq_=>?_
    obtain ⟨v9,H9,I9,_,n9⟩:=hq_
    exact again I9 n9
 exact codeAny_compStart_list (loop _ rfl) (T.self _ 0 _ _ _ st1 (loop _ rfl))
def tComp (lv:List Str) (fr:List (Str×Nat)) (wi:TI) (g:TG) (tt:TT) (te:TE):TE:=fun σ H Q=>wi σ H fun J H1=>tCompR J g tt te (cS lv fr σ) H1 Q
theorem zg6_ {wi:TI}(hc:X.calm=true) (S:CScope X scope cl lv fr) (hi:PI X tg iter wi)
  (hg:∀ C fp s2 H2,PG (cxComp X scope cl C (cN lv fr) fp s2 H2) tg g) (ht:∀ C fp s2 H2,PIf (cxComp X scope cl C (cN lv fr) fp s2 H2) ifs tt) (he:∀ C fp s2 H2,PE (cxComp X scope cl C (cN lv fr) fp s2 H2) elt te)
  (hs:∀ x,foldedSetIterable iter X.env x=pure x:=by intro _; rfl):PE X (.ListComp elt [⟨tg,iter,ifs,0⟩] scope pos) (tComp lv fr wi g tt te):=by
 intro pins s σ H Q I h
 rw [eval_ListComp]
 refine wpAny_comprehension_free (use:=none) rfl hs (zgj_ S.clos) S.kind S.names ?_
 refine thn (hi pins s σ H _ I h) fun v s1 h1=>thn h1 fun itv s2 h2=>?_
 obtain ⟨it,fp,tn,J,H2,e,I2,T,st2,f2,q⟩:=h2
 subst e
 refine zfv_ I2 S T st2 f2 hc hg ht he q fun D C oC H' s' J1 hNs fC qD=>?_
 have hp:=J1.pin (C,oC) (List.mem_append_right _ (List.mem_append_right _ (List.mem_singleton.mpr rfl)))
 obtain ⟨m,hm⟩:=hNs s'.heap hp.1
 refine ⟨m,hm,fun h' hs'=>?_⟩
 exact ⟨.ref D,H',J1.unpinned.turned (t':=s'.toks) (fun b o hb e=>(hs'.2 b hb).trans e) fC.1 fC.2.1 fC.2.2.2.1 fC.2.2.2.2.1 fC.2.2.2.2.2,rfl,qD⟩
theorem zdv_ {wi:TI}{j:Nat}{y:Str}{py spos:Pos}(hc:X.calm=true) (S:CScope X scope cl lv fr) (hi:PI X tg iter wi)
  (hg:∀ C fp s2 H2,PG (cxComp X scope cl C (cN lv fr) fp s2 H2) tg g) (ht:∀ C fp s2 H2,PIf (cxComp X scope cl C (cN lv fr) fp s2 H2) ifs tt) (he:∀ C fp s2 H2,PE (cxComp X scope cl C (cN lv fr) fp s2 H2) elt te)
  (hy:PG X (.Name y py) (gName j))
  (hsw:swapsWith (.ListComp elt [⟨tg,iter,ifs,0⟩] scope pos) (some (.Name y py)) spos.line X.env=pure true:=by rfl)
  (hs:∀ x,foldedSetIterable iter X.env x=pure x:=by intro _; rfl):PS X (.Assign [.Name y py] (.ListComp elt [⟨tg,iter,ifs,0⟩] scope pos) spos) (tAsg (tComp lv fr wi g tt te) (gName j)):=by
 intro pins s σ H D I h
 rw [exec_Assign_Name_used _ _ _ _ hsw]
 refine wpAny_bind (wpAny_standAt (wpAny_bind ?_))
 show wpAny _ X.A (do let _ ← comprehension (.ListComp elt [⟨tg,iter,ifs,0⟩] scope pos) scope X.env _ (newList []) false (eval iter X.env) (some (assign (.Name y py) X.env))) _ _ s
 refine wpAny_bind (wpAny_mono (wpAny_comprehension_free (use:=some (assign (.Name y py) X.env)) (Q:=fun _ s'=>SP X pins D .next s') rfl hs (zgj_ S.clos) S.kind S.names ?_) (fun _ s' hq=>wpAny_pure (wpAny_pure hq)) fun _ _ e=>e)
 refine thn (hi pins s σ H _ I h) fun v s1 h1=>thn h1 fun itv s2 h2=>?_
 obtain ⟨it,fp,tn,J,H2,e,I2,T,st2,f2,q⟩:=h2
 subst e
 refine zfv_ I2 S T st2 f2 hc hg ht he q fun D' C oC H' s' J1 hNs fC qD=>?_
 show wpAny _ X.A (assign (.Name y py) X.env (.ref D')) _ _ _
 refine thn (hy _ s' σ H' (.ref D') (.ref D') _ J1 rfl qD) fun _ s3 hq_=>?_
 obtain ⟨σ3,H3,I3,q3⟩:=hq_
 have hp:=I3.pin (C,oC) (List.mem_append_right _ (List.mem_append_right _ (List.mem_singleton.mpr rfl)))
 obtain ⟨m,hm⟩:=hNs s3.heap hp.1
 refine ⟨m,hm,fun h' hs'=>?_⟩
 have fC':FpOk X pins H3 C:=⟨hp.2.1,fC.2⟩
 exact ⟨σ3,H3,I3.unpinned.turned (t':=s3.toks) (fun b o hb e=>(hs'.2 b hb).trans e) fC'.1 fC'.2.1 fC'.2.2.2.1 fC'.2.2.2.2.1 fC'.2.2.2.2.2,q3⟩
end
end L2
namespace L2
open PySem PySem.Spec PyProof.Rows
abbrev tx (l:List Nat):V:=.str ⟨l.toArray⟩
def br (b:Bool) (A B:Prop):Prop:=(b=true→A)∧(b=false→B)
theorem zk4_ (a b:Str):a++b=⟨(a.cps.toList++b.cps.toList).toArray⟩:=by
 cases a; cases b
 show Str.mk (_++_)=_
 simp
theorem zbS_ (a:Str):a=⟨a.cps.toList.toArray⟩:=by cases a; simp
def cutL (l:List Nat) (lo hi:Option Int):List Nat:=(l.drop (HT.sIx l.length 0 lo)).take (HT.sIx l.length l.length hi-HT.sIx l.length 0 lo)
theorem zdz_ (lo hi:Option Int) (n:Nat):Builtin.Str.strSliceIndices lo hi 1 n=sliceRange ((HT.sIx n 0 lo:Nat):Int) ((HT.sIx n n hi:Nat):Int) 1:=by
 unfold Builtin.Str.strSliceIndices
 simp only [show (1:Int) > 0 by decide,if_true]
 congr 1
 ·cases lo with
  | none=>simp [HT.sIx]
  | some i =>
   simp only [HT.sIx]
   by_cases h:i<0
   ·simp only [h,if_true]<;>lia
   ·simp only [h,if_false]<;>lia
 ·cases hi with
  | none=>simp [HT.sIx]
  | some i =>
   simp only [HT.sIx]
   by_cases h:i<0
   ·simp only [h,if_true]<;>lia
   ·simp only [h,if_false]<;>lia
theorem zik_ (x:Str) (lo hi:Option Int):(Builtin.Str.strSliceIndices lo hi 1 x.length).filterMap (x.cps[·]?)=cutL x.cps.toList lo hi:=by
 rw [zdz_,sliceRange_one,pick_run]
 unfold cutL Str.length
 simp only [Array.length_toList]
theorem zey_ (l:List Nat) (lo hi:Option Int):(cutL l lo hi).length≤l.length:=by
 unfold cutL
 rw [List.length_take,List.length_drop]
 lia
theorem ziq_ {l:List Nat}{lo hi:Option Int}(h:(cutL l lo hi).length=l.length):cutL l lo hi=l:=by
 unfold cutL at h ⊢
 rw [List.length_take,List.length_drop] at h
 have h1:HT.sIx l.length l.length hi≤l.length:=HT.sIx_le _ _ (Nat.le_refl _) _
 by_cases hl:l.length=0
 ·have:l=[]:=List.length_eq_zero_iff.mp hl
  subst this
  simp
 ·have h2:HT.sIx l.length 0 lo=0:=by lia
  rw [h2,List.drop_zero,List.take_of_length_le]
  lia
section
variable {X:Cx}
def rSlS:V→Option Int→Option Int→Hp→VK→Prop:=fun x lo hi H Q=>match x with | .str z=>z.length≤sizeLine∧Q (tx (cutL z.cps.toList lo hi)) H | _=>False
theorem zds_ {v:Value}{o:Option Int}(p:IsPart v o):∃ l:Option (Int×Tok),v=partValue l∧l.map (·.1)=o:=by
 cases p with
 | none=>exact ⟨none,rfl,rfl⟩
 | int i t=>exact ⟨some (i,t),rfl,rfl⟩
theorem zmQ_:SlR X rSlS:=by
 intro pins s σ H x v vl vu lo hi sl Q I rx hs pl pu h
 cases x with
 | str z =>
  obtain ⟨hz,q⟩:=h
  obtain ⟨t,rfl⟩:=rx
  obtain ⟨l,rfl,rfl⟩:=zds_ pl
  obtain ⟨u,rfl,rfl⟩:=zds_ pu
  refine ⟨"str",_,F.slot_str_getitem.lookup,typeIs_str _ _ _,?_⟩
  refine wpAny_getItem_str_slice (l:=l) (u:=u) (st:=none) hs rfl ?_
  unfold sliceMade
  have e:slicePicked z l u none=Builtin.Str.strSliceIndices (l.map (·.1)) (u.map (·.1)) 1 z.length:=rfl
  rw [e]
  have hlen:(Builtin.Str.strSliceIndices (l.map (·.1)) (u.map (·.1)) 1 z.length).length=(cutL z.cps.toList (l.map (·.1)) (u.map (·.1))).length:=by
   rw [zdz_,sliceRange_one,List.length_map,List.length_range]
   unfold cutL
   rw [List.length_take,List.length_drop]
   have h1:HT.sIx z.length z.length (u.map (·.1))≤z.length:=HT.sIx_le _ _ (Nat.le_refl _) _
   have h2:z.cps.toList.length=z.length:=by simp [Str.length]
   rw [h2]
   lia
  split
  ·rename_i hc
   have hc':(cutL z.cps.toList (l.map (·.1)) (u.map (·.1))).length=z.cps.toList.length:=by
    rw [← hlen]
    simpa [Str.length] using hc
   rw [ziq_ hc'] at q
   have q':Q (.str z) H:=by rw [zbS_ z]; exact q
   exact ⟨.str z,H,I,⟨_,rfl⟩,q'⟩
  ·rw [zik_]
   have h3:=zey_ z.cps.toList (l.map (·.1)) (u.map (·.1))
   have h2:z.cps.toList.length=z.length:=by simp [Str.length]
   refine ⟨?_,tx (cutL z.cps.toList (l.map (·.1)) (u.map (·.1))),H,I.tok _,⟨_,rfl⟩,q⟩
   show (cutL z.cps.toList (l.map (·.1)) (u.map (·.1))).toArray.size≤sizeLine
   rw [List.size_toArray]
   exact Nat.le_trans h3 (by rw [h2]; exact hz)
 | _=>exact h.elim
end
end L2
namespace L2
open PySem PySem.Spec PyProof.Rows
def mVar (i:Nat):TE:=fun σ H Q=>match σ[i]? with | some (some v)=>Q v H | _=>False
section
variable {X:Cx}{a b c:Expr}{ta tb tc:TE}{pos:Pos}
theorem za_ (i:Nat) {x:Str}{pos:Pos}(hN:X.N[i]?=some x:=by rfl) (hv:Vis X.env.scope x:=by first | exact Or.inl rfl | exact Or.inr (Or.inl rfl) | exact Or.inr (Or.inr rfl)) (hd:(x == ("__debug__" : Str))=false:=by decide)
  (hcd:(x == ("__classdict__" : Str))=false:=by decide):PE X (.Name x pos) (mVar i):=by
 intro pins s σ H Q I h
 unfold mVar at h
 cases e:σ[i]? with
 | none=>rw [e] at h; exact h.elim
 | some o =>
  rw [e] at h
  cases o with
  | none=>exact h.elim
  | some v=>exact zmD_ hN hv hd hcd pins s σ H Q I ⟨v,e,h⟩
theorem zaA_ {x:Str}{l:List Nat}{j pos} (h:x=⟨l.toArray⟩:=by rfl):PE X (.Constant (.str x) j pos) (tC (tx l)):=h ▸ zmM_
def mAdd:R2:=fun x y H Q=>match x,y with
 | .int i,.int j=>Q (.int (i+j)) H
 | .str a,.str b=>a.cps.toList.length+b.cps.toList.length≤sizeLine∧Q (tx (a.cps.toList++b.cps.toList)) H
 | .ref a,.ref b=>∃ xs zs,H a=some (.lst xs)∧H b=some (.lst zs)∧xs.length+zs.length≤sizeLine∧∀ p,H p=none→Q (.ref p) (upd H p (.lst (xs++zs)))
 | _,_=>False
theorem zcf_:OpR X (binaryOp .Add) mAdd:=by
 intro pins s σ H x y v u Q I rx ry h
 cases x<;>cases y<;>first
  | exact h.elim
  | exact zmP_ pins s σ H _ _ v u Q I rx ry ⟨_,_,rfl,rfl,h⟩
  | exact zhj_ pins s σ H _ _ v u Q I rx ry ⟨_,_,rfl,rfl,by simpa [Str.length] using h.1,by rw [zk4_]; exact h.2⟩
  | (obtain ⟨xs,zs,h1,h2,h3,h4⟩:=h; exact zmw_ pins s σ H _ _ v u Q I rx ry ⟨_,_,xs,zs,rfl,rfl,h1,h2,h3,h4⟩)
def mI (C:Int→Int→Prop) (g:Int→Int→V):R2:=fun x y H Q=>match x,y with | .int i,.int j=>C i j∧Q (g i j) H | _,_=>False
def mI0 (g:Int→Int→V):R2:=fun x y H Q=>match x,y with | .int i,.int j=>Q (g i j) H | _,_=>False
theorem opM {f:Value→Value→Sem Value}{C:Int→Int→Prop}{g:Int→Int→V}(h:OpR X f (rI C g)):OpR X f (mI C g):=by
 intro pins s σ H x y v u Q I rx ry q
 cases x<;>cases y<;>first | exact q.elim | exact h pins s σ H _ _ v u Q I rx ry ⟨_,_,rfl,rfl,q.1,q.2⟩
theorem opM0 {f:Value→Value→Sem Value}{g:Int→Int→V}(h:OpR X f (rI0 g)):OpR X f (mI0 g):=by
 intro pins s σ H x y v u Q I rx ry q
 cases x<;>cases y<;>first | exact q.elim | exact h pins s σ H _ _ v u Q I rx ry ⟨_,_,rfl,rfl,q⟩
abbrev mSub:R2:=mI0 fun i j=>.int (i-j)
abbrev mMod:R2:=mI (fun _ j=>0<j) fun i j=>.int (i % j)
theorem ze6_:OpR X (binaryOp .Sub) mSub:=opM0 zmA_
theorem zbN_:OpR X (binaryOp .Mod) mMod:=opM zmk_
def mEqB (x y:V):Option Bool:=match x,y with
 | .int i,.int j=>some (decide (i=j))
 | .str a,.str b=>some (decide (a.cps.toList=b.cps.toList))
 | .bl a,.bl b=>some (decide (a=b))
 | .non,.non=>some true
 | .non,.int _=>some false | .int _,.non=>some false | .non,.bl _=>some false | .bl _,.non=>some false | .non,.str _=>some false | .str _,.non=>some false
 | .int _,.str _=>some false | .str _,.int _=>some false | .bl _,.str _=>some false | .str _,.bl _=>some false
 | _,_=>none
theorem zhX_ {x y:V}{b:Bool}(h:mEqB x y=some b):scal x y=true∧decide (x=y)=b:=by
 cases x<;>cases y<;>first
  | (cases (show (none:Option Bool)=some b from h); done)
  | (refine ⟨rfl,?_⟩; have h':=Option.some.inj h; rw [← h']; first | rfl | (simp; done))
  | (rename_i a b'
     refine ⟨rfl,?_⟩
     have h':=Option.some.inj h
     rw [← h',decide_eq_decide]
     constructor
     ·intro e; cases e; rfl
     ·intro e; rw [zbS_ a,zbS_ b',e])
def mEq:R2:=fun x y H Q=>match mEqB x y with | some b=>Q (.bl b) H | none=>False
def mNe:R2:=fun x y H Q=>match mEqB x y with | some b=>Q (.bl (!b)) H | none=>False
theorem zmV_:OpR X (compareOp .Eq) mEq:=by
 intro pins s σ H x y v u Q I rx ry h
 unfold mEq at h
 cases e:mEqB x y with
 | none=>rw [e] at h; exact h.elim
 | some b =>
  rw [e] at h
  obtain ⟨h1,h2⟩:=zhX_ e
  exact op_eq pins s σ H x y v u Q I rx ry ⟨h1,by rw [h2]; exact h⟩
theorem zm4_:OpR X (compareOp .NotEq) mNe:=by
 intro pins s σ H x y v u Q I rx ry h
 unfold mNe at h
 cases e:mEqB x y with
 | none=>rw [e] at h; exact h.elim
 | some b =>
  rw [e] at h
  obtain ⟨h1,h2⟩:=zhX_ e
  exact op_ne pins s σ H x y v u Q I rx ry ⟨h1,by rw [h2]; exact h⟩
abbrev mLt:R2:=mI0 fun i j=>.bl (decide (i<j))
abbrev mGt:R2:=mI0 fun i j=>.bl (decide (j<i))
theorem zmG_:OpR X (compareOp .Lt) mLt:=opM0 op_lt
theorem zne_:OpR X (compareOp .Gt) mGt:=opM0 op_gt
def mIsB (x y:V):Option Bool:=match y with
 | .non=>some (decide (x=.non))
 | .bl b=>(match x with | .bl a=>some (decide (a=b)) | _=>none)
 | _=>none
def mIs:R2:=fun x y H Q=>match mIsB x y with | some b=>Q (.bl b) H | none=>False
def mIsNot:R2:=fun x y H Q=>match mIsB x y with | some b=>Q (.bl (!b)) H | none=>False
theorem zgP_ {M:Model}{A:Around}{E:Value→Shared→Prop}{s:Shared}{a b:Bool}{Q:Value→Shared→Prop}(h:Q (.bool (!decide (a=b))) s):wpAny M A (compareOp .IsNot (.bool a) (.bool b)) Q E s:=by
 cases a<;>cases b<;>exact wpAny_pure h
theorem zdn_:OpR X (compareOp .IsNot) mIsNot:=by
 intro pins s σ H x y v u Q I rx ry h
 unfold mIsNot mIsB at h
 cases y with
 | non=>exact zl9_ pins s σ H x _ v u Q I rx ry ⟨rfl,h⟩
 | bl b =>
  cases x with
  | bl a=>cases rx; cases ry; exact zgP_ ⟨.bl _,H,I,rfl,h⟩
  | _=>exact h.elim
 | _=>exact h.elim
def inS (l:List Nat) (t:List Nat):Bool:=match l with | [c]=>decide (c∈t) | _=>!(Builtin.Str.occurrences ⟨t.toArray⟩ ⟨l.toArray⟩ 0 t.length 1).isEmpty
theorem zlS_ (a b:Str):(!(Builtin.Str.occurrences b a 0 b.length 1).isEmpty)=inS a.cps.toList b.cps.toList:=by
 have e:b.length=b.cps.toList.length:=by simp [Str.length]
 unfold inS
 split
 ·rename_i c hc
  have ea:a=⟨#[c]⟩:=by rw [zbS_ a,hc]
  rw [ea]
  exact StrLaws.found_one b c
 ·rw [← zbS_,← zbS_,e]
def mIn (K:Fgg) (neg:Bool):R2:=fun x y H Q=>match y with
 | .str b=>(match x with | .str a=>Q (.bl (if neg then !inS a.cps.toList b.cps.toList else inS a.cps.toList b.cps.toList)) H | _=>False)
 | .ref p=>∃ xs,(SqL K H p xs∨SqT K H p xs)∧flatV x=true∧xs.all flatV=true∧Q (.bl (if neg then !inV x xs else inV x xs)) H
 | _=>False
theorem zmL_:OpR X (compareOp .In) (mIn X.K false):=by
 intro pins s σ H x y v u Q I rx ry h
 unfold mIn at h
 cases y with
 | str b =>
  cases x with
  | str a=>exact ziH_ pins s σ H _ _ v u Q I rx ry ⟨_,_,rfl,rfl,by rw [zlS_]; exact h⟩
  | _=>exact h.elim
 | ref p =>
  obtain ⟨xs,h1,h2,h3,h4⟩:=h
  exact zi5_ pins s σ H _ _ v u Q I rx ry ⟨_,xs,rfl,h1,h2,h3,h4⟩
 | _=>exact h.elim
def mTest (t:TE):TT:=fun σ H Q=>t σ H fun x H'=>match x with | .bl k=>Q k H' | _=>False
def mAndV (ta tb:TE):TE:=fun σ H Q=>ta σ H fun x H1=>match x with | .bl c=>br c (tb σ H1 Q) (Q (.bl false) H1) | _=>False
def mAnd (t u:TT):TT:=fun σ H Q=>t σ H fun c H1=>br c (u σ H1 Q) (Q false H1)
def mOr (t u:TT):TT:=fun σ H Q=>t σ H fun c H1=>br c (Q true H1) (u σ H1 Q)
variable {rest:List Expr}{tA tB':TT}
theorem zfc_ (ha:PE X a ta) (hb:PE X (.BoolOp .And (b::rest) pos) tb):PE X (.BoolOp .And (a::b::rest) pos) (mAndV ta tb):=by
 intro pins s σ H Q I h
 refine BoolOp_and (thn (ha pins s σ H _ I h) fun v s1 hq_=>?_)
 obtain ⟨x,H1,I1,r1,q1⟩:=hq_
 cases x with
 | bl c =>
  cases r1
  refine wpAny_truthy_bool ?_
  cases c with
  | true=>exact hb pins s1 σ H1 Q I1 (q1.1 rfl)
  | false=>exact ⟨.bl false,H1,I1,rfl,q1.2 rfl⟩
 | _=>exact q1.elim
theorem zk6_ (ha:PT X a tA) (hb:PW X (.BoolOp .And (b::rest) pos) tB'):PW X (.BoolOp .And (a::b::rest) pos) (mAnd tA tB'):=by
 intro wh pins s σ H Q I h
 refine isTrue_and (thn (ha pins s σ H _ I h) fun c s1 hq_=>?_)
 obtain ⟨H1,I1,q1⟩:=hq_
 cases c with
 | true=>exact hb wh pins s1 σ H1 Q I1 (q1.1 rfl)
 | false=>exact ⟨H1,I1,q1.2 rfl⟩
theorem zd9_ (ha:PT X a tA) (hb:PW X (.BoolOp .Or (b::rest) pos) tB'):PW X (.BoolOp .Or (a::b::rest) pos) (mOr tA tB'):=by
 intro wh pins s σ H Q I h
 refine isTrue_or (thn (ha pins s σ H _ I h) fun c s1 hq_=>?_)
 obtain ⟨H1,I1,q1⟩:=hq_
 cases c with
 | true=>exact ⟨H1,I1,q1.1 rfl⟩
 | false=>exact hb wh pins s1 σ H1 Q I1 (q1.2 rfl)
theorem zan_ {e:Expr}{t:TE}(h:PE X e t) (he:∀ whole,isTrue e X.env whole=(do let v ← whole; standAt e.pos; holding [v] (truthy v)):=by intro _; rfl):PT X e (mTest t):=by
 intro pins s σ H Q I hw
 refine isTrue_plain (thn (h pins s σ H _ I hw) fun v s1 hq_=>?_) (he _)
 obtain ⟨x,H1,I1,r1,q1⟩:=hq_
 cases x with
 | bl c=>cases r1; exact wpAny_truthy_bool ⟨H1,I1,q1⟩
 | _=>exact q1.elim
theorem zU_ {op:CmpOp}{r:R2}(ho:OpR X (compareOp op) r) (ha:PE X a ta) (hb:PE X b tb) (hm:behindInMarks op b=false:=by first | exact nobehind _ (by decide) (by decide) | rfl):PT X (.Compare a [op] [b] pos) (mTest (tOp r ta tb)):=by
 intro pins s σ H Q I hw
 refine wpAny_isTrue_Compare1 (binT ha hb I hw fun v u s2 x y H2 I2 rx ry q=>?_) hm
 refine thn (ho pins s2 σ H2 x y v u _ I2 rx ry q) fun c s3 hq_=>?_
 obtain ⟨z,H3,I3,r3,q3⟩:=hq_
 cases z with
 | bl k=>cases r3; exact wpAny_truthy_bool ⟨H3,I3,q3⟩
 | _=>exact q3.elim
theorem zf9_ {op:CmpOp}{r:R2}(ho:OpR X (compareOp op) r) (ha:PE X a ta) (hb:PE X b tb) (hm:behindInMarks op b=false:=by first | exact nobehind _ (by decide) (by decide) | rfl):PE X (.Compare a [op] [b] pos) (tOp r ta tb):=zma_ ho ha hb hm
def mIf (t:TT) (ta tb:TE):TE:=fun σ H Q=>t σ H fun c H1=>br c (ta σ H1 Q) (tb σ H1 Q)
theorem zmh_ {c:Expr}(hc:PT X c tA) (ha:PE X a ta) (hb:PE X b tb):PE X (.IfExp c a b pos) (mIf tA ta tb):=by
 intro pins s σ H Q I h
 refine wpAny_IfExp (thn (hc pins s σ H _ I h) fun d s1 hq_=>?_)
 obtain ⟨H1,I1,q1⟩:=hq_
 cases d with
 | true=>exact ha pins s1 σ H1 Q I1 (q1.1 rfl)
 | false=>exact hb pins s1 σ H1 Q I1 (q1.2 rfl)
def mIfS (c:TT) (t u:TS):TS:=fun D σ H=>c σ H fun b H1=>br b (t D σ H1) (u D σ H1)
theorem zak_ {c:Expr}{a b:List Stmt}{tc:TT}{t u:TS}(hc:PT X c tc) (ha:PSs X a t) (hb:PSs X b u):PS X (.If c a b pos) (mIfS tc t u):=by
 intro pins s σ H D I h
 refine wpAny_If (thn (hc pins s σ H _ I h) fun d s1 hq_=>?_)
 obtain ⟨H1,I1,q1⟩:=hq_
 cases d with
 | true=>exact ha pins s1 σ H1 D I1 (q1.1 rfl)
 | false=>exact hb pins s1 σ H1 D I1 (q1.2 rfl)
end
end L2
namespace L2
open PySem PySem.Spec PyProof.Rows
section
variable {X:Cx}{a b c e o:Expr}{es:List Expr}{ta tb tc:TE}{t:TA}{pos:Pos}
def mIx (K:Fgg):R2:=fun x y H Q=>match y with
 | .int i=>(match x with
  | .ref p=>∃ xs,(SqL K H p xs∨SqT K H p xs)∧(match atI xs i with | some v=>Q v H | none=>False)
  | .str z=>z.cps.toList.length≤sizeLine∧(match atI z.cps.toList i with | some c=>Q (tx [c]) H | none=>False)
  | _=>False)
 | _=>False
theorem ix_M:IxR X (mIx X.K):=by
 intro value slice pins s σ H x y v u Q I rx ry h hs0
 unfold mIx at h
 cases y with
 | int i =>
  cases x with
  | ref p =>
   obtain ⟨xs,hs,h⟩:=h
   cases ev:atI xs i with
   | none=>rw [ev] at h; exact h.elim
   | some w' =>
    rw [ev] at h
    rcases hs with hs | hs
    ·exact zl3_ value slice pins s σ H _ _ v u Q I rx ry ⟨p,xs,i,w',rfl,rfl,hs,ev,h⟩ hs0
    ·exact zmH_ value slice pins s σ H _ _ v u Q I rx ry ⟨p,xs,i,w',rfl,rfl,hs,ev,h⟩ hs0
  | str z =>
   obtain ⟨hz,h⟩:=h
   cases ev:atI z.cps.toList i with
   | none=>rw [ev] at h; exact h.elim
   | some w' =>
    rw [ev] at h
    exact zmu_ value slice pins s σ H _ _ v u Q I rx ry ⟨z,i,w',rfl,rfl,by simpa [Str.length] using hz,ev,h⟩ hs0
  | _=>exact h.elim
 | _=>exact h.elim
def mSl (K:Fgg):V→Option Int→Option Int→Hp→VK→Prop:=fun x lo hi H Q=>match x with
 | .str z=>z.cps.toList.length≤sizeLine∧Q (tx (cutL z.cps.toList lo hi)) H
 | .ref a=>∃ xs,SqL K H a xs∧∀ p,H p=none→Q (.ref p) (upd H p (.lst (cutV xs lo hi)))
 | _=>False
theorem sl_M:SlR X (mSl X.K):=by
 intro pins s σ H x v vl vu lo hi sl Q I rx hs pl pu h
 unfold mSl at h
 cases x with
 | str z=>exact zmQ_ pins s σ H _ v vl vu lo hi sl Q I rx hs pl pu ⟨by simpa [Str.length] using h.1,h.2⟩
 | ref p =>
  obtain ⟨xs,h1,h2⟩:=h
  exact zlY_ pins s σ H _ v vl vu lo hi sl Q I rx hs pl pu ⟨p,xs,rfl,h1,h2⟩
 | _=>exact h.elim
def mPart (t:TE):TO:=fun σ H Q=>t σ H fun x H1=>match x with | .int i=>Q (some i) H1 | _=>False
theorem po_M (h:PE X e ta):PO X (some e) (mPart ta):=by
 intro pins s σ H Q I hw
 rw [evalPart_some]
 refine thn (h pins s σ H _ I hw) fun u s1 hq_=>?_
 obtain ⟨x,H1,I1,r1,q1⟩:=hq_
 cases x with
 | int i=>obtain ⟨t,rfl⟩:=r1; exact ⟨some i,H1,I1,.int i t,q1⟩
 | _=>exact q1.elim
def mLen (K:Fgg):List V→Hp→VK→Prop:=fun xs H Q=>match xs with
 | [.str z]=>z.cps.toList.length≤sizeLine∧Q (.int z.cps.toList.length) H
 | [.ref p]=>∃ ys,(SqL K H p ys∨SqT K H p ys)∧Q (.int ys.length) H
 | _=>False
theorem zkE_ {K:Fgg}{xs:List V}{H:Hp}{Q:VK}(h:mLen K xs H Q):(∃ z,xs=[.str z]∧z.cps.toList.length≤sizeLine∧Q (.int z.cps.toList.length) H)∨∃ p ys,xs=[.ref p]∧(SqL K H p ys∨SqT K H p ys)∧Q (.int ys.length) H:=by
 rcases xs with _ | ⟨x,_ | ⟨y,t⟩⟩
 ·exact False.elim h
 ·cases x with
  | str z=>exact .inl ⟨z,rfl,h⟩
  | ref p=>obtain ⟨ys,h⟩:=h; exact .inr ⟨p,ys,rfl,h⟩
  | _=>exact False.elim h
 ·cases x<;>exact False.elim h
theorem zbE_:CallR X (.builtin "len") (mLen X.K):=by
 intro pins s σ H xs us Q I r h
 rcases zkE_ h with ⟨z,rfl,h⟩ | ⟨p,ys,rfl,h1,h2⟩
 ·exact zfV_ pins s σ H _ us Q I r ⟨_,rfl,by simpa [Str.length] using h.1,by simpa [Str.length] using h.2⟩
 ·exact zfG_ pins s σ H _ us Q I r ⟨_,ys,rfl,h1,h2⟩
def tyS (K:Fgg) (H:Hp):V→String→Prop:=fun x T=>match x with
 | .non=>T = "NoneType" | .bl _=>T = "bool" | .int _=>T = "int" | .str _=>T = "str"
 | .ref p=>(T = "list" ∧ ∃ xs,H p=some (.lst xs))∨(T = "tuple" ∧ ∃ xs,H p=some (.tup xs))
 | _=>False
theorem zm6_ {K:Fgg}{H:Hp}{x:V}{T:String}(h:tyS K H x T):TyOf K H x (.type T):=by
 unfold tyS at h
 cases x with
 | non=>subst h; exact .non
 | bl b=>subst h; exact .bl b
 | int i=>subst h; exact .int i
 | str z=>subst h; exact .str z
 | ref p =>
  rcases h with ⟨rfl,xs,h⟩ | ⟨rfl,xs,h⟩
  ·exact .lst h
  ·exact .tup h
 | _=>exact h.elim
def isaB (T c:String):Option Bool :=
 if T=c then some true else if T = "bool" ∧ c = "int" then some true
 else if (T = "bool" ∨ T = "int" ∨ T = "str" ∨ T = "list" ∨ T = "tuple" ∨ T = "NoneType")∧(c = "bool" ∨ c = "int" ∨ c = "str" ∨ c = "list" ∨ c = "tuple" ∨ c = "dict") then some false else none
theorem zlt_ {K:Fgg}{T c:String}{b:Bool}(h:isaB T c=some b):PySem.W.kitOne K (.type T) (.type c)=some b:=by
 unfold isaB at h
 split at h
 ·rename_i e; subst e; cases h
  unfold PySem.W.kitOne
  rw [if_pos (by simp)]
 ·split at h
  ·rename_i e; obtain ⟨rfl,rfl⟩:=e; cases h; rfl
  ·split at h
   ·rename_i h1 h2 e
    cases h
    obtain ⟨e1,e2⟩:=e
    rcases e1 with rfl | rfl | rfl | rfl | rfl | rfl<;>rcases e2 with rfl | rfl | rfl | rfl | rfl | rfl<;>first | rfl | exact absurd rfl h1 | exact absurd ⟨rfl,rfl⟩ h2
   ·cases h
def mIsa (K:Fgg):List V→Hp→VK→Prop:=fun xs H Q=>match xs with
 | [.int _,.ty c]=>(match isaB "int" c with | some b=>Q (.bl b) H | none=>False)
 | [.bl _,.ty c]=>(match isaB "bool" c with | some b=>Q (.bl b) H | none=>False)
 | [.str _,.ty c]=>(match isaB "str" c with | some b=>Q (.bl b) H | none=>False)
 | [.non,.ty c]=>(match isaB "NoneType" c with | some b=>Q (.bl b) H | none=>False)
 | [.ref p,.ty c]=>∃ T,tyS K H (.ref p) T∧(match isaB T c with | some b=>Q (.bl b) H | none=>False)
 | _=>False
theorem zeP_:CallR X (.builtin "isinstance") (mIsa X.K):=by
 intro pins s σ H xs us Q I r h
 have key:∀ (x:V) (T c:String),xs=[x,.ty c]→tyS X.K H x T→(match isaB T c with | some b=>Q (.bl b) H | none=>False)→wpAny (model X.prog X.w) X.A (call (.builtin "isinstance") us) (EP X pins σ Q) X.xe s:=by
  intro x T c e ht hq
  subst e
  obtain ⟨u,w',rfl,r1,r2⟩:=vals2 r
  cases r2
  cases eb:isaB T c with
  | none=>rw [eb] at hq; exact hq.elim
  | some b =>
   rw [eb] at hq
   exact zf8_ I r1 (zm6_ ht) (zlt_ eb) fun tk=>⟨.bl b,H,I.tok tk,rfl,hq⟩
 unfold mIsa at h
 split at h
 ·exact key _ "int" _ rfl rfl h
 ·exact key _ "bool" _ rfl rfl h
 ·exact key _ "str" _ rfl rfl h
 ·exact key _ "NoneType" _ rfl rfl h
 ·obtain ⟨T,h1,h2⟩:=h
  exact key _ T _ rfl h1 h2
 ·exact h.elim
def findS (l:List Nat) (t:List Nat):Int:=Txt.find ⟨l.toArray⟩ ⟨t.toArray⟩
theorem zj6_ (l:List Nat) (c:Nat):findS l [c]=(match l.findIdx? (· == c) with | some i=>(i:Int) | none => -1):=by
 unfold findS
 rcases find_whole ⟨l.toArray⟩ ⟨[c].toArray⟩ with ⟨h1,h2⟩ | ⟨i,h1,h2,h3⟩
 ·rw [h1]
  have:l.findIdx? (· == c)=none:=by
   rw [List.findIdx?_eq_none_iff]
   intro x hx
   obtain ⟨j,hj⟩:=List.mem_iff_getElem?.mp hx
   by_cases hxc:x=c
   ·subst hxc
    exact absurd ((StrLaws.subAt_one ⟨l.toArray⟩ x j).mpr (by simpa using hj)) (h2 j)
   ·simpa using hxc
  rw [this]
 ·rw [h1]
  have hi:l[i]?=some c:=by simpa using (StrLaws.subAt_one ⟨l.toArray⟩ c i).mp h2
  have:l.findIdx? (· == c)=some i:=by
   obtain ⟨hlt,hget⟩:=List.getElem?_eq_some_iff.mp hi
   rw [List.findIdx?_eq_some_iff_getElem]
   refine ⟨hlt,by simp [hget],fun j hj=>?_⟩
   have hjl:j<l.length:=Nat.lt_trans hj hlt
   have hn:=h3 j hj
   intro hc
   have hc':l[j]=c:=by simpa using hc
   exact hn ((StrLaws.subAt_one ⟨l.toArray⟩ c j).mpr (by simp [hjl,hc']))
  rw [this]
def mIndex:V→List V→Hp→VK→Prop:=fun x xs H Q=>match x,xs with | .str l,[.str t]=>findS l.cps.toList t.cps.toList ≠ -1∧Q (.int (findS l.cps.toList t.cps.toList)) H | _,_=>False
theorem zjT_:MtR X "str.index" mIndex:=by
 intro pins s σ H x xs v us Q I rx rv h
 unfold mIndex at h
 split at h
 ·rename_i l t
  obtain ⟨k,rfl⟩:=rx
  obtain ⟨u,rfl,ru⟩:=rv.one
  obtain ⟨k',rfl⟩:=ru
  have e:Txt.find l t=findS l.cps.toList t.cps.toList:=by unfold findS; rw [← zbS_,← zbS_]
  rw [← e] at h
  unfold Txt.find at h
  cases ho:Builtin.Str.occurrences l t 0 l.length 1 with
  | nil=>rw [ho] at h; exact absurd rfl h.1
  | cons i rest =>
   rw [ho] at h
   exact SC.index ho ⟨.int _,H,I.tok _,⟨_,rfl⟩,h.2⟩
 ·exact h.elim
end
end L2
namespace L2
open PySem PySem.Spec PyProof.Rows
def Gd (P:Program) (w:World) (K:Fgg) (mg:Str→Option Value) (base:Heap) (CX:CXT) (k:Nat) (x:Str) (ps:List Str) (sp:Sp):Prop :=
 ∃ f fd,FnOk P w K mg base CX k f fd ps sp∧mg x=some (.ref f)∧PySem.W.keepIn K (.ref f)=true∧Binds K fd ps []
def Gc (mg:Str→Option Value) (x:Str) (v:V):Prop:=∃ u,mg x=some u∧RelV v u
abbrev Gb (mg:Str→Option Value) (x:Str):Prop:=mg x=none
section
variable {X:Cx}{CX:CXT}{k:Nat}{x:Str}{ps:List Str}{sp:Sp}{p pos:Pos}{e:Expr}{es:List Expr}{t:TA}{tg:Expr}
theorem zp_ (G:Gd X.prog X.w X.K X.mg X.base CX0 k x ps sp) (hr:Room k X.A) (ha:PA X (e::es) t) (hg:Gl X x:=by rfl) (hdb:(x == ("__debug__" : Str))=false:=by decide)
  (he:starEach (e::es) X.env=(false,eval e X.env)::starEach es X.env:=by rfl) (hpl:(backTo pos (starEach es X.env)).any (·.1)=false:=by rfl) :
  PE X (.Call (.Name x p) (e::es) [] pos) (tCall sp [] E0 t):=by
 obtain ⟨f,fd,F,hm,hk,hb⟩:=G
 exact zjg_ F hr hg hm hk hb .nil pass0 ha hdb he hpl
theorem zeZ_ (G:Gd X.prog X.w X.K X.mg X.base CX0 k x ps sp) (hr:Room k X.A) (hg:Gl X x:=by rfl) (hdb:(x == ("__debug__" : Str))=false:=by decide) :
  PE X (.Call (.Name x p) [] [] pos) (tCall sp [] E0 tNil):=by
 obtain ⟨f,fd,F,hm,hk,hb⟩:=G
 exact zkL_ F hr hg hm hk hb .nil pass0 hdb
theorem zlw_ {v:V}(h:Gc X.mg x v) (hg:Gl X x:=by rfl) (hd:(x == ("__debug__" : Str))=false:=by decide):PE X (.Name x pos) (tC v):=by
 obtain ⟨u,hm,r⟩:=h
 exact zjr_ hg hm r hd
theorem zmd_ (T:String) (hm:Gb X.mg x) (hg:Gl X x:=by rfl) (hv:bootBuiltins x=some (.type T):=by rfl) (hn:x ≠ "__name__" := by decide) (hd:(x == ("__debug__" : Str))=false:=by decide):PE X (.Name x pos) (tC (.ty T)) :=
 zkY_ hg hm hv rfl hn hd
theorem zgS_ {id:String}{r:List V→Hp→VK→Prop}(hc:CallR X (.builtin id) r) (hm:Gb X.mg x) (ha:PA X (e::es) t) (hg:Gl X x:=by rfl) (hv:bootBuiltins x=some (.builtin id):=by rfl) (hn:x ≠ "__name__" := by decide) (hdb:(x == ("__debug__" : Str))=false:=by decide)
  (hs:starEach (e::es) X.env=(false,eval e X.env)::starEach es X.env:=by rfl) (hpl:(backTo pos (starEach es X.env)).any (·.1)=false:=by rfl):PE X (.Call (.Name x p) (e::es) [] pos) (tCB r t) :=
 zj4_ hc hg hm hv ha hn hdb hs hpl
theorem pe_sm {o:Expr}{to:TE}{name:Str}{id:String}{r:V→List V→Hp→VK→Prop}{apos cpos:Pos}(slot:Slot "str" name id) (hty:typeOf (.builtin id)=pure (.type "method_descriptor")) (hm:MtR X id r) (ho:PE X o to) (ha:PA X (e::es) t)
  (h1:attributeBase o name X.env (eval o X.env)=eval o X.env:=by rfl) (h2:((((backTo cpos (starEach (e::es) X.env)).all fun x=>!x.fst) && (backToKw cpos (keywordEach [] X.env)).all fun x=>x.fst.isSome) && decide (((e::es).length+([]:List Keyword).length+if ([]:List Keyword).isEmpty=true then 0 else 1)<30))=true:=by rfl)
  (h3:(apos.endLine == cpos.line)=true:=by rfl) (h4:starEach (e::es) X.env=(false,eval e X.env)::starEach es X.env:=by rfl) (h5:((backTo cpos (starEach es X.env)).any fun x=>x.fst)=false:=by rfl) :
  PE X (.Call (.Attribute o name apos) (e::es) [] cpos) (tBM X.K "str" r to t):=zgX_ PySem.F.plainAttrs_str slot hty hm ho ha h1 h2 h3 h4 h5
def iAny (K:Fgg) (tl:TE):TI:=fun σ H R=>tl σ H fun x H1=>match x with
 | .str z=>R (Itp z.cps.toList.length (fun i=>tx [z.cps.toList.getD i 0])) H1
 | .ref a=>((∃ xs,SqL K H1 a xs)∧R (Itl K a) H1)∨((∃ xs,SqT K H1 a xs)∧R (Itt K a) H1)
 | _=>False
theorem zlK_ (z:Str):sgn z=fun i=>tx [z.cps.toList.getD i 0]:=by
 funext i
 unfold sgn
 simp [Array.getD_eq_getD_getElem?,List.getD_eq_getElem?_getD]
theorem zeO_ {l:Expr}{tl:TE}(hl:PE X l tl):PI X tg l (iAny X.K tl):=by
 intro pins s σ H R I h
 refine thn (hl pins s σ H _ I h) fun v s1 hq_=>?_
 obtain ⟨x,H1,I1,r1,q1⟩:=hq_
 have pt:∀ (v:V),PE X l (tC v)→PE X l (tC v):=fun _ h=>h
 cases x with
 | str z =>
  obtain ⟨t,rfl⟩:=r1
  refine wpAny_pyIter_strU ?_
  have q:R (Itp z.cps.size (sgn z)) H1:=by
   have e:z.cps.toList.length=z.cps.size:=by simp
   rw [zlK_,← e]
   exact q1
  refine ⟨s1.heap.objs.size,[s1.heap.objs.size],_,_,H1,rfl,I1.kept (t':=s1.toks) fun b o e=>Heap.get?_push_of_some _ e,zkC_ _ z t,⟨Nat.zero_le _,⟨_,Heap.get?_push_size _ rfl,rfl,rfl⟩⟩,fun b hb=>?_,q⟩
  have e:b=s1.heap.objs.size:=by simpa using hb
  subst e
  exact I1.fpOk (Nat.le_refl _) (I1.hok.fresh (Nat.le_refl _))
 | ref a =>
  cases r1
  rcases q1 with ⟨⟨xs,hq⟩,q⟩ | ⟨⟨xs,hq⟩,q⟩
  ·obtain ⟨its,rv,p,hz⟩:=I1.list hq
   refine wpAny_pyIter_list p.isList ?_
   refine ⟨s1.heap.objs.size,[s1.heap.objs.size],_,_,H1,rfl,I1.kept (t':=s1.toks) fun b o e=>Heap.get?_push_of_some _ e,ziz_ a _,⟨_,Heap.get?_push_size _ rfl,rfl,rfl⟩,fun b hb=>?_,q⟩
   have e:b=s1.heap.objs.size:=by simpa using hb
   subst e
   exact I1.fpOk (Nat.le_refl _) (I1.hok.fresh (Nat.le_refl _))
  ·obtain ⟨its,rv,p,hz⟩:=I1.tuple hq
   refine wpAny_pyIter_tuple (show s1.heap.IsTuple a its.toArray from p) ?_
   refine ⟨s1.heap.objs.size,[s1.heap.objs.size],_,_,H1,rfl,I1.kept (t':=s1.toks) fun b o e=>Heap.get?_push_of_some _ e,zhd_ a _,⟨_,Heap.get?_push_size _ rfl,rfl,rfl⟩,fun b hb=>?_,q⟩
   have e:b=s1.heap.objs.size:=by simpa using hb
   subst e
   exact I1.fpOk (Nat.le_refl _) (I1.hok.fresh (Nat.le_refl _))
 | _=>exact q1.elim
def mRng1 (ta:TA):TI:=fun σ H R=>ta σ H fun vs H1=>match vs with | [.int j] => -(2 ^ 62)≤j∧j<2 ^ 62∧R (Itr 0 j.toNat) H1 | _=>False
end
section
variable {X:Cx}{tg:Expr}
theorem zf7_ {a:Expr}{ta:TA}{p pos:Pos}(hm:Gb X.mg "range") (ha:PA X [a] ta) (hg:Gl X "range" := by rfl) (hs:starEach [a] X.env=[(false,eval a X.env)]:=by rfl):PI X tg (.Call (.Name "range" p) [a] [] pos) (mRng1 ta):=by
 intro pins s σ H R I h
 refine Call_ (zgR_ I hg hm boot_range (PyProof.Rows.callWith_type1 (thn (ha pos pins s σ H _ I h) fun us s1 hq_=>?_) hs rfl))
 obtain ⟨vs,H1,I1,r1,q1⟩:=hq_
 try dsimp only at q1
 split at q1
 ·obtain ⟨q2,q3,q⟩:=q1
  cases r1 with
  | cons r rr =>
   cases rr
   obtain ⟨t,rfl⟩:=r
   exact call_range_1 (zkb_ I1 (by lia) (by lia) q2 q3 (by simpa using q))
 ·exact q1.elim
variable {elts:List Expr}{kk:Nat}{tpos:Pos}
def iEnum (K:Fgg) (ta:TA):TI:=fun σ H R=>ta σ H fun vs H1=>match vs with
 | [.str z]=>R (Ites z.cps.toList.length (fun i=>tx [z.cps.toList.getD i 0])) H1
 | [.ref a]=>(∃ xs,SqL K H1 a xs)∧R (Ite K a) H1
 | _=>False
theorem zjH_ {a:Expr}{ta:TA}{p pos:Pos}(hm:Gb X.mg "enumerate") (ha:PA X [a] ta) (hg:Gl X "enumerate" := by rfl) (hs:starEach [a] X.env=[(false,eval a X.env)]:=by rfl) :
  PI X (.Tuple elts kk tpos) (.Call (.Name "enumerate" p) [a] [] pos) (iEnum X.K ta):=by
 intro pins s σ H R I h
 refine Call_ (zgR_ I hg hm (u:=.type "enumerate") (by rfl) (PyProof.Rows.callWith_type1 (thn (ha pos pins s σ H _ I h) fun us s1 hq_=>?_) hs rfl))
 obtain ⟨vs,H1,I1,r1,q1⟩:=hq_
 try dsimp only at q1
 split at q1
 ·rename_i z
  cases r1 with
  | cons r rr =>
   cases rr
   obtain ⟨t,rfl⟩:=r
   refine call_enumerate_str fun h' he hit hsz hk=>?_
   refine wpAny_pyIter_enum (s:={ s1 with heap:=h' }) he ?_
   have I2:Inv X pins σ H1 { s1 with heap:=h' }:=I1.kept (t':=s1.toks) hk
   have q:R (Ites z.cps.size (sgn z)) H1:=by
    have e:z.cps.toList.length=z.cps.size:=by simp
    rw [zlK_,← e]
    exact q1
   refine ⟨s1.heap.objs.size+1,[s1.heap.objs.size+1,s1.heap.objs.size],_,_,H1,rfl,I2,zid_ _ _ z t (by simp),⟨⟨_,he⟩,Nat.zero_le _,hit⟩,fun b hb=>?_,q⟩
   have hb':s1.heap.objs.size≤b:=by
    rcases List.mem_cons.mp hb with rfl | hb
    ·exact Nat.le_succ _
    ·have e:b=s1.heap.objs.size:=by simpa using hb
     subst e; exact Nat.le_refl _
   exact I1.fpOk hb' (I1.hok.fresh hb')
 ·rename_i l
  obtain ⟨⟨xs,hq⟩,q⟩:=q1
  cases r1 with
  | cons r rr =>
   cases rr
   cases r
   obtain ⟨its,rv,p,hz⟩:=I1.list hq
   refine call_enumerate_list p.isList fun h' he hit hsz hk=>?_
   refine wpAny_pyIter_enum (s:={ s1 with heap:=h' }) he ?_
   have I2:Inv X pins σ H1 { s1 with heap:=h' }:=I1.kept (t':=s1.toks) hk
   refine ⟨s1.heap.objs.size+1,[s1.heap.objs.size+1,s1.heap.objs.size],_,_,H1,rfl,I2,zh0_ _ _ l (by simp),⟨⟨_,he⟩,hit⟩,fun b hb=>?_,q⟩
   have hb':s1.heap.objs.size≤b:=by
    rcases List.mem_cons.mp hb with rfl | hb
    ·exact Nat.le_succ _
    ·have e:b=s1.heap.objs.size:=by simpa using hb
     subst e; exact Nat.le_refl _
   exact I1.fpOk hb' (I1.hok.fresh hb')
 ·exact q1.elim
def gNilM:TGs:=fun vs σ H Q=>match vs with | []=>Q σ H | _=>False
def gConsM (t:TG) (u:TGs):TGs:=fun vs σ H Q=>match vs with | v::r=>t v σ H fun σ' H'=>u r σ' H' Q | []=>False
theorem zeY_:PGs X [] gNilM:=by
 intro pins s σ H vs us Q I r h
 cases vs with
 | nil=>exact zkX_ pins s σ H [] us Q I r ⟨rfl,h⟩
 | cons _ _=>exact h.elim
theorem za9_ {e:Expr}{es:List Expr}{t:TG}{u:TGs}(h1:PG X e t) (h2:PGs X es u)
  (hs:(assignEach (e::es) X.env).map (·.2)=assign e X.env::(assignEach es X.env).map (·.2):=by rfl):PGs X (e::es) (gConsM t u):=by
 intro pins s σ H vs us Q I r h
 cases vs with
 | nil=>exact h.elim
 | cons v vr=>exact zjO_ h1 h2 hs pins s σ H _ us Q I r ⟨v,vr,rfl,h⟩
def gTupM (K:Fgg) (n:Nat) (t:TGs):TG:=fun v σ H Q=>match v with | .ref a=>∃ xs,SqT K H a xs∧xs.length=n∧t xs σ H Q | _=>False
theorem zg1_ {es:List Expr}{k:Nat}{t:TGs}{n:Nat}{pos:Pos}(hc:X.calm=true) (h:PGs X es t)
  (hn:(assignEach es X.env).length=n:=by rfl) (hst:(assignEach es X.env).findIdx? (·.1)=none:=by rfl):PG X (.Tuple es k pos) (gTupM X.K n t):=by
 intro pins s σ H v u Q I r hw
 cases v with
 | ref a =>
  obtain ⟨xs,h1,h2,h3⟩:=hw
  exact zm7_ hc h hn hst pins s σ H _ u Q I r ⟨a,xs,rfl,h1,h2,h3⟩
 | _=>exact hw.elim
end
theorem zct_ {H:Hp}{p:Addr}(h:H p=none) (o:HO):Same H (upd H p o):=fun b u q=>by rw [zN_ (zbn_ q h)]; exact q
end L2
namespace L2
open PySem PySem.Spec PyProof.Rows
theorem zc8_ {n:Nat}(h:n≤100000):n≤sizeLine:=by rw [sizeLine_eq]; lia
end L2
namespace L2
open PySem PySem.Spec PyProof.Rows
section
variable {X:Cx}{tg:Expr}
def mSet:TSet:=fun o i v H Q=>match i with
 | .int k=>(match o with
  | .ref p=>∃ xs,H p=some (.lst xs)∧(match ixN xs.length k with | some j=>Q (upd H p (.lst (xs.set j v))) | none=>False)
  | _=>False)
 | _=>False
theorem set_M:PSet X mSet:=by
 intro pins s σ H o i v ov iv u Q I ro ri rv h
 unfold mSet at h
 cases i with
 | int k =>
  cases o with
  | ref p =>
   obtain ⟨xs,h1,h⟩:=h
   cases e:ixN xs.length k with
   | none=>rw [e] at h; exact h.elim
   | some j =>
    rw [e] at h
    exact zkF_ pins s σ H _ _ v ov iv u Q I ro ri rv ⟨p,xs,k,j,rfl,rfl,h1,e,h⟩
  | _=>exact h.elim
 | _=>exact h.elim
theorem zi2_ {n:Nat}{k:Int}(h0:0≤k) (h1:k<n):ixN n k=some k.toNat:=by unfold ixN; rw [if_pos h0,if_pos h1]
def strI (i:Int):List Nat:=(Str.ofString (toString i)).cps.toList
def mStr:List V→Hp→VK→Prop:=fun xs H Q=>match xs with | [.int i]=>i.natAbs.log2<1920∧Q (tx (strI i)) H | _=>False
theorem ziL_:CallR X (.type "str") mStr:=by
 intro pins s σ H xs us Q I r h
 unfold mStr at h
 split at h
 ·rename_i i
  refine zfR_ pins s σ H _ us Q I r ⟨i,rfl,h.1,?_⟩
  have e:tx (strI i)=V.str (Str.ofString (toString i)):=by unfold strI tx; rw [← zbS_]
  rw [← e]
  exact h.2
 ·exact h.elim
def mZfill:V→List V→Hp→VK→Prop:=fun x xs H Q=>match x,xs with | .str l,[.int i]=>PadOk i=true∧Q (tx (Txt.zfill l i).cps.toList) H | _,_=>False
theorem zkj_:MtR X "str.zfill" mZfill:=by
 intro pins s σ H x xs v us Q I rx rv h
 have hi:∃ l i,x=.str l∧xs=[.int i]∧PadOk i=true∧Q (tx (Txt.zfill l i).cps.toList) H:=by
  cases x with
  | str l =>
   rcases xs with _ | ⟨y,_ | ⟨z,t⟩⟩
   ·exact False.elim h
   ·cases y with
    | int t=>exact ⟨l,t,rfl,rfl,h⟩
    | _=>exact False.elim h
   ·cases y<;>exact False.elim h
  | _=>exact False.elim h
 obtain ⟨l,i,rfl,rfl,h⟩:=hi
 obtain ⟨k,rfl⟩:=rx
 obtain ⟨u,rfl,ru⟩:=rv.one
 obtain ⟨k',rfl⟩:=ru
 exact SC.zfill h.1 fun t' k=>⟨tx (Txt.zfill l i).cps.toList,H,I.tok _,⟨t',by rw [← zbS_]⟩,h.2⟩
end
section
variable {X:Cx}{x:Str}{p pos:Pos}{e:Expr}{es:List Expr}{t:TA}
theorem pe_tf (T:String) {r:List V→Hp→VK→Prop}(hc:CallR X (.type T) r) (hm:Gb X.mg x) (ha:PA X (e::es) t) (hg:Gl X x:=by rfl) (hv:bootBuiltins x=some (.type T):=by rfl) (hn:x ≠ "__name__" := by decide) (hdb:(x == ("__debug__" : Str))=false:=by decide)
  (hs:starEach (e::es) X.env=(false,eval e X.env)::starEach es X.env:=by rfl) (hpl:(backTo pos (starEach es X.env)).any (·.1)=false:=by rfl):PE X (.Call (.Name x p) (e::es) [] pos) (tCB r t) :=
 ziR_ hc hg hm hv ha hn hdb hs hpl
end
theorem zgO_ {i:Int}(h0 : -1000≤i) (h1:i≤1000):PadOk i=true:=by
 unfold PadOk fitsSsize Builtin.Str.tooLong
 have h3:(100000:Nat)≤sizeLine:=by rw [sizeLine_eq]; lia
 simp only [Bool.and_eq_true,Bool.not_eq_true',decide_eq_true_eq,decide_eq_false_iff_not,Bool.or_eq_false_iff]
 lia
def digs:Nat→Nat→List Nat
 | 0,_=>[]
 | w+1,n=>digs w (n / 10)++[48+n % 10]
theorem zek_:∀ (w n:Nat),(digs w n).length=w
 | 0,_=>rfl
 | w+1,n=>by rw [digs,List.length_append,zek_ w]; rfl
theorem zgx_:∀ (w:Nat),digs w 0=List.replicate w 48
 | 0=>rfl
 | w+1=>by rw [digs,zgx_ w,List.replicate_succ']
end L2
namespace L2
open PySem PySem.Spec PyProof.Rows
def dg (m:Nat):List Nat:=(Nat.toDigits 10 m).map Char.toNat
theorem zjL_ (m:Nat):strI (m:Int)=dg m:=PySem.W.KIN.signs_num m
theorem zfE_:∀ d:Nat,d<10→(Nat.digitChar d).toNat=48+d:=by decide
theorem dg_lt {m:Nat}(h:m<10):dg m=[48+m]:=by
 unfold dg
 rw [Nat.toDigits_of_lt_base h]
 show [(Nat.digitChar m).toNat]=_
 rw [zfE_ m h]
theorem dg_ge {m:Nat}(h:¬ m<10):dg m=dg (m / 10)++[48+m % 10]:=by
 unfold dg
 have hm:m % 10<10:=Nat.mod_lt m (by decide)
 have t:Nat.toDigits 10 (m / 10)++Nat.toDigits 10 (m % 10)=Nat.toDigits 10 (10*(m / 10)+m % 10):=Nat.toDigits_append_toDigits (by decide) (by lia) hm
 rw [Nat.div_add_mod] at t
 rw [← t,List.map_append,Nat.toDigits_of_lt_base hm]
 show _++[(Nat.digitChar (m % 10)).toNat]=_
 rw [zfE_ _ hm]
theorem zl0_:∀ (w m:Nat),m<10 ^ (w+1)→(dg m).length≤w+1∧List.replicate (w+1-(dg m).length) 48++dg m=digs (w+1) m
 | w,m,h=>by
  by_cases hm:m<10
  ·rw [dg_lt hm]
   refine ⟨by show 1≤w+1; lia,?_⟩
   rw [digs,show m / 10=0 by lia,zgx_,show m % 10=m by lia]
   rfl
  ·cases w with
   | zero=>exact absurd h (by simpa using hm)
   | succ w =>
    have hd:m / 10<10 ^ (w+1):=by
     rw [Nat.div_lt_iff_lt_mul (by decide)]
     rw [Nat.pow_succ] at h
     exact h
    obtain ⟨h1,h2⟩:=zl0_ w (m / 10) hd
    rw [dg_ge hm]
    refine ⟨by rw [List.length_append]; show _+1≤_; lia,?_⟩
    have e:digs (w+1+1) m=digs (w+1) (m / 10)++[48+m % 10]:=rfl
    rw [e,← h2,List.append_assoc,List.length_append]
    have e2:w+1+1-((dg (m / 10)).length+[48+m % 10].length)=w+1-(dg (m / 10)).length:=by
     show w+1+1-((dg (m / 10)).length+1)=_
     lia
    rw [e2]
theorem zlT_ (m:Nat):∃ c r,dg m=c::r∧48≤c:=by
 induction m using Nat.strongRecOn with
 | _ m ih =>
  by_cases h:m<10
  ·exact ⟨48+m,[],dg_lt h,by lia⟩
  ·obtain ⟨c,r,e,hc⟩:=ih (m / 10) (by lia)
   exact ⟨c,r++[48+m % 10],by rw [dg_ge h,e]; rfl,hc⟩
theorem zib_ {w m:Nat}(hw:1≤w) (h:m<10 ^ w):(Txt.zfill ⟨(dg m).toArray⟩ (w:Int)).cps.toList=digs w m:=by
 obtain ⟨w',rfl⟩:∃ w',w=w'+1:=⟨w-1,by lia⟩
 obtain ⟨h1,h2⟩:=zl0_ w' m h
 have hl:(⟨(dg m).toArray⟩:Str).length=(dg m).length:=by simp [Str.length]
 unfold Txt.zfill
 rw [hl]
 by_cases he:((w'+1:Nat):Int)≤((dg m).length:Int)
 ·rw [if_pos he]
  have e:(dg m).length=w'+1:=by lia
  rw [← h2,e,Nat.sub_self]
  simp
 ·rw [if_neg he]
  obtain ⟨c,r,ec,hc⟩:=zlT_ m
  have e:zfilled ⟨(dg m).toArray⟩ ((((w'+1:Nat):Int)).toNat-(dg m).length)=Builtin.Str.padded ⟨(dg m).toArray⟩ ((((w'+1:Nat):Int)).toNat-(dg m).length) 0 48:=by
   unfold zfilled
   have e0:((⟨(dg m).toArray⟩:Str).cps)[0]?=some c:=by rw [ec]; simp
   rw [e0]
   split
   ·rename_i h'; cases h'; lia
   ·rename_i h'; cases h'; lia
   ·rfl
  rw [e]
  unfold Builtin.Str.padded
  rw [← h2]
  simp
theorem zfq_:∀ (w n:Nat),∀ c∈digs w n,48≤c∧c≤57
 | 0,_,_,h=>by cases h
 | w+1,n,c,h=>by
  rw [digs] at h
  rcases List.mem_append.mp h with h | h
  ·exact zfq_ w _ c h
  ·have e:c=48+n % 10:=by simpa using h
   lia
end L2
namespace L2
open PySem PySem.Spec PyProof.Rows
end L2
namespace L2
open PySem PySem.Spec PyProof.Rows
structure FlyX (x T C:Addr) (H:Hp) (hb h:Heap):Prop where
 obj:∃ oe vs a0 oT ts,h.get? x=some oe∧(oe.cls=.ref C∧vs[0]?=some a0)∧oe.data=.fields vs∧vs[1]?=some (.ref T)∧T≠x∧h.get? T=some oT∧oT.data=.fields ts∧ts[3]?=some .none
 hx:H x=none
 hT:H T=none
 nx:hb.get? x=none
 nT:hb.get? T=none
def CXx (P:Program) (w:World):CXT:=fun outer H s E e s'=>∃ x T C H',e=.ref x∧s'.os=s.os∧AllBare s'.gens∧Un (frs outer) [] H H' s.heap s'.heap∧HOk P w H' s'.heap ∧
 FlyX x T C H' s.heap s'.heap∧E (.ref C) none H'
theorem passX0 {P:Program}{w:World}{X:Cx}:Passes (CXx P w) X E0:=fun _ _ _ _ _ _ _ h=>by
 obtain ⟨_,_,_,_,_,_,_,_,_,_,h⟩:=h
 exact h.elim
theorem HOk.at_ {P:Program}{w:World}{H:Hp}{h:Heap}{a:Addr}{o:HO}(x:HOk P w H h) (e:H a=some o):∃ u,h.get? a=some u:=by
 have q:=x a o e
 clear e x
 induction o with
 | lst xs=>obtain ⟨_,_,_,_,e⟩:=q; exact ⟨_,e⟩
 | tup xs=>obtain ⟨_,_,_,o,e,_⟩:=q; exact ⟨_,e⟩
 | dK kvs=>obtain ⟨_,_,_,_,o,_,_,e,_⟩:=q; exact ⟨_,e⟩
 | dT kvs=>obtain ⟨_,_,_,_,o,_,_,e,_⟩:=q; exact ⟨_,e⟩
 | set S n=>obtain ⟨o,_,_,_,e,_⟩:=q; exact ⟨_,e⟩
 | ins C dx fs=>obtain ⟨_,_,_,e,_⟩:=q; exact ⟨_,e⟩
 | own y=>obtain ⟨_,e⟩:=q; exact ⟨_,e⟩
 | xd fs=>obtain ⟨_,⟨_,_,_,e,_⟩,_⟩:=q; exact ⟨_,e⟩
 | rng lo hi=>obtain ⟨_,_,_,e⟩:=q; exact ⟨_,e⟩
 | frz ob u _=>obtain ⟨e,_⟩:=q; exact ⟨_,e⟩
 | tbl ps=>exact ⟨_,(show h.get? a=some _ from q)⟩
 | met f y=>exact ⟨_,(show h.get? a=some _ from q)⟩
 | ext φ=>obtain ⟨_,⟨_,e⟩,_⟩:=q; exact ⟨_,e⟩
theorem HOk.none_at {P:Program}{w:World}{H:Hp}{h:Heap}{a:Addr}(x:HOk P w H h) (e:h.get? a=none):H a=none:=by
 cases q:H a with
 | none=>rfl
 | some o =>
  obtain ⟨u,z⟩:=x.at_ q
  rw [e] at z; cases z
section
variable {X:Cx}{pins:Pnn}{σ:St}{H:Hp}{s:Shared}
theorem zmq_ (hst:X.stack=X.env::X.outer) {b:Addr}(h:b∈X.fs):b∈frs X.stack:=by
 rw [hst]
 unfold Cx.fs frs at *
 rw [List.filterMap_cons]
 split
 ·exact h
 ·exact List.mem_cons_of_mem _ h
theorem ziB_ (I:Inv X pins σ H s) (hst:X.stack=X.env::X.outer) (hex:X.ex=[]) {x C:Addr}{a0:Value}{ex:List Addr}{h2:Heap}(hxs:∀ b∈ex,H b=none∧X.s₀.heap.get? b=none) (hx:x∈ex)
  (L:Heap.LeftW (PySem.W.hideAll s.heap (frs X.stack++ex)) X.stack x (.ref C) a0 s.heap h2) :
  ∃ T,Un (frs X.outer) [] X.H₀ H X.s₀.heap h2∧HOk X.prog X.w H h2∧FlyX x T C H X.s₀.heap h2:=by
 obtain ⟨st,ff,⟨oe,vs,T,oT,ts,he,hc,hd,h1,hnT,hTe,hT,hdT,h3⟩,up⟩:=L
 have nex:∀ b:Addr,b∉X.ex:=fun b z=>by rw [hex] at z; cases z
 have keepS:∀ b o,s.heap.get? b=some o→b∉frs X.stack→b∉ex→h2.get? b=some o:=fun b o q n1 n2=>st b o (PySem.W.hideAll_get _ q fun z=>(List.mem_append.mp z).elim n1 n2)
 have slotS:∀ b o,s.heap.get? b=some o→b∈frs X.stack→∃ sl,h2.get? b=some { o with slots:=sl }:=fun b o q hb=>up b o q (by
  obtain ⟨_,o',q',d⟩:=I.stack.mem hb
  cases q.symm.trans q'
  exact d)
 have notL:∀ b o,X.s₀.heap.get? b=some o→b≠X.env.locals:=fun b o q=>Nat.ne_of_lt (Nat.lt_of_lt_of_le (Heap.lt_size q) I.ok.above)
 have notX:∀ b o,X.s₀.heap.get? b=some o→b∉ex:=fun b o q z=>by
  have:=(hxs b z).2
  rw [q] at this; cases this
 have notF:∀ b o,X.s₀.heap.get? b=some o→b∉X.fs→b∉frs X.stack:=fun b o q n z=>by
  rcases List.mem_cons.mp (I.stkSub b z) with e | e
  ·exact notL b o q e
  ·exact n e
 have young:∀ b,s.heap.get? b=none→X.s₀.heap.get? b=none:=fun b q=>by
  cases e:X.s₀.heap.get? b with
  | none=>rfl
  | some o =>
   obtain ⟨o',z⟩:=I.base.there b o e (nex b)
   rw [q] at z; cases z
 refine ⟨T,⟨fun b o q n hb _=>?_,fun b o q n hb _=>?_,fun b o q n _=>I.base.free b o q n (nex b),fun b o q _=>?_,I.base.tups,I.base.frzs,I.base.tbls⟩,fun a o e=>?_,⟨oe,vs,a0,oT,ts,he,hc,hd,h1,hTe,hT,hdT,h3⟩,(hxs x hx).1,?_,(hxs x hx).2,?_⟩
 ·exact keepS b o (I.base.keep b o q n hb (nex b)) (notF b o q hb) (notX b o q)
 ·obtain ⟨sl,e⟩:=I.base.slot b o q n hb (nex b)
  obtain ⟨sl',e'⟩:=slotS b _ e (zmq_ hst hb)
  exact ⟨sl',e'⟩
 ·obtain ⟨o',e⟩:=I.base.there b o q (nex b)
  by_cases hb:b∈frs X.stack
  ·obtain ⟨sl',e'⟩:=slotS b _ e hb
   exact ⟨_,e'⟩
  ·exact ⟨o',keepS b o' e hb (notX b o q)⟩
 ·refine (I.hok a o e).stay (fun b u hb q=>?_) (fun _ q=>q) fun _ _ q=>q
  have tr:∃ o,H b=some o:=by
   rcases hb with rfl | hb
   ·exact ⟨_,e⟩
   ·exact ⟨_,hb⟩
  obtain ⟨ob,tr⟩:=tr
  refine keepS b u q (fun z=>?_) fun z=>?_
  ·rw [I.stkFree b z] at tr; cases tr
  ·rw [(hxs b z).1] at tr; cases tr
 all_goals
  by_cases hTx:T∈ex
  ·first | exact (hxs T hTx).1 | exact (hxs T hTx).2
  by_cases hTf:T∈frs X.stack
  ·obtain ⟨_,o',q',d⟩:=I.stack.mem hTf
   obtain ⟨sl,e'⟩:=slotS T o' q' hTf
   rw [hT] at e'
   cases e'
   exact absurd hdT (d ts)
  have q:s.heap.get? T=none:=by
   cases e:s.heap.get? T with
   | none=>rfl
   | some o =>
    rw [PySem.W.hideAll_get _ e fun z=>(List.mem_append.mp z).elim hTf hTx] at hnT
    cases hnT
  first | exact I.hok.none_at q | exact young T q
end
section
variable {P:Program}{w:World}{K:Fgg}{mg:Str→Option Value}{base:Heap}{N:List Str}{qual:Str}{scope:Scope}{f:Addr}{cd:Value}{A:Around}{outer:List Env}{s0:Shared}{H0:Hp}{E:XK}
theorem zm8_ {l:List Env}{more:List Addr}:∀ env∈l,∀ a,env.frame=some a→a∈frs l++more:=fun env he a hf=>List.mem_append_left _ (List.mem_filterMap.mpr ⟨env,he,hf⟩)
def Takes (X:Cx) (E:XK):Prop:=∀ (pins:Pnn) (σ:St) (H:Hp) (s:Shared) (h:Heap) (x C:Addr) (args:List Value),Inv X pins σ H s→Heap.MadeExcOf s.heap h x (.ref C) args→E (.ref C) none H→X.xe (.ref x) { s with heap:=h }
theorem zjZ_:Takes (cxOf (CXx P w) P w K mg base N qual scope f cd A outer s0 H0 E) E:=by
 intro pins σ H s h x C args I hx hE
 have I1:Inv (cxOf (CXx P w) P w K mg base N qual scope f cd A outer s0 H0 E) pins σ H { s with heap:=h }:=I.kept (t':=s.toks) hx.keeps
 obtain ⟨t,he,htn,ht⟩:=hx.there
 show wpAny _ _ (leaving _ _) _ _ _
 refine wpAny_leaving_firstW (base:=PySem.W.hideAll h (frs (envOfC qual scope s0.heap.objs.size f cd::outer)++[x])) (a0:=.ref t) I.ok.frames (PySem.W.funFrames_hide I1.stack zm8_) rfl he (fun b o q=>PySem.W.of_hideAll _ q)
  (PySem.W.hideAll_none _ (List.mem_append_right _ List.mem_cons_self)) rfl rfl rfl fun h2 L=>?_
 obtain ⟨T,u,ok,fly⟩:=ziB_ (ex:=[x]) I1 rfl rfl (fun b hb=>by
  rw [List.mem_singleton.mp hb]
  refine ⟨I.hok.none_at hx.new,?_⟩
  cases e:s0.heap.get? x with
  | none=>exact e
  | some o =>
   obtain ⟨o',z⟩:=I.base.there x o e (fun z=>nomatch z)
   rw [hx.new] at z; cases z) List.mem_cons_self L
 exact ⟨x,T,C,H,rfl,I.os,I.bare,u,ok,fly,hE⟩
end
end L2
namespace L2
open PySem PySem.Spec PyProof.Rows
abbrev bmV:List Value:=[.type "ValueError",.type "Exception",.type "BaseException",.type "object"]
def excK (K:Fgg) (C:Addr):Bool:=PySem.W.excIn K C bmV "ValueError.__new__"
def gA (K:Fgg) (x:Str):Addr:=match PySem.W.nsIn K mainGlobals x with | some (some (.ref c))=>c | _=>0
theorem zjk_ {K:Fgg}{x:Str}{c:Addr}(h:PySem.W.nsIn K mainGlobals x=some (some (.ref c))):gA K x=c:=by unfold gA; rw [h]
theorem zlV_ {K:Fgg}{h:Heap}{C:Addr}(kin:K.In h) (q:excK K C=true) :
  ∃ nm qn N bs bm hd sn sub ab col dd k0 k1 k2 k3 k5 mN,h.get? C=some (excClassObj nm qn C N bs bm hd sn sub ab col dd k0 k1 k2 k3 k5 "ValueError.__new__")∧h.Ns N mN∧mN "__init__" = none∧OwnTail h bmV bm:=by
 unfold excK PySem.W.excIn at q
 split at q
 case h_2=>cases q
 case h_1 dx cx slx at1 =>
  split at q
  case h_2=>cases q
  case h_1 Cx tl y0 y1 y2 y3 yn y5 m1 m2 =>
   rw [Bool.and_eq_true,Bool.and_eq_true,Bool.and_eq_true,Bool.and_eq_true,Bool.and_eq_true] at q
   obtain ⟨⟨⟨⟨⟨q1,q2⟩,q3⟩,q4⟩,q5⟩,q6⟩:=q
   replace q1:=beq_iff_eq.mp q1
   replace q2:=beq_iff_eq.mp q2
   replace q6:=beq_iff_eq.mp q6
   replace q3:cx.hasDel=false:=by simpa using q3
   subst q1 q2
   cases cx
   dsimp only at m1 q3 q5 q6
   subst m1 q3
   cases slx
   dsimp only at m2
   subst m2
   exact ⟨_,_,_,_,tl,_,_,_,_,_,dx,y0,y1,y2,y3,y5,_,kin _ _ at1,.of_isNs (PySem.W.isNs_of_in kin q5),PySem.W.nsMap_none_of_in kin q5 q6,PySem.W.tail_of_in kin q4⟩
section
variable {X:Cx}{E:XK}{C:Addr}{x:Str}{e:Expr}{es:List Expr}{t:TA}{np cpos pos:Pos}
def tRaise (C:Addr) (E:XK) (t:TA):TS:=fun _ σ H=>t σ H fun vs H1=>vs.length≤100∧E (.ref C) none H1
theorem zkt_ (hT:Takes X E) (hcm:X.calm=true) (hq:excK X.K C=true) (hm:X.mg x=some (.ref C)) (ha:PA X (e::es) t) (hg:Gl X x:=by rfl) (hdb:(x == ("__debug__" : Str))=false:=by decide)
  (he:starEach (e::es) X.env=(false,eval e X.env)::starEach es X.env:=by rfl) (hpl:(backTo cpos (starEach es X.env)).any (·.1)=false:=by rfl) :
  PS X (.Raise (some (.Call (.Name x np) (e::es) [] cpos)) none pos) (tRaise C E t):=by
 intro pins s σ H D I h
 obtain ⟨nm,qn,N,bs,bm,hd,sn,sub,ab,col,dd,k0,k1,k2,k3,k5,mN,hC,hN,hni,TL⟩:=zlV_ I.ok.mod.kin hq
 refine wpAny_Raise_call_subU (C:=C) (nm:=nm) (q:=qn) (N:=N) (bs:=bs) (bm:=bm) (hdct:=hd) (sn:=sn) (sub:=sub) (ab:=ab) (col:=col) (dd:=dd) (k0:=k0) (k1:=k1) (k2:=k2) (k3:=k3) (k5:=k5)
  PySem.F.excBase_ValueError (by decide) PySem.F.excBase_ValueError (mN:=mN) (TL.hasType rfl) (I.ok.hd hcm) (by rw [he]; show (false || (backTo cpos (starEach es X.env)).any (·.1))=false; rw [hpl]; rfl) hni (zfg_ I hg hm ⟨rfl,?_⟩ hdb)
 have h2:=ha cpos pins s σ H _ I h
 rw [he] at h2 ⊢
 refine Calls.evalArgs_plain (wpAny_mono h2 (fun us s1 q=>?_) fun _ _ y=>y)
 obtain ⟨vs,H1,I1,r,hl,q⟩:=q
 refine ⟨rfl,?_,I1.bk _ _ hC,hN.keeps I1.bk,TL.keeps I1.bk,fun h' a hmade=>hT pins σ H1 s1 h' a C _ I1 hmade q⟩
 show us.length≤sizeLine
 rw [← r.length]
 exact Nat.le_trans hl (by rw [sizeLine_eq]; decide)
end
section
variable {X:Cx}{a:Expr}{ta:TE}{pos:Pos}
def mRepr:V→Hp→VK→Prop:=fun x H Q=>match x with | .str z=>(reprText z).length≤sizeLine∧Q (.str (reprText z)) H | _=>False
theorem zm3_ (ha:PE X a ta):PE X (.FormattedValue a 114 none pos) (tUn mRepr ta):=by
 intro pins s σ H Q I h
 refine wpAny_FormattedValue_repr (thn (ha pins s σ H _ I h) fun v s1 hq_=>?_)
 obtain ⟨x,H1,I1,r1,q1⟩:=hq_
 cases x with
 | str z =>
  obtain ⟨k,rfl⟩:=r1
  refine wpAny_pyReprObj_gives (T := "str") (typeIs_str _ _ _) PySem.F.slot_str_repr PySem.F.entry_str_repr (PySem.F.args_str_repr_1 _) (gives_str_repr z k) ?_ rfl q1.1
  exact wpAny_formatField_str ⟨.str (reprText z),H1,I1.tok _,⟨_,rfl⟩,q1.2⟩ ⟨.str (reprText z),H1,(I1.tok _).tok _,⟨_,rfl⟩,q1.2⟩ q1.1
 | _=>exact q1.elim
abbrev TJ:=Str→St→Hp→(Str→Hp→Prop)→Prop
def PJ (X:Cx) (vs:List Expr) (t:TJ):Prop:=∀ (acc:Str) (pins:Pnn) (s:Shared) (σ:St) (H:Hp) (Q:Str→Shared→Prop) (R:Str→Hp→Prop),Inv X pins σ H s→t acc σ H R→(∀ out s1 H1,Inv X pins σ H1 s1→R out H1→Q out s1) →
 Joins (model X.prog X.w) X.A X.xe (evalEach vs X.env) acc Q s
def tJ0:TJ:=fun acc _ H R=>R acc H
def tJ1 (ta:TE) (tr:TJ):TJ:=fun acc σ H R=>ta σ H fun x H1=>match x with | .str z=>(acc++z).length≤sizeLine∧tr (acc++z) σ H1 R | _=>False
theorem znj_:PJ X [] tJ0:=fun acc pins s σ H Q R I h hq=>hq acc s H I h
theorem zjm_ {vs:List Expr}{tr:TJ}(ha:PE X a ta) (hr:PJ X vs tr) (he:evalEach (a::vs) X.env=eval a X.env::evalEach vs X.env:=by rfl):PJ X (a::vs) (tJ1 ta tr):=by
 intro acc pins s σ H Q R I h hq
 rw [he]
 refine wpAny_mono (ha pins s σ H _ I h) (fun v s1 q=>?_) fun _ _ y=>y
 obtain ⟨x,H1,I1,r1,q1⟩:=q
 cases x with
 | str z =>
  obtain ⟨k,rfl⟩:=r1
  exact ⟨z,k,rfl,q1.1,hr (acc++z) pins s1 σ H1 Q R I1 q1.2 hq⟩
 | _=>exact q1.elim
def tJoin (tj:TJ):TE:=fun σ H Q=>tj Str.empty σ H fun out H1=>out.length≤sizeLine∧Q (.str out) H1
theorem zit_ {b:Expr}{vs:List Expr}{tj:TJ}(h:PJ X (a::b::vs) tj):PE X (.JoinedStr (a::b::vs) pos) (tJoin tj):=by
 intro pins s σ H Q I q
 refine wpAny_JoinedStr (h Str.empty pins s σ H _ _ I q fun out s1 H1 I1 q1=>⟨q1.1,.str out,H1,I1.tok _,⟨_,rfl⟩,q1.2⟩)
end
end L2
namespace LX
open PySem PySem.W PySem.Calls PyProof.Rows Builtin Builtin.ObjectAttr Builtin.Getset_descriptor
section
variable {prog:Program}{w:World}{A:Around}{K:Frag}{x D:Addr}
end
end LX
namespace L2
open PySem PySem.Spec PyProof.Rows
end L2
namespace L2
open PySem PySem.Spec PyProof.Rows
section
variable {X:Cx}{k:Nat}{x:Str}{ps:List Str}{sp:Sp}{E:XK}{p pos:Pos}{e:Expr}{es:List Expr}{t:TA}
theorem zkK_ (G:Gd X.prog X.w X.K X.mg X.base (CXx X.prog X.w) k x ps sp) (hr:Room k X.A) (hx:Passes (CXx X.prog X.w) X E) (ha:PA X (e::es) t) (hg:Gl X x:=by rfl) (hdb:(x == ("__debug__" : Str))=false:=by decide)
  (he:starEach (e::es) X.env=(false,eval e X.env)::starEach es X.env:=by rfl) (hpl:(backTo pos (starEach es X.env)).any (·.1)=false:=by rfl) :
  PE X (.Call (.Name x p) (e::es) [] pos) (tCall sp [] E t):=by
 obtain ⟨f,fd,F,hm,hk,hb⟩:=G
 exact zjg_ F hr hg hm hk hb .nil hx ha hdb he hpl
end
def XP (X:Cx) (pins:Pnn) (W:St→XK) (e:Value) (s':Shared):Prop:=∃ σ' Hb sb,Inv X pins σ' Hb sb∧CXx X.prog X.w X.stack Hb sb (W σ') e s'
abbrev TX:=Ends→(St→XK)→St→Hp→Prop
section
variable {X:Cx}{st:Stmt}{rest:List Stmt}{t u:TX}{k:Nat}{x:Str}{ps:List Str}{sp:Sp}{p pos pos':Pos}{e:Expr}{es:List Expr}{ta:TA}
end
section
variable {X:Cx}{pins:Pnn}{σ:St}{Hb H':Hp}{sb s1:Shared}{x T C:Addr}
end
end L2
namespace L2
open PySem PySem.Spec PyProof.Rows
section
variable {X:Cx}{body:List Stmt}{tb:TX}{ts:TS}{S:Addr}{sx n:Str}{i:Nat}{b₀:Stmt}{suite:List Stmt}{np hpos pos:Pos}
end
end L2
namespace L2
open PySem PySem.Spec PyProof.Rows
section
variable {P:Program}{w:World}{K:Fgg}{mg:Str→Option Value}{base:Heap}
theorem Fun.okX {x qual:Str}{st:Stmt}{f:Addr}{fd:FuncData}{N ps:List Str}{k:Nat}{sp:Sp}(F:Fun K x qual st f fd) (S:FnScope N ps (defScope st)) (len:∀ vs H Q E,sp vs H Q E→vs.length=ps.length)
  (hbody:∀ (cdv:Value) (A:Around) (outer:List Env) (s:Shared) (H:Hp) (vs:List V) (Q:VK) (E:XK),Room k (A.deeper (envOfC qual (defScope st) s.heap.objs.size f cdv))→sp vs H Q E →
   ∃ t,PSs (cxOf (CXx P w) P w K mg base N qual (defScope st) f cdv A outer s H E) (defBody st) t∧t { nx:=fun _ H'=>Q .non H',rt:=Q } (start N vs) H):FnOk P w K mg base (CXx P w) (k+1) f fd ps sp:=by
 obtain ⟨oc,od,kV,doc,pm,an,cdv,ct,osl,rfl,lk,hcd⟩:=F.ex
 exact fn_of lk hcd S len fun A outer s H vs Q E hr hsp=>hbody cdv A outer s H vs Q E hr hsp
end
section
variable {X:Cx}{k:Nat}{x:Str}{ps:List Str}{sp:Sp}{p pos:Pos}{e:Expr}{es:List Expr}{t:TA}
end
end L2
namespace L2
open PySem PySem.Spec PyProof.Rows
section
variable {X:Cx}{k:Nat}{x:Str}{ps:List Str}{sp:Sp}{p pos pos':Pos}{e:Expr}{es:List Expr}{ta:TA}{i:Nat}{y:Str}{py:Pos}
end
def SG:List Nat:=[32,48,49,50,51,52,53,54,55,56,57,65,66,67,68,69,70,71,72,73,74,75,76,77,78,79,80,81,82,83,84,85,86,87,88,89,90]
def rk (l:List Nat):Option Nat:=match l with | [c]=>SG.findIdx? (· == c) | _=>none
end L2
namespace L2
open PySem PySem.Spec PyProof.Rows
section
variable {X:Cx}
end
section
variable {X:Cx}
def intsV (lo hi:Int):List V:=(List.range (hi-lo).toNat).map fun (i:Nat)=>V.int (lo+i)
def mList (K:Fgg):List V→Hp→VK→Prop:=fun xs H Q=>match xs with
 | [.ref p]=>(∃ ys,(SqL K H p ys∨SqT K H p ys)∧∀ l,H l=none→Q (.ref l) (upd H l (.lst ys))) ∨
   (∃ lo hi,H p=some (.rng lo hi)∧(-50000≤lo∧lo≤50000 ∧ -50000≤hi∧hi≤50000)∧∀ l,H l=none→Q (.ref l) (upd H l (.lst (intsV lo hi))))
 | _=>False
theorem zj5_ {lo:Int}:∀ {n:Nat}{us:List Value},us.length=n→(∀ (j:Nat) (v:Value),us[j]?=some v→∃ t,v=Value.int (lo+j) t)→Vals ((List.range n).map fun (i:Nat)=>V.int (lo+i)) us
 | n,us,hl,h=>by
  refine paired_of (by rw [List.length_map,List.length_range,hl]) fun j x u hx hu=>?_
  rw [List.getElem?_map] at hx
  cases e:(List.range n)[j]? with
  | none=>rw [e] at hx; cases hx
  | some i =>
   rw [e] at hx; cases hx
   have:=List.getElem?_eq_some_iff.mp e
   obtain ⟨hj,ej⟩:=this
   rw [List.getElem_range] at ej
   subst ej
   exact h j u hu
 where paired_of:∀ {xs:List V}{us:List Value},xs.length=us.length→(∀ (j:Nat) x u,xs[j]?=some x→us[j]?=some u→RelV x u)→Vals xs us
 | [],[],_,_=>.nil
 | x::xs,u::us,hl,h=>.cons (h 0 x u rfl rfl) (paired_of (Nat.succ.inj hl) fun j x u a b=>h (j+1) x u a b)
theorem zhp_ (hc:X.calm=true):CallR X (.type "list") (mList X.K):=by
 intro pins s σ H xs us Q I r h
 have hv:∃ p,xs=[.ref p]:=by
  rcases xs with _ | ⟨y,_ | ⟨z,t⟩⟩
  ·exact False.elim h
  ·cases y with
   | ref p=>exact ⟨p,rfl⟩
   | _=>exact False.elim h
  ·cases y<;>exact False.elim h
 obtain ⟨p,rfl⟩:=hv
 ·rcases h with ⟨ys,hq,q⟩ | ⟨lo,hi,hp,⟨h1,h2,h3,h4⟩,q⟩
  ·exact zf3_ pins s σ H _ us Q I r ⟨p,ys,rfl,hq,q⟩
  ·obtain ⟨u,rfl,rx⟩:=vals1 r
   cases rx
   obtain ⟨t,u,v,e⟩:=I.hok p _ hp
   have hn:Builtin.Range.rangeSize lo hi 1=(((hi-lo).toNat:Nat):Int):=by rw [rangeSize_one]; split<;>lia
   refine call_list_range (I.ok.hd hc) e (small_one (by lia) (by lia) (by lia) (by lia)) hn (by lia) fun h' tk acc c' kp e' hq_=>?_
   obtain ⟨hs,hi'⟩:=hq_
   refine ⟨.ref s.heap.objs.size,_,I.laid (o:=.lst (intsV lo hi)) (t':=tk) kp (Nat.le_refl _) ?_,rfl,q _ (I.hok.fresh (Nat.le_refl _))⟩
   refine ⟨?_,acc.toList,c',zj5_ (by simpa using hs) (fun j v hv=>?_),by simpa using e'⟩
   ·unfold intsV; rw [List.length_map,List.length_range]; exact zc8_ (by lia)
   ·obtain ⟨t,ht⟩:=hi' j v (by simpa using hv)
    exact ⟨t,by rw [ht]; simp⟩
end
inductive EqD (K:Fgg) (H:Hp):Nat→V→V→Bool→Prop
 | flat {x y:V}(hx:flatV x=true) (hy:flatV y=true):EqD K H 0 x y (eqV x y)
 | lst {n:Nat}{p q:Addr}{xs ys:List V}(e:Nat→Bool) (hp:SqL K H p xs) (hq:SqL K H q ys) (hl:xs.length=ys.length) (h:∀ (i:Nat) x y,xs[i]?=some x→ys[i]?=some y→EqD K H n x y (e i)):EqD K H (n+1) (.ref p) (.ref q) ((List.range xs.length).all e)
 | lstN {n:Nat}{p q:Addr}{xs ys:List V}(hp:SqL K H p xs) (hq:SqL K H q ys) (hl:xs.length≠ys.length):EqD K H n (.ref p) (.ref q) false
 | tup {n:Nat}{p q:Addr}{xs ys:List V}(e:Nat→Bool) (hp:SqT K H p xs) (hq:SqT K H q ys) (h:∀ (i:Nat) x y,xs[i]?=some x→ys[i]?=some y→EqD K H n x y (e i)):EqD K H (n+1) (.ref p) (.ref q) ((List.range (min xs.length ys.length)).all e && xs.length == ys.length)
 | lt {n:Nat}{p q:Addr}{xs ys:List V}(hp:SqL K H p xs) (hq:SqT K H q ys):EqD K H n (.ref p) (.ref q) false
 | tl {n:Nat}{p q:Addr}{xs ys:List V}(hp:SqT K H p xs) (hq:SqL K H q ys):EqD K H n (.ref p) (.ref q) false
 | lf {n:Nat}{p:Addr}{xs:List V}{y:V}(hp:SqL K H p xs) (hy:flatV y=true):EqD K H n (.ref p) y false
 | fl {n:Nat}{p:Addr}{xs:List V}{y:V}(hp:SqL K H p xs) (hy:flatV y=true):EqD K H n y (.ref p) false
 | tf {n:Nat}{p:Addr}{xs:List V}{y:V}(hp:SqT K H p xs) (hy:flatV y=true):EqD K H n (.ref p) y false
 | ft {n:Nat}{p:Addr}{xs:List V}{y:V}(hp:SqT K H p xs) (hy:flatV y=true):EqD K H n y (.ref p) false
 | up {n:Nat}{x y:V}{b:Bool}(h:EqD K H n x y b):EqD K H (n+1) x y b
section
variable {X:Cx}{pins:Pnn}{σ:St}{H:Hp}{s:Shared}
theorem zc9_ {xs:List V}{us:List Value}(r:Vals xs us) {i:Nat}(h:i<us.toArray.size):∃ x,xs[i]?=some x∧RelV x us.toArray[i]:=by
 have hi:i<us.length:=by simpa using h
 have hl:=r.length
 obtain ⟨u,hu,ru⟩:=r.get (List.getElem?_eq_getElem (show i<xs.length by lia))
 refine ⟨_,List.getElem?_eq_getElem (by lia),?_⟩
 rw [List.getElem?_eq_getElem hi] at hu
 cases hu
 simpa using ru
theorem zhD_ (I:Inv X pins σ H s) {n:Nat}{x y:V}{b:Bool}(h:EqD X.K H n x y b):x=y→b=true:=by
 induction h with
 | flat hx hy =>
  rename_i x y
  rintro rfl
  cases x<;>first | (cases hx; done) | (simp [eqV]; done) | rfl
 | lst e hp hq hl h ih =>
  rename_i n p q xs ys
  intro e0
  cases e0
  have exy:=I.list_inj hp hq
  subst exy
  rw [List.all_eq_true]
  intro i hi
  have hi:=List.mem_range.mp hi
  exact ih i _ _ (List.getElem?_eq_getElem hi) (List.getElem?_eq_getElem hi) rfl
 | lstN hp hq hl =>
  intro e0
  cases e0
  exact absurd (by rw [I.list_inj hp hq]) hl
 | tup e hp hq h ih =>
  rename_i n p q xs ys
  intro e0
  cases e0
  have exy:=I.tuple_inj hp hq
  subst exy
  rw [Bool.and_eq_true,List.all_eq_true]
  refine ⟨?_,by simp⟩
  intro i hi
  have hi:=List.mem_range.mp hi
  have hi:i<xs.length:=by lia
  exact ih i _ _ (List.getElem?_eq_getElem hi) (List.getElem?_eq_getElem hi) rfl
 | lt hp hq =>
  intro e0
  cases e0
  obtain ⟨its,r1,p1,z1⟩:=I.list hp
  obtain ⟨its2,r2,p2,z2⟩:=I.tuple hq
  exact absurd rfl (SeqAt.ne_of_list_tuple p1.isList p2)
 | tl hp hq =>
  intro e0
  cases e0
  obtain ⟨its,r1,p1,z1⟩:=I.tuple hp
  obtain ⟨its2,r2,p2,z2⟩:=I.list hq
  exact absurd rfl (SeqAt.ne_of_list_tuple p2.isList p1)
 | lf hp hy=>rintro rfl; cases hy
 | fl hp hy=>rintro rfl; cases hy
 | tf hp hy=>rintro rfl; cases hy
 | ft hp hy=>rintro rfl; cases hy
 | up h ih=>exact ih
theorem zkN_ (I:Inv X pins σ H s) {n:Nat}{x y:V}{b:Bool}(h:EqD X.K H n x y b):∀ (A:Around) (v u:Value),A.units+n<cLine→RelV x v→RelV y u →
  SeqAt.EqAt A s v u b∧(∀ p q,x=.ref p→y=.ref q→SeqAt.RcAt A s v u b):=by
 induction h with
 | flat hx hy =>
  intro A v u _ rx ry
  refine ⟨zk9_ rx ry hx hy,fun p q e _=>?_⟩
  subst e; cases hx
 | lst e hp hq hl h ih =>
  rename_i n p q xs ys
  intro A v u hu rx ry
  cases rx; cases ry
  obtain ⟨its,r1,p1,z1⟩:=I.list hp
  obtain ⟨its2,r2,p2,z2⟩:=I.list hq
  have l1:=r1.length
  have l2:=r2.length
  have rc:SeqAt.RcAt A s (.ref p) (.ref q) ((List.range xs.length).all e):=by
   have:=SeqAt.RcAt.lists (A:=A) (e:=e) p1.isList p2.isList (by simp only [List.size_toArray]; lia) (by lia) (fun j h1 h2=>by
    obtain ⟨x,ex,rx⟩:=zc9_ r1 h1
    obtain ⟨y,ey,ry⟩:=zc9_ r2 h2
    exact (ih j x y ex ey A.in1 _ _ (by show A.units+1+n<_; lia) rx ry).1)
   rw [List.size_toArray,← l1] at this
   exact this
  refine ⟨?_,fun _ _ _ _=>rc⟩
  by_cases hpq:p=q
  ·subst hpq
   have exy:=I.list_inj hp hq
   subst exy
   have:(List.range xs.length).all e=true:=by
    rw [List.all_eq_true]
    intro i hi
    have hi:=List.mem_range.mp hi
    exact zhD_ I (h i _ _ (List.getElem?_eq_getElem hi) (List.getElem?_eq_getElem hi)) rfl
   rw [this]
   exact SeqAt.EqAt.same _
  ·exact .of_refs hpq rc
 | lstN hp hq hl =>
  rename_i n p q xs ys
  intro A v u hu rx ry
  cases rx; cases ry
  obtain ⟨its,r1,p1,z1⟩:=I.list hp
  obtain ⟨its2,r2,p2,z2⟩:=I.list hq
  have l1:=r1.length
  have l2:=r2.length
  have rc:SeqAt.RcAt A s (.ref p) (.ref q) false:=SeqAt.RcAt.lists_lengths p1.isList p2.isList (by simp only [List.size_toArray,bne_iff_ne,ne_eq]; lia) (by lia)
  refine ⟨.of_refs (fun e=>?_) rc,fun _ _ _ _=>rc⟩
  subst e
  exact hl (by rw [I.list_inj hp hq])
 | tup e hp hq h ih =>
  rename_i n p q xs ys
  intro A v u hu rx ry
  cases rx; cases ry
  obtain ⟨its,r1,p1,z1⟩:=I.tuple hp
  obtain ⟨its2,r2,p2,z2⟩:=I.tuple hq
  have l1:=r1.length
  have l2:=r2.length
  have rc:SeqAt.RcAt A s (.ref p) (.ref q) ((List.range (min xs.length ys.length)).all e && xs.length == ys.length):=by
   have:=SeqAt.RcAt.tuples (A:=A) (e:=e) (show s.heap.IsTuple p its.toArray from p1) (show s.heap.IsTuple q its2.toArray from p2) (by lia) (fun j h1 h2=>by
    obtain ⟨x,ex,rx⟩:=zc9_ r1 h1
    obtain ⟨y,ey,ry⟩:=zc9_ r2 h2
    exact (ih j x y ex ey A.in1 _ _ (by show A.units+1+n<_; lia) rx ry).1)
   rw [List.size_toArray,List.size_toArray,← l1,← l2] at this
   exact this
  refine ⟨?_,fun _ _ _ _=>rc⟩
  by_cases hpq:p=q
  ·subst hpq
   have exy:=I.tuple_inj hp hq
   subst exy
   have:((List.range (min xs.length xs.length)).all e && xs.length == xs.length)=true:=by
    rw [Bool.and_eq_true,List.all_eq_true]
    refine ⟨?_,by simp⟩
    intro i hi
    have hi:=List.mem_range.mp hi
    have hi:i<xs.length:=by lia
    exact zhD_ I (h i _ _ (List.getElem?_eq_getElem hi) (List.getElem?_eq_getElem hi)) rfl
   rw [this]
   exact SeqAt.EqAt.same _
  ·exact .of_refs hpq rc
 | lt hp hq =>
  intro A v u hu rx ry
  cases rx; cases ry
  obtain ⟨its,r1,p1,z1⟩:=I.list hp
  obtain ⟨its2,r2,p2,z2⟩:=I.tuple hq
  exact ⟨.list_tuple p1.isList p2 (by lia),fun _ _ _ _=>.list_tuple p1.isList p2 (by lia)⟩
 | tl hp hq =>
  intro A v u hu rx ry
  cases rx; cases ry
  obtain ⟨its,r1,p1,z1⟩:=I.tuple hp
  obtain ⟨its2,r2,p2,z2⟩:=I.list hq
  exact ⟨.tuple_list p1 p2.isList (by lia),fun _ _ _ _=>.tuple_list p1 p2.isList (by lia)⟩
 | lf hp hy =>
  rename_i n p xs y
  intro A v u hu rx ry
  cases rx
  obtain ⟨its,r1,p1,z1⟩:=I.list hp
  refine ⟨?_,fun _ _ _ e=>by subst e; cases hy⟩
  cases y with
  | non=>cases ry; exact .list_none p1.isList (by lia)
  | bl b=>cases ry; exact .list_bool b p1.isList (by lia)
  | int b=>obtain ⟨t,rfl⟩:=ry; exact .list_int b t p1.isList (by lia)
  | str b=>obtain ⟨t,rfl⟩:=ry; exact .list_str b t p1.isList (by lia)
  | _=>cases hy
 | fl hp hy =>
  rename_i n p xs y
  intro A v u hu rx ry
  cases ry
  obtain ⟨its,r1,p1,z1⟩:=I.list hp
  refine ⟨?_,fun _ _ e _=>by subst e; cases hy⟩
  cases y with
  | non=>cases rx; exact .none_list p1.isList (by lia)
  | bl b=>cases rx; exact .bool_list b p1.isList (by lia)
  | int b=>obtain ⟨t,rfl⟩:=rx; exact .int_list b t p1.isList (by lia)
  | str b=>obtain ⟨t,rfl⟩:=rx; exact .str_list b t p1.isList (by lia)
  | _=>cases hy
 | tf hp hy =>
  rename_i n p xs y
  intro A v u hu rx ry
  cases rx
  obtain ⟨its,r1,p1,z1⟩:=I.tuple hp
  refine ⟨?_,fun _ _ _ e=>by subst e; cases hy⟩
  cases y with
  | non=>cases ry; exact .tuple_none p1 (by lia)
  | bl b=>cases ry; exact .tuple_bool b p1 (by lia)
  | int b=>obtain ⟨t,rfl⟩:=ry; exact .tuple_int b t p1 (by lia)
  | str b=>obtain ⟨t,rfl⟩:=ry; exact .tuple_str b t p1 (by lia)
  | _=>cases hy
 | ft hp hy =>
  rename_i n p xs y
  intro A v u hu rx ry
  cases ry
  obtain ⟨its,r1,p1,z1⟩:=I.tuple hp
  refine ⟨?_,fun _ _ e _=>by subst e; cases hy⟩
  cases y with
  | non=>cases rx; exact .none_tuple p1 (by lia)
  | bl b=>cases rx; exact .bool_tuple b p1 (by lia)
  | int b=>obtain ⟨t,rfl⟩:=rx; exact .int_tuple b t p1 (by lia)
  | str b=>obtain ⟨t,rfl⟩:=rx; exact .str_tuple b t p1 (by lia)
  | _=>cases hy
 | up h ih =>
  intro A v u hu rx ry
  exact ih A v u (by lia) rx ry
end
section
variable {X:Cx}
def mEqK (K:Fgg):R2:=fun x y H Q=>match x,y with
 | .ref p,.ref q=>∃ n b,n≤50∧EqD K H n (.ref p) (.ref q) b∧Q (.bl b) H
 | _,_=>mEq x y H Q
def mNeK (K:Fgg):R2:=fun x y H Q=>match x,y with
 | .ref p,.ref q=>∃ n b,n≤50∧EqD K H n (.ref p) (.ref q) b∧Q (.bl (!b)) H
 | _,_=>mNe x y H Q
theorem zbK_ (hu:X.A.units+60<cLine):OpR X (compareOp .Eq) (mEqK X.K):=by
 intro pins s σ H x y v u Q I rx ry h
 unfold mEqK at h
 split at h
 ·rename_i p q
  obtain ⟨n,b,hn,h,q⟩:=h
  have:=(zkN_ I h X.A v u (by lia) rx ry).2 _ _ rfl rfl
  exact this X.prog X.w X.xe _ ⟨.bl b,H,I,rfl,q⟩
 ·exact zmV_ pins s σ H x y v u Q I rx ry h
end
section
variable {X:Cx}{pins:Pnn}{σ:St}{H:Hp}{s:Shared}
theorem zmK_ (I:Inv X pins σ H s) {n:Nat}{x y:V}{b:Bool}(h:EqD X.K H n x y b):∀ (A:Around) (v u:Value),A.units+n<cLine→RelV x v→RelV y u→∀ p q,x=.ref p→y=.ref q→SeqAt.RcNeAt A s v u (!b):=by
 induction h with
 | flat hx hy=>intro A v u _ rx ry p q e _; subst e; cases hx
 | lst e hp hq hl h ih =>
  rename_i n p q xs ys
  intro A v u hu rx ry _ _ _ _
  cases rx; cases ry
  obtain ⟨its,r1,p1,z1⟩:=I.list hp
  obtain ⟨its2,r2,p2,z2⟩:=I.list hq
  have l1:=r1.length
  have l2:=r2.length
  have:=SeqAt.RcNeAt.lists (A:=A) (e:=e) p1.isList p2.isList (by simp only [List.size_toArray]; lia) (by lia) (fun j h1 h2=>by
   obtain ⟨x,ex,rx⟩:=zc9_ r1 h1
   obtain ⟨y,ey,ry⟩:=zc9_ r2 h2
   exact (zkN_ I (h j x y ex ey) A.in1 _ _ (by show A.units+1+n<_; lia) rx ry).1)
  rw [List.size_toArray,← l1] at this
  exact this
 | lstN hp hq hl =>
  intro A v u hu rx ry _ _ _ _
  cases rx; cases ry
  obtain ⟨its,r1,p1,z1⟩:=I.list hp
  obtain ⟨its2,r2,p2,z2⟩:=I.list hq
  have l1:=r1.length
  have l2:=r2.length
  exact SeqAt.RcNeAt.lists_lengths p1.isList p2.isList (by simp only [List.size_toArray,bne_iff_ne,ne_eq]; lia) (by lia)
 | tup e hp hq h ih =>
  rename_i n p q xs ys
  intro A v u hu rx ry _ _ _ _
  cases rx; cases ry
  obtain ⟨its,r1,p1,z1⟩:=I.tuple hp
  obtain ⟨its2,r2,p2,z2⟩:=I.tuple hq
  have l1:=r1.length
  have l2:=r2.length
  have:=SeqAt.RcNeAt.tuples (A:=A) (e:=e) (show s.heap.IsTuple p its.toArray from p1) (show s.heap.IsTuple q its2.toArray from p2) (by lia) (fun j h1 h2=>by
   obtain ⟨x,ex,rx⟩:=zc9_ r1 h1
   obtain ⟨y,ey,ry⟩:=zc9_ r2 h2
   exact (zkN_ I (h j x y ex ey) A.in1 _ _ (by show A.units+1+n<_; lia) rx ry).1)
  rw [List.size_toArray,List.size_toArray,← l1,← l2] at this
  exact this
 | lt hp hq =>
  intro A v u hu rx ry _ _ _ _
  cases rx; cases ry
  obtain ⟨its,r1,p1,z1⟩:=I.list hp
  obtain ⟨its2,r2,p2,z2⟩:=I.tuple hq
  exact .list_tuple p1.isList p2 (by lia)
 | tl hp hq =>
  intro A v u hu rx ry _ _ _ _
  cases rx; cases ry
  obtain ⟨its,r1,p1,z1⟩:=I.tuple hp
  obtain ⟨its2,r2,p2,z2⟩:=I.list hq
  exact .tuple_list p1 p2.isList (by lia)
 | lf hp hy=>intro A v u hu rx ry _ _ _ e; subst e; cases hy
 | fl hp hy=>intro A v u hu rx ry _ _ e _; subst e; cases hy
 | tf hp hy=>intro A v u hu rx ry _ _ _ e; subst e; cases hy
 | ft hp hy=>intro A v u hu rx ry _ _ e _; subst e; cases hy
 | up h ih=>intro A v u hu rx ry; exact ih A v u (by lia) rx ry
theorem ziV_ (hu:X.A.units+60<cLine):OpR X (compareOp .NotEq) (mNeK X.K):=by
 intro pins s σ H x y v u Q I rx ry h
 unfold mNeK at h
 split at h
 ·rename_i p q
  obtain ⟨n,b,hn,h,q⟩:=h
  have:=zmK_ I h X.A v u (by lia) rx ry _ _ rfl rfl
  exact this X.prog X.w X.xe _ ⟨.bl (!b),H,I,rfl,q⟩
 ·exact zm4_ pins s σ H x y v u Q I rx ry h
end
theorem Room.u60 {k:Nat}{A:Around}(r:Room k A):A.units+60<cLine:=by have:=r.units; lia
end L2
namespace LX
open PySem Builtin Builtin.Str
section
variable {prog:Program}{w:World}{A:Around}{E:Value→Shared→Prop}{s:Shared}{x:Str}{t:Tok}{Q:Value→Shared→Prop}
end
end LX
namespace L2
open PySem PySem.Spec PyProof.Rows
section
variable {X:Cx}
end
section
variable {X:Cx}{a b c d:Expr}{ta tb tc td:TE}{pos:Pos}
end
end L2
namespace L2
open PySem PySem.Spec PyProof.Rows
section
variable {κ:Type} [DecidableEq κ]
def putK (kvs:List (κ×V)) (k:κ) (v:V):List (κ×V) :=
 if (kvs.any fun kv=>decide (kv.1=k))=true then kvs.map (fun kv=>if kv.1=k then (kv.1,v) else kv) else kvs++[(k,v)]
theorem zgJ_ (kvs:List (κ×V)) (k:κ) (v:V):(putK kvs k v).length≤kvs.length+1:=by
 unfold putK
 split
 ·rw [List.length_map]; lia
 ·rw [List.length_append,List.length_cons,List.length_nil]; lia
theorem KV.any {kvs:List (κ×V)}{vs:List (κ×Value)}(r:KV kvs vs) (k:κ):(kvs.any fun kv=>decide (kv.1=k))=vs.any fun kv=>decide (kv.1=k):=by
 unfold KV at r
 induction r with
 | nil=>rfl
 | cons h t ih=>rw [List.any_cons,List.any_cons,ih,h.1]
theorem KV.repl {kvs:List (κ×V)}{vs:List (κ×Value)}(r:KV kvs vs) (k:κ) {y:V}{u:Value}(ry:RelV y u) :
  KV (kvs.map fun kv=>if kv.1=k then (kv.1,y) else kv) (vs.map fun kv=>if kv.1=k then (kv.1,u) else kv):=by
 unfold KV at r ⊢
 induction r with
 | nil=>exact .nil
 | @cons p q ps qs h t ih =>
  rw [List.map_cons,List.map_cons]
  refine .cons ?_ ih
  obtain ⟨h1,h2⟩:=h
  by_cases e:p.1=k
  ·rw [if_pos e,if_pos (h1.symm.trans e)]; exact ⟨h1,ry⟩
  ·rw [if_neg e,if_neg (fun z=>e (h1.trans z))]; exact ⟨h1,h2⟩
theorem KV.put {kvs:List (κ×V)}{vs:List (κ×Value)}(r:KV kvs vs) (k:κ) {y:V}{u:Value}(ry:RelV y u):KV (putK kvs k y) (stored vs k u):=by
 unfold putK stored
 rw [r.any k]
 by_cases e:(vs.any fun kv=>decide (kv.1=k))=true
 ·rw [if_pos e,if_pos e]; exact r.repl k ry
 ·rw [if_neg e,if_neg e]; exact Paired.snoc r ⟨rfl,ry⟩
end
theorem kV_is {P:Program}{w:World}{k:Key}{u:Value}(r:RelV (kV k) u):(mixKind P w).is k u=true:=by
 cases k with
 | inl i=>obtain ⟨t,e⟩:=(show ∃ t,u=Value.int i t from r); subst e; exact zgH_ P w i t
 | inr x=>obtain ⟨t,e⟩:=(show ∃ t,u=Value.str x t from r); subst e; exact zgW_ P w x t
section
variable {P:Program}{w:World}{H:Hp}{h:Heap}{a:Addr}
theorem rd_of {u:HO}(ok:HOk P w H h) (e:Rd H a u):ObjOk P w H h a u:=e.ok ok
theorem dk_rd {kvs:List (Key×V)}(ok:HOk P w H h) (e:Rd H a (.dK kvs)):kvs.length≤sizeLine∧(a == sysModules)=false∧∃ vs,KV kvs vs∧h.DictOf (mixKind P w) a vs :=
 show ObjOk P w H h a (.dK kvs) from rd_of ok e
theorem dk_of {kvs:List (Key×V)}(ok:HOk P w H h) (e:H a=some (.dK kvs)):kvs.length≤sizeLine∧(a == sysModules)=false∧∃ vs,KV kvs vs∧h.DictOf (mixKind P w) a vs:=dk_rd ok (.inl e)
end
section
variable {X:Cx}{pins:Pnn}{σ:St}{H:Hp}{s:Shared}{a:Addr}{y v:V}{u r:Value}{o:Option V}{A:Around}{E:Value→Shared→Prop}
theorem Inv.big (I:Inv X pins σ H s):sysModules<s.heap.objs.size:=by
 have h:mainGlobals<s.heap.objs.size:=(I.mod.glob.keeps I.bk).lt
 exact Nat.lt_trans (by decide) h
theorem zkT_ {h':Heap}{t':Nat}{ob:HO}(I:Inv X pins σ H s) (mu:Mut (H a)) (hs:Heap.SameBut a s.heap h') (he:∃ q,h'.get? a=some q) (new:ObjOk X.prog X.w (upd H a ob) h' a ob) :
  Inv X pins σ (upd H a ob) { s with heap:=h',toks:=t' } :=
 I.write (x:=a) (e:=a) mu (.inl rfl) (fun b q hb z=>(hs.2 b hb).trans z) he new
theorem znb_ {P:Program}{w:World}{H':Hp}{h':Heap}{kvs:List (Key×V)}{vs:List (Key×Value)}(z:kvs.length≤sizeLine) (hd:(a == sysModules)=false) (rel:KV kvs vs) (dd:h'.DictOf (mixKind P w) a vs) :
  ObjOk P w H' h' a (.dK kvs):=⟨z,hd,vs,rel,dd⟩
end
section
variable {X:Cx}{pins:Pnn}{σ:St}{H:Hp}{s:Shared}{a:Addr}{kvs:List (Key×V)}{k:Key}{u:Value}{A:Around}{E:Value→Shared→Prop}
end
section
variable {X:Cx}{o i e value:Expr}{pos pos' tpos:Pos}{td ty tv:TE}
end
theorem zhE_ {P:Program}{w:World}{H:Hp}(h:Heap) (hb:sysModules<h.objs.size):ObjOk P w H (h.push { cls:=.type "dict",data:=.dict #[] }) h.objs.size (.dK []) :=
 ⟨Nat.zero_le _,beq_eq_false_iff_ne.mpr (Ne.symm (Nat.ne_of_lt hb)),[],.nil,Heap.DictOf.new h⟩
def tDNewK:TE:=fun _ H Q=>∀ p,H p=none→Q (.ref p) (upd H p (.dK []))
section
variable {X:Cx}{pos:Pos}
theorem zj8_:PE X (.Dict [] [] pos) tDNewK:=fun pins s σ H Q I h =>
 wpAny_Dict_empty ⟨.ref s.heap.objs.size,_,I.laid (a:=s.heap.objs.size) (o:=.dK []) (t':=s.toks) (fun _ _ q=>Heap.get?_push_of_some _ q) (Nat.le_refl _) (zhE_ s.heap I.big),rfl,h _ (I.hok.fresh (Nat.le_refl _))⟩
end
def tPairs:List (TE×TE)→St→Hp→(List (V×V)→Hp→Prop)→Prop
 | [],_,H,Q=>Q [] H
 | (tk,tv)::r,σ,H,Q=>tk σ H fun x H1=>tv σ H1 fun y H2=>tPairs r σ H2 fun ps H3=>Q ((x,y)::ps) H3
abbrev VV:List (V×V)→List (Value×Value)→Prop:=Paired fun p q=>RelV p.1 q.1∧RelV p.2 q.2
def PPs (X:Cx) (pos:Pos) (keys:List (Option Expr)) (values:List Expr) (trs:List (TE×TE)):Prop :=
 ∀ (pins:Pnn) (s:Shared) (σ:St) (H:Hp) (Q:List (V×V)→Hp→Prop),Inv X pins σ H s→tPairs trs σ H Q →
  wpAny (model X.prog X.w) X.A (evalPairs (pairTrees keys values X.env pos)) (fun vs s'=>∃ ps H',Inv X pins σ H' s'∧VV ps vs∧Q ps H') X.xe s
theorem zk1_ {X:Cx}{pos:Pos}:PPs X pos [] [] []:=fun pins s σ H Q I h=>pairTrees_nil_walk ⟨[],H,I,.nil,h⟩
theorem zkG_ {X:Cx}{pos:Pos}{k v:Expr}{ks:List (Option Expr)}{vs:List Expr}{tk tv:TE}{trs:List (TE×TE)}(hk:PE X k tk) (hv:PE X v tv) (hr:PPs X pos ks vs trs) :
  PPs X pos (some k::ks) (v::vs) ((tk,tv)::trs):=fun pins s σ H Q I h =>
 pairTrees_cons_walk (thn (hk pins s σ H _ I h) fun u s1 ⟨x,H1,I1,rx,q1⟩=>thn (hv pins s1 σ H1 _ I1 q1) fun w2 s2 ⟨y,H2,I2,ry,q2⟩ =>
  thn (hr pins s2 σ H2 _ I2 q2) fun ws s3 ⟨ps,H3,I3,rel,q3⟩=>⟨(x,y)::ps,H3,I3,.cons ⟨rx,ry⟩ rel,q3⟩)
def mergeK (kvs more:List (Key×V)):List (Key×V):=more.foldl (fun acc kv=>putK acc kv.1 kv.2) kvs
theorem KV.merge:∀ {more:List (Key×V)}{rs:List (Key×Value)}{kvs:List (Key×V)}{vs:List (Key×Value)},KV more rs→KV kvs vs→KV (mergeK kvs more) (merged vs rs):=by
 intro more rs kvs vs r
 unfold KV at r
 induction r generalizing kvs vs with
 | nil=>intro q; exact q
 | @cons p q ps qs h t ih =>
  intro r0
  have e:KV (putK kvs p.1 p.2) (stored vs q.1 q.2):=by
   have:=r0.put p.1 h.2
   rw [← h.1]; exact this
  exact ih e
theorem zdb_:∀ (more kvs:List (Key×V)),(mergeK kvs more).length≤kvs.length+more.length
 | [],kvs=>by show kvs.length≤kvs.length+0; lia
 | p::r,kvs=>by
  have h1:=zdb_ r (putK kvs p.1 p.2)
  have h2:=zgJ_ kvs p.1 p.2
  show (mergeK (putK kvs p.1 p.2) r).length≤_
  rw [List.length_cons]; lia
theorem ze8_ {P:Program}{w:World}:∀ {kvs:List (Key×V)}{ws:List (Value×Value)},VV (kvs.map fun kv=>(kV kv.1,kv.2)) ws→∃ rs,Carries (mixKind P w) ws rs∧KV kvs rs
 | [],_,r=>by rw [List.map_nil] at r; cases r; exact ⟨[],True.intro,.nil⟩
 | p::kvs,_,r=>by
  rw [List.map_cons] at r
  cases r with
  | @cons a b as bs h t =>
   obtain ⟨rs,c,q⟩:=ze8_ (P:=P) (w:=w) t
   obtain ⟨b1,b2⟩:=b
   exact ⟨(p.1,b2)::rs,⟨kV_is h.1,rfl,c⟩,.cons ⟨rfl,h.2⟩ q⟩
def tDisp (trs:List (TE×TE)):TE:=fun σ H Q=>∀ p,H p=none→tPairs trs σ (upd H p (.dK [])) fun ps H2=>H2 p=some (.dK [])∧∃ kvs:List (Key×V),ps=kvs.map (fun kv=>(kV kv.1,kv.2))∧kvs.length≤15∧Q (.ref p) (upd H2 p (.dK (mergeK [] kvs)))
theorem zlG_ {X:Cx}{pos:Pos}{keys:List (Option Expr)}{values:List Expr}{trs:List (TE×TE)}(h:PPs X pos keys values trs) (hall:keys.all (·.isSome)=true) (hl:keys.length=values.length) (h0:keys≠[])
  (h15:keys.length≤15):PE X (.Dict keys values pos) (tDisp trs):=by
 intro pins s σ H Q I q
 have hn:=I.hok.fresh (Nat.le_refl s.heap.objs.size)
 have I1:=I.laid (a:=s.heap.objs.size) (o:=.dK []) (h':=s.heap.push { cls:=.type "dict",data:=.dict #[] }) (t':=s.toks) (fun _ _ q=>Heap.get?_push_of_some _ q) (Nat.le_refl _) (zhE_ s.heap I.big)
 refine wpAny_Dict_walk (knd:=mixKind X.prog X.w) hall hl h0 h15 (thn (h pins _ σ _ _ I1 (q _ hn)) fun ws s2 hq_=>?_)
 obtain ⟨ps,H2,I2,rel,e,kvs,ep,lk,q2⟩:=hq_
 subst ep
 obtain ⟨rs,c,rk⟩:=ze8_ (P:=X.prog) (w:=X.w) rel
 obtain ⟨z,hd,vs0,r0,dd⟩:=dk_of I2.hok e
 cases r0
 refine ⟨rs,c,dd,fun h' dd' hs=>⟨.ref s.heap.objs.size,_,?_,rfl,q2⟩⟩
 have hz:(mergeK [] kvs).length≤sizeLine:=by
  have h1:=zdb_ kvs []
  rw [List.length_nil] at h1
  rw [sizeLine_eq]; lia
 have he:∃ q,h'.get? s.heap.objs.size=some q:=let ⟨q,_,_,hq,_⟩:=dd'; ⟨q,hq⟩
 exact zkT_ I2 (by rw [e]; exact True.intro) hs he (znb_ hz hd (rk.merge .nil) dd')
section
variable {X:Cx}{pins:Pnn}{σ:St}{H:Hp}{s:Shared}{a:Addr}{y d:V}{u r:Value}{o:Option V}{A:Around}{E:Value→Shared→Prop}
end
section
variable {X:Cx}{o e f:Expr}{apos cpos:Pos}{td ty tx:TE}
end
section
variable {X:Cx}{pins:Pnn}{σ:St}{H:Hp}{s:Shared}{a:Addr}{kvs:List (Key×V)}{A:Around}{E:Value→Shared→Prop}
end
section
variable {X:Cx}{pins:Pnn}{σ:St}{H:Hp}{s:Shared}{a:Addr}{y:V}{u:Value}{A:Around}{E:Value→Shared→Prop}
namespace L2
open PySem PySem.Spec PyProof.Rows
section
variable {X:Cx}
end
section
variable {κ:Type} [DecidableEq κ]
end
end L2
end
end L2
namespace L2
open PySem PySem.Spec PyProof.Rows
section
variable {X:Cx}
end
def Itz (K:Fgg) (l m:Addr):It :=
 ⟨fun i H=>∃ xs ys x y,SqL K H l xs∧SqL K H m ys∧xs[i]?=some x∧ys[i]?=some y,
  fun i H v H'=>∃ p x y,(∀ xs,SqL K H l xs→xs[i]?=some x)∧(∀ ys,SqL K H m ys→ys[i]?=some y)∧H p=none∧v=.ref p∧H'=upd H p (.tup [x,y]),
  fun i H=>∃ xs ys,SqL K H l xs∧SqL K H m ys∧(xs.length≤i∨ys.length≤i)⟩
theorem zkk_ {P:Program}{w:World}{K:Fgg}{elts:List Expr}{kk:Nat}{pos:Pos}(z TI TO i1 i2 l m:Addr) (D:ZipApart z TI TO i1 i2 l m) :
  Turn P w K (.Tuple elts kk pos) (Itz K l m) [z,TI,TO,i1,i2] z (fun i h=>IsZip h z TI TO .none∧IsPair h TI (.ref i1) (.ref i2)∧(∃ a b,IsPair h TO a b)∧h.IsListIter i1 l i∧h.IsListIter i2 m i) where
 mem:=by simp
 obj:=fun i h st b hb=>by
  obtain ⟨hz,hTI,⟨a,c,hTO⟩,⟨o1,ho1,c1,d1⟩,⟨o2,ho2,c2,d2⟩⟩:=st
  rcases List.mem_cons.mp hb with rfl | hb
  ·exact ⟨_,hz,fun v z=>by cases z⟩
  rcases List.mem_cons.mp hb with rfl | hb
  ·exact ⟨_,hTI,fun v z=>by cases z⟩
  rcases List.mem_cons.mp hb with rfl | hb
  ·exact ⟨_,hTO,fun v z=>by cases z⟩
  rcases List.mem_cons.mp hb with rfl | hb
  ·exact ⟨o1,ho1,fun v z=>by rw [d1] at z; cases z⟩
  ·have e:b=i2:=by simpa using hb
   subst e
   exact ⟨o2,ho2,fun v z=>by rw [d2] at z; cases z⟩
 keep:=fun i h h' st k=>by
  obtain ⟨hz,hTI,⟨a,c,hTO⟩,h1,h2⟩:=st
  exact ⟨k z (by simp) _ hz,k TI (by simp) _ hTI,⟨a,c,k TO (by simp) _ hTO⟩,h1.at fun o q=>k i1 (by simp) o q,h2.at fun o q=>k i2 (by simp) o q⟩
 item:=by
  intro X hP hw hK hc i pins s σ H E I hf st hg
  subst hP hw hK
  obtain ⟨xs,ys,x,y,hq,hq2,hx,hy⟩:=hg
  obtain ⟨its,rv,p,hz0⟩:=I.list hq
  obtain ⟨its2,rv2,p2,hz2⟩:=I.list hq2
  obtain ⟨u,hu,ru⟩:=rv.get hx
  obtain ⟨v,hv,rw'⟩:=rv2.get hy
  obtain ⟨hz,hTI,⟨a,c,hTO⟩,h1,h2⟩:=st
  have lt:∀ {c o},s.heap.get? c=some o→c<s.heap.objs.size:=fun e=>Heap.lt_size e
  have lz:=lt hz
  have lTI:=lt hTI
  have lTO:=lt hTO
  have l1:i1<s.heap.objs.size:=by obtain ⟨o,e,_⟩:=id h1; exact lt e
  have l2:i2<s.heap.objs.size:=by obtain ⟨o,e,_⟩:=id h2; exact lt e
  refine wpAny_pyNext_zip_item D hz hTI hTO h1 h2 p.isList p2.isList (x:=u) (y:=v) (by simpa using hu) (by simpa using hv) fun h3 z3 TO3 it13 it23 pr3 sz3 hk3=>?_
  refine ⟨_,rfl,?_⟩
  refine wpAny_letOwnedTupleGo_zip z3 fun h4 z4 hs4=>?_
  replace hs4:Heap.SameBut z h3 h4:=hs4
  have hp:H s.heap.objs.size=none:=I.hok.fresh (Nat.le_refl _)
  have I1:Inv X pins σ (upd H s.heap.objs.size (.tup [x,y])) { s with heap:=s.heap.push { cls:=.type "tuple",data:=.seq #[u,v] },toks:=s.toks }:=by
   refine I.laid (fun b u q=>Heap.get?_push_of_some _ q) (Nat.le_refl _) ⟨?_,[u,v],.cons ru (.cons rw' .nil),⟨_,Heap.get?_push_size _ rfl,rfl,_,rfl⟩⟩
   show 2≤sizeLine
   decide
  have hlt:∀ b∈[z,TI,TO,i1,i2],b<s.heap.objs.size:=fun b hb=>by
   rcases List.mem_cons.mp hb with rfl | hb
   ·exact lz
   rcases List.mem_cons.mp hb with rfl | hb
   ·exact lTI
   rcases List.mem_cons.mp hb with rfl | hb
   ·exact lTO
   rcases List.mem_cons.mp hb with rfl | hb
   ·exact l1
   ·have e:b=i2:=by simpa using hb
    rw [e]; exact l2
  have hf1:∀ b∈[z,TI,TO,i1,i2],FpOk X pins (upd H s.heap.objs.size (.tup [x,y])) b:=fun b hb=>by
   obtain ⟨f0,r⟩:=hf b hb
   refine ⟨?_,r⟩
   rw [zN_ (Nat.ne_of_lt (hlt b hb))]
   exact f0
  have I2:Inv X pins σ (upd H s.heap.objs.size (.tup [x,y])) { s with heap:=h4,toks:=s.toks }:=by
   refine Inv.turnedL (s:={ s with heap:=s.heap.push { cls:=.type "tuple",data:=.seq #[u,v] },toks:=s.toks }) (ch:=[z,TI,TO,i1,i2]) I1 (fun b o hb q=>?_) hf1
   have n1:b≠z:=fun e=>hb (by simp [e])
   have n2:b≠TO:=fun e=>hb (by simp [e])
   have n3:b≠i1:=fun e=>hb (by simp [e])
   have n4:b≠i2:=fun e=>hb (by simp [e])
   refine (hs4.2 b n1).trans ?_
   rcases Heap.get?_push_cases q with ⟨rfl,rfl⟩ | q'
   ·exact pr3
   ·exact hk3 b o n1 n2 n3 n4 q'
  refine ⟨.ref s.heap.objs.size,_,I2,rfl,⟨s.heap.objs.size,x,y,fun zs hy'=>by rw [I.list_inj hy' hq]; exact hx,fun zs hy'=>by rw [I.list_inj hy' hq2]; exact hy,hp,rfl,rfl⟩,⟨z4,?_,⟨u,v,?_⟩,?_,?_⟩,fun b hb=>(hf1 b hb).1⟩
  ·exact (hs4.2 TI D.TIz).trans (hk3 TI _ D.TIz D.TITO D.TIi1 D.TIi2 hTI)
  ·exact (hs4.2 TO D.TOz).trans TO3
  ·exact it13.extBut hs4.extBut D.i1z
  ·exact it23.extBut hs4.extBut D.i2z
 done:=by
  intro X hP hw hK hc i pins s σ H E I hf st hg
  subst hP hw hK
  obtain ⟨xs,ys,hq,hq2,hx⟩:=hg
  obtain ⟨its,rv,p,hz0⟩:=I.list hq
  obtain ⟨its2,rv2,p2,hz2⟩:=I.list hq2
  obtain ⟨hz,hTI,⟨a,c,hTO⟩,h1,h2⟩:=st
  have hl:=rv.length
  have hl2:=rv2.length
  refine wpAny_pyNext_zip_end (I.ok.hd hc) D hz hTI hTO h1 h2 p.isList p2.isList ?_ fun h' eb=>⟨rfl,?_⟩
  ·rcases hx with hx | hx
   ·exact .inl (by simp; lia)
   ·exact .inr (by simp; lia)
  ·refine Inv.turnedL (s:=s) (t':=s.toks) (ch:=[z,TI,TO,i1,i2]) I (fun b o hb q=>eb b o (fun e=>hb (by simp [e])) (fun e=>hb (by simp [e])) (fun e=>hb (by simp [e])) (fun e=>hb (by simp [e])) q) hf
 self:=fun _ _ _ _ _ st h=>wpAny_pyIter_zip st.1 h
theorem ziF_ {N l m:Nat}(hl:l<N) (hm:m<N):ZipApart (N+4) (N+2) (N+3) N (N+1) l m:=by
 constructor<;>(intro e; have e':(_:Nat)=_:=congrArg (fun x:Nat=>x) e; lia)
section
variable {X:Cx}{elts:List Expr}{kk:Nat}{tpos:Pos}
def iZip (K:Fgg) (ta:TA):TI:=fun σ H R=>ta σ H fun vs H1=>match vs with
 | [.ref a,.ref b]=>(∃ xs,SqL K H1 a xs)∧(∃ ys,SqL K H1 b ys)∧R (Itz K a b) H1
 | _=>False
theorem zmm_ {a b:Expr}{ta:TA}{p pos:Pos}(hm:Gb X.mg "zip") (ha:PA X [a,b] ta) (hg:Gl X "zip" := by rfl) (hs:starEach [a,b] X.env=[(false,eval a X.env),(false,eval b X.env)]:=by rfl) (hs2:starEach [b] X.env=[(false,eval b X.env)]:=by rfl) :
  PI X (.Tuple elts kk tpos) (.Call (.Name "zip" p) [a,b] [] pos) (iZip X.K ta):=by
 intro pins s σ H R I h
 refine Call_ (zgR_ I hg hm (u:=.type "zip") (by rfl) (PyProof.Rows.callWith_type1 (thn (ha pos pins s σ H _ I h) fun us s1 hq_=>?_) (by rw [hs,hs2]) (by rw [hs2]; rfl)))
 obtain ⟨vs,H1,I1,r1,q1⟩:=hq_
 try dsimp only at q1
 split at q1
 ·rename_i l m
  obtain ⟨⟨xs,hq⟩,⟨ys,hq2⟩,q⟩:=q1
  cases r1 with
  | cons r rr =>
   cases rr with
   | cons r' rr =>
    cases rr
    cases r
    cases r'
    obtain ⟨its,rv,p1,hz⟩:=I1.list hq
    obtain ⟨its2,rv2,p2,hz2⟩:=I1.list hq2
    refine call_zip_2 p1.isList p2.isList fun h' hz' hTI hTO h1 h2 hsz hk=>?_
    refine wpAny_pyIter_zip (s:={ s1 with heap:=h' }) hz' ?_
    have I2:Inv X pins σ H1 { s1 with heap:=h' }:=I1.kept (t':=s1.toks) hk
    have la:l<s1.heap.objs.size:=by obtain ⟨o,e,_⟩:=p1.isList; exact Heap.lt_size e
    have lb:m<s1.heap.objs.size:=by obtain ⟨o,e,_⟩:=p2.isList; exact Heap.lt_size e
    have DD:ZipApart (s1.heap.objs.size+4) (s1.heap.objs.size+2) (s1.heap.objs.size+3) s1.heap.objs.size (s1.heap.objs.size+1) l m:=by
     exact ziF_ la lb
    refine ⟨s1.heap.objs.size+4,[s1.heap.objs.size+4,s1.heap.objs.size+2,s1.heap.objs.size+3,s1.heap.objs.size,s1.heap.objs.size+1],_,_,H1,rfl,I2,zkk_ _ _ _ _ _ l m DD,⟨hz',hTI,⟨_,_,hTO⟩,h1,h2⟩,fun b hb=>?_,q⟩
    have hb':s1.heap.objs.size≤b:=by
     simp only [List.mem_cons,List.not_mem_nil,or_false] at hb
     rcases hb with rfl | rfl | rfl | rfl | rfl
     ·exact Nat.le_add_right _ _
     ·exact Nat.le_add_right _ _
     ·exact Nat.le_add_right _ _
     ·exact Nat.le_refl _
     ·exact Nat.le_add_right _ _
    exact I1.fpOk hb' (I1.hok.fresh hb')
 ·exact q1.elim
end
section
variable {X:Cx}{e st:Expr}{te:TE}{ts:TO}{pos p2:Pos}
end
end L2
namespace L2
open PySem PySem.Spec PyProof.Rows
def keyV:V→Option Key
 | .int i=>some (.inl i)
 | .str z=>some (.inr z)
 | _=>none
section
variable {X:Cx}{o i e value:Expr}{pos pos' tpos:Pos}{td ty tv:TE}
end
section
variable {X:Cx}{o e f:Expr}{apos cpos:Pos}{td ty tx':TE}
end
section
variable {X:Cx}{o i:Expr}{pos:Pos}{td ty:TE}
end
end L2
namespace L2
open PySem PySem.Spec PyProof.Rows
inductive Mo (α:Type) where
 | ok (a:α) | ex (c:String) | no
namespace Mo
variable {α β γ:Type}
def bind (x:Mo α) (f:α→Mo β):Mo β:=match x with | .ok a=>f a | .ex c=>.ex c | .no=>.no
theorem ok_bind (a:α) (f:α→Mo β):(Mo.ok a).bind f=f a:=rfl
def noex (x:Mo α):Mo α:=match x with | .ok a=>.ok a | _=>.no
def lim (n:Nat) (k:Mo α):Mo α:=if n≤sizeLine then k else .no
theorem lim_ok {n:Nat}{k:Mo α}(h:n≤100000):lim n k=k:=if_pos (zc8_ h)
def grd (p:Prop) [Decidable p] (k:Mo α):Mo α:=if p then k else .no
theorem grd_ok {p:Prop} [Decidable p] {k:Mo α}(h:p):grd p k=k:=if_pos h
def opt (x:Option α):Mo α:=match x with | some a=>.ok a | none=>.no
end Mo
def un (F h:Hp):Hp:=fun p=>match F p with | some o=>some o | none=>h p
def Dj (F h:Hp):Prop:=∀ p,F p=none∨h p=none
def Jn (h1 h2 h:Hp):Prop:=∀ p,(h1 p=none∧h p=h2 p)∨(h2 p=none∧h p=h1 p)
def Ext (F H F' H':Hp):Prop:=Same F F'∧Same F' H'∧Same H H'∧∀ p,F p=none→F' p≠none→H p=none
theorem Ext.refl {F H:Hp}(h:Same F H):Ext F H F H:=⟨Same.refl _,h,Same.refl _,fun p a b=>absurd a b⟩
theorem Ext.trans {F H F1 H1 F2 H2:Hp}(a:Ext F H F1 H1) (b:Ext F1 H1 F2 H2):Ext F H F2 H2:=by
 obtain ⟨a1,a2,a3,a4⟩:=a
 obtain ⟨b1,b2,b3,b4⟩:=b
 refine ⟨a1.trans b1,b2,a3.trans b3,fun p hp hq=>?_⟩
 cases e:F1 p with
 | none=>exact a3.free (b4 p e hq)
 | some o=>exact a4 p hp (by rw [e]; exact Option.some_ne_none _)
theorem Ext.heap {F H H':Hp}(h:Same F H) (g:Same H H'):Ext F H F H':=⟨Same.refl _,h.trans g,g,fun p a b=>absurd a b⟩
theorem Ext.new {F H:Hp}(h:Same F H) {p:Addr}{o:HO}(hp:H p=none):Ext F H (upd F p o) (upd H p o):=by
 refine ⟨zct_ (h.free hp) _,fun b u e=>?_,zct_ hp _,fun q a b=>?_⟩
 ·unfold upd at e ⊢
  split
  ·rename_i z; rw [if_pos z] at e; exact e
  ·rename_i z; rw [if_neg z] at e; exact h _ _ e
 ·unfold upd at b
  split at b
  ·rename_i z; rw [z]; exact hp
  ·exact absurd a b
structure Ty (α:Type) where
 R:α→V→Hp→Prop
 mono:∀ {a v H H'},Same H H'→R a v H→R a v H'
def Tups (H H':Hp):Prop:=∀ p xs,H p=some (.tup xs)→H' p=some (.tup xs)
def Imm {α:Type}(T:Ty α):Prop:=∀ {a v H H'},Tups H H'→T.R a v H→T.R a v H'
abbrev tyInt:Ty Int:=⟨fun a v _=>v=.int a,fun _ h=>h⟩
abbrev tyStr:Ty (List Nat):=⟨fun a v _=>v=tx a,fun _ h=>h⟩
abbrev tyBl:Ty Bool:=⟨fun a v _=>v=.bl a,fun _ h=>h⟩
abbrev tyNon:Ty Unit:=⟨fun _ v _=>v=.non,fun _ h=>h⟩
theorem zi_:Imm tyInt:=fun _ h=>h
theorem zf_:Imm tyStr:=fun _ h=>h
theorem zaU_:Imm tyBl:=fun _ h=>h
theorem zfo_:Imm tyNon:=fun _ h=>h
abbrev tyOpt {α:Type}(T:Ty α):Ty (Option α):=⟨fun a v H=>match a with | none=>v=.non | some x=>T.R x v H∧v≠.non,fun {a v H H'} g h=>by cases a with | none=>exact h | some x=>exact ⟨T.mono g h.1,h.2⟩⟩
structure Cs (γ:Type) where
 R:γ→List V→Hp→Prop
 mono:∀ {c vs H H'},Same H H'→R c vs H→R c vs H'
def ImmC {γ:Type}(C:Cs γ):Prop:=∀ {c vs H H'},Tups H H'→C.R c vs H→C.R c vs H'
abbrev csNil:Cs Unit:=⟨fun _ vs _=>vs=[],fun _ h=>h⟩
abbrev csLast {α:Type}(T:Ty α):Cs α:=⟨fun a vs H=>∃ v,vs=[v]∧T.R a v H,fun g ⟨v,e,h⟩=>⟨v,e,T.mono g h⟩⟩
abbrev csCons {α γ:Type}(T:Ty α) (C:Cs γ):Cs (α×γ):=⟨fun a vs H=>∃ v us,vs=v::us∧T.R a.1 v H∧C.R a.2 us H,fun g ⟨v,us,e,h,q⟩=>⟨v,us,e,T.mono g h,C.mono g q⟩⟩
theorem zdo_ {α:Type}{T:Ty α}(i:Imm T):ImmC (csLast T):=fun g ⟨v,e,h⟩=>⟨v,e,i g h⟩
theorem zgh_ {α γ:Type}{T:Ty α}{C:Cs γ}(i:Imm T) (j:ImmC C):ImmC (csCons T C):=fun g ⟨v,us,e,h,q⟩=>⟨v,us,e,i g h,j g q⟩
abbrev tyTup {γ:Type}(C:Cs γ):Ty γ:=⟨fun c v H=>∃ p us,v=.ref p∧H p=some (.tup us)∧C.R c us H,fun g ⟨p,us,e,h,q⟩=>⟨p,us,e,g _ _ h,C.mono g q⟩⟩
abbrev Prs {α:Type}(T:Ty α) (H:Hp) (xs:List α) (vs:List V):Prop:=Paired (fun x v=>T.R x v H) xs vs
theorem zcC_ {α β:Type}{R R':α→β→Prop}(h:∀ a b,R a b→R' a b):∀ {xs:List α}{ys:List β},Paired R xs ys→Paired R' xs ys
 | _,_,.nil=>.nil
 | _,_,.cons a t=>.cons (h _ _ a) (zcC_ h t)
theorem Prs.mono {α:Type}{T:Ty α}{H H':Hp}{xs:List α}{vs:List V}(g:Same H H') (h:Prs T H xs vs):Prs T H' xs vs:=zcC_ (fun _ _ r=>T.mono g r) h
theorem Prs.imm {α:Type}{T:Ty α}(i:Imm T) {H H':Hp}{xs:List α}{vs:List V}(g:Tups H H') (h:Prs T H xs vs):Prs T H' xs vs:=zcC_ (fun _ _ r=>i g r) h
abbrev tyL {α:Type}(T:Ty α):Ty (List α):=⟨fun xs v H=>∃ p vs,v=.ref p∧H p=some (.lst vs)∧Prs T H xs vs,fun g ⟨p,vs,e,h,q⟩=>⟨p,vs,e,g _ _ h,q.mono g⟩⟩
abbrev tySc (K:Fgg):Ty (List Int):=⟨fun xs v H=>∃ p,v=.ref p∧SqL K H p (xs.map V.int),fun g ⟨p,e,h⟩=>⟨p,e,g.seq h⟩⟩
structure Own (α:Type) where
 O:α→V→Hp→Hp→Prop
 fr:Ty α
 mono:∀ {a v F F' h},Same F F'→O a v F h→O a v F' h
 frz:∀ {a v F h},Dj F h→O a v F h→fr.R a v (un F h)
 notup:∀ {a v F h},O a v F h→∀ p xs,h p≠some (.tup xs)
def ImmO {α:Type}(O:Own α):Prop:=∀ {a v F F' h},Tups F F'→O.O a v F h→O.O a v F' h
theorem zR_ {F h:Hp}:Same F (un F h):=fun p o e=>by unfold un; rw [e]
theorem zfy_ {F h:Hp}(d:Dj F h):Same h (un F h):=fun p o e=>by
 unfold un
 rcases d p with z | z
 ·rw [z]; exact e
 ·rw [z] at e; cases e
abbrev owF {α:Type}(T:Ty α):Own α:=⟨fun a v F h=>(∀ p,h p=none)∧T.R a v F,T,fun g ⟨e,h⟩=>⟨e,T.mono g h⟩,fun _ ⟨_,h⟩=>T.mono zR_ h,fun ⟨e,_⟩ p xs z=>by rw [e] at z; cases z⟩
theorem zA_ {α:Type}{T:Ty α}(i:Imm T):ImmO (owF T):=fun g ⟨e,h⟩=>⟨e,i g h⟩
def one (p:Addr) (o:HO):Hp:=fun q=>if q=p then some o else none
theorem zX_ {p:Addr}{o:HO}:one p o p=some o:=if_pos rfl
abbrev owL {α:Type}(T:Ty α):Own (List α):=⟨fun xs v F h=>∃ p vs,v=.ref p∧h=one p (.lst vs)∧Prs T F xs vs,tyL T,fun g ⟨p,vs,e,z,q⟩=>⟨p,vs,e,z,q.mono g⟩,
 fun d ⟨p,vs,e,z,q⟩=>⟨p,vs,e,zfy_ d _ _ (by rw [z]; exact zX_),q.mono zR_⟩,
 fun ⟨p,vs,e,z,q⟩ b xs y=>by rw [z] at y; unfold one at y; split at y<;>cases y⟩
theorem zq_ {α:Type}{T:Ty α}(i:Imm T):ImmO (owL T):=fun g ⟨p,vs,e,z,q⟩=>⟨p,vs,e,z,q.imm i g⟩
inductive Sl:Type 1 where
 | dead
 | fz {α:Type}(T:Ty α) (a:α)
 | ow {α:Type}(O:Own α) (a:α)
def Sl.P:Sl→Option V→Hp→Hp→Prop
 | .dead,_,_,_=>True
 | .fz T a,o,F,_=>∃ v,o=some v∧T.R a v F
 | .ow O a,o,F,h=>∃ v,o=some v∧O.O a v F h
def Sl.Z:Sl→Option V→Hp→Prop
 | .dead,_,_=>True
 | .fz T a,o,F=>∃ v,o=some v∧T.R a v F
 | .ow O a,o,F=>∃ v,o=some v∧O.fr.R a v F
def Sl.cold:Sl→Sl
 | .ow _ _=>.dead
 | s=>s
def Hold:List Sl→St→Hp→Hp→Prop
 | [],[],_,_=>True
 | s::L,o::σ,F,h=>∃ h1 h2,Jn h1 h2 h∧s.P o F h1∧Hold L σ F h2
 | _,_,_,_=>False
def HoldF (L:List Sl) (σ:St) (F:Hp):Prop:=∀ (i:Nat) (s:Sl),L[i]?=some s→s.Z (σ[i]?.join) F
theorem Sl.P.mono {s:Sl}{o:Option V}{F F' h:Hp}(g:Same F F') (q:s.P o F h):s.P o F' h:=by
 cases s with
 | dead=>exact q
 | fz T a=>obtain ⟨v,e,r⟩:=q; exact ⟨v,e,T.mono g r⟩
 | ow O a=>obtain ⟨v,e,r⟩:=q; exact ⟨v,e,O.mono g r⟩
theorem Sl.Z.mono {s:Sl}{o:Option V}{F F':Hp}(g:Same F F') (q:s.Z o F):s.Z o F':=by
 cases s with
 | dead=>exact q
 | fz T a=>obtain ⟨v,e,r⟩:=q; exact ⟨v,e,T.mono g r⟩
 | ow O a=>obtain ⟨v,e,r⟩:=q; exact ⟨v,e,O.fr.mono g r⟩
theorem HoldF.mono {L:List Sl}{σ:St}{F F':Hp}(g:Same F F') (q:HoldF L σ F):HoldF L σ F':=fun i s e=>(q i s e).mono g
theorem Hold.mono:∀ {L:List Sl}{σ:St}{F F' h:Hp},Same F F'→Hold L σ F h→Hold L σ F' h
 | [],[],_,_,_,_,q=>q
 | s::L,o::σ,F,F',h,g,⟨h1,h2,j,p,r⟩=>⟨h1,h2,j,p.mono g,r.mono g⟩
 | [],_::_,_,_,_,_,q=>q.elim
 | _::_,[],_,_,_,_,q=>q.elim
theorem Hold.len:∀ {L:List Sl}{σ:St}{F h:Hp},Hold L σ F h→L.length=σ.length
 | [],[],_,_,_=>rfl
 | s::L,o::σ,F,h,⟨h1,h2,j,p,r⟩=>by rw [List.length_cons,List.length_cons,r.len]
 | [],_::_,_,_,q=>q.elim
 | _::_,[],_,_,q=>q.elim
theorem Jn.l {h1 h2 h:Hp}(j:Jn h1 h2 h):Same h1 h:=fun p o e=>by
 rcases j p with ⟨a,b⟩ | ⟨a,b⟩
 ·rw [a] at e; cases e
 ·rw [b]; exact e
theorem Jn.r {h1 h2 h:Hp}(j:Jn h1 h2 h):Same h2 h:=fun p o e=>by
 rcases j p with ⟨a,b⟩ | ⟨a,b⟩
 ·rw [b]; exact e
 ·rw [a] at e; cases e
theorem Jn.dj {h1 h2 h:Hp}(j:Jn h1 h2 h):Dj h1 h2:=fun p=>by
 rcases j p with ⟨a,b⟩ | ⟨a,b⟩
 ·exact .inl a
 ·exact .inr a
theorem zcw_ {h1 h2:Hp}(d:Dj h1 h2):Jn h1 h2 (un h1 h2):=fun p=>by
 unfold un
 rcases d p with a | a
 ·rw [a]; exact .inl ⟨rfl,rfl⟩
 ·refine .inr ⟨a,?_⟩
  cases h1 p with
  | none=>exact a
  | some o=>rfl
theorem Hold.at:∀ {L:List Sl}{σ:St}{F h:Hp}(i:Nat) {s:Sl},Hold L σ F h→L[i]?=some s →
  ∃ o h1 h2,σ[i]?=some o∧Jn h1 h2 h∧s.P o F h1∧∀ s' o' h1' h',Jn h1' h2 h'→s'.P o' F h1'→Hold (L.set i s') (σ.set i o') F h'
 | [],_,_,_,_,_,_,e=>by cases e
 | s::L,[],_,_,_,_,q,_=>q.elim
 | s::L,o::σ,F,h,0,t,⟨h1,h2,j,p,r⟩,e=>by
  cases e
  exact ⟨o,h1,h2,rfl,j,p,fun s' o' h1' h' j' p'=>⟨h1',h2,j',p',r⟩⟩
 | s::L,o::σ,F,h,i+1,t,⟨h1,h2,j,p,r⟩,e=>by
  obtain ⟨o1,k1,k2,e1,j1,p1,f⟩:=Hold.at i r (by simpa using e)
  have d1:Dj h1 k1:=fun p=>by
   rcases j.dj p with a | a
   ·exact .inl a
   ·exact .inr (j1.l.free a)
  have d2:Dj h1 k2:=fun p=>by
   rcases j.dj p with a | a
   ·exact .inl a
   ·exact .inr (j1.r.free a)
  refine ⟨o1,k1,un h1 k2,by simpa using e1,fun p=>?_,p1,fun s' o' k1' h' j' p'=>?_⟩
  ·rcases j p with ⟨a,b⟩ | ⟨a,b⟩
   ·rcases j1 p with ⟨c,d⟩ | ⟨c,d⟩
    ·refine .inl ⟨c,?_⟩; unfold un; rw [a,b,d]
    ·refine .inr ⟨?_,by rw [b,d]⟩; unfold un; rw [a,c]
   ·refine .inl ⟨j1.l.free a,?_⟩
    have:k2 p=none:=j1.r.free a
    unfold un; rw [b]
    cases h1 p with
    | none=>rw [this]
    | some u=>rfl
  ·have dd:Dj k1' k2:=fun p=>by
    rcases j' p with ⟨a,b⟩ | ⟨a,b⟩
    ·exact .inl a
    ·right; unfold un at a
     cases z:h1 p with
     | none=>rw [z] at a; exact a
     | some u=>rw [z] at a; cases a
   refine ⟨h1,un k1' k2,fun p=>?_,p,f s' o' k1' _ (zcw_ dd) p'⟩
   rcases j' p with ⟨a,b⟩ | ⟨a,b⟩
   ·unfold un at b ⊢
    cases z:h1 p with
    | none=>rw [z] at b; exact .inl ⟨rfl,by rw [b,a]⟩
    | some u =>
     rw [z] at b
     refine .inr ⟨?_,b⟩
     rw [a]
     rcases d2 p with y | y
     ·rw [y] at z; cases z
     ·exact y
   ·unfold un at a
    cases z:h1 p with
    | some u=>rw [z] at a; cases a
    | none =>
     rw [z] at a
     refine .inl ⟨rfl,?_⟩
     unfold un; rw [b]
     cases k1' p with
     | none=>exact a.symm
     | some u=>rfl
theorem Hold.froz {L:List Sl}{σ:St}{F h:Hp}(d:Dj F h) (q:Hold L σ F h):HoldF L σ (un F h):=by
 intro i s e
 obtain ⟨o,h1,h2,e1,j,p,_⟩:=q.at i e
 rw [e1]
 have d1:Dj F h1:=fun p=>by
  rcases d p with a | a
  ·exact .inl a
  ·exact .inr (j.l.free a)
 cases s with
 | dead=>trivial
 | fz T a=>obtain ⟨v,e2,r⟩:=p; exact ⟨v,e2,T.mono zR_ r⟩
 | ow O a =>
  obtain ⟨v,e2,r⟩:=p
  refine ⟨v,e2,O.fr.mono (fun p u z=>?_) (O.frz d1 r)⟩
  unfold un at z ⊢
  cases y:F p with
  | some w=>rw [y] at z; exact z
  | none=>rw [y] at z; exact j.l _ _ z
theorem Hold.coldF {L:List Sl}{σ:St}{F h:Hp}(q:Hold L σ F h):HoldF (L.map Sl.cold) σ F:=by
 intro i s e
 rw [List.getElem?_map] at e
 cases e1:L[i]? with
 | none=>rw [e1] at e; cases e
 | some t =>
  rw [e1] at e
  cases e
  obtain ⟨o,h1,h2,e2,j,p,_⟩:=q.at i e1
  rw [e2]
  cases t with
  | dead=>trivial
  | fz T a=>obtain ⟨v,e2,r⟩:=p; exact ⟨v,e2,r⟩
  | ow O a=>trivial
end L2
namespace L2
open PySem PySem.Spec PyProof.Rows
def After {α:Type}(K:Fgg) (r:Mo α) (E:XK) (F H:Hp) (k:α→Hp→Hp→Prop):Prop:=match r with
 | .ok a=>∀ F' H',Ext F H F' H'→k a F' H'
 | .ex c=>∀ F' H',Ext F H F' H'→E (.ref (gA K c)) none H'
 | .no=>False
section
variable {K:Fgg}{E:XK}{α β γ ρ:Type}{F H:Hp}
theorem After.bind {r:Mo α}{f:α→Mo β}{k:β→Hp→Hp→Prop}(h:After K (r.bind f) E F H k):After K r E F H fun a F1 H1=>After K (f a) E F1 H1 k:=by
 cases r with
 | ok a =>
  intro F1 H1 x
  have h':After K (f a) E F H k:=h
  cases e:f a with
  | ok b=>rw [e] at h'; exact fun F2 H2 y=>h' F2 H2 (x.trans y)
  | ex c=>rw [e] at h'; exact fun F2 H2 y=>h' F2 H2 (x.trans y)
  | no=>rw [e] at h'; exact h'
 | ex c=>exact h
 | no=>exact h
theorem After.imp {r:Mo α}{k k':α→Hp→Hp→Prop}(h:After K r E F H k) (g:∀ a F' H',Ext F H F' H'→k a F' H'→k' a F' H'):After K r E F H k':=by
 cases r with
 | ok a=>exact fun F' H' x=>g a F' H' x (h F' H' x)
 | ex c=>exact h
 | no=>exact h
theorem After.ok {a:α}{k:α→Hp→Hp→Prop}(hs:Same F H) (h:After K (.ok a) E F H k):k a F H:=h F H (.refl hs)
theorem After.noex {r:Mo α}{k:α→Hp→Hp→Prop}(h:After K r.noex E F H k):After K r E0 F H k:=by
 cases r with
 | ok a=>exact h
 | ex c=>exact h.elim
 | no=>exact h
theorem After.lim {n:Nat}{r:Mo α}{k:α→Hp→Hp→Prop}(h:After K (Mo.lim n r) E F H k):n≤sizeLine∧After K r E F H k:=by
 unfold Mo.lim at h
 split at h
 ·exact ⟨by assumption,h⟩
 ·exact h.elim
theorem After.grd {p:Prop} [Decidable p] {r:Mo α}{k:α→Hp→Hp→Prop}(h:After K (Mo.grd p r) E F H k):p∧After K r E F H k:=by
 unfold Mo.grd at h
 split at h
 ·exact ⟨by assumption,h⟩
 ·exact h.elim
theorem After.opt {x:Option α}{k:α→Hp→Hp→Prop}(h:After K (Mo.opt x) E F H k):∃ a,x=some a∧After K (.ok a) E F H k:=by
 cases x with
 | none=>exact h.elim
 | some a=>exact ⟨a,rfl,h⟩
def EvF (K:Fgg) (e:TE) (E:XK) (L:List Sl) (r:Mo α) (T:Ty α):Prop :=
 ∀ σ F H (Q:VK),HoldF L σ F→Same F H→After K r E F H (fun a F' H'=>∀ v,T.R a v F'→Q v H')→e σ H Q
def OwnK (O:Own α) (H:Hp) (Q:VK) (a:α) (F' H':Hp):Prop:=∀ v h,(∀ p,h p≠none→H p=none)→Dj F' h→Same h H'→O.O a v F' h→Q v H'
def EvO (K:Fgg) (e:TE) (E:XK) (L:List Sl) (r:Mo α) (O:Own α):Prop :=
 ∀ σ F H (Q:VK),HoldF L σ F→Same F H→After K r E F H (OwnK O H Q)→e σ H Q
def EvT (K:Fgg) (t:TT) (E:XK) (L:List Sl) (r:Mo Bool):Prop :=
 ∀ σ F H (Q:Bool→Hp→Prop),HoldF L σ F→Same F H→After K r E F H (fun b _ H'=>Q b H')→t σ H Q
def EvA (K:Fgg) (t:TA) (E:XK) (L:List Sl) (r:Mo γ) (C:Cs γ):Prop :=
 ∀ σ F H (Q:List V→Hp→Prop),HoldF L σ F→Same F H→After K r E F H (fun c F' H'=>∀ vs,C.R c vs F'→Q vs H')→t σ H Q
variable {L:List Sl}{e e1 e2:TE}{T:Ty α}{r:Mo α}
theorem EvO.fr {O:Own α}(h:EvO K e E L r O):EvF K e E L r O.fr:=by
 intro σ F H Q hL hs q
 refine h σ F H Q hL hs ?_
 cases r with
 | ok a =>
  intro F' H' x v h' fresh d s o
  refine q (un F' h') H' ⟨x.1.trans zR_,fun p o e=>?_,x.2.2.1,fun p a b=>?_⟩ v (O.frz d o)
  ·unfold un at e
   cases z:F' p with
   | some w=>rw [z] at e; cases e; exact x.2.1 _ _ z
   | none=>rw [z] at e; exact s _ _ e
  ·unfold un at b
   cases z:F' p with
   | some w=>exact x.2.2.2 p a (by rw [z]; exact Option.some_ne_none _)
   | none=>rw [z] at b; exact fresh p b
 | ex c=>exact q
 | no=>exact q
theorem EvF.ow (h:EvF K e E L r T):EvO K e E L r (owF T):=by
 intro σ F H Q hL hs q
 refine h σ F H Q hL hs (q.imp fun a F' H' x k v hv=>?_)
 exact k v (fun _=>none) (fun p z=>absurd rfl z) (fun p=>.inr rfl) (fun p o z=>by cases z) ⟨fun _=>rfl,hv⟩
theorem ev_c {v:V}{a:α}(h:∀ F,T.R a v F):EvF K (tC v) E L (.ok a) T:=fun σ F H Q hL hs q=>q.ok hs v (h F)
theorem zI_ (i:Int):EvF K (tC (.int i)) E L (.ok i) tyInt:=ev_c fun _=>rfl
theorem zaz_ (l:List Nat):EvF K (tC (tx l)) E L (.ok l) tyStr:=ev_c fun _=>rfl
theorem ze4_ (b:Bool):EvF K (tC (.bl b)) E L (.ok b) tyBl:=ev_c fun _=>rfl
theorem zhN_:EvF K (tC .non) E L (.ok ()) tyNon:=ev_c fun _=>rfl
theorem zc_ (i:Nat) {a:α}(h:L[i]?=some (.fz T a)):EvF K (mVar i) E L (.ok a) T:=by
 intro σ F H Q hL hs q
 obtain ⟨v,e,r⟩:=hL i _ h
 unfold mVar
 cases z:σ[i]? with
 | none=>rw [z] at e; cases e
 | some o =>
  rw [z] at e
  cases (show o=some v from e)
  exact q.ok hs v r
theorem zhq_ (i:Nat) {O:Own α}{a:α}(h:L[i]?=some (.ow O a)):EvF K (mVar i) E L (.ok a) O.fr:=by
 intro σ F H Q hL hs q
 obtain ⟨v,e,r⟩:=hL i _ h
 unfold mVar
 cases z:σ[i]? with
 | none=>rw [z] at e; cases e
 | some o =>
  rw [z] at e
  cases (show o=some v from e)
  exact q.ok hs v r
def Op2 (K:Fgg) (m:R2) (E:XK) (T1:Ty α) (T2:Ty β) (g:α→β→Mo γ) (T:Ty γ):Prop :=
 ∀ a b x y F H (Q:VK),Same F H→T1.R a x F→T2.R b y F→After K (g a b) E F H (fun c F' H'=>∀ v,T.R c v F'→Q v H')→m x y H Q
def Op2O (K:Fgg) (m:R2) (E:XK) (T1:Ty α) (T2:Ty β) (g:α→β→Mo γ) (O:Own γ):Prop :=
 ∀ a b x y F H (Q:VK),Same F H→T1.R a x F→T2.R b y F→After K (g a b) E F H (OwnK O H Q)→m x y H Q
theorem OwnK.back {O:Own α}{H H1:Hp}{Q:VK}{a:α}{F' H':Hp}(g:Same H H1) (h:OwnK O H Q a F' H'):OwnK O H1 Q a F' H' :=
 fun v k fresh d s o=>h v k (fun p z=>g.free (fresh p z)) d s o
theorem zZ_ {m:R2}{T1:Ty α}{T2:Ty β}{T:Ty γ}{g:α→β→Mo γ}{r1:Mo α}{r2:Mo β}(hop:Op2 K m E T1 T2 g T) (h1:EvF K e1 E L r1 T1) (h2:EvF K e2 E L r2 T2) :
  EvF K (tOp m e1 e2) E L (r1.bind fun a=>r2.bind fun b=>g a b) T:=by
 intro σ F H Q hL hs q
 refine h1 σ F H _ hL hs (q.bind.imp fun a F1 H1 x1 k1 v1 hv1=>?_)
 refine h2 σ F1 H1 _ (hL.mono x1.1) x1.2.1 (k1.bind.imp fun b F2 H2 x2 k2 v2 hv2=>?_)
 exact hop a b v1 v2 F2 H2 Q x2.2.1 (T1.mono x2.1 hv1) hv2 k2
theorem zkD_ {m:R2}{T1:Ty α}{T2:Ty β}{O:Own γ}{g:α→β→Mo γ}{r1:Mo α}{r2:Mo β}(hop:Op2O K m E T1 T2 g O) (h1:EvF K e1 E L r1 T1) (h2:EvF K e2 E L r2 T2) :
  EvO K (tOp m e1 e2) E L (r1.bind fun a=>r2.bind fun b=>g a b) O:=by
 intro σ F H Q hL hs q
 refine h1 σ F H _ hL hs (q.bind.imp fun a F1 H1 x1 k1 v1 hv1=>?_)
 refine h2 σ F1 H1 _ (hL.mono x1.1) x1.2.1 (k1.bind.imp fun b F2 H2 x2 k2 v2 hv2=>?_)
 exact hop a b v1 v2 F2 H2 Q x2.2.1 (T1.mono x2.1 hv1) hv2 (k2.imp fun c F3 H3 x3 k3=>k3.back (x1.2.2.1.trans x2.2.2.1))
theorem zmN_ {g:Int→Int→V}{f:Int→Int→α}(h:∀ i j F,T.R (f i j) (g i j) F):Op2 K (mI0 g) E tyInt tyInt (fun i j=>.ok (f i j)) T:=by
 intro a b x y F H Q hs hx hy q
 cases hx; cases hy
 exact q.ok hs _ (h a b F)
theorem op_i {C:Int→Int→Prop} [∀ i j,Decidable (C i j)] {g:Int→Int→V}{f:Int→Int→α}(h:∀ i j F,T.R (f i j) (g i j) F):Op2 K (mI C g) E tyInt tyInt (fun i j=>.grd (C i j) (.ok (f i j))) T:=by
 intro a b x y F H Q hs hx hy q
 cases hx; cases hy
 obtain ⟨c,q⟩:=q.grd
 exact ⟨c,q.ok hs _ (h a b F)⟩
instance (i j:Int):Decidable (CMul i j):=inferInstanceAs (Decidable (_∨_))
instance (i j:Int):Decidable (CDiv i j):=inferInstanceAs (Decidable (_∧_))
instance (i j:Int):Decidable (CPow i j):=inferInstanceAs (Decidable (_∧_∧_))
theorem zfl_:Op2 K mAdd E tyInt tyInt (fun i j=>.ok (i+j)) tyInt:=by
 intro a b x y F H Q hs hx hy q
 cases hx; cases hy
 exact q.ok hs _ rfl
theorem zft_:Op2 K mSub E tyInt tyInt (fun i j=>.ok (i-j)) tyInt:=zmN_ fun _ _ _=>rfl
theorem zbW_:Op2 K mMod E tyInt tyInt (fun i j=>.grd (0<j) (.ok (i % j))) tyInt:=op_i (C:=fun _ j=>0<j) fun _ _ _=>rfl
theorem zmO_:Op2 K mLt E tyInt tyInt (fun i j=>.ok (decide (i<j))) tyBl:=zmN_ fun _ _ _=>rfl
theorem znh_:Op2 K mGt E tyInt tyInt (fun i j=>.ok (decide (j<i))) tyBl:=zmN_ fun _ _ _=>rfl
theorem zji_:Op2 K mAdd E tyStr tyStr (fun i j=>.lim (i.length+j.length) (.ok (i++j))) tyStr:=by
 intro a b x y F H Q hs hx hy q
 cases hx; cases hy
 obtain ⟨c,q⟩:=q.lim
 exact ⟨c,q.ok hs _ rfl⟩
theorem Prs.append {xs ys:List α}{vs us:List V}(a:Prs T H xs vs) (b:Prs T H ys us):Prs T H (xs++ys) (vs++us):=by
 induction a with
 | nil=>exact b
 | cons r t ih=>exact .cons r ih
theorem Prs.len {xs:List α}{vs:List V}(a:Prs T H xs vs):xs.length=vs.length:=Paired.length a
theorem Prs.get {xs:List α}{vs:List V}(a:Prs T H xs vs) (i:Nat):(xs[i]?=none∧vs[i]?=none)∨∃ x v,xs[i]?=some x∧vs[i]?=some v∧T.R x v H:=by
 induction a generalizing i with
 | nil=>exact .inl ⟨rfl,rfl⟩
 | cons r t ih =>
  cases i with
  | zero=>exact .inr ⟨_,_,rfl,rfl,r⟩
  | succ i=>simpa using ih i
theorem Prs.take {xs:List α}{vs:List V}(a:Prs T H xs vs) (n:Nat):Prs T H (xs.take n) (vs.take n):=by
 induction a generalizing n with
 | nil=>rw [List.take_nil,List.take_nil]; exact .nil
 | cons r t ih =>
  cases n with
  | zero=>exact .nil
  | succ n=>exact .cons r (ih n)
theorem Prs.drop {xs:List α}{vs:List V}(a:Prs T H xs vs) (n:Nat):Prs T H (xs.drop n) (vs.drop n):=by
 induction a generalizing n with
 | nil=>rw [List.drop_nil,List.drop_nil]; exact .nil
 | cons r t ih =>
  cases n with
  | zero=>exact .cons r t
  | succ n=>exact ih n
theorem Prs.set {xs:List α}{vs:List V}(a:Prs T H xs vs) (i:Nat) {x:α}{v:V}(q:T.R x v H):Prs T H (xs.set i x) (vs.set i v):=by
 induction a generalizing i with
 | nil=>exact .nil
 | cons r t ih =>
  cases i with
  | zero=>exact .cons q t
  | succ i=>exact .cons r (ih i)
theorem zk2_ {vs:List V}{xs:List α}{p:Addr}{F' H':Hp}{Q:VK}(hp:H p=none) (h2:H' p=some (.lst vs)) (hf:F' p=none) (hr:Prs T F' xs vs) (q:OwnK (owL T) H Q xs F' H'):Q (.ref p) H':=by
 refine q (.ref p) (one p (.lst vs)) (fun b z=>?_) (fun b=>?_) (fun b o z=>?_) ⟨p,vs,rfl,rfl,hr⟩
 ·unfold one at z; split at z
  ·rename_i e; rw [e]; exact hp
  ·exact absurd rfl z
 ·unfold one; split
  ·rename_i e; rw [e]; exact .inl hf
  ·exact .inr rfl
 ·unfold one at z; split at z
  ·rename_i e; rw [e]; cases z; exact h2
  ·cases z
theorem zep_ {vs:List V}{xs:List α}{p:Addr}{Q:VK}(hs:Same F H) (hp:H p=none) (hr:Prs T F xs vs) (q:After K (.ok xs) E F H (OwnK (owL T) H Q)):Q (.ref p) (upd H p (.lst vs)) :=
 zk2_ hp zP_ (hs.free hp) hr (q F _ (.heap hs (zct_ hp _)))
theorem zih_:Op2O K mAdd E (tyL T) (tyL T) (fun i j=>.lim (i.length+j.length) (.ok (i++j))) (owL T):=by
 rintro a b x y F H Q hs ⟨p,vs,rfl,h1,r1⟩ ⟨p2,us,rfl,h2,r2⟩ q
 obtain ⟨c,q⟩:=q.lim
 exact ⟨vs,us,hs _ _ h1,hs _ _ h2,by rw [← r1.len,← r2.len]; exact c,fun p hp=>zep_ hs hp (r1.append r2) q⟩
theorem zhx_:EvA K tNil E L (.ok ()) csNil:=fun σ F H Q hL hs q=>q.ok hs [] rfl
theorem zh_ (h:EvF K e E L r T):EvA K (tCons e tNil) E L r (csLast T):=by
 intro σ F H Q hL hs q
 exact h σ F H _ hL hs (q.imp fun a F1 H1 x k v hv=>k [v] ⟨v,rfl,hv⟩)
theorem zk_ {ta:TA}{r2:Mo γ}{C:Cs γ}(h:EvF K e E L r T) (h2:EvA K ta E L r2 C):EvA K (tCons e ta) E L (r.bind fun a=>r2.bind fun c=>.ok (a,c)) (csCons T C):=by
 intro σ F H Q hL hs q
 refine h σ F H _ hL hs (q.bind.imp fun a F1 H1 x1 k1 v1 hv1=>?_)
 refine h2 σ F1 H1 _ (hL.mono x1.1) x1.2.1 (k1.bind.imp fun c F2 H2 x2 k2 vs hvs=>?_)
 exact k2.ok x2.2.1 (v1::vs) ⟨v1,vs,rfl,T.mono x2.1 hv1,hvs⟩
def Ct (K:Fgg) (C:Cs γ) (f:γ→Mo ρ) (O:Own ρ):Sp:=fun vs H Q E=>∃ F c,Same F H∧C.R c vs F∧After K (f c) E F H (OwnK O H Q)
theorem zbB_ {C:Cs γ}{f:γ→Mo ρ}{O:Own ρ}{ta:TA}{r:Mo γ}(h:EvA K ta E L r C):EvO K (tCall (Ct K C f O) [] E0 ta) E L (r.bind fun c=>(f c).noex) O:=by
 intro σ F H Q hL hs q
 refine h σ F H _ hL hs (q.bind.imp fun c F1 H1 x1 k1 vs hvs=>?_)
 rw [List.append_nil]
 exact ⟨F1,c,x1.2.1,hvs,k1.noex.imp fun r F2 H2 x2 k2=>k2.back x1.2.2.1⟩
def Bl (K:Fgg) (m:List V→Hp→VK→Prop) (E:XK) (C:Cs γ) (g:γ→Mo α) (T:Ty α):Prop :=
 ∀ c vs F H (Q:VK),Same F H→C.R c vs F→After K (g c) E F H (fun c F' H'=>∀ v,T.R c v F'→Q v H')→m vs H Q
def BlO (K:Fgg) (m:List V→Hp→VK→Prop) (E:XK) (C:Cs γ) (g:γ→Mo α) (O:Own α):Prop :=
 ∀ c vs F H (Q:VK),Same F H→C.R c vs F→After K (g c) E F H (OwnK O H Q)→m vs H Q
theorem zjx_ {m:List V→Hp→VK→Prop}{C:Cs γ}{g:γ→Mo α}{ta:TA}{r:Mo γ}(hb:Bl K m E C g T) (h:EvA K ta E L r C):EvF K (tCB m ta) E L (r.bind g) T:=by
 intro σ F H Q hL hs q
 exact h σ F H _ hL hs (q.bind.imp fun c F1 H1 x1 k1 vs hvs=>hb c vs F1 H1 Q x1.2.1 hvs k1)
theorem zmz_ {m:List V→Hp→VK→Prop}{C:Cs γ}{g:γ→Mo α}{O:Own α}{ta:TA}{r:Mo γ}(hb:BlO K m E C g O) (h:EvA K ta E L r C):EvO K (tCB m ta) E L (r.bind g) O:=by
 intro σ F H Q hL hs q
 exact h σ F H _ hL hs (q.bind.imp fun c F1 H1 x1 k1 vs hvs=>hb c vs F1 H1 Q x1.2.1 hvs (k1.imp fun a F2 H2 x2 k2=>k2.back x1.2.2.1))
theorem zhW_:Bl K (mLen K) E (csLast tyStr) (fun l=>.lim l.length (.ok (l.length:Int))) tyInt:=by
 rintro c vs F H Q hs ⟨v,rfl,rfl⟩ q
 obtain ⟨z,q⟩:=q.lim
 exact ⟨z,q.ok hs _ rfl⟩
theorem zie_:Bl K (mLen K) E (csLast (tyL T)) (fun l=>.ok (l.length:Int)) tyInt:=by
 rintro c vs F H Q hs ⟨v,rfl,p,us,rfl,h,r⟩ q
 exact ⟨us,.inl (.of (hs _ _ h)),q.ok hs _ (by rw [r.len])⟩
theorem zjR_:Bl K (mLen K) E (csLast (tySc K)) (fun l=>.ok (l.length:Int)) tyInt:=by
 rintro c vs F H Q hs ⟨v,rfl,p,rfl,h⟩ q
 exact ⟨_,.inl (hs.seq h),q.ok hs _ (by rw [List.length_map])⟩
theorem znl_:Bl K mStr E (csLast tyInt) (fun i=>.grd (i.natAbs.log2<1920) (.ok (strI i))) tyStr:=by
 rintro c vs F H Q hs ⟨v,rfl,rfl⟩ q
 obtain ⟨z,q⟩:=q.grd
 exact ⟨z,q.ok hs _ rfl⟩
theorem zlH_:BlO K (mList K) E (csLast (tyL T)) (fun l=>.ok l) (owL T):=by
 rintro c vs F H Q hs ⟨v,rfl,p,us,rfl,h,r⟩ q
 exact .inl ⟨us,.inl (.of (hs _ _ h)),fun l hl=>zep_ hs hl r q⟩
theorem zjI_ {xs:List Int}:Prs tyInt H xs (xs.map V.int):=by
 induction xs with
 | nil=>exact .nil
 | cons x xs ih=>exact .cons rfl ih
theorem zfY_:Op2 K (mIx K) E tyStr tyInt (fun l i=>.lim l.length (.opt ((atI l i).map fun c=>[c]))) tyStr:=by
 rintro a b x y F H Q hs rfl rfl q
 obtain ⟨z,q⟩:=q.lim
 obtain ⟨l,e,q⟩:=q.opt
 refine ⟨z,?_⟩
 show (match atI a b with | some c=>Q (tx [c]) H | none=>False)
 cases e1:atI a b with
 | none=>rw [e1] at e; cases e
 | some c=>rw [e1] at e; cases e; exact q.ok hs _ rfl
theorem zjD_ {xs:List α}{vs:List V}(r:Prs T H xs vs) {i:Int}{x:α}(e:atI xs i=some x):∃ v,atI vs i=some v∧T.R x v H:=by
 unfold atI at e ⊢
 rw [← r.len]
 cases e1:ixN xs.length i with
 | none=>rw [e1] at e; cases e
 | some j =>
  rw [e1] at e
  rcases r.get j with ⟨a,b⟩ | ⟨y,v,a,b,c⟩
  ·have:xs[j]?=some x:=e
   rw [a] at this; cases this
  ·have:xs[j]?=some x:=e
   rw [a] at this; cases this
   exact ⟨v,b,c⟩
theorem zf5_:Op2 K (mIx K) E (tyL T) tyInt (fun l i=>.opt (atI l i)) T:=by
 rintro a b x y F H Q hs ⟨p,vs,rfl,h,r⟩ rfl q
 obtain ⟨l,e,q⟩:=q.opt
 refine ⟨vs,.inl (.of (hs _ _ h)),?_⟩
 obtain ⟨v,e2,rv⟩:=zjD_ r e
 rw [e2]
 exact q.ok hs v rv
theorem zlc_:Op2 K (mIx K) E (tySc K) tyInt (fun l i=>.opt (atI l i)) tyInt:=by
 rintro a b x y F H Q hs ⟨p,rfl,h⟩ rfl q
 obtain ⟨l,e,q⟩:=q.opt
 refine ⟨_,.inl (hs.seq h),?_⟩
 obtain ⟨v,e2,rv⟩:=zjD_ (H:=F) zjI_ e
 rw [e2]
 exact q.ok hs v rv
def CsAt (C:Cs γ) (i:Nat) (T:Ty α) (pr:γ→α):Prop:=∀ {c vs H},C.R c vs H→∃ v,vs[i]?=some v∧T.R (pr c) v H
theorem zja_:CsAt (csLast T) 0 T id:=fun ⟨v,e,h⟩=>⟨v,by rw [e]; rfl,h⟩
theorem at_0 {C:Cs γ}:CsAt (csCons T C) 0 T Prod.fst:=fun ⟨v,us,e,h,q⟩=>⟨v,by rw [e]; rfl,h⟩
theorem at_s {C:Cs γ}{i:Nat}{pr:γ→α}{T':Ty β}(h:CsAt C i T pr):CsAt (csCons T' C) (i+1) T (fun c=>pr c.2):=fun ⟨v,us,e,_,q⟩=>by
 obtain ⟨w,e2,r⟩:=h q
 exact ⟨w,by rw [e]; exact e2,r⟩
theorem zhZ_ {C:Cs γ}{i:Nat}{pr:γ→α}{r:Mo γ}(ha:CsAt C i T pr) (h:EvF K e E L r (tyTup C)):EvF K (tOp (mIx K) e (tC (.int i))) E L (r.bind fun c=>.ok (pr c)) T:=by
 intro σ F H Q hL hs q
 refine h σ F H _ hL hs (q.bind.imp fun c F1 H1 x1 k1 v1 hq_=>?_)
 obtain ⟨p,us,ev,hp,hc⟩:=hq_
 subst ev
 obtain ⟨w,e2,rw'⟩:=ha hc
 refine ⟨us,.inr (.of (x1.2.1 _ _ hp)),?_⟩
 have e3:atI us (i:Int)=some w:=by
  unfold atI
  rw [zi2_ (by lia) (by have:=(List.getElem?_eq_some_iff.mp e2).1; lia)]
  simpa using e2
 rw [e3]
 exact k1.ok x1.2.1 w rw'
end
end L2
namespace L2
open PySem PySem.Spec PyProof.Rows
section
variable {K:Fgg}{E:XK}{α β γ ρ:Type}{F H:Hp}{L:List Sl}{e e1 e2:TE}{T:Ty α}{r:Mo α}
variable {t t1 t2:TT}{b b1 b2:Mo Bool}
theorem zG_ (h:EvF K e E L b tyBl):EvT K (mTest e) E L b:=by
 intro σ F H Q hL hs q
 refine h σ F H _ hL hs (q.imp fun a F1 H1 x k v hv=>?_)
 cases hv
 exact k
theorem zbA_ (h:EvT K t E L b):EvT K (tNot t) E L (b.bind fun c=>.ok (!c)):=by
 intro σ F H Q hL hs q
 exact h σ F H _ hL hs (q.bind.imp fun a F1 H1 x k=>k.ok x.2.1)
theorem zmE_ (h1:EvT K t1 E L b1) (h2:EvT K t2 E L b2):EvT K (mAnd t1 t2) E L (b1.bind fun c=>if c then b2 else .ok false):=by
 intro σ F H Q hL hs q
 refine h1 σ F H _ hL hs (q.bind.imp fun a F1 H1 x k=>⟨fun c=>?_,fun c=>?_⟩)
 ·rw [if_pos c] at k; exact h2 σ F1 H1 _ (hL.mono x.1) x.2.1 k
 ·rw [if_neg (by rw [c]; decide)] at k; exact k.ok x.2.1
theorem zio_ (h1:EvT K t1 E L b1) (h2:EvT K t2 E L b2):EvT K (mOr t1 t2) E L (b1.bind fun c=>if c then .ok true else b2):=by
 intro σ F H Q hL hs q
 refine h1 σ F H _ hL hs (q.bind.imp fun a F1 H1 x k=>⟨fun c=>?_,fun c=>?_⟩)
 ·rw [if_pos c] at k; exact k.ok x.2.1
 ·rw [if_neg (by rw [c]; decide)] at k; exact h2 σ F1 H1 _ (hL.mono x.1) x.2.1 k
theorem zhS_ (h1:EvF K e1 E L b1 tyBl) (h2:EvF K e2 E L b2 tyBl):EvF K (mAndV e1 e2) E L (b1.bind fun c=>if c then b2 else .ok false) tyBl:=by
 intro σ F H Q hL hs q
 refine h1 σ F H _ hL hs (q.bind.imp fun a F1 H1 x k v hv=>?_)
 cases hv
 refine ⟨fun c=>?_,fun c=>?_⟩
 ·rw [if_pos c] at k; exact h2 σ F1 H1 _ (hL.mono x.1) x.2.1 k
 ·rw [if_neg (by rw [c]; decide)] at k; exact k.ok x.2.1 _ rfl
theorem ev_if {r1 r2:Mo α}(ht:EvT K t E L b) (h1:EvF K e1 E L r1 T) (h2:EvF K e2 E L r2 T):EvF K (mIf t e1 e2) E L (b.bind fun c=>if c then r1 else r2) T:=by
 intro σ F H Q hL hs q
 refine ht σ F H _ hL hs (q.bind.imp fun a F1 H1 x k=>⟨fun c=>?_,fun c=>?_⟩)
 ·rw [if_pos c] at k; exact h1 σ F1 H1 _ (hL.mono x.1) x.2.1 k
 ·rw [if_neg (by rw [c]; decide)] at k; exact h2 σ F1 H1 _ (hL.mono x.1) x.2.1 k
theorem After.more {k:α→Hp→Hp→Prop}(h:After K r E F H k):After K r E F H fun a F1 H1=>∀ F2 H2,Ext F1 H1 F2 H2→k a F2 H2:=by
 cases r with
 | ok a=>exact fun F1 H1 x F2 H2 y=>h F2 H2 (x.trans y)
 | ex c=>exact h
 | no=>exact h
def CsN (C:Cs γ) (n:Nat):Prop:=∀ {c vs H},C.R c vs H→vs.length=n
theorem zfe_:CsN csNil 0:=fun e=>by rw [e]; rfl
theorem zao_:CsN (csLast T) 1:=fun ⟨v,e,_⟩=>by rw [e]; rfl
theorem zaa_ {C:Cs γ}{n:Nat}(h:CsN C n):CsN (csCons T C) (n+1):=fun ⟨v,us,e,_,q⟩=>by rw [e,List.length_cons,h q]
theorem zlq_ {ta:TA}{C:Cs γ}{r:Mo γ}{n:Nat}(hl:CsN C n) (h:EvA K ta E L r C) (hn:n≤100:=by decide):EvF K (tTup ta) E L r (tyTup C):=by
 intro σ F H Q hL hs q
 refine h σ F H _ hL hs (q.more.imp fun c F1 H1 x1 k1 vs hvs=>⟨zc8_ (by rw [hl hvs]; lia),fun p hp=>?_⟩)
 have x:=Ext.new (o:=.tup vs) x1.2.1 hp
 exact k1 _ _ x _ ⟨p,vs,rfl,zP_,C.mono x.1 hvs⟩
def CsL (C:Cs γ) (T:Ty α) (f:γ→List α):Prop:=∀ {c vs H},C.R c vs H→Prs T H (f c) vs
theorem zf4_:CsL (csLast T) T fun a=>[a]:=fun ⟨v,e,h⟩=>by rw [e]; exact .cons h .nil
theorem zfN_ {C:Cs γ}{f:γ→List α}(h:CsL C T f):CsL (csCons T C) T fun c=>c.1::f c.2:=fun ⟨v,us,e,q,z⟩=>by rw [e]; exact .cons q (h z)
theorem zj0_ {ta:TA}{C:Cs γ}{r:Mo γ}{n:Nat}{f:γ→List α}(hl:CsN C n) (hf:CsL C T f) (h:EvA K ta E L r C) (hn:n≤100:=by decide):EvO K (tLst ta) E L (r.bind fun c=>.ok (f c)) (owL T):=by
 intro σ F H Q hL hs q
 refine h σ F H _ hL hs (q.bind.imp fun c F1 H1 x1 k1 vs hvs=>⟨zc8_ (by rw [hl hvs]; omega),fun p hp=>?_⟩)
 exact zep_ x1.2.1 hp (hf hvs) (k1.imp fun a F2 H2 x2 k2=>k2.back x1.2.2.1)
theorem zax_ (T:Ty α):EvO K (tLst tNil) E L (.ok []) (owL T):=by
 intro σ F H Q hL hs q
 exact ⟨Nat.zero_le _,fun p hp=>zep_ hs hp (T:=T) .nil q⟩
def EvP (K:Fgg) (t:TO) (E:XK) (L:List Sl) (r:Mo (Option Int)):Prop :=
 ∀ σ F H (Q:Option Int→Hp→Prop),HoldF L σ F→Same F H→After K r E F H (fun b _ H'=>Q b H')→t σ H Q
theorem znf_:EvP K tNoPart E L (.ok none):=fun σ F H Q hL hs q=>q.ok hs
theorem zlW_ {r:Mo Int}(h:EvF K e E L r tyInt):EvP K (mPart e) E L (r.bind fun i=>.ok (some i)):=by
 intro σ F H Q hL hs q
 refine h σ F H _ hL hs (q.bind.imp fun a F1 H1 x k v hv=>?_)
 cases hv
 exact k.ok x.2.1
def cutG (xs:List α) (lo hi:Option Int):List α:=(xs.drop (HT.sIx xs.length 0 lo)).take (HT.sIx xs.length xs.length hi-HT.sIx xs.length 0 lo)
theorem zjc_ {xs:List α}{vs:List V}(q:Prs T H xs vs) (lo hi:Option Int):Prs T H (cutG xs lo hi) (cutV vs lo hi):=by
 unfold cutG cutV
 rw [← q.len]
 exact (q.drop _).take _
variable {tl th:TO}{rl rh:Mo (Option Int)}
theorem zjQ_ {r:Mo (List α)}(h:EvF K e E L r (tyL T)) (hl:EvP K tl E L rl) (hh:EvP K th E L rh):EvO K (tSl (mSl K) e tl th) E L (r.bind fun l=>rl.bind fun a=>rh.bind fun b=>.ok (cutG l a b)) (owL T):=by
 intro σ F H Q hL hs q
 refine h σ F H _ hL hs (q.bind.imp fun l F1 H1 x1 k1 v hv=>?_)
 refine hl σ F1 H1 _ (hL.mono x1.1) x1.2.1 (k1.bind.imp fun a F2 H2 x2 k2=>?_)
 refine hh σ F2 H2 _ (hL.mono (x1.1.trans x2.1)) x2.2.1 (k2.bind.imp fun b F3 H3 x3 k3=>?_)
 obtain ⟨p,vs,rfl,hp,hr⟩:=hv
 have x:=x2.1.trans x3.1
 exact ⟨vs,.of (x3.2.1 _ _ (x _ _ hp)),fun q hq=>zep_ x3.2.1 hq (zjc_ (hr.mono x) a b) (k3.imp fun _ _ _ _ z=>z.back ((x1.2.2.1.trans x2.2.2.1).trans x3.2.2.1))⟩
theorem zly_ {r:Mo (List Int)}(h:EvF K e E L r (tySc K)) (hl:EvP K tl E L rl) (hh:EvP K th E L rh):EvO K (tSl (mSl K) e tl th) E L (r.bind fun l=>rl.bind fun a=>rh.bind fun b=>.ok (cutG l a b)) (owL tyInt):=by
 intro σ F H Q hL hs q
 refine h σ F H _ hL hs (q.bind.imp fun l F1 H1 x1 k1 v hv=>?_)
 refine hl σ F1 H1 _ (hL.mono x1.1) x1.2.1 (k1.bind.imp fun a F2 H2 x2 k2=>?_)
 refine hh σ F2 H2 _ (hL.mono (x1.1.trans x2.1)) x2.2.1 (k2.bind.imp fun b F3 H3 x3 k3=>?_)
 obtain ⟨p,rfl,hp⟩:=hv
 have x:=x2.1.trans x3.1
 exact ⟨_,x3.2.1.seq (x.seq hp),fun q hq=>zep_ x3.2.1 hq (zjc_ zjI_ a b) (k3.imp fun _ _ _ _ z=>z.back ((x1.2.2.1.trans x2.2.2.1).trans x3.2.2.1))⟩
structure EqT (K:Fgg) (T:Ty α) (n:Nat) (q:α→α→Bool):Prop where
 eq:∀ {a b x y H},T.R a x H→T.R b y H→EqD K H n x y (q a b)
theorem zif_:EqT K tyStr 0 (fun a b=>decide (a=b)):=⟨by
 rintro a b x y H rfl rfl
 have:eqV (tx a) (tx b)=decide (a=b):=by
  unfold eqV
  rw [Bool.eq_iff_iff,decide_eq_true_iff]
  constructor
  ·intro h
   have h:=eq_of_beq h
   injection h with h
   have:=congrArg Array.toList h
   simpa using this
  ·rintro rfl; exact beq_self_eq_true _
 rw [← this]; exact .flat rfl rfl⟩
def eqL (q:α→α→Bool):List α→List α→Bool
 | [],[]=>true
 | x::xs,y::ys=>q x y && eqL q xs ys
 | _,_=>false
theorem zjs_ {q:α→α→Bool}:∀ {xs ys:List α},xs.length≠ys.length→eqL q xs ys=false
 | [],[],h=>absurd rfl h
 | [],_::_,_=>rfl
 | _::_,[],_=>rfl
 | x::xs,y::ys,h=>by unfold eqL; rw [zjs_ (by simpa using h),Bool.and_false]
theorem zjh_ {q:α→α→Bool}:∀ {xs ys:List α},xs.length=ys.length→eqL q xs ys=(List.range xs.length).all fun i=>match xs[i]?,ys[i]? with | some x,some y=>q x y | _,_=>true
 | [],[],_=>rfl
 | x::xs,y::ys,h=>by
  unfold eqL
  rw [List.length_cons,List.range_succ_eq_map,List.all_cons,List.all_map,zjh_ (by simpa using h)]
  rfl
theorem zmn_ {n:Nat}{q:α→α→Bool}(h:EqT K T n q):EqT K (tyL T) (n+1) (eqL q):=⟨by
 rintro a b x y H ⟨p,vs,rfl,hp,hr⟩ ⟨p2,us,rfl,hp2,hr2⟩
 by_cases hl:a.length=b.length
 ·rw [zjh_ hl,hr.len]
  refine .lst _ (.of hp) (.of hp2) (by rw [← hr.len,← hr2.len,hl]) fun i x y hx hy=>?_
  rcases hr.get i with ⟨_,z⟩ | ⟨x1,v1,e1,e2,r1⟩
  ·rw [z] at hx; cases hx
  rcases hr2.get i with ⟨_,z⟩ | ⟨x2,v2,e3,e4,r2⟩
  ·rw [z] at hy; cases hy
  rw [e2] at hx; cases hx
  rw [e4] at hy; cases hy
  simp only [e1,e3]
  exact h.eq r1 r2
 ·rw [zjs_ hl]
  exact .lstN (.of hp) (.of hp2) (by rw [← hr.len,← hr2.len]; exact hl)⟩
theorem zmo_ {n:Nat}{q:α→α→Bool}(h:EqT K T n q) (hn:n≤50:=by decide) (hr:∀ {a x H},T.R a x H→∃ p,x=.ref p):Op2 K (mEqK K) E T T (fun a b=>.ok (q a b)) tyBl:=by
 intro a b x y F H Q hs hx hy k
 have hd:=h.eq (T.mono hs hx) (T.mono hs hy)
 obtain ⟨p,rfl⟩:=hr hx
 obtain ⟨p2,rfl⟩:=hr hy
 exact ⟨n,_,hn,hd,k.ok hs _ rfl⟩
theorem zm2_ {n:Nat}{q:α→α→Bool}(h:EqT K T n q) (hn:n≤50:=by decide) (hr:∀ {a x H},T.R a x H→∃ p,x=.ref p):Op2 K (mNeK K) E T T (fun a b=>.ok (!(q a b))) tyBl:=by
 intro a b x y F H Q hs hx hy k
 have hd:=h.eq (T.mono hs hx) (T.mono hs hy)
 obtain ⟨p,rfl⟩:=hr hx
 obtain ⟨p2,rfl⟩:=hr hy
 exact ⟨n,_,hn,hd,k.ok hs _ rfl⟩
theorem ref_l {a:List α}{x:V}{H:Hp}(h:(tyL T).R a x H):∃ p,x=.ref p:=by obtain ⟨p,_,e,_⟩:=h; exact ⟨p,e⟩
theorem zlo_ {n:Nat}{q:α→α→Bool}(h:EqT K (tyL T) n (eqL q)) (hn:n≤50:=by decide):Op2 K (mEqK K) E (tyL T) (tyL T) (fun a b=>.ok (eqL q a b)) tyBl:=zmo_ h hn ref_l
theorem zmy_ {n:Nat}{q:α→α→Bool}(h:EqT K (tyL T) n (eqL q)) (hn:n≤50:=by decide):Op2 K (mNeK K) E (tyL T) (tyL T) (fun a b=>.ok (!(eqL q a b))) tyBl:=zm2_ h hn ref_l
theorem zkB_:Op2 K (mEqK K) E tyInt tyInt (fun a b=>.ok (decide (a=b))) tyBl:=by
 rintro a b x y F H Q hs rfl rfl k
 exact k.ok hs _ rfl
theorem zmZ_:Op2 K (mNeK K) E tyInt tyInt (fun a b=>.ok (!decide (a=b))) tyBl:=by
 rintro a b x y F H Q hs rfl rfl k
 exact k.ok hs _ rfl
theorem zcZ_:Op2 K (mEqK K) E tyStr tyStr (fun a b=>.ok (decide (a=b))) tyBl:=by
 rintro a b x y F H Q hs rfl rfl k
 exact k.ok hs _ rfl
theorem zlu_:Op2 K (mNeK K) E tyStr tyStr (fun a b=>.ok (!decide (a=b))) tyBl:=by
 rintro a b x y F H Q hs rfl rfl k
 exact k.ok hs _ rfl
theorem op_isNo:Op2 K mIs E (tyOpt T) tyNon (fun a _=>.ok a.isNone) tyBl:=by
 rintro a b x y F H Q hs hx rfl k
 have:decide (x=.non)=a.isNone:=by
  cases a with
  | none=>cases hx; rfl
  | some a=>exact decide_eq_false hx.2
 show (match mIsB x .non with | some b=>Q (.bl b) H | none=>False)
 have e:mIsB x .non=some (decide (x=.non)):=rfl
 rw [e,this]
 exact k.ok hs _ rfl
theorem zmg_:Op2 K (mIn K false) E tyStr tyStr (fun a b=>.ok (inS a b)) tyBl:=by
 rintro a b x y F H Q hs rfl rfl k
 exact k.ok hs _ rfl
def TyN (K:Fgg) (T:Ty α) (n:String):Prop:=∀ {a x H},T.R a x H→tyS K H x n
theorem zmt_:TyN K tyStr "str" := fun h=>by cases h; rfl
theorem tn_l:TyN K (tyL T) "list" := fun ⟨p,vs,e,h,_⟩=>by subst e; exact .inl ⟨rfl,vs,h⟩
theorem zln_ {x:V}{n c:String}{bb:Bool}{Q:VK}(h:tyS K H x n) (hb:isaB n c=some bb) (q:Q (.bl bb) H):mIsa K [x,.ty c] H Q:=by
 cases x with
 | non=>cases (show n=_ from h); show (match isaB "NoneType" c with | some b=>Q (.bl b) H | none=>False); rw [hb]; exact q
 | bl _=>cases (show n=_ from h); show (match isaB "bool" c with | some b=>Q (.bl b) H | none=>False); rw [hb]; exact q
 | int _=>cases (show n=_ from h); show (match isaB "int" c with | some b=>Q (.bl b) H | none=>False); rw [hb]; exact q
 | str _=>cases (show n=_ from h); show (match isaB "str" c with | some b=>Q (.bl b) H | none=>False); rw [hb]; exact q
 | ref p=>exact ⟨n,h,by rw [hb]; exact q⟩
 | _=>exact h.elim
theorem zin_ {n c:String}{bb:Bool}(hn:TyN K T n) (h:EvF K e E L r T) (hb:isaB n c=some bb:=by decide):EvF K (tCB (mIsa K) (tCons e (tCons (tC (.ty c)) tNil))) E L (r.bind fun _=>.ok bb) tyBl:=by
 intro σ F H Q hL hs q
 refine h σ F H _ hL hs (q.bind.imp fun l F1 H1 x1 k1 v hv=>?_)
 exact zln_ (hn (T.mono x1.2.1 hv)) hb (k1.ok x1.2.1 _ rfl)
def Me (K:Fgg) (m:V→List V→Hp→VK→Prop) (E:XK) (C:Cs γ) (g:List Nat→γ→Mo α) (T:Ty α):Prop :=
 ∀ l c vs F H (Q:VK),Same F H→C.R c vs F→After K (g l c) E F H (fun c F' H'=>∀ v,T.R c v F'→Q v H')→m (tx l) vs H Q
theorem ev_me {m:V→List V→Hp→VK→Prop}{C:Cs γ}{g:List Nat→γ→Mo α}{ta:TA}{r0:Mo (List Nat)}{r:Mo γ}(hb:Me K m E C g T) (h0:EvF K e E L r0 tyStr) (h:EvA K ta E L r C):EvF K (tBM K "str" m e ta) E L (r0.bind fun l=>r.bind fun c=>g l c) T:=by
 intro σ F H Q hL hs q
 refine h0 σ F H _ hL hs (q.bind.imp fun l F1 H1 x1 k1 v hv=>?_)
 cases hv
 refine ⟨rfl,h σ F1 H1 _ (hL.mono x1.1) x1.2.1 (k1.bind.imp fun c F2 H2 x2 k2 vs hvs=>hb l c vs F2 H2 Q x2.2.1 hvs k2)⟩
theorem zkl_:Me K mIndex E (csLast tyStr) (fun l c=>.grd (findS l c ≠ -1) (.ok (findS l c))) tyInt:=by
 rintro l c vs F H Q hs ⟨v,rfl,rfl⟩ k
 obtain ⟨z,k⟩:=k.grd
 exact ⟨z,k.ok hs _ rfl⟩
def zfL (l:List Nat) (i:Int):List Nat:=(Txt.zfill ⟨l.toArray⟩ i).cps.toList
theorem zjS_:Me K mZfill E (csLast tyInt) (fun l i=>.grd (PadOk i=true) (.ok (zfL l i))) tyStr:=by
 rintro l c vs F H Q hs ⟨v,rfl,rfl⟩ k
 obtain ⟨z,k⟩:=k.grd
 exact ⟨z,k.ok hs _ rfl⟩
end
end L2
namespace L2
open PySem PySem.Spec PyProof.Rows
section
variable {K:Fgg}{E:XK}{α β γ ρ S S' B:Type}{F H:Hp}{L:List Sl}{e e1 e2:TE}{T:Ty α}{r:Mo α}
def setL (L:List Sl) (ss:List (Nat×Sl)):List Sl:=ss.foldl (fun L q=>L.set q.1 q.2) L
def setS (σ:St) (ss:List (Nat×Option V)):St:=ss.foldl (fun L q=>L.set q.1 q.2) σ
inductive Plain (F:Hp):List (Nat×Sl)→List (Nat×Option V)→Prop
 | nil:Plain F [] []
 | cons {α:Type}{T:Ty α}{a:α}{i:Nat}{v:V}{ss vs} (h:T.R a v F) (t:Plain F ss vs):Plain F ((i,.fz T a)::ss) ((i,some v)::vs)
def TgR (K:Fgg) (g:TG) (T:Ty α) (ss:α→List (Nat×Sl)):Prop :=
 ∀ a v σ F H (Q:St→Hp→Prop),Same F H→T.R a v F→(∀ vs,Plain F (ss a) vs→Q (setS σ vs) H)→g v σ H Q
theorem zbq_ (i:Nat):TgR K (gName i) T fun a=>[(i,.fz T a)]:=by
 intro a v σ F H Q hs hv q
 exact q [(i,some v)] (.cons hv .nil)
def TgC (K:Fgg) (g:TGs) (C:Cs γ) (ss:γ→List (Nat×Sl)):Prop :=
 ∀ a vs σ F H (Q:St→Hp→Prop),Same F H→C.R a vs F→(∀ us,Plain F (ss a) us→Q (setS σ us) H)→g vs σ H Q
theorem zg8_ {g:TG}{ss:α→List (Nat×Sl)}(h:TgR K g T ss):TgC K (gConsM g gNilM) (csLast T) ss:=by
 rintro a vs σ F H Q hs ⟨v,rfl,hv⟩ q
 exact h a v σ F H _ hs hv fun us hu=>q us hu
theorem zhw_ (i:Nat) {g:TGs}{C:Cs γ}{ss:γ→List (Nat×Sl)}(h:TgC K g C ss):TgC K (gConsM (gName i) g) (csCons T C) fun c=>(i,.fz T c.1)::ss c.2:=by
 rintro a vs σ F H Q hs ⟨v,us,rfl,hv,hc⟩ q
 exact h a.2 us _ F H _ hs hc fun ws hw=>q ((i,some v)::ws) (.cons hv hw)
theorem zkn_ {n:Nat}{g:TGs}{C:Cs γ}{ss:γ→List (Nat×Sl)}(hn:CsN C n) (h:TgC K g C ss):TgR K (gTupM K n g) (tyTup C) ss:=by
 rintro a v σ F H Q hs ⟨p,us,rfl,hp,hc⟩ q
 exact ⟨us,.of (hs _ _ hp),hn hc,h a us σ F H Q hs hc q⟩
theorem zil_ {σ:St}{i j:Nat}{o:Option V}(h:i<σ.length):((σ.set i o)[j]?).join=if i=j then o else (σ[j]?).join:=by
 rw [List.getElem?_set]
 split
 ·rename_i e; subst e; first | rfl | (rw [if_pos h]; rfl)
 ·rfl
theorem zir_ {σ:St}{i:Nat}{s:Sl}{o:Option V}(hl:L.length=σ.length) (h:HoldF L σ F) (hs:s.Z o F):HoldF (L.set i s) (σ.set i o) F:=by
 intro j t e
 rw [List.getElem?_set] at e
 split at e
 ·rename_i z; subst z
  split at e
  ·rename_i y; cases e
   rw [zil_ (by rw [← hl]; exact y),if_pos rfl]; exact hs
  ·cases e
 ·rename_i z
  by_cases y:i<σ.length
  ·rw [zil_ y,if_neg z]; exact h j t e
  ·rw [List.set_eq_of_length_le (by lia)]; exact h j t e
theorem zgT_ {ss:List (Nat×Sl)}{vs:List (Nat×Option V)}(p:Plain F ss vs):∀ {L:List Sl}{σ:St},L.length=σ.length→HoldF L σ F→HoldF (setL L ss) (setS σ vs) F∧(setS σ vs).length=σ.length∧(setL L ss).length=L.length:=by
 induction p with
 | nil=>exact fun hl h=>⟨h,rfl,rfl⟩
 | cons hv t ih =>
  rename_i T a i v ss vs
  intro L σ hl h
  obtain ⟨a1,b,c⟩:=ih (L:=L.set i (.fz T a)) (σ:=σ.set i (some v)) (by rw [List.length_set,List.length_set]; exact hl) (zir_ (s:=.fz T a) hl h ⟨v,rfl,hv⟩)
  exact ⟨a1,b.trans (by rw [List.length_set]),c.trans (by rw [List.length_set])⟩
def DeadAt (L:List Sl) (is:List Nat):Prop:=∀ i∈is,∀ s,L[i]?=some s→s=.dead
theorem zkm_ {ss:List (Nat×Sl)}{vs:List (Nat×Option V)}(p:Plain F ss vs) {j:Nat}:∀ {σ:St},j∉ss.map (·.1)→(setS σ vs)[j]?=σ[j]?:=by
 induction p with
 | nil=>exact fun _=>rfl
 | cons hv t ih =>
  rename_i i v ss vs
  intro σ hj
  have h1:i≠j:=fun z=>hj (by rw [← z]; exact List.mem_cons_self)
  have h2:=ih (σ:=σ.set i (some v)) fun z=>hj (List.mem_cons_of_mem _ z)
  exact h2.trans (List.getElem?_set_ne h1)
structure Yl (K:Fgg) (J:It) (xs:List α) (T:Ty α) (F1:Hp):Prop where
 go:∀ i H x,Same F1 H→xs[i]?=some x→J.go i H∧∀ v H',J.yld i H v H'→∀ F,Same F1 F→Same F H→∃ F',Ext F H F' H'∧T.R x v F'
 stop:∀ H,Same F1 H→J.stop xs.length H
def EvI (K:Fgg) (wi:TI) (E:XK) (L:List Sl) (r:Mo (List α)) (T:Ty α):Prop :=
 ∀ σ F H (R:It→Hp→Prop),HoldF L σ F→Same F H→After K r E F H (fun xs F' H'=>∀ J,Yl K J xs T F'→R J H')→wi σ H R
theorem zm5_ {r:Mo (List Nat)}(h:EvF K e E L r tyStr):EvI K (iAny K e) E L (r.bind fun l=>.ok (l.map fun c=>[c])) tyStr:=by
 intro σ F H R hL hs q
 refine h σ F H _ hL hs (q.bind.imp fun l F1 H1 x1 k1 v hv=>?_)
 cases hv
 refine k1.ok x1.2.1 _ ⟨fun i H x hH hx=>?_,fun H hH=>?_⟩
 ·rw [List.getElem?_map] at hx
  cases e:l[i]? with
  | none=>rw [e] at hx; cases hx
  | some c =>
   rw [e] at hx; cases hx
   have hi:=(List.getElem?_eq_some_iff.mp e).1
   refine ⟨hi,?_⟩
   rintro v H' ⟨rfl,rfl⟩ F _ hF
   refine ⟨F,.refl hF,?_⟩
   show tx [l.getD i 0]=tx [c]
   rw [List.getD_eq_getElem?_getD,e]; rfl
 ·show l.length≤(l.map fun c=>[c]).length
  rw [List.length_map]; exact Nat.le_refl _
theorem ei_l {r:Mo (List α)}(h:EvF K e E L r (tyL T)):EvI K (iAny K e) E L r T:=by
 intro σ F H R hL hs q
 refine h σ F H _ hL hs (q.imp fun l F1 H1 x1 k1 v hv=>?_)
 obtain ⟨p,vs,rfl,hp,hr⟩:=hv
 refine .inl ⟨⟨vs,.of (x1.2.1 _ _ hp)⟩,k1 _ ⟨fun i H x hH hx=>?_,fun H hH=>⟨vs,.of (hH _ _ hp),by rw [hr.len]; exact Nat.le_refl _⟩⟩⟩
 rcases hr.get i with ⟨a,_⟩ | ⟨y,u,a,b,c⟩
 ·rw [a] at hx; cases hx
 ·rw [a] at hx; cases hx
  refine ⟨⟨vs,u,.of (hH _ _ hp),b⟩,?_⟩
  rintro v H' ⟨rfl,z⟩ F hF hF'
  have e:=z vs (.of (hH _ _ hp))
  rw [b] at e; cases e
  exact ⟨F,.refl hF',T.mono hF c⟩
def rngI (lo:Int) (n:Nat):List Int:=(List.range n).map fun (i:Nat)=>lo+i
theorem zmB_ {lo:Int}{n:Nat}{F1:Hp}:Yl K (Itr lo n) (rngI lo n) tyInt F1:=by
 refine ⟨fun i H x hH hx=>?_,fun H hH=>?_⟩
 ·unfold rngI at hx
  rw [List.getElem?_map] at hx
  cases e:(List.range n)[i]? with
  | none=>rw [e] at hx; cases hx
  | some c =>
   rw [e] at hx; cases hx
   obtain ⟨hi,e⟩:=List.getElem?_eq_some_iff.mp e
   rw [List.getElem_range] at e; subst e
   rw [List.length_range] at hi
   refine ⟨hi,?_⟩
   rintro v H' ⟨rfl,rfl⟩ F _ hF
   exact ⟨F,.refl hF,rfl⟩
 ·show n≤_
  unfold rngI; rw [List.length_map,List.length_range]; exact Nat.le_refl _
theorem zh8_ {r:Mo Int}{ta:TA}(h:EvA K ta E L r (csLast tyInt)):EvI K (mRng1 ta) E L (r.bind fun j=>.grd (-(2 ^ 62)≤j∧j<2 ^ 62) (.ok (rngI 0 j.toNat))) tyInt:=by
 intro σ F H R hL hs q
 refine h σ F H _ hL hs (q.bind.imp fun l F1 H1 x1 k1 v hv=>?_)
 obtain ⟨u,rfl,rfl⟩:=hv
 obtain ⟨z,k1⟩:=k1.grd
 exact ⟨z.1,z.2,k1.ok x1.2.1 _ zmB_⟩
def enumL (xs:List α):List (Int×α):=(List.range xs.length).zip xs |>.map fun q=>((q.1:Int),q.2)
theorem zex_ (xs:List α) (i:Nat):(enumL xs)[i]?=(xs[i]?).map fun x=>((i:Int),x):=by
 unfold enumL
 rw [List.getElem?_map]
 cases e:xs[i]? with
 | none =>
  have:=List.getElem?_eq_none_iff.mp e
  rw [List.getElem?_eq_none (by rw [List.length_zip,List.length_range]; lia)]; rfl
 | some x =>
  have hi:=(List.getElem?_eq_some_iff.mp e).1
  have:((List.range xs.length).zip xs)[i]?=some (i,x):=List.getElem?_zip_eq_some.mpr ⟨by rw [List.getElem?_range hi],e⟩
  rw [this]; rfl
theorem zdp_ (xs:List α):(enumL xs).length=xs.length:=by unfold enumL; rw [List.length_map,List.length_zip,List.length_range,Nat.min_self]
theorem zjf_ {r:Mo (List α)}{ta:TA}(h:EvA K ta E L r (csLast (tyL T))):EvI K (iEnum K ta) E L (r.bind fun l=>.ok (enumL l)) (tyTup (csCons tyInt (csLast T))):=by
 intro σ F H R hL hs q
 refine h σ F H _ hL hs (q.bind.imp fun l F1 H1 x1 k1 vs hv=>?_)
 obtain ⟨v,rfl,p,us,rfl,hp,hr⟩:=hv
 refine ⟨⟨us,.of (x1.2.1 _ _ hp)⟩,k1.ok x1.2.1 _ ⟨fun i H x hH hx=>?_,fun H hH=>?_⟩⟩
 ·rw [zex_] at hx
  rcases hr.get i with ⟨a,_⟩ | ⟨y,u,a,b,c⟩
  ·rw [a] at hx; cases hx
  ·rw [a] at hx; cases hx
   refine ⟨⟨us,u,.of (hH _ _ hp),b⟩,?_⟩
   rintro v H' ⟨p2,w,z,hp2,rfl,rfl⟩ F hF hF'
   have e:=z us (.of (hH _ _ hp))
   rw [b] at e; cases e
   have x:=Ext.new (o:=.tup [.int i,u]) hF' hp2
   exact ⟨_,x,p2,_,rfl,zP_,_,_,rfl,rfl,u,rfl,T.mono (hF.trans x.1) c⟩
 ·exact ⟨us,.of (hH _ _ hp),by rw [zdp_,hr.len]; exact Nat.le_refl _⟩
theorem zni_ {T2:Ty β}{r:Mo (List α×List β)}{ta:TA}(h:EvA K ta E L r (csCons (tyL T) (csLast (tyL T2)))):EvI K (iZip K ta) E L (r.bind fun c=>.ok (c.1.zip c.2)) (tyTup (csCons T (csLast T2))):=by
 intro σ F H R hL hs q
 refine h σ F H _ hL hs (q.bind.imp fun l F1 H1 x1 k1 vs hv=>?_)
 obtain ⟨v,ws,rfl,⟨p,us,rfl,hp,hr⟩,v2,rfl,p2,us2,rfl,hp2,hr2⟩:=hv
 refine ⟨⟨us,.of (x1.2.1 _ _ hp)⟩,⟨us2,.of (x1.2.1 _ _ hp2)⟩,k1.ok x1.2.1 _ ⟨fun i H x hH hx=>?_,fun H hH=>?_⟩⟩
 ·obtain ⟨hx1,hx2⟩:=List.getElem?_zip_eq_some.mp (show (l.1.zip l.2)[i]?=some (x.1,x.2) from hx)
  rcases hr.get i with ⟨a,_⟩ | ⟨y,u,a,b,c⟩
  ·rw [a] at hx1; cases hx1
  rcases hr2.get i with ⟨a',_⟩ | ⟨y',u',a',b',c'⟩
  ·rw [a'] at hx2; cases hx2
  rw [a] at hx1; rw [a'] at hx2
  injection hx1 with hx1
  injection hx2 with hx2
  refine ⟨⟨us,us2,u,u',.of (hH _ _ hp),.of (hH _ _ hp2),b,b'⟩,?_⟩
  rintro v H' ⟨p3,w,w',z,z',hp3,rfl,rfl⟩ F hF hF'
  have e:=z us (.of (hH _ _ hp))
  have e':=z' us2 (.of (hH _ _ hp2))
  rw [b] at e; cases e
  rw [b'] at e'; cases e'
  have x':=Ext.new (o:=.tup [u,u']) hF' hp3
  refine ⟨_,x',p3,_,rfl,zP_,_,_,rfl,?_,u',rfl,?_⟩
  ·rw [← hx1]; exact T.mono (hF.trans x'.1) c
  ·rw [← hx2]; exact T2.mono (hF.trans x'.1) c'
 ·refine ⟨us,us2,.of (hH _ _ hp),.of (hH _ _ hp2),?_⟩
  rw [List.length_zip,hr.len,hr2.len]
  omega
def compM (f:α→Mo (Option β)):List α→List β→Mo (List β)
 | [],acc=>.ok acc
 | x::xs,acc=>(f x).bind fun o=>match o with | none=>compM f xs acc | some y=>.lim (acc.length+1) (compM f xs (acc++[y]))
theorem zgD_ {f:α→Mo (Option β)}{g:α→β}:∀ {xs:List α}{acc:List β},(∀ x∈xs,f x=.ok (some (g x)))→acc.length+xs.length≤100000→compM f xs acc=.ok (acc++xs.map g)
 | [],acc,_,_=>by unfold compM; rw [List.map_nil,List.append_nil]
 | x::xs,acc,h,hl=>by
  rw [List.length_cons] at hl
  unfold compM
  rw [h x List.mem_cons_self,Mo.ok_bind]
  show Mo.lim _ _=_
  rw [Mo.lim_ok (by lia),zgD_ (fun y hy=>h y (List.mem_cons_of_mem _ hy)) (by rw [List.length_append,List.length_singleton]; lia)]
  simp
theorem zba_ {f:α→Mo (Option β)}{g:α→Option β}:∀ {xs:List α}{acc:List β},(∀ x∈xs,f x=.ok (g x))→acc.length+xs.length≤100000→compM f xs acc=.ok (acc++xs.filterMap g)
 | [],acc,_,_=>by unfold compM; rw [List.filterMap_nil,List.append_nil]
 | x::xs,acc,h,hl=>by
  rw [List.length_cons] at hl
  unfold compM
  rw [h x List.mem_cons_self,Mo.ok_bind,List.filterMap_cons]
  cases e:g x with
  | none=>exact zba_ (fun y hy=>h y (List.mem_cons_of_mem _ hy)) (by lia)
  | some z =>
   show Mo.lim _ _=_
   rw [Mo.lim_ok (by lia),zba_ (fun y hy=>h y (List.mem_cons_of_mem _ hy)) (by rw [List.length_append,List.length_singleton]; lia)]
   simp
theorem zdL_ {f:α→Mo (Option α)}{g:α→Bool}{xs acc:List α}(h:∀ x∈xs,f x=.ok (if g x then some x else none)) (hl:acc.length+xs.length≤100000):compM f xs acc=.ok (acc++xs.filter g):=by
 rw [zba_ h hl]
 congr 2
 induction xs with
 | nil=>rfl
 | cons x xs ih =>
  rw [List.filterMap_cons,List.filter_cons]
  cases e:g x with
  | true=>simp only [if_true]; rw [ih (fun y hy=>h y (List.mem_cons_of_mem _ hy)) (by rw [List.length_cons] at hl; lia)]
  | false=>exact ih (fun y hy=>h y (List.mem_cons_of_mem _ hy)) (by rw [List.length_cons] at hl; lia)
def cL (lv:List Str) (fr:List (Str×Nat)) (L:List Sl):List Sl:=lv.map (fun _=>Sl.dead)++fr.map fun q=>(L[q.2]?).getD .dead
theorem zhm_ {lv:List Str}{fr:List (Str×Nat)}{σ:St}(h:HoldF L σ F):HoldF (cL lv fr L) (cS lv fr σ) F:=by
 intro i s e
 unfold cL at e
 unfold cS
 by_cases hi:i<lv.length
 ·rw [List.getElem?_append_left (by rw [List.length_map]; exact hi),List.getElem?_map,List.getElem?_eq_getElem hi] at e
  cases e; trivial
 ·rw [List.getElem?_append_right (by rw [List.length_map]; lia),List.length_map,List.getElem?_map] at e
  rw [List.getElem?_append_right (by rw [List.length_map]; lia),List.length_map,List.getElem?_map]
  cases z:fr[i-lv.length]? with
  | none=>rw [z] at e; cases e
  | some q =>
   rw [z] at e
   have e:(L[q.2]?).getD .dead=s:=by simpa using e
   show Sl.Z s (σ[q.2]?).join F
   cases y:L[q.2]? with
   | none=>rw [y] at e; rw [← e]; trivial
   | some t=>rw [y] at e; cases e; exact h _ _ y
theorem zkr_ {lv:List Str}{fr:List (Str×Nat)}{σ:St}:(cL lv fr L).length=(cS lv fr σ).length:=by unfold cL cS; simp
def cond1 (c:Mo Bool) (f:Mo β):Mo (Option β):=(c.bind fun b=>if b then f.bind fun y=>.ok (some y) else .ok none).noex
end
end L2
namespace L2
open PySem PySem.Spec PyProof.Rows
inductive Out (ρ B S:Type) where
 | nx (s:S) | rt (r:ρ) | bk (b:B) | ct (b:B)
def Okk (F0 H0 F h H:Hp):Prop:=Ext F0 H0 F H∧Dj F h∧Same h H∧(∀ p,h p≠none→H0 p=none)∧∀ p xs,h p≠some (.tup xs)
section
variable {K:Fgg}{E:XK}{α β γ ρ S S' B B':Type}{F0 H0 F h H:Hp}{L:List Sl}{e e1 e2:TE}{T:Ty α}{r:Mo α}{O:Own ρ}
def Fin (K:Fgg) (r:Mo (Out ρ B S)) (E:XK) (LS:S→List Sl) (LB:B→List Sl) (O:Own ρ) (F0 H0:Hp) (D:Ends):Prop:=match r with
 | .ok (.nx s)=>∀ σ F h H,Hold (LS s) σ F h→Okk F0 H0 F h H→D.nx σ H
 | .ok (.bk b)=>∀ σ F h H,Hold (LB b) σ F h→Okk F0 H0 F h H→D.bk σ H
 | .ok (.ct b)=>∀ σ F h H,Hold (LB b) σ F h→Okk F0 H0 F h H→D.ct σ H
 | .ok (.rt a)=>∀ v F h H,Okk F0 H0 F h H→O.O a v F h→D.rt v H
 | .ex c=>∀ F h H,Okk F0 H0 F h H→E (.ref (gA K c)) none H
 | .no=>False
def EvS (K:Fgg) (t:TS) (E:XK) (L:List Sl) (r:Mo (Out ρ B S)) (LS:S→List Sl) (LB:B→List Sl) (O:Own ρ):Prop :=
 ∀ F0 H0 σ F h H (D:Ends),Hold L σ F h→Okk F0 H0 F h H→Fin K r E LS LB O F0 H0 D→t D σ H
variable {t u:TS}{LS:S→List Sl}{LS':S'→List Sl}{LB:B→List Sl}
def thenO (r:Mo (Out ρ B S)) (k:S→Mo (Out ρ B S')):Mo (Out ρ B S'):=r.bind fun o=>match o with | .nx s=>k s | .rt a=>.ok (.rt a) | .bk b=>.ok (.bk b) | .ct b=>.ok (.ct b)
theorem zbL_ {r:Mo (Out ρ B S)}{k:S→Mo (Out ρ B S')}(h1:EvS K t E L r LS LB O) (h2:∀ s,EvS K u E (LS s) (k s) LS' LB O):EvS K (tSeq t u) E L (thenO r k) LS' LB O:=by
 intro F0 H0 σ F h H D hL ok fin
 refine h1 F0 H0 σ F h H { D with nx:=u D } hL ok ?_
 cases r with
 | no=>exact fin
 | ex c=>exact fin
 | ok o =>
  cases o with
  | nx s=>exact fun σ F h H hL ok=>h2 s F0 H0 σ F h H D hL ok fin
  | rt a=>exact fin
  | bk b=>exact fin
  | ct b=>exact fin
theorem Okk.thaw (ok:Okk F0 H0 F h H):Same (un F h) H:=fun p o e=>by
 unfold un at e
 cases z:F p with
 | some w=>rw [z] at e; cases e; exact ok.1.2.1 _ _ z
 | none=>rw [z] at e; exact ok.2.2.1 _ _ e
def less (G h:Hp):Hp:=fun p=>match h p with | none=>G p | some _=>none
theorem zx_ {G h:Hp}{p:Addr}(e:h p=none):less G h p=G p:=by unfold less; rw [e]
theorem Okk.back (ok:Okk F0 H0 F h H) {G' H':Hp}(x:Ext (un F h) H G' H'):Okk F0 H0 (less G' h) h H'∧Same F (less G' h)∧Tups G' (less G' h):=by
 obtain ⟨o1,o2,o3,o4,o5⟩:=ok
 have hs:Same F (less G' h):=fun p o e=>by
  have hp:h p=none:=by
   rcases o2 p with z | z
   ·rw [z] at e; cases e
   ·exact z
  rw [zx_ hp]; exact x.1 _ _ (zR_ _ _ e)
 refine ⟨⟨⟨o1.1.trans hs,fun p o e=>?_,o1.2.2.1.trans x.2.2.1,fun p a b=>?_⟩,fun p=>?_,fun p o e=>?_,o4,o5⟩,hs,fun p xs e=>?_⟩
 ·unfold less at e
  split at e
  ·exact x.2.1 _ _ e
  ·cases e
 ·unfold less at b
  split at b
  ·rename_i z
   cases y:un F h p with
   | none=>exact o1.2.2.1.free (x.2.2.2 p y b)
   | some o =>
    unfold un at y
    cases w:F p with
    | some _=>exact o1.2.2.2 p a (by rw [w]; exact Option.some_ne_none _)
    | none=>rw [w,z] at y; cases y
  ·exact absurd rfl b
 ·unfold less
  cases z:h p with
  | none=>exact .inr rfl
  | some o=>exact .inl rfl
 ·exact x.2.1 _ _ (x.1 _ _ (zfy_ o2 _ _ e))
 ·unfold less
  cases z:h p with
  | none=>exact e
  | some o =>
   have:=x.1 _ _ (zfy_ o2 _ _ z)
   rw [e] at this; cases this
   exact absurd z (o5 p xs)
theorem za2_ {r:Mo α}{k:α→Mo (Out ρ B S)}{G:Hp}{D:Ends}{kk:α→Hp→Hp→Prop}(ok:Okk F0 H0 F h H) (G1:Hp) (hG:G1=un F h∨G1=F) (fin:Fin K (r.bind k) E LS LB O F0 H0 D)
  (hk:∀ a F' H',r=.ok a→Ext G1 H F' H'→kk a F' H'):After K r E G1 H kk:=by
 cases r with
 | ok a=>exact fun F' H' x=>hk a F' H' rfl x
 | no=>exact fin
 | ex c =>
  intro F' H' x
  rcases hG with rfl | rfl
  ·exact fin _ _ _ (ok.back x).1
  ·refine fin F' h H' ⟨ok.1.trans x,fun p=>?_,ok.2.2.1.trans x.2.2.1,ok.2.2.2.1,ok.2.2.2.2⟩
   cases z:h p with
   | none=>exact .inr rfl
   | some o =>
    left
    rcases ok.2.1 p with y | y
    ·cases w:F' p with
     | none=>rfl
     | some o'=>have:=x.2.2.2 p y (by rw [w]; exact Option.some_ne_none _); rw [ok.2.2.1 _ _ z] at this; cases this
    ·rw [y] at z; cases z
theorem Okk.cold (ok:Okk F0 H0 F h H) {F' H':Hp}(x:Ext F H F' H'):Okk F0 H0 F' h H':=by
 refine ⟨ok.1.trans x,fun p=>?_,ok.2.2.1.trans x.2.2.1,ok.2.2.2.1,ok.2.2.2.2⟩
 cases z:h p with
 | none=>exact .inr rfl
 | some o =>
  left
  rcases ok.2.1 p with y | y
  ·cases w:F' p with
   | none=>rfl
   | some o'=>have:=x.2.2.2 p y (by rw [w]; exact Option.some_ne_none _); rw [ok.2.2.1 _ _ z] at this; cases this
  ·rw [y] at z; cases z
theorem ze0_ {i:Nat}{s:Sl}{σ:St}{a:α}{v:V}(hi:L[i]?=some s) (hL:Hold L σ F h) (hv:T.R a v F):Hold (L.set i (.fz T a)) (σ.set i (some v)) F h:=by
 obtain ⟨o,h1,h2,_,j,_,f⟩:=hL.at i hi
 exact f (.fz T a) (some v) h1 h j ⟨v,rfl,hv⟩
theorem zga_ {i:Nat}{s:Sl}{σ:St}{a:α}{v:V}{O1:Own α}{hn:Hp}(ok:Okk F0 H0 F h H) (hi:L[i]?=some s) (hL:Hold L σ F h) (fresh:∀ p,hn p≠none→H0 p=none) (dj:Dj F hn) (dh:Dj hn h) (hs:Same hn H) (hv:O1.O a v F hn) :
  ∃ h',Hold (L.set i (.ow O1 a)) (σ.set i (some v)) F h'∧Okk F0 H0 F h' H:=by
 obtain ⟨o,h1,h2,_,j,_,f⟩:=hL.at i hi
 have d2:Dj hn h2:=fun p=>by
  rcases dh p with z | z
  ·exact .inl z
  ·exact .inr (j.r.free z)
 refine ⟨un hn h2,f (.ow O1 a) (some v) hn _ (zcw_ d2) ⟨v,rfl,hv⟩,ok.1,fun p=>?_,fun p o e=>?_,fun p e=>?_,fun p xs e=>?_⟩
 ·unfold un
  cases z:hn p with
  | some w =>
   rcases dj p with y | y
   ·exact .inl y
   ·rw [y] at z; cases z
  | none =>
   rcases ok.2.1 p with y | y
   ·exact .inl y
   ·exact .inr (j.r.free y)
 ·unfold un at e
  cases z:hn p with
  | some w=>rw [z] at e; cases e; exact hs _ _ z
  | none=>rw [z] at e; exact ok.2.2.1 _ _ (j.r _ _ e)
 ·unfold un at e
  cases z:hn p with
  | some w=>exact fresh p (by rw [z]; exact Option.some_ne_none _)
  | none =>
   rw [z] at e
   cases y:h2 p with
   | none=>exact absurd y e
   | some w=>exact ok.2.2.2.1 p (by rw [j.r _ _ y]; exact Option.some_ne_none _)
 ·unfold un at e
  cases z:hn p with
  | some w=>rw [z] at e; cases e; exact O1.notup hv p xs z
  | none=>rw [z] at e; exact ok.2.2.2.2 p xs (j.r _ _ e)
theorem zgM_ {i:Nat}{s:Sl}{k:α→Mo (Out ρ B S)}(hi:L[i]?=some s) (hT:Imm T) (he:EvF K e E L r T) (hk:∀ a,EvS K u E (L.set i (.fz T a)) (k a) LS LB O):EvS K (tSeq (tAsg e (gName i)) u) E L (r.bind k) LS LB O:=by
 intro F0 H0 σ F h H D hL ok fin
 refine he σ (un F h) H _ (hL.froz ok.2.1) ok.thaw (za2_ (G:=F) ok _ (.inl rfl) fin fun a F' H' hr x v hv=>?_)
 obtain ⟨o,hs,ht⟩:=ok.back x
 rw [hr] at fin
 exact hk a F0 H0 _ _ h H' D (ze0_ hi (hL.mono hs) (hT ht hv)) o fin
theorem zk0_ {hn h:Hp}(hh:Same h H) (fresh:∀ p,hn p≠none→H p=none):Dj hn h:=fun p=>by
 cases z:hn p with
 | none=>exact .inl rfl
 | some w =>
  have:=fresh p (by rw [z]; exact Option.some_ne_none _)
  exact .inr (hh.free this)
theorem zcW_ {i:Nat}{s:Sl}{O1:Own α}{k:α→Mo (Out ρ B S)}(hi:L[i]?=some s) (hO:ImmO O1) (he:EvO K e E L r O1) (hk:∀ a,EvS K u E (L.set i (.ow O1 a)) (k a) LS LB O):EvS K (tSeq (tAsg e (gName i)) u) E L (r.bind k) LS LB O:=by
 intro F0 H0 σ F h H D hL ok fin
 refine he σ (un F h) H _ (hL.froz ok.2.1) ok.thaw (za2_ (G:=F) ok _ (.inl rfl) fin fun a F' H' hr x v hn fresh dj hsn hv=>?_)
 obtain ⟨o,hs,ht⟩:=ok.back x
 rw [hr] at fin
 have dj':Dj (less F' h) hn:=fun p=>by
  unfold less
  cases z:h p with
  | none=>exact dj p
  | some w=>exact .inl rfl
 obtain ⟨h',a1,a2⟩:=zga_ o hi (hL.mono hs) (fun p z=>ok.1.2.2.1.free (fresh p z)) dj' (zk0_ ok.2.2.1 fresh) hsn (hO ht hv)
 exact hk a F0 H0 _ _ h' H' D a1 a2 fin
theorem za0_ {α:Type}{l:List α}{i:Nat}{o:α}(h:l[i]?=some o):l.set i o=l:=by
 obtain ⟨hi,e⟩:=List.getElem?_eq_some_iff.mp h
 rw [← e]; exact List.set_getElem_self hi
theorem zkP_ {i:Nat}{O1:Own α}{a:α}{r:Mo (Out ρ B S)}(hi:L[i]?=some (.ow O1 a)) (hk:EvS K u E (L.set i (.fz O1.fr a)) r LS LB O):EvS K u E L r LS LB O:=by
 intro F0 H0 σ F h H D hL ok fin
 obtain ⟨o,h1,h2,e1,j,⟨v,e2,hv⟩,f⟩:=hL.at i hi
 obtain ⟨o1,o2,o3,o4,o5⟩:=ok
 have dj1:Dj F h1:=fun p=>by
  rcases o2 p with z | z
  ·exact .inl z
  ·exact .inr (j.l.free z)
 have dj2:Dj F h2:=fun p=>by
  rcases o2 p with z | z
  ·exact .inl z
  ·exact .inr (j.r.free z)
 have g1:Hold (L.set i (.dead)) σ F h2:=by
  have:=f .dead o (fun _=>none) h2 (fun p=>.inl ⟨rfl,rfl⟩) trivial
  rwa [za0_ e1] at this
 have g2:Hold (L.set i (.fz O1.fr a)) σ (un F h1) h2:=by
  have g3:=g1.mono (zR_ (h:=h1))
  have hi':(L.set i Sl.dead)[i]?=some .dead:=by
   rw [List.getElem?_set_self]
   exact (List.getElem?_eq_some_iff.mp hi).1
  have:=ze0_ (T:=O1.fr) hi' g3 (O1.frz dj1 hv)
  rw [List.set_set] at this
  subst e2
  rwa [za0_ e1] at this
 refine hk F0 H0 σ _ h2 H D g2 ⟨⟨o1.1.trans zR_,fun p o e=>?_,o1.2.2.1,fun p a b=>?_⟩,fun p=>?_,j.r.trans o3,fun p z=>?_,fun p xs e=>o5 p xs (j.r _ _ e)⟩ fin
 ·unfold un at e
  cases z:F p with
  | some w=>rw [z] at e; cases e; exact o1.2.1 _ _ z
  | none=>rw [z] at e; exact o3 _ _ (j.l _ _ e)
 ·unfold un at b
  cases z:F p with
  | some w=>exact o1.2.2.2 p a (by rw [z]; exact Option.some_ne_none _)
  | none =>
   rw [z] at b
   cases y:h1 p with
   | none=>exact absurd y b
   | some w=>exact o4 p (by rw [j.l _ _ y]; exact Option.some_ne_none _)
 ·unfold un
  cases z:F p with
  | some w =>
   rcases dj2 p with y | y
   ·rw [y] at z; cases z
   ·exact .inr y
  | none=>exact j.dj p
 ·cases y:h2 p with
  | none=>exact absurd y z
  | some w=>exact o4 p (by rw [j.r _ _ y]; exact Option.some_ne_none _)
theorem zb1_ {r:Mo ρ}(hO:ImmO O) (he:EvO K e E L r O):EvS K (tRet e) E L (r.bind fun a=>.ok (.rt a)) LS LB O:=by
 intro F0 H0 σ F h H D hL ok fin
 refine he σ (un F h) H _ (hL.froz ok.2.1) ok.thaw (za2_ (G:=F) ok _ (.inl rfl) fin fun a F' H' hr x v hn fresh dj hsn hv=>?_)
 obtain ⟨o,hs,ht⟩:=ok.back x
 rw [hr] at fin
 refine fin v _ hn H' ⟨o.1,fun p=>?_,hsn,fun p z=>ok.1.2.2.1.free (fresh p z),O.notup hv⟩ (hO ht hv)
 unfold less
 cases z:h p with
 | none=>exact dj p
 | some w=>exact .inl rfl
theorem zkz_ {i:Nat}{a:ρ}(hi:L[i]?=some (.ow O a)):EvS K (tRet (mVar i)) E L (.ok (.rt a)) LS LB O:=by
 intro F0 H0 σ F h H D hL ok fin
 obtain ⟨o,h1,h2,e1,j,⟨v,e2,hv⟩,f⟩:=hL.at i hi
 subst e2
 show mVar i σ H D.rt
 unfold mVar
 rw [e1]
 obtain ⟨o1,o2,o3,o4,o5⟩:=ok
 refine fin v F h1 H ⟨o1,fun p=>?_,j.l.trans o3,fun p z=>?_,O.notup hv⟩ hv
 ·rcases o2 p with z | z
  ·exact .inl z
  ·exact .inr (j.l.free z)
 ·cases y:h1 p with
  | none=>exact absurd y z
  | some w=>exact o4 p (by rw [j.l _ _ y]; exact Option.some_ne_none _)
theorem s_if {c:TT}{b:Mo Bool}{r1 r2:Mo (Out ρ B S)}(hc:EvT K c E L b) (h1:EvS K t E L r1 LS LB O) (h2:EvS K u E L r2 LS LB O):EvS K (mIfS c t u) E L (b.bind fun c=>if c then r1 else r2) LS LB O:=by
 intro F0 H0 σ F h H D hL ok fin
 refine hc σ (un F h) H _ (hL.froz ok.2.1) ok.thaw (za2_ (G:=F) ok _ (.inl rfl) fin fun a F' H' hr x=>?_)
 obtain ⟨o,hs,ht⟩:=ok.back x
 rw [hr] at fin
 have fin':Fin K (if a then r1 else r2) E LS LB O F0 H0 D:=fin
 refine ⟨fun z=>?_,fun z=>?_⟩
 ·rw [if_pos z] at fin'; exact h1 F0 H0 σ _ h H' D (hL.mono hs) o fin'
 ·rw [if_neg (by rw [z]; decide)] at fin'; exact h2 F0 H0 σ _ h H' D (hL.mono hs) o fin'
inductive Sub:List Sl→List Sl→Prop
 | nil:Sub [] []
 | same {s:Sl}{L L':List Sl}(h:Sub L L'):Sub (s::L) (s::L')
 | dead {s:Sl}{L L':List Sl}(h:Sub L L'):Sub (s::L) (.dead::L')
theorem Sub.hold {L L':List Sl}(w:Sub L L'):∀ {σ:St}{F h:Hp},Hold L σ F h→Hold L' σ F h:=by
 induction w with
 | nil=>exact fun h=>h
 | same _ ih =>
  intro σ F h q
  cases σ with
  | nil=>exact q.elim
  | cons o σ=>obtain ⟨h1,h2,j,p,r⟩:=q; exact ⟨h1,h2,j,p,ih r⟩
 | dead _ ih =>
  intro σ F h q
  cases σ with
  | nil=>exact q.elim
  | cons o σ=>obtain ⟨h1,h2,j,p,r⟩:=q; exact ⟨h1,h2,j,trivial,ih r⟩
theorem zm_ {s:S}(w:Sub L (LS s)):EvS K tNext E L (.ok (.nx s)) LS LB O:=fun F0 H0 σ F h H D hL ok fin=>fin σ F h H (w.hold hL) ok
theorem ze5_ {r:Mo (Out ρ B S)}(h:EvS K (tSeq t tNext) E L r LS LB O):EvS K t E L r LS LB O:=h
def forO (step:S→α→Mo (Out ρ S S)):List α→S→Mo (Out ρ B S)
 | [],s=>.ok (.nx s)
 | x::xs,s=>(step s x).bind fun o=>match o with | .nx s'=>forO step xs s' | .ct s'=>forO step xs s' | .bk s'=>.ok (.nx s') | .rt a=>.ok (.rt a)
theorem zhn_ {ss:List (Nat×Sl)}{vs:List (Nat×Option V)}(p:Plain F ss vs):∀ {L:List Sl}{σ:St},Hold L σ F h→Hold (setL L ss) (setS σ vs) F h:=by
 induction p with
 | nil=>exact fun h=>h
 | cons hv t ih =>
  rename_i T a i v ss vs
  intro L σ q
  refine ih (L:=L.set i (.fz T a)) (σ:=σ.set i (some v)) ?_
  by_cases hi:i<L.length
  ·exact ze0_ (List.getElem?_eq_getElem hi) q hv
  ·rw [List.set_eq_of_length_le (by lia),List.set_eq_of_length_le (by have:=q.len; lia)]; exact q
theorem Okk.rebase {F1 H1:Hp}(x:Ext F0 H0 F1 H1) (ok:Okk F0 H0 F h H) (s:Same F1 F):Okk F1 H0 F h H:=by
 obtain ⟨o1,o2,o3,o4,o5⟩:=ok
 refine ⟨⟨s,o1.2.1,o1.2.2.1,fun p a b=>o1.2.2.2 p (x.1.free a) b⟩,o2,o3,o4,o5⟩
theorem Okk.unbase {F1 H1:Hp}(x:Ext F0 H0 F1 H1) (ok:Okk F1 H0 F h H):Okk F0 H0 F h H:=by
 obtain ⟨o1,o2,o3,o4,o5⟩:=ok
 refine ⟨⟨x.1.trans o1.1,o1.2.1,o1.2.2.1,fun p a b=>?_⟩,o2,o3,o4,o5⟩
 cases z:F1 p with
 | none=>exact o1.2.2.2 p z b
 | some w=>exact x.2.2.2 p a (by rw [z]; exact Option.some_ne_none _)
theorem zj9_ {wi:TI}{g:TG}{tb:TS}{s0:S}{r:Mo (List α)}{ss:α→List (Nat×Sl)}{step:S→α→Mo (Out ρ S S)}(hi:EvI K wi E ((LS s0).map Sl.cold) r T) (hg:TgR K g T ss)
  (hb:∀ s a,EvS K tb E (setL (LS s) (ss a)) (step s a) LS LS O):EvS K (tFor wi g tb) E (LS s0) (r.bind fun xs=>forO step xs s0) LS LB O:=by
 intro F0 H0 σ F h H D hL ok fin
 refine hi σ F H _ hL.coldF ok.1.2.1 (za2_ (G:=F) ok _ (.inr rfl) fin fun xs F1 H1 hr x1 J Y=>?_)
 rw [hr] at fin
 have xx:=ok.1.trans x1
 refine ⟨fun i m σ H=>m=xs.length-i∧i≤xs.length∧∃ s F h,Hold (LS s) σ F h∧Okk F1 H0 F h H∧Fin K (forO (B:=B) step (xs.drop i) s) E LS LB O F0 H0 D,
  ⟨_,rfl,Nat.zero_le _,s0,F1,h,hL.mono x1.1,(ok.cold x1).rebase xx (Same.refl _),fin⟩,?_⟩
 rintro i m σ H ⟨rfl,hi,s,F,h,hL,ok,fin⟩
 have s1:Same F1 H:=ok.1.1.trans ok.1.2.1
 by_cases hlt:i<xs.length
 ·right
  obtain ⟨g1,g2⟩:=Y.go i H xs[i] s1 (List.getElem?_eq_getElem hlt)
  refine ⟨g1,fun σ' H'=>i+1≤xs.length∧∃ s F h,Hold (LS s) σ' F h∧Okk F1 H0 F h H'∧Fin K (forO (B:=B) step (xs.drop (i+1)) s) E LS LB O F0 H0 D,fun σ' H' z=>⟨xs.length-(i+1),by omega,rfl,z⟩,fun v H2 hy=>?_⟩
  obtain ⟨F2,x2,hv⟩:=g2 v H2 hy F ok.1.1 ok.1.2.1
  refine hg xs[i] v σ F2 H2 _ x2.2.1 hv fun vs hp=>?_
  refine hb s xs[i] F1 H0 _ F2 h H2 _ (zhn_ hp (hL.mono x2.1)) (ok.cold x2) ?_
  rw [List.drop_eq_getElem_cons hlt] at fin
  unfold forO at fin
  cases e:step s xs[i] with
  | no=>rw [e] at fin; exact fin
  | ex c=>rw [e] at fin; exact fun F h H ok=>fin F h H (ok.unbase xx)
  | ok o =>
   rw [e] at fin
   cases o with
   | nx s'=>exact fun σ' F' h' H' hL' ok'=>⟨hlt,s',F',h',hL',ok',fin⟩
   | ct s'=>exact fun σ' F' h' H' hL' ok'=>⟨hlt,s',F',h',hL',ok',fin⟩
   | bk s'=>exact fun σ' F' h' H' hL' ok'=>fin σ' F' h' H' hL' (ok'.unbase xx)
   | rt a=>exact fun v F h H ok=>fin v F h H (ok.unbase xx)
 ·left
  have e:i=xs.length:=by omega
  subst e
  rw [List.drop_length] at fin
  exact ⟨Y.stop H s1,fin σ F h H hL (ok.unbase xx)⟩
theorem zcU_ {i:Nat}{σ:St}{xs:List α}(hL:Hold L σ F h) (hi:L[i]?=some (.ow (owL T) xs)) (ok:Okk F0 H0 F h H) :
  ∃ p vs,σ[i]?=some (some (.ref p))∧H p=some (.lst vs)∧Prs T F xs vs∧∀ xs' vs',Prs T F xs' vs'→∃ h',Hold (L.set i (.ow (owL T) xs')) σ F h'∧Okk F0 H0 F h' (upd H p (.lst vs')):=by
 obtain ⟨o,h1,h2,e1,j,⟨v,e2,p,vs,rfl,rfl,hr⟩,f⟩:=hL.at i hi
 subst e2
 obtain ⟨o1,o2,o3,o4,o5⟩:=ok
 have hp:h p=some (.lst vs):=j.l _ _ zX_
 have h2p:h2 p=none:=by
  rcases j.dj p with z | z
  ·rw [zX_] at z; cases z
  ·exact z
 have Fp:F p=none:=by
  rcases o2 p with z | z
  ·exact z
  ·rw [hp] at z; cases z
 have H0p:H0 p=none:=o4 p (by rw [hp]; exact Option.some_ne_none _)
 refine ⟨p,vs,e1,o3 _ _ hp,hr,fun xs' vs' hr'=>?_⟩
 have d2:Dj (one p (.lst vs')) h2:=fun q=>by
  unfold one; split
  ·rename_i z; rw [z]; exact .inr h2p
  ·exact .inl rfl
 have g:=f (.ow (owL T) xs') (some (.ref p)) (one p (.lst vs')) _ (zcw_ d2) ⟨_,rfl,p,vs',rfl,rfl,hr'⟩
 rw [za0_ e1] at g
 refine ⟨_,g,⟨o1.1,fun q o z=>?_,fun q o z=>?_,o1.2.2.2⟩,fun q=>?_,fun q o z=>?_,fun q z=>?_,fun q ys z=>?_⟩
 ·unfold upd; split
  ·rename_i w; rw [w,Fp] at z; cases z
  ·exact o1.2.1 _ _ z
 ·unfold upd; split
  ·rename_i w; rw [w,H0p] at z; cases z
  ·exact o1.2.2.1 _ _ z
 ·by_cases w:q=p
  ·rw [w]; exact .inl Fp
  ·unfold un one; simp only [if_neg w]
   rcases o2 q with z | z
   ·exact .inl z
   ·exact .inr (j.r.free z)
 ·unfold un one at z
  unfold upd
  by_cases w:q=p
  ·rw [if_pos w]; simp only [if_pos w] at z; exact z
  ·rw [if_neg w]; simp only [if_neg w] at z; exact o3 _ _ (j.r _ _ z)
 ·unfold un one at z
  by_cases w:q=p
  ·rw [w]; exact H0p
  ·simp only [if_neg w] at z
   cases y:h2 q with
   | none=>exact absurd y z
   | some u=>exact o4 q (by rw [j.r _ _ y]; exact Option.some_ne_none _)
 ·unfold un one at z
  by_cases w:q=p
  ·simp only [if_pos w] at z; cases z
  ·simp only [if_neg w] at z; exact o5 q ys (j.r _ _ z)
theorem zc6_ {i:Nat}{σ:St}{v:V}{Q:VK}(e:σ[i]?=some (some v)) (q:Q v H):mVar i σ H Q:=by unfold mVar; rw [e]; exact q
theorem zhT_ {n:Nat}{r:Mo (Out ρ B S)}{D:Ends}(h:Fin K (Mo.lim n r) E LS LB O F0 H0 D):n≤sizeLine∧Fin K r E LS LB O F0 H0 D:=by
 unfold Mo.lim at h
 split at h
 ·exact ⟨by assumption,h⟩
 ·exact h.elim
theorem zkS_ {x:Option α}{k:α→Mo (Out ρ B S)}{D:Ends}(h:Fin K ((Mo.opt x).bind k) E LS LB O F0 H0 D):∃ a,x=some a∧Fin K (k a) E LS LB O F0 H0 D:=by
 cases x with
 | none=>exact h.elim
 | some a=>exact ⟨a,rfl,h⟩
theorem zeH_ {i:Nat}{xs:List α}{k:α→Mo (Out ρ B S)}(hi:L[i]?=some (.ow (owL T) xs)) (hT:Imm T) (he:EvF K e E L r T) (hk:∀ a,EvS K u E (L.set i (.ow (owL T) (xs++[a]))) (k a) LS LB O) :
  EvS K (tSeq (tDrop (tBM K "list" rAppend (mVar i) (tCons e tNil))) u) E L (r.bind fun a=>.lim (xs.length+1) (k a)) LS LB O:=by
 intro F0 H0 σ F h H D hL ok fin
 obtain ⟨p,vs,e1,hp,hr,_⟩:=zcU_ hL hi ok
 show mVar i σ H fun x H1=>tyV K "list" x H1∧tCons e tNil σ H1 fun xs H2=>rAppend x xs H2 (fun _ H3=>u D σ H3)
 refine zc6_ e1 ⟨.inl ⟨rfl,vs,.of hp⟩,?_⟩
 refine he σ (un F h) H _ (hL.froz ok.2.1) ok.thaw (za2_ (G:=F) ok _ (.inl rfl) fin fun a F' H' hra x v hv=>?_)
 obtain ⟨o,hs,ht⟩:=ok.back x
 rw [hra] at fin
 obtain ⟨hz,fin⟩:=zhT_ (show Fin K (Mo.lim (xs.length+1) (k a)) E LS LB O F0 H0 D from fin)
 obtain ⟨p',vs',e1',hp',hr',mm⟩:=zcU_ (hL.mono hs) hi o
 rw [e1] at e1'; cases e1'
 obtain ⟨h',a1,a2⟩:=mm (xs++[a]) (vs'++[v]) (hr'.append (.cons (hT ht hv) .nil))
 exact ⟨p,vs',v,rfl,rfl,hp',by rw [← hr'.len]; lia,hk a F0 H0 σ _ h' _ D a1 a2 fin⟩
theorem zky_ {i:Nat}{xs:List α}{r:Mo (List α)}{k:List α→Mo (Out ρ B S)}(hi:L[i]?=some (.ow (owL T) xs)) (hT:Imm T) (he:EvF K e E L r (tyL T)) (hk:∀ a,EvS K u E (L.set i (.ow (owL T) (xs++a))) (k a) LS LB O) :
  EvS K (tSeq (tDrop (tBM K "list" rExtend (mVar i) (tCons e tNil))) u) E L (r.bind fun a=>.lim (xs.length+a.length) (k a)) LS LB O:=by
 intro F0 H0 σ F h H D hL ok fin
 obtain ⟨p,vs,e1,hp,hr,_⟩:=zcU_ hL hi ok
 show mVar i σ H fun x H1=>tyV K "list" x H1∧tCons e tNil σ H1 fun xs H2=>rExtend x xs H2 (fun _ H3=>u D σ H3)
 refine zc6_ e1 ⟨.inl ⟨rfl,vs,.of hp⟩,?_⟩
 refine he σ (un F h) H _ (hL.froz ok.2.1) ok.thaw (za2_ (G:=F) ok _ (.inl rfl) fin fun a F' H' hra x v hq_=>?_)
 obtain ⟨p2,us,ev,hp2,hr2⟩:=hq_
 obtain ⟨o,hs,ht⟩:=ok.back x
 rw [hra] at fin
 subst ev
 obtain ⟨hz,fin⟩:=zhT_ (show Fin K (Mo.lim (xs.length+a.length) (k a)) E LS LB O F0 H0 D from fin)
 obtain ⟨p',vs',e1',hp',hr',mm⟩:=zcU_ (hL.mono hs) hi o
 rw [e1] at e1'; cases e1'
 obtain ⟨h',a1,a2⟩:=mm (xs++a) (vs'++us) (hr'.append (hr2.imm hT ht))
 exact ⟨p,p2,vs',us,rfl,rfl,hp',x.2.1 _ _ hp2,by rw [← hr'.len,← hr2.len]; exact hz,hk a F0 H0 σ _ h' _ D a1 a2 fin⟩
theorem zna_ {i:Nat}{xs:List α}{ei:TE}{ri:Mo Int}{k:List α→Mo (Out ρ B S)}(hi:L[i]?=some (.ow (owL T) xs)) (hT:Imm T) (he:EvF K e E L r T) (hei:EvF K ei E L ri tyInt) (hk:∀ a,EvS K u E (L.set i (.ow (owL T) a)) (k a) LS LB O) :
  EvS K (tSeq (tAsg e (gSub (mVar i) ei mSet)) u) E L (r.bind fun a=>ri.bind fun j=>(Mo.opt ((ixN xs.length j).map fun n=>xs.set n a)).bind k) LS LB O:=by
 intro F0 H0 σ F h H D hL ok fin
 refine he σ (un F h) H _ (hL.froz ok.2.1) ok.thaw (za2_ (G:=F) ok _ (.inl rfl) fin fun a F' H' hra x v hv=>?_)
 obtain ⟨o,hs,ht⟩:=ok.back x
 rw [hra] at fin
 have hL':=hL.mono hs
 obtain ⟨p,vs,e1,hp,hr,_⟩:=zcU_ hL' hi o
 refine zc6_ e1 ?_
 have hv':=hT ht hv
 refine hei σ (un _ h) H' _ (hL'.froz o.2.1) o.thaw (za2_ (G:=F) o _ (.inl rfl) fin fun j F2 H2 hrj x2 v2 hv2=>?_)
 cases hv2
 obtain ⟨o',hs',ht'⟩:=o.back x2
 rw [hrj] at fin
 obtain ⟨ys,ey,fin⟩:=zkS_ fin
 obtain ⟨p',vs',e1',hp',hr',mm⟩:=zcU_ (hL'.mono hs') hi o'
 rw [e1] at e1'; cases e1'
 cases ej:ixN xs.length j with
 | none=>rw [ej] at ey; cases ey
 | some n =>
  rw [ej] at ey; cases ey
  obtain ⟨h',a1,a2⟩:=mm (xs.set n a) (vs'.set n v) (hr'.set n (T.mono hs' hv'))
  refine ⟨vs',hp',?_⟩
  rw [← hr'.len,ej]
  exact hk _ F0 H0 σ _ h' _ D a1 a2 fin
def fnO (r:Mo (Out ρ Unit Unit)):Mo ρ:=r.bind fun o=>match o with | .rt a=>.ok a | _=>.no
inductive Args (F:Hp):List V→List Sl→Prop
 | nil:Args F [] []
 | cons {α:Type}{T:Ty α}{a:α}{v:V}{vs ss} (h:T.R a v F) (t:Args F vs ss):Args F (v::vs) (.fz T a::ss)
theorem Args.hold {vs:List V}{ss:List Sl}(a:Args F vs ss) (n:Nat):Hold (ss++List.replicate n .dead) (vs.map some++List.replicate n none) F (fun _=>none):=by
 induction a with
 | nil =>
  induction n with
  | zero=>trivial
  | succ n ih=>exact ⟨fun _=>none,fun _=>none,fun p=>.inl ⟨rfl,rfl⟩,trivial,ih⟩
 | cons hv t ih=>exact ⟨fun _=>none,fun _=>none,fun p=>.inl ⟨rfl,rfl⟩,⟨_,rfl,hv⟩,ih⟩
def CsS (C:Cs γ) (ss:γ→List Sl):Prop:=∀ {c vs F},C.R c vs F→Args F vs (ss c)
theorem zhG_:CsS csNil fun _=>[]:=fun e=>by rw [e]; exact .nil
theorem zj_:CsS (csLast T) fun a=>[.fz T a]:=fun ⟨v,e,h⟩=>by rw [e]; exact .cons h .nil
theorem zM_ {C:Cs γ}{ss:γ→List Sl}(h:CsS C ss):CsS (csCons T C) fun c=>.fz T c.1::ss c.2:=fun ⟨v,us,e,q,z⟩=>by rw [e]; exact .cons q (h z)
theorem zgm_ (hs:Same F H):Okk F H F (fun _=>none) H:=by
 refine ⟨.refl hs,fun p=>.inr rfl,fun p o e=>?_,fun p e=>absurd rfl e,fun p xs e=>?_⟩
 ·cases e
 ·cases e
theorem znc_ {t:XK→TS}{C:Cs γ}{ss:γ→List Sl}{f:γ→Mo (Out ρ Unit Unit)}{N:List Str}(n m:Nat) (hn:CsN C n) (hm:N.length-n=m) (hC:CsS C ss) (h:∀ c E,EvS K (t E) E (ss c++List.replicate m .dead) (f c) (fun _:Unit=>[]) (fun _:Unit=>[]) O) :
  ∀ vs H Q E,Ct K C (fun c=>fnO (f c)) O vs H Q E→t E { nx:=fun _ H'=>Q .non H',rt:=Q } (start N vs) H:=by
 rintro vs H Q E ⟨F,c,hs,hc,q⟩
 have hstart:start N vs=vs.map some++List.replicate m none:=by unfold start; rw [hn hc,hm]
 rw [hstart]
 refine h c E F H _ F (fun _=>none) H _ ((hC hc).hold m) (zgm_ hs) ?_
 have q:After K (fnO (f c)) E F H (OwnK O H Q):=q
 cases e:f c with
 | no=>rw [e] at q; exact q
 | ex cc=>rw [e] at q; exact fun F h H ok=>q F H ok.1
 | ok o =>
  rw [e] at q
  cases o with
  | nx s=>exact q.elim
  | bk s=>exact q.elim
  | ct s=>exact q.elim
  | rt a=>exact fun v F' h' H' ok hv=>q F' H' ok.1 v h' (fun p z=>ok.2.2.2.1 p z) ok.2.1 ok.2.2.1 hv
end
end L2
namespace L2
open PySem PySem.Spec PyProof.Rows
section
variable {K:Fgg}{E:XK}{α β γ ρ S S' B B':Type}{F0 H0 F h H:Hp}{L L':List Sl}{e e1 e2:TE}{T:Ty α}{r:Mo α}{O:Own ρ}{t u:TS}{LS:S→List Sl}{LS':S'→List Sl}{LB:B→List Sl}
def CDivG (i j:Int):Prop:=0<j∧Builtin.divisionGoesByPylong i j=false
instance (i j:Int):Decidable (CDivG i j):=inferInstanceAs (Decidable (_∧_))
instance (i j:Int):Decidable (IntMulOk i j):=inferInstanceAs (Decidable (¬ _))
abbrev mMulG:R2:=mI IntMulOk fun i j=>.int (i*j)
abbrev mDivG:R2:=mI CDivG fun i j=>.int (i / j)
theorem zl5_ {X:Cx}:OpR X (binaryOp .Mult) mMulG:=opM (opI fun _ _ _ _ _ _ _ hc q=>mul_int q hc)
theorem zfx_ {X:Cx}:OpR X (binaryOp .FloorDiv) mDivG:=opM (opI fun i j _ _ _ _ _ hc q=>by
 have h1:(0:Int)<j:=hc.1
 exact floordiv_int (by lia) (by rw [Int.fdiv_eq_ediv_of_nonneg i (by lia)]; exact q) (.inl hc.2))
theorem zdJ_:Op2 K mDivG E tyInt tyInt (fun i j=>.grd (CDivG i j) (.ok (i / j))) tyInt:=op_i fun _ _ _=>rfl
theorem zl1_ {Pq:α→Prop}{a:α}{l:List α}(h:Pq a) (t:∀ q∈l,Pq q):∀ q∈a::l,Pq q:=List.forall_mem_cons.mpr ⟨h,t⟩
theorem zb6_:EvS K t E L (.no:Mo (Out ρ B S)) LS LB O:=fun _ _ _ _ _ _ _ _ _ fin=>fin.elim
theorem zfH_ {r:Mo (Out ρ B S)}(w:Sub L L') (hk:EvS K t E L' r LS LB O):EvS K t E L r LS LB O:=fun F0 H0 σ F h H D hL ok fin=>hk F0 H0 σ F h H D (w.hold hL) ok fin
theorem at_ {r:Mo (Out ρ B S)}(L:List Sl) (hk:EvS K t E L r LS LB O):EvS K t E L r LS LB O:=hk
theorem zgb_ (i:Nat) {xs:List α}(h:L[i]?=some (.ow (owL T) xs)):EvF K (mVar i) E L (.ok xs) (tyL T):=zhq_ i h
theorem zh4_:EvT K tTrue E L (.ok true):=fun σ F H Q hL hs q=>q.ok hs
theorem dead1 {L:List Sl}:DeadAt (.dead::L) [0]:=fun i hi s e=>by
 cases (List.mem_singleton.mp hi); cases e; rfl
theorem zkZ_ {p:Prop} [Decidable p] {r:Mo (Out ρ B S)}{D:Ends}(h:Fin K (Mo.grd p r) E LS LB O F0 H0 D):p∧Fin K r E LS LB O F0 H0 D:=by
 unfold Mo.grd at h
 split at h
 ·exact ⟨by assumption,h⟩
 ·exact h.elim
end
end L2
namespace L2
open PySem PySem.Spec PyProof.Rows
section
variable {α β γ ρ S S' B:Type}
@[simp] theorem Mo.okB (a:α) (f:α→Mo β):(Mo.ok a).bind f=f a:=of_eq_true (eq_self _)
@[simp] theorem Mo.exB (c:String) (f:α→Mo β):(Mo.ex c:Mo α).bind f=.ex c:=of_eq_true (eq_self _)
@[simp] theorem Mo.noB (f:α→Mo β):(Mo.no:Mo α).bind f=.no:=of_eq_true (eq_self _)
@[simp] theorem Mo.noexO (a:α):(Mo.ok a).noex=.ok a:=of_eq_true (eq_self _)
@[simp] theorem Mo.optS (a:α):Mo.opt (some a)=.ok a:=of_eq_true (eq_self _)
@[simp] theorem zkf_ (s:S) (k:S→Mo (Out ρ B S')):thenO (.ok (.nx s)) k=k s:=of_eq_true (eq_self _)
@[simp] theorem zjY_ (a:ρ) (k:S→Mo (Out ρ B S')):thenO (.ok (.rt a)) k=.ok (.rt a):=of_eq_true (eq_self _)
@[simp] theorem zjX_ (b:B) (k:S→Mo (Out ρ B S')):thenO (.ok (.bk b)) k=.ok (.bk b):=of_eq_true (eq_self _)
@[simp] theorem zki_ (b:B) (k:S→Mo (Out ρ B S')):thenO (.ok (.ct b)) k=.ok (.ct b):=of_eq_true (eq_self _)
@[simp] theorem zmX_ (a:ρ):fnO (.ok (.rt a))=.ok a:=of_eq_true (eq_self _)
@[simp] theorem zkv_ (step:S→α→Mo (Out ρ S S)) (s:S):forO (B:=B) step [] s=.ok (.nx s):=of_eq_true (eq_self _)
theorem zip_ (step:S→α→Mo (Out ρ S S)) (x:α) (xs:List α) (s:S):forO (B:=B) step (x::xs) s=(step s x).bind fun o=>match o with | .nx s'=>forO step xs s' | .ct s'=>forO step xs s' | .bk s'=>.ok (.nx s') | .rt a=>.ok (.rt a):=rfl
theorem zjB_ {step:S→α→Mo (Out ρ S S)}{x:α}{xs:List α}{s s':S}(h:step s x=.ok (.nx s')):forO (B:=B) step (x::xs) s=forO step xs s':=by rw [zip_,h]; rfl
theorem zhr_ {step:S→α→Mo (Out ρ S S)}(P:List α→S→Prop):∀ {xs:List α}(done:List α) {s:S},P done s→(∀ d x s,(∃ r,done++xs=d++x::r)→P d s→∃ s',step s x=.ok (.nx s')∧P (d++[x]) s')→∃ s',forO (B:=B) step xs s=.ok (.nx s')∧P (done++xs) s'
 | [],done,s,h0,_=>⟨s,rfl,by rw [List.append_nil]; exact h0⟩
 | x::xs,done,s,h0,h=>by
  obtain ⟨s1,e1,p1⟩:=h done x s ⟨xs,rfl⟩ h0
  obtain ⟨s2,e2,p2⟩:=zhr_ P (xs:=xs) (done++[x]) p1 fun d y s ⟨r,hr⟩ hp=>h d y s ⟨r,by rw [← hr]; simp⟩ hp
  exact ⟨s2,by rw [zjB_ e1,e2],by simpa using p2⟩
theorem zhK_ {step:Unit→α→Mo (Out ρ Unit Unit)}:∀ {xs:List α},(∀ x∈xs,step () x=.ok (.nx ()))→forO (B:=B) step xs ()=.ok (.nx ())
 | [],_=>rfl
 | x::xs,h=>by rw [zjB_ (h x List.mem_cons_self),zhK_ fun y hy=>h y (List.mem_cons_of_mem _ hy)]
open PySem PySem.Spec PyProof.Rows in
theorem zls_ {a j:Int}(h0:0<j) (h:j.natAbs.log2<9000):CDivG a j:=by
 refine ⟨h0,?_⟩
 unfold Builtin.divisionGoesByPylong
 simp only
 rw [Bool.and_eq_false_iff]
 left
 rw [decide_eq_false_iff_not]
 split<;>lia
theorem log2_lt {n k:Nat}(h:n<2 ^ k):n.log2<k∨n=0:=by
 by_cases hz:n=0
 ·exact .inr hz
 ·exact .inl ((Nat.log2_lt hz).mpr h)
theorem zlX_ {a j:Int}(h0:0<j) (h:j<2 ^ 1000):CDivG a j:=by
 refine zls_ h0 ?_
 have h1:j.natAbs<2 ^ 1000:=by
  have:((2:Int) ^ 1000)=((2 ^ 1000:Nat):Int):=by rw [Int.natCast_pow]; rfl
  rw [this] at h
  lia
 rcases log2_lt h1 with h | h
 ·lia
 ·rw [h]; decide
open PySem PySem.Spec PyProof.Rows in
theorem zdH_ {i j:Int}(h : -(2 ^ 64)<i∧i<2 ^ 64 ∨ -(2 ^ 64)<j∧j<2 ^ 64):IntMulOk i j:=CMul.ok h
@[simp] theorem zlh_ {a j:Int}{k:Mo α}(h0:0<j) (h1:j<1073741824):Mo.grd (CDivG a j) k=k:=Mo.grd_ok (zlX_ h0 (by lia))
@[simp] theorem grd_T {k:Mo α} [Decidable True]:Mo.grd True k=k:=Mo.grd_ok trivial
@[simp] theorem zje_ {j:Int}{k:Mo α}(h0:0<j):Mo.grd (0<j) k=k:=Mo.grd_ok h0
open PySem PySem.Spec PyProof.Rows in
@[simp] theorem zkc_ {i j:Int}{k:Mo α}(h0 : -18446744073709551616<i) (h1:i<18446744073709551616):Mo.grd (IntMulOk i j) k=k:=Mo.grd_ok (zdH_ (.inl ⟨by lia,by lia⟩))
open PySem PySem.Spec PyProof.Rows in
theorem zjM_ {i j:Int}{k:Mo α}(h0 : -18446744073709551616<j) (h1:j<18446744073709551616):Mo.grd (IntMulOk i j) k=k:=Mo.grd_ok (zdH_ (.inr ⟨by lia,by lia⟩))
theorem zhu_ (lo:Int) (n:Nat):(rngI lo n).length=n:=by unfold rngI; rw [List.length_map,List.length_range]
theorem zkJ_ {lo x:Int}{n:Nat}:x∈rngI lo n↔lo≤x∧x<lo+n:=by
 unfold rngI
 simp only [List.mem_map,List.mem_range]
 constructor
 ·rintro ⟨a,h,rfl⟩; lia
 ·rintro ⟨h1,h2⟩; exact ⟨(x-lo).toNat,by lia,by lia⟩
theorem zia_ {xs:List α}{k:Int}(h0:0≤k):atI xs k=xs[k.toNat]?:=by
 unfold atI ixN
 rw [if_pos h0]
 split
 ·rfl
 ·rename_i h
  rw [List.getElem?_eq_none (by omega)]; rfl
theorem zcY_ {xs:List α}{k:Int}(h0:0≤k) (h1:k<xs.length):∃ x,atI xs k=some x∧x∈xs:=by
 rw [zia_ h0,List.getElem?_eq_getElem (show k.toNat<xs.length by lia)]
 exact ⟨_,rfl,List.getElem_mem _⟩
theorem zle_ {xs:List α}(k:Int) (h:xs≠[]):∃ x,atI xs (k % (xs.length:Int))=some x∧x∈xs:=by
 have:0<xs.length:=List.length_pos_iff.mpr h
 exact zcY_ (Int.emod_nonneg _ (by lia)) (Int.emod_lt_of_pos _ (by lia))
theorem zkp_ (xs:List α) (lo hi:Option Int):(cutG xs lo hi).length≤xs.length:=by
 unfold cutG; rw [List.length_take,List.length_drop]; lia
end
end L2
namespace L2
open PySem PySem.Spec PyProof.Rows
section
variable {K:Fgg}{E:XK}{α β γ ρ S S' B B':Type}{F0 H0 F h H:Hp}{L L':List Sl}{e e1 e2:TE}{T:Ty α}{r:Mo α}{O:Own ρ}{t u:TS}{LS:S→List Sl}{LS':S'→List Sl}{LB:B→List Sl}
theorem zj1_ {n:Nat}{j:Int}{k:Nat}(h:ixN n j=some k):k<n:=by
 unfold ixN at h
 split at h
 ·split at h
  ·cases h; lia
  ·cases h
 ·split at h
  ·cases h; lia
  ·cases h
def appN (xss:List (List α)) (j:Nat) (a:α):List (List α):=match xss[j]? with | some xs=>xss.set j (xs++[a]) | none=>xss
end
end L2
namespace L2
open PySem PySem.Spec PyProof.Rows
section
variable {K:Fgg}{E:XK}{α β γ ρ S S' B B':Type}{F0 H0 F h H:Hp}{L L':List Sl}{e e1 e2:TE}{T:Ty α}{r:Mo α}{O:Own ρ}{t u:TS}{LS:S→List Sl}{LS':S'→List Sl}{LB:B→List Sl}
@[irreducible] def fuelW:Nat:=100000
end
end L2
namespace L2
open PySem PySem.Spec PyProof.Rows
section
variable {α:Type}
theorem zb9_ {S B ρ:Type}{step:S→α→Mo (Out ρ S S)}{xs:List α}{s:S}{G:Mo (Out ρ B S)→Prop}(P:List α→S→Prop) (h0:P [] s) (hs:∀ d x s,(∃ r,xs=d++x::r)→P d s→∃ s',step s x=.ok (.nx s')∧P (d++[x]) s') (hk:∀ s',P xs s'→G (.ok (.nx s'))):G (forO step xs s):=by
 obtain ⟨s',e,p⟩:=zhr_ (B:=B) P (xs:=xs) [] h0 (fun d x s hr hp=>hs d x s hr hp)
 rw [e]
 exact hk s' p
def insK (k:α→Nat) (x:α) (ys:List α):List α:=ys.filter (fun y=>decide (k y≤k x))++x::ys.filter (fun y=>decide (k x<k y))
def sK (k:α→Nat) (xs:List α):List α:=xs.foldl (fun acc x=>insK k x acc) []
def Srt (k:α→Nat) (ys:List α):Prop:=ys.Pairwise fun a b=>k a≤k b
theorem zel_ (k:α→Nat) (xs:List α) (x:α):sK k (xs++[x])=insK k x (sK k xs):=by unfold sK; rw [List.foldl_append]; rfl
theorem zdA_ {P:List α→Prop}(h0:P []) (hs:∀ xs x,P xs→P (xs++[x])) (xs:List α):P xs:=by
 have:∀ n (xs:List α),xs.length=n→P xs:=by
  intro n
  induction n with
  | zero=>intro xs e; rw [List.length_eq_zero_iff.mp e]; exact h0
  | succ n ih =>
   intro xs e
   have hne:xs≠[]:=fun z=>by rw [z] at e; cases e
   rw [← List.dropLast_concat_getLast hne]
   exact hs _ _ (ih _ (by rw [List.length_dropLast,e]; rfl))
 exact this _ xs rfl
theorem ziN_ {k:α→Nat}{ys:List α}(h:Srt k ys) (m:Nat):ys=ys.filter (fun y=>decide (k y≤m))++ys.filter (fun y=>decide (m<k y)):=by
 induction ys with
 | nil=>rfl
 | cons y ys ih =>
  obtain ⟨h1,h2⟩:=List.pairwise_cons.mp h
  by_cases hy:k y≤m
  ·rw [List.filter_cons_of_pos (by simpa using hy),List.filter_cons_of_neg (by simpa using hy),List.cons_append,← ih h2]
  ·have e:(y::ys).filter (fun y=>decide (k y≤m))=[]:=by
    rw [List.filter_eq_nil_iff]
    intro z hz
    rcases List.mem_cons.mp hz with rfl | hz
    ·simpa using hy
    ·have:=h1 z hz; simp; lia
   have e2:(y::ys).filter (fun y=>decide (m<k y))=y::ys:=by
    rw [List.filter_eq_self]
    intro z hz
    rcases List.mem_cons.mp hz with rfl | hz
    ·simp; lia
    ·have:=h1 z hz; simp; lia
   rw [e,e2,List.nil_append]
theorem zlA_ {k:α→Nat}{ys:List α}(h:Srt k ys) (x:α):Srt k (insK k x ys):=by
 unfold insK Srt
 rw [List.pairwise_append]
 refine ⟨List.Pairwise.filter _ h,?_,?_⟩
 ·rw [List.pairwise_cons]
  refine ⟨fun a ha=>?_,List.Pairwise.filter _ h⟩
  have:=(List.mem_filter.mp ha).2
  simp at this; lia
 ·intro a ha b hb
  have h1:=(List.mem_filter.mp ha).2
  simp at h1
  rcases List.mem_cons.mp hb with rfl | hb
  ·exact h1
  ·have h2:=(List.mem_filter.mp hb).2
   simp at h2; lia
theorem znk_ (k:α→Nat) (xs:List α):Srt k (sK k xs):=by
 induction xs using zdA_ with
 | h0=>exact List.Pairwise.nil
 | hs xs x ih=>rw [zel_]; exact zlA_ ih x
theorem zkg_ {k:α→Nat}{x y:α}{ys:List α}:y∈insK k x ys↔y=x∨y∈ys:=by
 unfold insK
 simp only [List.mem_append,List.mem_cons,List.mem_filter,decide_eq_true_eq]
 constructor
 ·rintro (h | h | h)
  ·exact .inr h.1
  ·exact .inl h
  ·exact .inr h.1
 ·rintro (h | h)
  ·exact .inr (.inl h)
  ·by_cases z:k y≤k x
   ·exact .inl ⟨h,z⟩
   ·exact .inr (.inr ⟨h,by lia⟩)
theorem zmJ_ {k:α→Nat}{y:α}(xs:List α):y∈sK k xs↔y∈xs:=by
 induction xs using zdA_ with
 | h0=>rfl
 | hs xs x ih=>rw [zel_,zkg_,ih,List.mem_append,List.mem_singleton]; exact or_comm
theorem zkd_ (k:α→Nat) (x:α) (ys:List α):(insK k x ys).length=ys.length+1:=by
 unfold insK
 rw [List.length_append,List.length_cons]
 induction ys with
 | nil=>rfl
 | cons y ys ih =>
  by_cases hy:k y≤k x
  ·rw [List.filter_cons_of_pos (by simpa using hy),List.filter_cons_of_neg (by simpa using hy)]; simp only [List.length_cons]; lia
  ·rw [List.filter_cons_of_neg (by simpa using hy),List.filter_cons_of_pos (by simp; lia)]; simp only [List.length_cons]; lia
theorem zmx_ (k:α→Nat) (xs:List α):(sK k xs).length=xs.length:=by
 induction xs using zdA_ with
 | h0=>rfl
 | hs xs x ih=>rw [zel_,zkd_,ih,List.length_append,List.length_singleton]
theorem sK_id {k:α→Nat}{ys:List α}(h:Srt k ys):sK k ys=ys:=by
 induction ys using zdA_ with
 | h0=>rfl
 | hs xs x ih =>
  obtain ⟨h1,_,h3⟩:=List.pairwise_append.mp h
  rw [zel_,ih h1]
  unfold insK
  have e1:xs.filter (fun y=>decide (k y≤k x))=xs:=by
   rw [List.filter_eq_self]; intro y hy; simpa using h3 y hy x (List.mem_singleton.mpr rfl)
  have e2:xs.filter (fun y=>decide (k x<k y))=[]:=by
   rw [List.filter_eq_nil_iff]; intro y hy; have:=h3 y hy x (List.mem_singleton.mpr rfl); simp; lia
  rw [e1,e2]
theorem zlQ_ (xs:List α):sK (fun _=>0) xs=xs:=sK_id (List.pairwise_of_forall fun _ _=>Nat.le_refl _)
def dealR (r:α→Nat) (n:Nat) (ys:List α):List α:=(List.range n).flatMap fun i=>ys.filter fun y=>decide (r y=i)
theorem zgF_ {n i:Nat}(h:i<n):List.range n=List.range i++i::(List.range (n-i-1)).map (fun j=>i+1+j):=by
 have e:n=(i+1)+(n-i-1):=by lia
 conv=>lhs; rw [e,List.range_add,List.range_succ,List.append_assoc]
 simp
theorem zdd_ {β:Type}{f g:α→List β}{l:List α}(h:∀ a∈l,f a=g a):l.flatMap f=l.flatMap g:=by
 induction l with
 | nil=>rfl
 | cons a l ih=>rw [List.flatMap_cons,List.flatMap_cons,h a List.mem_cons_self,ih fun b hb=>h b (List.mem_cons_of_mem _ hb)]
theorem zeR_ {β:Type}(p:β→Bool) (f:α→List β) (l:List α):(l.flatMap f).filter p=l.flatMap fun a=>(f a).filter p:=by
 induction l with
 | nil=>rfl
 | cons a l ih=>rw [List.flatMap_cons,List.flatMap_cons,List.filter_append,ih]
theorem zcX_ {β:Type}{f:α→List β}{l:List α}(h:∀ a∈l,f a=[]):l.flatMap f=[]:=by
 induction l with
 | nil=>rfl
 | cons a l ih=>rw [List.flatMap_cons,h a List.mem_cons_self,ih fun b hb=>h b (List.mem_cons_of_mem _ hb)]; rfl
theorem zjN_ {k r:α→Nat}{M n:Nat}{ys:List α}{x:α}(hs:Srt k ys) (hk:∀ y∈ys,k y<M) (hkx:k x<M) (hr:r x<n) :
  insK (fun a=>r a*M+k a) x (dealR r n ys)=dealR r n (insK k x ys):=by
 have less:∀ a b:Nat,a<b→∀ u v:Nat,u<M→a*M+u<b*M+v:=by
  intro a b hab u v hu
  have:(a+1)*M≤b*M:=Nat.mul_le_mul_right _ hab
  rw [Nat.add_mul,Nat.one_mul] at this
  lia
 generalize hA:ys.filter (fun y=>decide (k y≤k x))=A
 generalize hB:ys.filter (fun y=>decide (k x<k y))=B
 have hys:ys=A++B:=by rw [← hA,← hB]; exact ziN_ hs (k x)
 have hAk:∀ y∈A,k y≤k x∧k y<M:=fun y hy=>by
  rw [← hA] at hy; obtain ⟨h1,h2⟩:=List.mem_filter.mp hy; exact ⟨by simpa using h2,hk y h1⟩
 have hBk:∀ y∈B,k x<k y∧k y<M:=fun y hy=>by
  rw [← hB] at hy; obtain ⟨h1,h2⟩:=List.mem_filter.mp hy; exact ⟨by simpa using h2,hk y h1⟩
 have e1:insK k x ys=A++x::B:=by unfold insK; rw [hA,hB]
 rw [e1]
 unfold insK dealR
 rw [zgF_ hr]
 simp only [List.flatMap_append,List.flatMap_cons,List.filter_append,zeR_,List.filter_filter]
 have lo1:(List.range (r x)).flatMap (fun i=>ys.filter fun a=>(decide (r a*M+k a≤r x*M+k x) && decide (r a=i)))=(List.range (r x)).flatMap fun i=>(A++x::B).filter fun y=>decide (r y=i):=by
  refine zdd_ fun i hi=>?_
  have hi:=List.mem_range.mp hi
  rw [List.filter_append,List.filter_cons_of_neg (by simp; lia),← List.filter_append,← hys]
  refine List.filter_congr fun y hy=>?_
  by_cases z:r y=i
  ·have:=less (r y) (r x) (by lia) (k y) (k x) (hk y hy)
   simp [z]; rw [z] at this; lia
  ·simp [z]
 have lo2:(List.range (r x)).flatMap (fun i=>ys.filter fun a=>(decide (r x*M+k x<r a*M+k a) && decide (r a=i)))=[]:=by
  refine zcX_ fun i hi=>?_
  have hi:=List.mem_range.mp hi
  rw [List.filter_eq_nil_iff]
  intro y hy
  by_cases z:r y=i
  ·have:=less (r y) (r x) (by lia) (k y) (k x) (hk y hy)
   simp [z]; rw [z] at this; lia
  ·simp [z]
 have hi1:((List.range (n-r x-1)).map fun j=>r x+1+j).flatMap (fun i=>ys.filter fun a=>(decide (r a*M+k a≤r x*M+k x) && decide (r a=i)))=[]:=by
  refine zcX_ fun i hi=>?_
  obtain ⟨j,_,rfl⟩:=List.mem_map.mp hi
  rw [List.filter_eq_nil_iff]
  intro y hy
  by_cases z:r y=r x+1+j
  ·have:=less (r x) (r y) (by lia) (k x) (k y) hkx
   simp [z]; rw [z] at this; lia
  ·simp [z]
 have hi2:((List.range (n-r x-1)).map fun j=>r x+1+j).flatMap (fun i=>ys.filter fun a=>(decide (r x*M+k x<r a*M+k a) && decide (r a=i)))=((List.range (n-r x-1)).map fun j=>r x+1+j).flatMap fun i=>(A++x::B).filter fun y=>decide (r y=i):=by
  refine zdd_ fun i hi=>?_
  obtain ⟨j,_,rfl⟩:=List.mem_map.mp hi
  rw [List.filter_append,List.filter_cons_of_neg (by simp; lia),← List.filter_append,← hys]
  refine List.filter_congr fun y hy=>?_
  by_cases z:r y=r x+1+j
  ·have:=less (r x) (r y) (by lia) (k x) (k y) hkx
   simp [z]; rw [z] at this; lia
  ·simp [z]
 have mid1:ys.filter (fun a=>(decide (r a*M+k a≤r x*M+k x) && decide (r a=r x)))=A.filter fun y=>decide (r y=r x):=by
  rw [hys,List.filter_append]
  have:B.filter (fun a=>(decide (r a*M+k a≤r x*M+k x) && decide (r a=r x)))=[]:=by
   rw [List.filter_eq_nil_iff]
   intro y hy
   have:=hBk y hy
   by_cases z:r y=r x
   ·simp [z]; lia
   ·simp [z]
  rw [this,List.append_nil]
  refine List.filter_congr fun y hy=>?_
  have:=hAk y hy
  by_cases z:r y=r x
  ·simp [z]; lia
  ·simp [z]
 have mid2:ys.filter (fun a=>(decide (r x*M+k x<r a*M+k a) && decide (r a=r x)))=B.filter fun y=>decide (r y=r x):=by
  rw [hys,List.filter_append]
  have:A.filter (fun a=>(decide (r x*M+k x<r a*M+k a) && decide (r a=r x)))=[]:=by
   rw [List.filter_eq_nil_iff]
   intro y hy
   have:=hAk y hy
   by_cases z:r y=r x
   ·simp [z]; lia
   ·simp [z]
  rw [this,List.nil_append]
  refine List.filter_congr fun y hy=>?_
  have:=hBk y hy
  by_cases z:r y=r x
  ·simp [z]; lia
  ·simp [z]
 rw [lo1,lo2,hi1,hi2,mid1,mid2]
 have emid:(x::B).filter (fun y=>decide (r y=r x))=x::B.filter (fun y=>decide (r y=r x)):=List.filter_cons_of_pos (by simp)
 simp only [List.filter_append,emid,List.append_nil,List.nil_append,List.append_assoc,List.cons_append]
theorem zlb_ {k r:α→Nat}{M n:Nat}(xs:List α) (hk:∀ y∈xs,k y<M) (hr:∀ y∈xs,r y<n):sK (fun a=>r a*M+k a) xs=dealR r n (sK k xs):=by
 induction xs using zdA_ with
 | h0=>unfold dealR; exact (zcX_ fun _ _=>rfl).symm
 | hs xs x ih =>
  have hx:x∈xs++[x]:=List.mem_append_right _ (List.mem_singleton.mpr rfl)
  rw [zel_,zel_,ih (fun y hy=>hk y (List.mem_append_left _ hy)) (fun y hy=>hr y (List.mem_append_left _ hy))]
  exact zjN_ (znk_ k xs) (fun y hy=>hk y (List.mem_append_left _ ((zmJ_ xs).mp hy))) (hk x hx) (hr x hx)
end
abbrev Crd:=List Nat
def isC (c:Crd):Prop:=c.length=40∧∀ x∈c,x∈SG
def sg (c:Crd) (col:Int):Nat:=c.getD (col-1).toNat 0
def rk1 (x:Nat):Nat:=(SG.findIdx? (· == x)).getD 0 % 37
def rnk (c:Crd) (col:Int):Nat:=rk1 (sg c col)
def colOk (col:Int):Prop:=1≤col∧col≤40
theorem ziM_ (x:Nat):rk1 x<37:=Nat.mod_lt _ (by decide)
theorem zkQ_ {c:Crd}{col:Int}(h:isC c) (hc:colOk col):atI c (col-1)=some (sg c col)∧sg c col∈SG:=by
 obtain ⟨h1,h2⟩:=h
 obtain ⟨a,b⟩:=hc
 obtain ⟨x,e,hx⟩:=zcY_ (xs:=c) (k:=col-1) (by lia) (by lia)
 have:sg c col=x:=by
  rw [zia_ (by lia)] at e
  unfold sg; rw [List.getD_eq_getElem?_getD,e]; rfl
 rw [this]
 exact ⟨e,h2 x hx⟩
theorem zkq_ {x:Nat}(h:x∈SG):findS SG [x]=(rk1 x:Int):=by
 rw [zj6_]
 unfold rk1
 have:∃ i,SG.findIdx? (· == x)=some i∧i<37:=by
  cases e:SG.findIdx? (· == x) with
  | none =>
   rw [List.findIdx?_eq_none_iff] at e
   have:=e x h
   simp at this
  | some i =>
   refine ⟨i,rfl,?_⟩
   rw [List.findIdx?_eq_some_iff_getElem] at e
   obtain ⟨hi,_⟩:=e
   exact hi
 obtain ⟨i,e,hi⟩:=this
 rw [e]
 show (i:Int)=_
 rw [Option.getD_some,Nat.mod_eq_of_lt hi]
def kv:List Int→Crd→Nat
 | [],_=>0
 | c::L,a=>rnk a c*37 ^ L.length+kv L a
theorem kv_lt (L:List Int) (a:Crd):kv L a<37 ^ L.length:=by
 induction L with
 | nil=>exact Nat.zero_lt_one
 | cons c L ih =>
  unfold kv
  rw [List.length_cons,Nat.pow_succ]
  have h:=ziM_ (sg a c)
  have:(rnk a c+1)*37 ^ L.length≤37*37 ^ L.length:=Nat.mul_le_mul_right _ h
  rw [Nat.add_mul,Nat.one_mul] at this
  rw [Nat.mul_comm (37 ^ L.length)]
  lia
def deal (d:List Crd) (c:Int):List Crd:=dealR (fun x=>rnk x c) 37 d
theorem zi7_ (L:List Int) (c:Int) (d:List Crd):deal (sK (kv L) d) c=sK (kv (c::L)) d:=by
 have:=zlb_ (k:=kv L) (r:=fun x=>rnk x c) (M:=37 ^ L.length) (n:=37) d (fun y _=>kv_lt L y) (fun y _=>ziM_ _)
 exact this.symm
theorem zmC_:kv []=fun _=>0:=rfl
theorem zkw_ {n:Nat}(f:Nat→List Crd) (r:Nat) (x:Crd) (h:r<n):appN ((List.range n).map f) r x=(List.range n).map fun i=>if i=r then f i++[x] else f i:=by
 unfold appN
 rw [List.getElem?_map,List.getElem?_range h]
 simp only [Option.map_some]
 refine List.ext_getElem? fun i=>?_
 rw [List.getElem?_set,List.getElem?_map,List.length_map,List.length_range]
 by_cases hi:i<n
 ·rw [List.getElem?_map,List.getElem?_range hi]
  by_cases e:r=i
  ·subst e
   simp [h]
  ·rw [if_neg e]
   simp [show ¬ i=r from fun z=>e z.symm]
 ·rw [List.getElem?_map,List.getElem?_eq_none (by simpa using hi)]
  by_cases e:r=i
  ·lia
  ·rw [if_neg e]; rfl
def pok (d:List Crd) (col:Int):List (List Crd):=(List.range 37).map fun r=>d.filter fun x=>decide (rnk x col=r)
theorem zg5_ (d:List Crd) (col:Int):(pok d col).flatten=deal d col:=by
 unfold pok deal dealR
 rw [List.flatMap_def]
theorem zhQ_ (d:List Crd) (col:Int):(deal d col).length=d.length:=by
 have:=zi7_ [] col d
 rw [zmC_,zlQ_] at this
 rw [this,zmx_]
end L2
namespace L2
open PySem PySem.Spec PyProof.Rows
def pkts (n:Nat) (ps:List (Crd×Nat)):List (List Crd):=(List.range n).map fun i=>(ps.filter fun q=>decide (q.2=i)).map Prod.fst
def logs (ps:List (Crd×Nat)):List Int:=ps.map fun q=>(q.2:Int)
theorem zfU_ (n:Nat) (ps:List (Crd×Nat)):(pkts n ps).length=n:=by unfold pkts; rw [List.length_map,List.length_range]
theorem ziQ_ {n:Nat}(ps:List (Crd×Nat)) (c:Crd) {m:Nat}(h:m<n):pkts n (ps++[(c,m)])=appN (pkts n ps) m c:=by
 unfold pkts
 rw [zkw_ _ m c h]
 refine List.map_congr_left fun r _=>?_
 rw [List.filter_append]
 by_cases e:r=m
 ·rw [if_pos e,List.filter_cons_of_pos (by simpa using e.symm)]; simp
 ·rw [if_neg e,List.filter_cons_of_neg (by simpa using fun z=>e (Eq.symm z))]; simp
theorem zeI_ {n m:Nat}(ps:List (Crd×Nat)) (h:m<n):(pkts n ps)[m]?=some ((ps.filter fun q=>decide (q.2=m)).map Prod.fst):=by
 unfold pkts; rw [List.getElem?_map,List.getElem?_range h]; rfl
theorem zlB_ {d r:List (Crd×Nat)}{c:Crd}{m:Nat}:(((d++(c,m)::r).filter fun q=>decide (q.2=m)).map Prod.fst)[(d.filter fun q=>decide (q.2=m)).length]?=some c:=by
 rw [List.filter_append,List.map_append,List.getElem?_append_right (by rw [List.length_map]; exact Nat.le_refl _),List.length_map,Nat.sub_self,List.filter_cons_of_pos (by simp)]
 rfl
def cnts (n:Nat) (ps:List (Crd×Nat)):List Int:=(List.range n).map fun i=>((ps.filter fun q=>decide (q.2=i)).length:Int)
theorem zes_ (n:Nat) (ps:List (Crd×Nat)):(cnts n ps).length=n:=by unfold cnts; rw [List.length_map,List.length_range]
theorem zfI_ {n m:Nat}(ps:List (Crd×Nat)) (h:m<n):(cnts n ps)[m]?=some ((ps.filter fun q=>decide (q.2=m)).length:Int):=by
 unfold cnts; rw [List.getElem?_map,List.getElem?_range h]; rfl
theorem ziv_ {n:Nat}(ps:List (Crd×Nat)) (c:Crd) {m:Nat}(h:m<n):cnts n (ps++[(c,m)])=(cnts n ps).set m (((ps.filter fun q=>decide (q.2=m)).length:Int)+1):=by
 refine List.ext_getElem? fun i=>?_
 rw [List.getElem?_set,zes_]
 by_cases hi:i<n
 ·rw [zfI_ _ hi,List.filter_append,List.length_append]
  by_cases e:m=i
  ·subst e
   rw [if_pos rfl,if_pos h,List.filter_cons_of_pos (by simp)]; rfl
  ·rw [if_neg e,zfI_ _ hi,List.filter_cons_of_neg (by simpa using e)]; rfl
 ·rw [List.getElem?_eq_none (by rw [zes_]; lia)]
  by_cases e:m=i
  ·lia
  ·rw [if_neg e,List.getElem?_eq_none (by rw [zes_]; lia)]
theorem zkO_ (d:List Crd) (col:Int):pok d col=pkts 37 (d.map fun c=>(c,rnk c col)):=by
 unfold pok pkts
 refine List.map_congr_left fun r _=>?_
 rw [List.filter_map,List.map_map]
 have e:(Prod.fst∘fun c=>(c,rnk c col))=(id:Crd→Crd):=rfl
 rw [e,List.map_id]
 rfl
end L2
namespace L2
open PySem PySem.Spec PyProof.Rows
open PySem.SeqAt
open PySem.AutoSeq1 (wpAny_loadPart')
open PySem.MeetsSeq PySem.MeetsSeq2 PySem.MeetsSeq3
end L2
namespace L2
open PySem PySem.Spec PyProof.Rows
section
variable {K:Fgg}{E:XK}{H:Hp}
end
end L2
namespace L2
open PySem PySem.Spec PyProof.Rows
section
variable {α:Type}
theorem zm0_ {n d:Nat}{i:Int}(h:0≤i):HT.sIx n d (some i)=min i.toNat n:=by
 unfold HT.sIx
 simp only
 split<;>lia
theorem zlz_ {xs:List α}{i:Int}(h:0≤i):cutG xs none (some i)=xs.take i.toNat:=by
 unfold cutG
 rw [zm0_ h,show HT.sIx xs.length 0 none=0 from rfl,List.drop_zero,Nat.sub_zero,← List.take_take,List.take_length]
end
end L2
namespace L2
open PySem PySem.Spec PyProof.Rows
section
variable {K:Fgg}{E:XK}{α β γ ρ S S' B B':Type}{F0 H0 F h H:Hp}{L L':List Sl}{e e1 e2:TE}{T:Ty α}{r:Mo α}{O:Own ρ}{t u:TS}{LS:S→List Sl}{LS':S'→List Sl}{LB:B→List Sl}
theorem zo_ {C:Cs γ}{f:γ→Mo α}{ta:TA}{r:Mo γ}(h:EvA K ta E L r C):EvF K (tCall (Ct K C f (owF T)) [] E0 ta) E L (r.bind fun c=>(f c).noex) T:=(zbB_ h).fr
end
end L2
namespace L2
open PySem PySem.Spec PyProof.Rows
def repL {α:Type}(xs:List α) (n:Int):List α:=(List.replicate n.toNat xs).flatten
def CRep (m:Nat) (n:Int):Prop:=0≤n∧n≤100000∧m≤100000∧m*n.toNat≤100000
instance (m:Nat) (n:Int):Decidable (CRep m n):=inferInstanceAs (Decidable (_∧_))
def mMulX:R2:=fun x y H Q=>match x,y with
 | .int i,.int j=>IntMulOk i j∧Q (.int (i*j)) H
 | .str z,.int n=>CRep z.cps.toList.length n∧Q (tx (repL z.cps.toList n)) H
 | .ref l,.int k=>∃ xs,H l=some (.lst xs)∧CRep xs.length k∧∀ p,H p=none→Q (.ref p) (upd H p (.lst (repL xs k)))
 | _,_=>False
theorem zjC_ (z:Array Nat) (n:Nat):(List.foldl (fun x1 x2=>x1++x2) #[] (List.replicate n z)).toList=(List.replicate n z.toList).flatten:=by
 have:∀ (l:List (Array Nat)) (acc:Array Nat),(l.foldl (fun x1 x2=>x1++x2) acc).toList=acc.toList++(l.map Array.toList).flatten:=by
  intro l
  induction l with
  | nil=>intro acc; simp
  | cons a l ih=>intro acc; rw [List.foldl_cons,ih]; simp
 rw [this]
 simp
theorem zg2_ {X:Cx}:OpR X (binaryOp .Mult) mMulX:=by
 intro pins s σ H x y v u Q I rx ry h
 cases x<;>cases y<;>first
  | exact h.elim
  | exact zl5_ pins s σ H _ _ v u Q I rx ry h
  | (obtain ⟨xs,hl,⟨c1,c2,c3,c4⟩,q⟩:=h
     exact zm1_ pins s σ H _ _ v u Q I rx ry ⟨_,_,xs,rfl,rfl,hl,by lia,by lia,zc8_ c4,q⟩)
  | (rename_i z n
     obtain ⟨⟨c1,c2,c3,c4⟩,q⟩:=h
     obtain ⟨t,rfl⟩:=rx
     obtain ⟨t',rfl⟩:=ry
     have hz:z.length=z.cps.toList.length:=by simp [Str.length]
     refine PySem.P.mul_str (by simp; lia) (fun h1 h2=>?_) (fun h1 h2=>?_) ?_
     ·rw [hz]
      have hn:0<n:=by lia
      have:(z.cps.toList.length:Int)*n≤2 ^ 63-1:=by
       have e:n=(n.toNat:Int):=by lia
       rw [e,← Int.natCast_mul]; lia
      have:=Int.le_ediv_of_mul_le hn this
      lia
     ·unfold Builtin.Str.tooLong
      rw [hz]
      have:=zc8_ c4
      exact decide_eq_false (by lia)
     ·by_cases h1:n<1
      ·rw [if_pos h1]
       have:n=0:=by lia
       subst this
       exact ⟨Nat.zero_le _,tx [],H,I.tok _,⟨_,rfl⟩,q⟩
      ·rw [if_neg h1]
       by_cases h2:(n == 1 || z.length == 0)=true
       ·rw [if_pos h2]
        have e:repL z.cps.toList n=z.cps.toList:=by
         unfold repL
         rw [Bool.or_eq_true] at h2
         rcases h2 with h2 | h2
         ·have:n=1:=by simpa using h2
          subst this; simp
         ·have:z.cps.toList=[]:=List.length_eq_zero_iff.mp (by rw [← hz]; simpa using h2)
          rw [this]; simp
        rw [e] at q
        refine ⟨tx z.cps.toList,H,I,⟨t,?_⟩,q⟩
        show Value.str z t=Value.str ⟨z.cps.toList.toArray⟩ t
        rw [← zbS_]
       ·rw [if_neg h2]
        refine ⟨?_,tx (repL z.cps.toList n),H,I.tok _,⟨s.toks,?_⟩,q⟩
        ·have e:(⟨List.foldl (fun x1 x2=>x1++x2) #[] (List.replicate n.toNat z.cps)⟩:Str).length=(List.replicate n.toNat z.cps.toList).flatten.length:=by
          rw [← zjC_]; simp [Str.length]
         rw [e,zjl_]
         exact zc8_ (by rw [Nat.mul_comm]; exact c4)
        show Value.str _ _=Value.str _ _
        congr 1
        unfold repL
        rw [← zjC_])
section
variable {K:Fgg}{E:XK}{α β γ ρ S S' B B':Type}{F0 H0 F h H:Hp}{L L':List Sl}{e e1 e2:TE}{T:Ty α}{r:Mo α}{O:Own ρ}{t u:TS}{LS:S→List Sl}{LB:B→List Sl}
theorem zfW_:Op2 K mMulX E tyInt tyInt (fun i j=>.grd (IntMulOk i j) (.ok (i*j))) tyInt:=by
 rintro a b x y F H Q hs rfl rfl k
 obtain ⟨c,k⟩:=k.grd
 exact ⟨c,k.ok hs _ rfl⟩
end
end L2
namespace L2
open PySem PySem.Spec PyProof.Rows
structure KyT (κ:Type) where
 T:Ty κ
 key:κ→Key
 inj:∀ {a b},key a=key b→a=b
 of:∀ {a v H},T.R a v H→keyV v=some (key a)
abbrev kStr:KyT (List Nat):=⟨tyStr,fun l=>Sum.inr ⟨l.toArray⟩,fun h=>by
 injection h with h; injection h with h; simpa using congrArg Array.toList h,fun h=>by cases h; rfl⟩
section
variable {K:Fgg}{E:XK}{α β γ ρ κ S S' B B':Type}{F0 H0 F h H:Hp}{L L':List Sl}{e e1 e2:TE}{T:Ty α}{r:Mo α}{O:Own ρ}{t u:TS}{LS:S→List Sl}{LB:B→List Sl}{KY:KyT κ}
abbrev DPr (KY:KyT κ) (T:Ty α) (H:Hp) (m:List (κ×α)) (kvs:List (Key×V)):Prop:=Paired (fun (q:κ×α) (w:Key×V)=>w.1=KY.key q.1∧T.R q.2 w.2 H) m kvs
theorem DPr.mono {m:List (κ×α)}{kvs:List (Key×V)}{H H':Hp}(g:Same H H') (h:DPr KY T H m kvs):DPr KY T H' m kvs:=zcC_ (fun _ _ r=>⟨r.1,T.mono g r.2⟩) h
abbrev tyD (KY:KyT κ) (T:Ty α):Ty (List (κ×α)):=⟨fun m v H=>∃ p kvs,v=.ref p∧H p=some (.dK kvs)∧DPr KY T H m kvs,fun g ⟨p,kvs,e,h,q⟩=>⟨p,kvs,e,g _ _ h,q.mono g⟩⟩
abbrev owD (KY:KyT κ) (T:Ty α):Own (List (κ×α)):=⟨fun m v F h=>∃ p kvs,v=.ref p∧h=one p (.dK kvs)∧DPr KY T F m kvs,tyD KY T,fun g ⟨p,vs,e,z,q⟩=>⟨p,vs,e,z,q.mono g⟩,
 fun d ⟨p,vs,e,z,q⟩=>⟨p,vs,e,zfy_ d _ _ (by rw [z]; exact zX_),q.mono zR_⟩,
 fun ⟨p,vs,e,z,q⟩ b xs y=>by rw [z] at y; unfold one at y; split at y<;>cases y⟩
variable [DecidableEq κ]
def putA (m:List (κ×α)) (k:κ) (v:α):List (κ×α):=if (m.any fun q=>decide (q.1=k))=true then m.map (fun q=>if q.1=k then (q.1,v) else q) else m++[(k,v)]
theorem zlI_ (a b:κ):decide (KY.key a=KY.key b)=decide (a=b):=by rw [decide_eq_decide]; exact ⟨KY.inj,fun h=>by rw [h]⟩
theorem zlk_ {m:List (κ×α)}{kvs:List (Key×V)}(h:DPr KY T H m kvs) (k:κ):(kvs.any fun w=>decide (w.1=KY.key k))=m.any fun q=>decide (q.1=k):=by
 induction h with
 | nil=>rfl
 | cons r t ih=>rw [List.any_cons,List.any_cons,ih,r.1,zlI_]
theorem zlD_ {m m':List (κ×α)}{kvs kvs':List (Key×V)}(h:DPr KY T H m kvs) (h':DPr KY T H m' kvs'):DPr KY T H (m++m') (kvs++kvs'):=by
 induction h with
 | nil=>exact h'
 | cons r t ih=>exact .cons r ih
theorem zlr_ {m:List (κ×α)}{kvs:List (Key×V)}(h:DPr KY T H m kvs) (k:κ) {a:α}{v:V}(hv:T.R a v H):DPr KY T H (m.map fun q=>if q.1=k then (q.1,a) else q) (kvs.map fun w=>if w.1=KY.key k then (w.1,v) else w):=by
 induction h with
 | nil=>exact .nil
 | cons r t ih =>
  rename_i q w m kvs
  rw [List.map_cons,List.map_cons]
  refine .cons ?_ ih
  by_cases e:q.1=k
  ·rw [if_pos e,if_pos (by rw [r.1,e])]; exact ⟨r.1,hv⟩
  ·rw [if_neg e,if_neg (fun z=>e (KY.inj (by rw [← r.1,z])))]; exact r
theorem zl6_ {m:List (κ×α)}{kvs:List (Key×V)}(h:DPr KY T H m kvs) (k:κ) {a:α}{v:V}(hv:T.R a v H):DPr KY T H (putA m k a) (putK kvs (KY.key k) v):=by
 unfold putA putK
 rw [zlk_ h]
 split
 ·exact zlr_ h k hv
 ·exact zlD_ h (.cons ⟨rfl,hv⟩ .nil)
theorem zkU_ (KY:KyT κ) (T:Ty α):EvO K tDNewK E L (.ok []) (owD KY T):=by
 intro σ F H Q hL hs q p hp
 have q':OwnK (owD KY T) H Q [] F (upd H p (.dK [])):=q F _ (.heap hs (zct_ hp _))
 refine q' (.ref p) (one p (.dK [])) (fun b z=>?_) (fun b=>?_) (fun b o z=>?_) ⟨p,[],rfl,rfl,.nil⟩
 ·unfold one at z; split at z
  ·rename_i e; rw [e]; exact hp
  ·exact absurd rfl z
 ·unfold one; split
  ·rename_i e; rw [e]; exact .inl (hs.free hp)
  ·exact .inr rfl
 ·unfold one at z; split at z
  ·rename_i e; rw [e]; cases z; exact zP_
  ·cases z
end
end L2
namespace L2
open PySem PySem.Spec PyProof.Rows
section
variable {α κ:Type} [DecidableEq κ]
end
section
variable {α:Type}
end
end L2
namespace L2
open PySem PySem.Spec PyProof.Rows
section
variable {K:Fgg}{E:XK}
end
end L2
namespace Att
open PySem PySem.W PySem.Calls PyProof.Rows
theorem zj3_ {ns:List Int}(h:WData.layableAll [WData.list (ns.map WData.int)]=true):∀ x∈ns,Builtin.Int.intBits x≤1048576:=by
 intro x hx
 have h1:=layableW_arg h _ (List.mem_singleton.mpr rfl)
 have h2:=layableW_item h1 (.int x) (List.mem_map.mpr ⟨x,hx,rfl⟩)
 exact PyData.bits_of_layable (layable_int h2)
theorem attach_callB {l:OpenLaw}{n:Nat}{q:Program}{loose:List Str}{XP:(Str→Option Value)→Heap→Prop}{YP:World→Heap→Prop}{d:DefRec}
  (hn:l.most=some n) (hdf:d.params.defaults=[])
  (call:∀ (w:World) (s₀ s₁:Shared) (mg mb:Str→Option Value) (fa:Addr) (o:Obj) (pm cd doc:Value) (a:Addr) (vs:List Value) (ns:List Int),
   (∀ x∈ns,Builtin.Int.intBits x≤1048576) →
   Ground q loose [] XP w s₀ mg mb s₁.heap→YP w s₁.heap →
   s₁.heap.get? fa=some o→o.data=.func (docDef d.name d.params d.body d.scope pm cd doc)→s₁.heap.CodeRec cd d.name→mg d.name=some (.ref fa) →
   s₁.heap.get? a=some { cls:=.type "list",data:=.seq vs.toArray }→IntsAre vs ns→ns.length≤n→s₁.gens=#[] →
   codeAny (model l.prog w) callerA (.call (.ref fa) ⟨[.ref a],[]⟩) (fun r s'=>r=.ok (.ret (.bool true))∧OldK s₁.heap s'.heap∧s'.os=s₁.os∧AllBare s'.gens) s₁) :
  WalkO q loose XP YP l.row.toRowW d [] (fun f vs=>PySem.call f vs):=by
 intro w s₀ s₁ mg mb G Y fa o pm cd doc dV kV ho hd hcd hD hmg hg args vals as hpre hlay hrd hwl hlo
 obtain rfl:dV=.none:=Dflts.none hD hdf
 obtain rfl:kV=.none:=Dflts.noKw hD
 obtain ⟨a,vs,ns,rfl,rfl,hobj,hints,hlen⟩:=ziJ_ hn hpre hwl
 refine enter_call (codeAny_mono (call w s₀ s₁ mg mb fa o pm cd doc a vs ns (zj3_ hlay) G Y ho (fd_plain hd) hcd hmg hobj hints hlen hg) fun r s' hq=>?_)
 obtain ⟨rfl,h2,h3,h4⟩:=hq
 exact ⟨.inl ⟨.bool true,.bool true,[],rfl,fun _=>rfl,.bool true,ziS_ l _,fun _=>⟨List.Pairwise.nil,fun _ hm=>(nomatch hm)⟩⟩,h2,h3,h4⟩
end Att
namespace L2
open PySem PySem.Spec PyProof.Rows
theorem zka_ {l:PySem.W.OpenLaw}{n k:Nat}{q:Program}{loose:List Str}{XP:(Str→Option Value)→Heap→Prop}{YP:World→Heap→Prop}{d:DefRec}{K:Params→Fgg}{CX:World→CXT}{sp:World→Sp}{x:Str}
  (hn:l.most=some n) (hn2:n≤sizeLine) (hdf:d.params.defaults=[]) (hr:Room k callerA)
  (hY:∀ (w:World) (h:Heap),YP w h→(K w.params).In h)
  (F:∀ (w:World) (mg:Str→Option Value) (fa:Addr) (h:Heap),(K w.params).In h→h.Ns mainGlobals mg→mg d.name=some (.ref fa) →
   ∃ fd:FuncData,(∀ (s:Shared) (u:Value),BindsTo s fd ⟨[u],[]⟩ [(x,u)]) ∧
    ∀ base:Heap,(K w.params).In base→base.Ns mainGlobals mg→FnOk l.prog w (K w.params) mg base (CX w) k fa fd [x] (sp w))
  (hsp:∀ (w:World) (H:Hp) (a:Addr) (ns:List Int),ns.length≤n→(∀ x∈ns,Builtin.Int.intBits x≤1048576)→Only H→SqL (K w.params) H a (ns.map V.int)→sp w [.ref a] H (fun v _=>v=.bl true) fun _ _ _=>False)
  (hCX:∀ (w:World) (H:Hp) (s:Shared) (e:Value) (s':Shared),CX w [] H s (fun _ _ _=>False) e s'→False) :
  PySem.W.WalkO q loose XP YP l.row.toRowW d [] (fun f vs=>PySem.call f vs):=by
 refine Att.attach_callB hn hdf fun w s₀ s₁ mg mb fa o pm cd doc a vs ns hbits G Y ho hd hcd hmg hobj hints hlen hg=>?_
 have KX:=hY w _ Y
 obtain ⟨fd,hb,hF⟩:=F w mg fa _ KX G.T.g hmg
 exact zkx_ KX G.T.g G.T.b G.T.builtins G.T.nolimit hg hobj hints (Nat.le_trans hlen hn2) hr hF hb (fun H hO hS=>hsp w H a ns hlen hbits hO hS) fun H e s'=>hCX w H s₁ e s'
abbrev BitsOk (ns:List Int):Prop:=∀ x∈ns,Builtin.Int.intBits x≤1048576
end L2
namespace L2
open PySem PySem.Spec PyProof.Rows PySem.W
section
variable {α β:Type}
variable {lt:Nat→Nat→Bool}{n:Nat}
end
section
variable {prog:Program}{w:World}{A:Around}{E:Value→Shared→Prop}{s:Shared}{vs:List Value}{lt:Nat→Nat→Bool}
end
end L2
namespace L2
open PySem PySem.Spec PyProof.Rows PySem.W
def knd:V→Nat | .int _=>1 | .str _=>2 | _=>0
section
variable {prog:Program}{w:World}{A:Around}{E:Value→Shared→Prop}{s:Shared}{Q:Bool→Shared→Prop}
end
section
variable {X:Cx}
end
end L2
namespace L2
open PySem PySem.Spec PyProof.Rows PySem.W
section
variable {α β:Type}
end
end L2
namespace L2
open PySem PySem.Spec PyProof.Rows PySem.W
section
variable {α β γ:Type}{K:Fgg}{E:XK}
end
end L2
universe u
namespace L2
open PySem PySem.Spec PyProof.Rows
section
variable {α γ:Type}{K:Fgg}{E:XK}{L:List Sl}{T:Ty α}{e:TE}
abbrev tyH {γ:Type}(C:Cs γ):Ty γ:=⟨fun c v H=>∃ p us,v=.ref p∧H p=some (.lst us)∧C.R c us H,fun g ⟨p,us,e,h,q⟩=>⟨p,us,e,g _ _ h,C.mono g q⟩⟩
end
section
variable {α:Type}{K:Fgg}{E:XK}{L:List Sl}{T:Ty α}{F h H F0 H0:Hp}{ρ B S:Type}{LS:S→List Sl}{LB:B→List Sl}{O:Own ρ}
end
end L2
namespace L2
open PySem PySem.Spec PyProof.Rows PySem.W
section
variable {prog:Program}{w:World}{A:Around}{E:Value→Shared→Prop}{s:Shared}{T:String}{rr dd:Addr}{n:Nat}{PP:Nat→Value→Prop}{OK:Heap→Prop}
end
section
variable {prog:Program}{w:World}{A:Around}{E:Value→Shared→Prop}{s:Shared}{lt:Nat→Nat→Bool}
end
section
variable {X:Cx}
end
section
variable {α β γ κ:Type}{K:Fgg}{E:XK}
end
end L2
namespace L2
open PySem PySem.Spec PyProof.Rows PySem.W
section
variable {prog:Program}{w:World}{A:Around}{E:Value→Shared→Prop}{s:Shared}{z ti to i j:Addr}{f g:List Addr}{n1 n2 k:Nat}{P1 P2:Nat→Value→Prop}{S1 S2:Nat→Heap→Prop}{a b:Value}
end
end L2
namespace L2
open PySem PySem.Spec PyProof.Rows PySem.W
section
variable {prog:Program}{w:World}{A:Around}{E:Value→Shared→Prop}{s:Shared}
end
section
variable {X:Cx}{elts:List Expr}{kk:Nat}{tpos:Pos}
end
section
variable {K:Fgg}{E:XK}{α β:Type}{L:List Sl}{T:Ty α}
end
end L2
namespace L2
open PySem PySem.Spec PyProof.Rows
section
variable {K:Fgg}{E:XK}{α β γ ρ S B:Type}{F0 H0 F h H:Hp}{L:List Sl}{e:TE}{T:Ty α}{r:Mo α}{O:Own ρ}{u:TS}{LS:S→List Sl}{LB:B→List Sl}
theorem Hold.atM:∀ {L:List Sl}{σ:St}{F h:Hp}(i:Nat) {s:Sl},Hold L σ F h→L[i]?=some s →
  ∃ o h1 h2,σ[i]?=some o∧Jn h1 h2 h∧s.P o F h1∧∀ F' s' o' h1' h',Same F F'→Jn h1' h2 h'→s'.P o' F' h1'→Hold (L.set i s') (σ.set i o') F' h'
 | [],_,_,_,_,_,_,e=>by cases e
 | s::L,[],_,_,_,_,q,_=>q.elim
 | s::L,o::σ,F,h,0,t,⟨h1,h2,j,p,r⟩,e=>by
  cases e
  exact ⟨o,h1,h2,rfl,j,p,fun F' s' o' h1' h' g j' p'=>⟨h1',h2,j',p',r.mono g⟩⟩
 | s::L,o::σ,F,h,i+1,t,⟨h1,h2,j,p,r⟩,e=>by
  obtain ⟨o1,k1,k2,e1,j1,p1,f⟩:=Hold.atM i r (by simpa using e)
  have d1:Dj h1 k1:=fun p=>by
   rcases j.dj p with a | a
   ·exact .inl a
   ·exact .inr (j1.l.free a)
  have d2:Dj h1 k2:=fun p=>by
   rcases j.dj p with a | a
   ·exact .inl a
   ·exact .inr (j1.r.free a)
  refine ⟨o1,k1,un h1 k2,by simpa using e1,fun p=>?_,p1,fun F' s' o' k1' h' g j' p'=>?_⟩
  ·rcases j p with ⟨a,b⟩ | ⟨a,b⟩
   ·rcases j1 p with ⟨c,d⟩ | ⟨c,d⟩
    ·refine .inl ⟨c,?_⟩; unfold un; rw [a,b,d]
    ·refine .inr ⟨?_,by rw [b,d]⟩; unfold un; rw [a,c]
   ·refine .inl ⟨j1.l.free a,?_⟩
    have:k2 p=none:=j1.r.free a
    unfold un; rw [b]
    cases h1 p with
    | none=>rw [this]
    | some u=>rfl
  ·have dd:Dj k1' k2:=fun p=>by
    rcases j' p with ⟨a,b⟩ | ⟨a,b⟩
    ·exact .inl a
    ·right; unfold un at a
     cases z:h1 p with
     | none=>rw [z] at a; exact a
     | some u=>rw [z] at a; cases a
   refine ⟨h1,un k1' k2,fun p=>?_,p.mono g,f F' s' o' k1' _ g (zcw_ dd) p'⟩
   rcases j' p with ⟨a,b⟩ | ⟨a,b⟩
   ·unfold un at b ⊢
    cases z:h1 p with
    | none=>rw [z] at b; exact .inl ⟨rfl,by rw [b,a]⟩
    | some u =>
     rw [z] at b
     refine .inr ⟨?_,b⟩
     rw [a]
     rcases d2 p with y | y
     ·rw [y] at z; cases z
     ·exact y
   ·unfold un at a
    cases z:h1 p with
    | some u=>rw [z] at a; cases a
    | none =>
     rw [z] at a
     refine .inl ⟨rfl,?_⟩
     unfold un; rw [b]
     cases k1' p with
     | none=>exact a.symm
     | some u=>rfl
structure PutC (F2 H2 h H0 k k' F3 H3:Hp):Prop where
 ff:Same F2 F3
 fh:Same F3 H3
 ol:Same (less H2 k) H3
 nw:∀ q,F2 q=none→F3 q≠none→H2 q=none∨k q≠none
 kh:Same k' H3
 dj:Dj F3 k'
 fr:∀ q,k q=none→k' q≠none→h q=none∧H0 q=none
theorem zfZ_ {O1:Own α}{i:Nat}{σ:St}{x:α}(hL:Hold L σ F h) (hi:L[i]?=some (.ow O1 x)) (ok:Okk F0 H0 F h H) :
  ∃ v k,σ[i]?=some (some v)∧O1.O x v F k∧Same k H∧Same k h∧Dj F k∧∀ {β:Type}(O2:Own β) (x':β) (v':V) (k' F3 H3:Hp),PutC F H h H0 k k' F3 H3→O2.O x' v' F3 k' →
   ∃ h',Hold (L.set i (.ow O2 x')) (σ.set i (some v')) F3 h'∧Okk F0 H0 F3 h' H3:=by
 obtain ⟨o,k,hr,e1,j,⟨v,e2,ho⟩,f⟩:=hL.atM i hi
 subst e2
 obtain ⟨o1,o2,o3,o4,o5⟩:=ok
 have kh:Same k h:=j.l
 have rh:Same hr h:=j.r
 have kne:∀ q,k q≠none→h q≠none:=fun q z w=>z (kh.free w)
 refine ⟨v,k,e1,ho,kh.trans o3,kh,fun q=>?_,?_⟩
 ·rcases o2 q with z | z
  ·exact .inl z
  ·exact .inr (kh.free z)
 intro β O2 x' v' k' F3 H3 P hv'
 have rk:∀ {q o},hr q=some o→k q=none:=fun {q o} z=>by
  rcases j.dj q with y | y
  ·exact y
  ·rw [y] at z; cases z
 have dj:Dj k' hr:=fun q=>by
  by_cases w:k' q=none
  ·exact .inl w
  ·right
   by_cases w2:k q=none
   ·exact rh.free (P.fr q w2 w).1
   ·rcases j.dj q with y | y
    ·exact absurd y w2
    ·exact y
 have rH:∀ {q o},hr q=some o→H3 q=some o:=fun {q o} z=>P.ol q o (by rw [zx_ (rk z)]; exact o3 _ _ (rh _ _ z))
 refine ⟨un k' hr,f F3 (.ow O2 x') (some v') k' _ P.ff (zcw_ dj) ⟨_,rfl,hv'⟩,⟨o1.1.trans P.ff,P.fh,fun q o z=>?_,fun q a b=>?_⟩,fun q=>?_,fun q o z=>?_,fun q z=>?_,fun q xs z=>?_⟩
 ·have hq:h q=none:=by
   cases w:h q with
   | none=>rfl
   | some s=>have:=o4 q (by rw [w]; exact Option.some_ne_none _); rw [this] at z; cases z
  exact P.ol q o (by rw [zx_ (kh.free hq)]; exact o1.2.2.1 _ _ z)
 ·by_cases w:F q=none
  ·rcases P.nw q w b with y | y
   ·exact o1.2.2.1.free y
   ·exact o4 q (kne q y)
  ·exact o1.2.2.2 q a w
 ·unfold un
  cases w:k' q with
  | some s =>
   left
   rcases P.dj q with y | y
   ·exact y
   ·rw [y] at w; cases w
  | none =>
   cases y:hr q with
   | none=>exact .inr rfl
   | some s =>
    left
    have hq:h q=some s:=rh _ _ y
    have Fq:F q=none:=by
     rcases o2 q with d | d
     ·exact d
     ·rw [d] at hq; cases hq
    by_cases w3:F3 q=none
    ·exact w3
    ·rcases P.nw q Fq w3 with d | d
     ·rw [o3 _ _ hq] at d; cases d
     ·exact absurd (rk y) d
 ·unfold un at z
  cases w:k' q with
  | some s=>rw [w] at z; rw [P.kh q s w]; exact z
  | none=>rw [w] at z; exact rH z
 ·unfold un at z
  cases w:k' q with
  | some s =>
   by_cases y:k q=none
   ·exact (P.fr q y (by rw [w]; exact Option.some_ne_none _)).2
   ·exact o4 q (kne q y)
  | none =>
   rw [w] at z
   exact o4 q fun y=>z (rh.free y)
 ·unfold un at z
  cases w:k' q with
  | some s=>rw [w] at z; refine O2.notup hv' q xs ?_; rw [w]; exact z
  | none=>rw [w] at z; exact o5 q xs (rh _ _ z)
theorem PutC.same {k k':Hp}{H3:Hp}(ok:Okk F0 H0 F h H) (kh:Same k h) (a:Same k' H3) (b:∀ q,k q=none→k' q=none→H3 q=H q) (c:∀ q,k q=none→k' q≠none→F q=none∧h q=none∧H0 q=none∧H q=k' q):PutC F H h H0 k k' F H3:=by
 have dj:Dj F k':=fun q=>by
  by_cases w:k' q=none
  ·exact .inr w
  ·left
   by_cases y:k q=none
   ·exact (c q y w).1
   ·rcases ok.2.1 q with d | d
    ·exact d
    ·exact absurd (kh.free d) y
 have ol:∀ q o,k q=none→H q=some o→H3 q=some o:=fun q o y z=>by
  by_cases w:k' q=none
  ·rw [b q y w]; exact z
  ·obtain ⟨_,_,_,e⟩:=c q y w
   rw [z] at e
   exact a _ _ e.symm
 refine ⟨Same.refl _,fun q o z=>?_,fun q o z=>?_,fun q y z=>absurd y z,a,dj,fun q y z=>⟨(c q y z).2.1,(c q y z).2.2.1⟩⟩
 ·have y:k q=none:=by
   rcases ok.2.1 q with d | d
   ·rw [d] at z; cases z
   ·exact kh.free d
  exact ol q o y (ok.1.2.1 _ _ z)
 ·unfold less at z
  split at z
  ·rename_i y; exact ol q o y z
  ·cases z
theorem PutC.one {p:Addr}{o o':HO}(ok:Okk F0 H0 F h H) (kh:Same (one p o) h):PutC F H h H0 (one p o) (one p o') F (upd H p o'):=by
 have ne:∀ q,L2.one p o q=none→q≠p:=fun q z w=>by rw [w,zX_] at z; cases z
 refine PutC.same ok kh (fun q s z=>?_) (fun q z1 z2=>zN_ (ne q z1)) fun q z1 z2=>?_
 ·unfold L2.one at z
  split at z
  ·rename_i w; unfold upd; rw [if_pos w]; exact z
  ·cases z
 ·unfold L2.one at z2
  rw [if_neg (ne q z1)] at z2
  exact absurd rfl z2
end
section
variable {K:Fgg}{E:XK}{α β γ ρ S B:Type}{F0 H0 F h H:Hp}{L:List Sl}{e:TE}{T:Ty α}{r:Mo α}{O:Own ρ}{u:TS}{LS:S→List Sl}{LB:B→List Sl}{p:Addr}{vs:List V}
end
end L2
namespace L2
open PySem PySem.Spec PyProof.Rows
section
variable {α β γ:Type}
def OwAll (O:Own α) (F:Hp):List α→List V→Hp→Prop
 | [],[],h=>∀ p,h p=none
 | x::xs,v::vs,h=>∃ h1 h2,Jn h1 h2 h∧O.O x v F h1∧OwAll O F xs vs h2
 | _,_,_=>False
variable {O:Own α}
theorem OwAll.mono:∀ {xs:List α}{vs:List V}{F F' h:Hp},Same F F'→OwAll O F xs vs h→OwAll O F' xs vs h
 | [],[],_,_,_,_,q=>q
 | x::xs,v::vs,F,F',h,g,⟨h1,h2,j,o,r⟩=>⟨h1,h2,j,O.mono g o,r.mono g⟩
 | [],_::_,_,_,_,_,q=>q.elim
 | _::_,[],_,_,_,_,q=>q.elim
theorem OwAll.imm (i:ImmO O):∀ {xs:List α}{vs:List V}{F F' h:Hp},Tups F F'→OwAll O F xs vs h→OwAll O F' xs vs h
 | [],[],_,_,_,_,q=>q
 | x::xs,v::vs,F,F',h,g,⟨h1,h2,j,o,r⟩=>⟨h1,h2,j,i g o,r.imm i g⟩
 | [],_::_,_,_,_,_,q=>q.elim
 | _::_,[],_,_,_,_,q=>q.elim
theorem OwAll.notup:∀ {xs:List α}{vs:List V}{F h:Hp},OwAll O F xs vs h→∀ p ys,h p≠some (.tup ys)
 | [],[],_,_,q,p,ys=>by rw [q p]; exact fun z=>by cases z
 | x::xs,v::vs,F,h,⟨h1,h2,j,o,r⟩,p,ys=>by
  rcases j p with ⟨_,b⟩ | ⟨_,b⟩
  ·rw [b]; exact r.notup p ys
  ·rw [b]; exact O.notup o p ys
 | [],_::_,_,_,q,_,_=>q.elim
 | _::_,[],_,_,q,_,_=>q.elim
theorem OwAll.len:∀ {xs:List α}{vs:List V}{F h:Hp},OwAll O F xs vs h→xs.length=vs.length
 | [],[],_,_,_=>rfl
 | x::xs,v::vs,F,h,⟨h1,h2,j,o,r⟩=>by rw [List.length_cons,List.length_cons,r.len]
 | [],_::_,_,_,q=>q.elim
 | _::_,[],_,_,q=>q.elim
theorem zcg_ {F h1 h:Hp}(d:Dj F h) (s:Same h1 h):Same (un F h1) (un F h):=fun p o e=>by
 unfold un at e ⊢
 cases z:F p with
 | some w=>rw [z] at e; exact e
 | none=>rw [z] at e; exact s _ _ e
theorem OwAll.prs:∀ {xs:List α}{vs:List V}{F h G:Hp},Dj F h→Same (un F h) G→OwAll O F xs vs h→Prs O.fr G xs vs
 | [],[],_,_,_,_,_,_=>.nil
 | x::xs,v::vs,F,h,G,d,g,⟨h1,h2,j,o,r⟩=>by
  have d1:Dj F h1:=fun p=>by
   rcases d p with z | z
   ·exact .inl z
   ·exact .inr (j.l.free z)
  have d2:Dj F h2:=fun p=>by
   rcases d p with z | z
   ·exact .inl z
   ·exact .inr (j.r.free z)
  exact .cons (O.fr.mono ((zcg_ d j.l).trans g) (O.frz d1 o)) (r.prs d2 ((zcg_ d j.r).trans g))
 | [],_::_,_,_,_,_,_,q=>q.elim
 | _::_,[],_,_,_,_,_,q=>q.elim
theorem zgZ_ {h1 h2 h:Hp}(j:Jn h1 h2 h):Jn h2 h1 h:=fun p=>by
 rcases j p with ⟨a,b⟩ | ⟨a,b⟩
 ·exact .inr ⟨a,b⟩
 ·exact .inl ⟨a,b⟩
theorem zdP_ {h1 h2 h12 h3 h:Hp}(j:Jn h1 h2 h12) (k:Jn h12 h3 h):∃ h23,Jn h2 h3 h23∧Jn h1 h23 h:=by
 have d:Dj h2 h3:=fun p=>by
  rcases k.dj p with z | z
  ·exact .inl (j.r.free z)
  ·exact .inr z
 refine ⟨un h2 h3,zcw_ d,fun p=>?_⟩
 unfold un
 rcases k p with ⟨a,b⟩ | ⟨a,b⟩
 ·refine .inl ⟨j.l.free a,?_⟩
  rw [j.r.free a]; exact b
 ·rcases j p with ⟨c,e⟩ | ⟨c,e⟩
  ·refine .inl ⟨c,?_⟩
   rw [b,e]
   cases z:h2 p with
   | none=>exact a.symm ▸ rfl
   | some w=>rfl
  ·refine .inr ⟨?_,by rw [b,e]⟩
   rw [c]; exact a
theorem OwAll.at:∀ {xs:List α}{vs:List V}{F h:Hp}(i:Nat) {x:α},OwAll O F xs vs h→xs[i]?=some x →
  ∃ v h1 h2,vs[i]?=some v∧Jn h1 h2 h∧O.O x v F h1∧∀ x' h1' h' F3,Same F F3→O.O x' v F3 h1'→Jn h1' h2 h'→OwAll O F3 (xs.set i x') vs h'
 | [],_,_,_,_,_,_,e=>by cases e
 | x::xs,[],_,_,_,_,q,_=>q.elim
 | x::xs,v::vs,F,h,0,y,⟨h1,h2,j,o,r⟩,e=>by
  cases e
  exact ⟨v,h1,h2,rfl,j,o,fun x' h1' h' F3 g o' j'=>⟨h1',h2,j',o',r.mono g⟩⟩
 | x::xs,v::vs,F,h,i+1,y,⟨h1,h2,j,o,r⟩,e=>by
  obtain ⟨w,k1,k2,e1,j1,o1,f⟩:=OwAll.at i r (by simpa using e)
  obtain ⟨m,jm,jh⟩:=zdP_ j1 (zgZ_ j)
  refine ⟨w,k1,m,by simpa using e1,jh,o1,fun x' k1' h' F3 g o' j'=>?_⟩
  have d:Dj k1' k2:=fun p=>by
   rcases j'.dj p with z | z
   ·exact .inl z
   ·exact .inr (jm.l.free z)
  refine ⟨h1,un k1' k2,?_,O.mono g o,f x' k1' _ F3 g o' (zcw_ d)⟩
  intro p
  rcases j' p with ⟨a,b⟩ | ⟨a,b⟩
  ·rcases jm p with ⟨c,e⟩ | ⟨c,e⟩
   ·right
    refine ⟨by unfold un; rw [a,c],by rw [b,e]⟩
   ·left
    refine ⟨c,by unfold un; rw [a,b,e]⟩
  ·left
   refine ⟨jm.r.free a,?_⟩
   unfold un
   rw [b]
   cases z:k1' p with
   | none=>exact (jm.l.free a).symm ▸ rfl
   | some w=>rfl
theorem OwAll.snoc:∀ {xs:List α}{vs:List V}{F h:Hp}{x:α}{v:V}{hn:Hp},OwAll O F xs vs h→O.O x v F hn→Dj h hn→OwAll O F (xs++[x]) (vs++[v]) (un h hn)
 | [],[],F,h,x,v,hn,q,o,d=>by
  refine ⟨hn,fun _=>none,fun p=>.inr ⟨rfl,?_⟩,o,fun _=>rfl⟩
  unfold un; rw [q p]
 | y::xs,w::vs,F,h,x,v,hn,⟨h1,h2,j,o1,r⟩,o,d=>by
  obtain ⟨m,jm,jh⟩:=zdP_ j (zcw_ d)
  have d2:Dj h2 hn:=jm.dj
  have e:m=un h2 hn:=by
   funext p
   unfold un
   rcases jm p with ⟨a,b⟩ | ⟨a,b⟩
   ·rw [a]; exact b
   ·rw [b]
    cases z:h2 p with
    | none=>exact a.symm ▸ rfl
    | some w=>rfl
  rw [e] at jh
  exact ⟨h1,_,jh,o1,r.snoc o d2⟩
 | [],_::_,_,_,_,_,_,q,_,_=>q.elim
 | _::_,[],_,_,_,_,_,q,_,_=>q.elim
abbrev owLO (O:Own α):Own (List α):=⟨fun xs v F h=>∃ p vs h2,v=.ref p∧Jn (one p (.lst vs)) h2 h∧OwAll O F xs vs h2,tyL O.fr,fun g ⟨p,vs,h2,e,j,q⟩=>⟨p,vs,h2,e,j,q.mono g⟩,
 fun {a v F h} d ⟨p,vs,h2,e,j,q⟩=>⟨p,vs,e,zfy_ d _ _ (j.l _ _ zX_),q.prs (fun b=>by
  rcases d b with z | z
  ·exact .inl z
  ·exact .inr (j.r.free z)) (zcg_ d j.r)⟩,
 fun ⟨p,vs,h2,e,j,q⟩ b xs y=>by
  rcases j b with ⟨_,z⟩ | ⟨_,z⟩
  ·rw [z] at y; exact q.notup b xs y
  ·rw [z] at y; unfold one at y; split at y<;>cases y⟩
theorem z7_ (i:ImmO O):ImmO (owLO O):=fun g ⟨p,vs,h2,e,j,q⟩=>⟨p,vs,h2,e,j,q.imm i g⟩
end
section
variable {K:Fgg}{E:XK}{α β γ ρ S B:Type}{F0 H0 F h H:Hp}{L:List Sl}{e te ei:TE}{T:Ty α}{r:Mo α}{Or:Own ρ}{u:TS}{LS:S→List Sl}{LB:B→List Sl}{σ:St}
def Foc (F0 H0:Hp) (σ:St) (h F1:Hp) (O':Own β) (y:β) (u:V) (LF:β→List Sl):Prop :=
 ∀ F2 H2,Same F1 F2→Okk F0 H0 F2 h H2→∃ k,O'.O y u F2 k∧Same k h ∧
  ∀ y' k' F3 H3,PutC F2 H2 h H0 k k' F3 H3→O'.O y' u F3 k'→∃ h',Hold (LF y') σ F3 h'∧Okk F0 H0 F3 h' H3
theorem zkM_ {O:Own α}{x:α}{i:Nat}(hL:Hold L σ F h) (hi:L[i]?=some (.ow O x)):∃ v,σ[i]?=some (some v)∧Foc F0 H0 σ h F O x v (fun x'=>L.set i (.ow O x')):=by
 obtain ⟨o,_,_,e1,_,⟨v,e2,_⟩,_⟩:=hL.at i hi
 subst e2
 refine ⟨v,e1,fun F2 H2 s ok=>?_⟩
 obtain ⟨v',k,e1',ho,_,kh,_,g⟩:=zfZ_ (hL.mono s) hi ok
 rw [e1] at e1'; cases e1'
 refine ⟨k,ho,kh,fun y' k' F3 H3 a b=>?_⟩
 obtain ⟨h',a1,a2⟩:=g O y' v k' F3 H3 a b
 rw [za0_ e1] at a1
 exact ⟨h',a1,a2⟩
theorem Foc.part {O:Own α}{O':Own β}{F1:Hp}{y:α}{z:β}{w u:V}{LF:α→List Sl}{put:β→α}(f:Foc F0 H0 σ h F1 O y u LF)
  (pt:∀ F2 k,Same F1 F2→Same k h→O.O y u F2 k→∃ k1 k2,Jn k1 k2 k∧O'.O z w F2 k1∧∀ z' k1' k' F3,Same F2 F3→O'.O z' w F3 k1'→Jn k1' k2 k'→O.O (put z') u F3 k'):Foc F0 H0 σ h F1 O' z w (fun z'=>LF (put z')):=by
 intro F2 H2 s ok
 obtain ⟨k,ho,kh,g⟩:=f F2 H2 s ok
 obtain ⟨k1,k2,j,ho',pp⟩:=pt F2 k s kh ho
 refine ⟨k1,ho',j.l.trans kh,fun z' k1' F3 H3 P hz=>?_⟩
 have d:Dj k1' k2:=fun q=>by
  by_cases w1:k1' q=none
  ·exact .inl w1
  ·right
   by_cases w2:k1 q=none
   ·exact (j.r.trans kh).free (P.fr q w2 w1).1
   ·rcases j.dj q with y | y
    ·exact absurd y w2
    ·exact y
 have k2h:∀ {q o},k2 q=some o→k1 q=none∧H3 q=some o:=fun {q o} e=>by
  have y1:k1 q=none:=by
   rcases j.dj q with y1 | y1
   ·exact y1
   ·rw [y1] at e; cases e
  exact ⟨y1,P.ol q o (by rw [zx_ y1]; exact ok.2.2.1 _ _ (kh _ _ (j.r _ _ e)))⟩
 refine g (put z') (un k1' k2) F3 H3 ⟨P.ff,P.fh,fun q o e=>?_,(fun q a b=>(P.nw q a b).imp id fun z w=>z (j.l.free w)),fun q o e=>?_,fun q=>?_,fun q a1 a2=>?_⟩ (pp z' k1' _ F3 P.ff hz (zcw_ d))
 ·unfold less at e
  split at e
  ·rename_i y; exact P.ol q o (by rw [zx_ (j.l.free y)]; exact e)
  ·cases e
 ·unfold un at e
  cases y:k1' q with
  | some s=>rw [y] at e; rw [P.kh q s y]; exact e
  | none=>rw [y] at e; exact (k2h e).2
 ·unfold un
  cases y:k1' q with
  | some s =>
   rcases P.dj q with d | d
   ·exact .inl d
   ·rw [d] at y; cases y
  | none =>
   cases e:k2 q with
   | none=>exact .inr rfl
   | some s =>
    left
    have hq:h q=some s:=kh _ _ (j.r _ _ e)
    have Fq:F2 q=none:=by
     rcases ok.2.1 q with d | d
     ·exact d
     ·rw [d] at hq; cases hq
    by_cases w3:F3 q=none
    ·exact w3
    ·rcases P.nw q Fq w3 with d | d
     ·rw [ok.2.2.1 _ _ hq] at d; cases d
     ·exact absurd (k2h e).1 d
 ·unfold un at a2
  have y2:k2 q=none:=j.r.free a1
  have y:k1' q≠none:=fun y=>by rw [y] at a2; exact a2 y2
  exact P.fr q (j.l.free a1) y
def EvPt (K:Fgg) (te:TE) (E:XK) (L:List Sl) (i:Nat) (O:Own α) (O':Own β) (r:Mo (β×(β→α))):Prop :=
 ∀ F0 H0 σ F h H (Q:VK),Hold L σ F h→Okk F0 H0 F h H→After K r E (un F h) H (fun yp G1 H1=>∀ u,Foc F0 H0 σ h (less G1 h) O' yp.1 u (fun z=>L.set i (.ow O (yp.2 z)))→Q u H1)→te σ H Q
theorem zcp_ {O:Own α}{x:α}{i:Nat}(hi:L[i]?=some (.ow O x)):EvPt K (mVar i) E L i O O (.ok (x,fun z=>z)):=by
 intro F0 H0 σ F h H Q hL ok q
 obtain ⟨o,hs,_⟩:=ok.back (Ext.refl ok.thaw)
 obtain ⟨v,ev,fc⟩:=zkM_ (F0:=F0) (H0:=H0) (hL.mono hs) hi
 exact zc6_ ev (q.ok ok.thaw v fc)
theorem zlE_ {O:Own β}{p:Addr}{xs:List β}{n:Nat}{y:β}{vs:List V}{w:V}(hv:h p=some (.lst vs)) (hw:vs[n]?=some w) (e:xs[n]?=some y) :
  ∀ F2 k,Same k h→(owLO O).O xs (.ref p) F2 k→∃ k1 k2,Jn k1 k2 k∧O.O y w F2 k1∧∀ y' k1' k' F3,Same F2 F3→O.O y' w F3 k1'→Jn k1' k2 k'→(owLO O).O (xs.set n y') (.ref p) F3 k':=by
 rintro F2 k kh ⟨p',vs',k2,ep,j,all⟩
 cases ep
 have ev:vs'=vs:=by
  have:=kh _ _ (j.l _ _ zX_)
  rw [hv] at this
  injection this with this
  injection this with this
  exact this.symm
 subst ev
 obtain ⟨w',a1,a2,e1,j1,o1,f⟩:=all.at n e
 rw [hw] at e1; cases e1
 obtain ⟨m,jm,jk⟩:=zdP_ j1 (zgZ_ j)
 refine ⟨a1,m,jk,o1,fun y' k1' k' F3 g o' j'=>?_⟩
 have d:Dj k1' a2:=fun q=>by
  rcases j'.dj q with z | z
  ·exact .inl z
  ·exact .inr (jm.l.free z)
 refine ⟨p,vs',un k1' a2,rfl,?_,f y' k1' _ F3 g o' (zcw_ d)⟩
 intro q
 rcases j' q with ⟨a,b⟩ | ⟨a,b⟩
 ·rcases jm q with ⟨c,e⟩ | ⟨c,e⟩
  ·right
   refine ⟨by unfold un; rw [a,c],by rw [b,e]⟩
  ·left
   refine ⟨c,by unfold un; rw [a,b,e]⟩
 ·left
  refine ⟨jm.r.free a,?_⟩
  unfold un
  rw [b]
  cases z:k1' q with
  | none=>exact (jm.l.free a).symm ▸ rfl
  | some w=>rfl
theorem zgC_ {G1 G2 h:Hp}(s:Same G1 G2):Same (less G1 h) (less G2 h):=fun p o e=>by
 unfold less at e ⊢
 split at e
 ·exact s _ _ e
 ·cases e
theorem zlJ_ {O:Own α}{O':Own β}{i:Nat}{r:Mo (List β×(List β→α))}{rj:Mo Int}(hp:EvPt K te E L i O (owLO O') r) (hj:EvF K ei E L rj tyInt) :
  EvPt K (tOp (mIx K) te ei) E L i O O' (r.bind fun yp=>rj.bind fun j=>(Mo.opt (ixN yp.1.length j)).bind fun n=>(Mo.opt (yp.1[n]?)).bind fun z=>.ok (z,fun z'=>yp.2 (yp.1.set n z'))):=by
 intro F0 H0 σ F h H Q hL ok q
 refine hp F0 H0 σ F h H _ hL ok (q.bind.imp fun yp G1 H1 x1 k1 u fc=>?_)
 refine hj σ G1 H1 _ ((hL.froz ok.2.1).mono x1.1) x1.2.1 (k1.bind.imp fun j G2 H2 x2 k2 v2 hv2=>?_)
 cases hv2
 obtain ⟨n,en,k3⟩:=k2.bind.opt
 obtain ⟨z,ez,k4⟩:=(k3.ok x2.2.1).bind.opt
 have k5:=(k4.ok x2.2.1).ok x2.2.1
 obtain ⟨o2,_,_⟩:=ok.back (x1.trans x2)
 obtain ⟨k,⟨p,vs,m,rfl,jn,all⟩,kh,_⟩:=fc (less G2 h) H2 (zgC_ x2.1) o2
 have hp1:h p=some (.lst vs):=kh _ _ (jn.l _ _ zX_)
 refine ⟨vs,.inl (.of (o2.2.2.1 _ _ hp1)),?_⟩
 have hl:=all.len
 have hn:=zj1_ en
 have hw:vs[n]?=some vs[n]:=List.getElem?_eq_getElem (by lia)
 have en':ixN vs.length j=some n:=by rw [← hl]; exact en
 have ea:atI vs j=some vs[n]:=by unfold atI; rw [en']; exact hw
 rw [ea]
 refine k5 _ (Foc.part (O:=owLO O') (y:=yp.1) (put:=fun z'=>yp.1.set n z') (LF:=fun y'=>L.set i (.ow O (yp.2 y'))) (u:=.ref p) (fun F2 H3 s ok=>fc F2 H3 ((zgC_ x2.1).trans s) ok) fun F2 k s kh ho=>?_)
 exact zlE_ hp1 hw ez F2 k kh ho
theorem ziE_ {O:Own β}{i:Nat}{r0:Mo (List α×(List α→β))}{k:β→Mo (Out ρ B S)}(hp:EvPt K te E L i O (owL T) r0) (hT:Imm T) (he:EvF K e E L r T) (hk:∀ x',EvS K u E (L.set i (.ow O x')) (k x') LS LB Or) :
  EvS K (tSeq (tDrop (tBM K "list" rAppend te (tCons e tNil))) u) E L (r0.bind fun yp=>r.bind fun a=>.lim (yp.1.length+1) (k (yp.2 (yp.1++[a])))) LS LB Or:=by
 intro F0 H0 σ F h H D hL ok fin
 show te σ H fun x H1=>tyV K "list" x H1∧tCons e tNil σ H1 fun xs H2=>rAppend x xs H2 (fun _ H3=>u D σ H3)
 refine hp F0 H0 σ F h H _ hL ok (za2_ (G:=F) ok _ (.inl rfl) fin fun yp G1 H1 hr0 x1 u0 fc=>?_)
 obtain ⟨o1,hs1,_⟩:=ok.back x1
 rw [hr0] at fin
 obtain ⟨k0,⟨p,vs,rfl,rfl,_⟩,kh,_⟩:=fc _ H1 (Same.refl _) o1
 have hp0:h p=some (.lst vs):=kh _ _ zX_
 refine ⟨.inl ⟨rfl,vs,.of (o1.2.2.1 _ _ hp0)⟩,?_⟩
 refine he σ (un (less G1 h) h) H1 _ ((hL.mono hs1).froz o1.2.1) o1.thaw (za2_ (G:=F) o1 _ (.inl rfl) fin fun a G2 H2 hra x2 v hv=>?_)
 obtain ⟨o2,hs2,ht2⟩:=o1.back x2
 rw [hra] at fin
 obtain ⟨hz,fin⟩:=zhT_ (show Fin K (Mo.lim (yp.1.length+1) (k (yp.2 (yp.1++[a])))) E LS LB Or F0 H0 D from fin)
 obtain ⟨k1,⟨p',vs',e',rfl,pr⟩,kh',g⟩:=fc _ H2 hs2 o2
 cases e'
 have ev:vs'=vs:=by
  have:=kh' _ _ zX_
  rw [hp0] at this
  injection this with this
  injection this with this
  exact this.symm
 subst ev
 obtain ⟨h',a1,a2⟩:=g (yp.1++[a]) (one p (.lst (vs'++[v]))) _ (upd H2 p (.lst (vs'++[v]))) (PutC.one o2 kh') ⟨p,_,rfl,rfl,pr.append (.cons (hT ht2 hv) .nil)⟩
 exact ⟨p,vs',v,rfl,rfl,o2.2.2.1 _ _ hp0,by rw [← pr.len]; lia,hk _ F0 H0 σ _ h' _ D a1 a2 fin⟩
end
end L2
namespace L2
open PySem PySem.Spec PyProof.Rows
def mFld (C:Addr) (te:TE) (f:Str):TE:=fun σ H Q=>te σ H fun x H1=>match x with
 | .ref a=>∃ dx fs v,H1 a=some (.ins C dx fs)∧fs.lookup f=some v∧Q v H1
 | _=>False
def mSFld (C:Addr) (te tv:TE) (f:Str):TS:=fun D σ H=>tv σ H fun y H1=>te σ H1 fun x H2=>match x with
 | .ref a=>∃ dx fs,H2 a=some (.ins C dx fs)∧fs.length<1000∧D.nx σ (upd H2 a (.ins C dx (putF f y fs)))
 | _=>False
def Gm (P:Program) (w:World) (K:Fgg) (mg:Str→Option Value) (base:Heap) (CX:CXT) (k:Nat) (C:Addr) (m:Str) (ps:List Str) (sp:Sp):Prop :=
 ∃ f fd,FnOk P w K mg base CX k f fd ps sp∧Cls K C∧Meth K C m f∧Binds K fd ps []
def Gk (P:Program) (w:World) (K:Fgg) (mg:Str→Option Value) (base:Heap) (CX:CXT) (k:Nat) (x:Str) (C:Addr) (ps:List Str) (sp:Sp):Prop :=
 ∃ f fd,FnOk P w K mg base CX k f fd ps sp∧Mk K C f∧mg x=some (.ref C)∧Binds K fd ps []
section
variable {X:Cx}{e value o:Expr}{es:List Expr}{f m x:Str}{p pos pos' apos:Pos}{ta tv:TE}{t:TA}{C:Addr}{k:Nat}{ps:List Str}{sp:Sp}
theorem za8_ (c:Cls X.K C) (n:NoAttr X.K C f) (he:PE X e ta) (hb:attributeBase e f X.env (eval e X.env)=eval e X.env:=by rfl):PE X (.Attribute e f pos) (mFld C ta f):=by
 intro pins s σ H Q I h
 refine zlO_ hb (thn (he pins s σ H _ I h) fun u s1 hq_=>?_)
 obtain ⟨x,H1,I1,rx,q1⟩:=hq_
 cases x with
 | ref a =>
  obtain ⟨dx,fs,v,ea,l,q⟩:=q1
  obtain rfl:u=Value.ref a:=rx
  exact zhf_ I1 ea c n l fun u' s2 I2 ru=>⟨v,H1,I2,ru,q⟩
 | _=>exact q1.elim
theorem zcL_ (c:Cls X.K C) (n:NoAttr X.K C f) (ha:PE X o ta) (hv:PE X value tv) (hs:swapsWith value (some (.Attribute o f pos')) pos.line X.env=pure false:=by rfl):PS X (.Assign [.Attribute o f pos'] value pos) (mSFld C ta tv f):=by
 intro pins s σ H D I h
 refine plainObj_wpAny_Assign_Attribute (thn (hv pins s σ H _ I h) fun u s1 ⟨y,H1,I1,ry,q⟩=>thn (ha pins s1 σ H1 _ I1 q) fun ov s2 hq_=>?_) hs
 obtain ⟨x,H2,I2,rx,q2⟩:=hq_
 cases x with
 | ref a =>
  obtain ⟨dx,fs,ea,l,q3⟩:=q2
  obtain rfl:ov=Value.ref a:=rx
  exact zhM_ I2 ea c n l ry fun s3 I3=>⟨σ,_,I3,q3⟩
 | _=>exact q2.elim
theorem zc1_ {pl:Sem Bool}(G:Gm X.prog X.w X.K X.mg X.base CX0 k C m ps sp) (hr:Room k X.A) (he:PE X o ta) (ha:PA X (e::es) t)
  (hst:starEach (e::es) X.env=(false,eval e X.env)::starEach es X.env:=by rfl) (hpl:(backTo pos (starEach es X.env)).any (·.1)=false:=by rfl)
  (ht:eval (.Call (.Attribute o m apos) (e::es) [] pos) X.env=(do
   let ov ← eval o X.env
   standAt apos.atName
   let (f,first) ← holding [ov] (getMethod ov m pl)
   callWith pos f first (backTo pos (starEach (e::es) X.env)) (backToKw pos (keywordEach [] X.env))):=by rfl) :
  PE X (.Call (.Attribute o m apos) (e::es) [] pos) (tMeth C m sp [] E0 ta t):=by
 obtain ⟨f,fd,F,c,hm,hb⟩:=G
 exact zli_ he c hm F hr hb .nil pass0 ha hst hpl ht
theorem zu_ {pl:Sem Bool}(G:Gm X.prog X.w X.K X.mg X.base CX0 k C m ps sp) (hr:Room k X.A) (he:PE X o ta)
  (ht:eval (.Call (.Attribute o m apos) [] [] pos) X.env=(do
   let ov ← eval o X.env
   standAt apos.atName
   let (f,first) ← holding [ov] (getMethod ov m pl)
   callWith pos f first (backTo pos (starEach [] X.env)) (backToKw pos (keywordEach [] X.env))):=by rfl) :
  PE X (.Call (.Attribute o m apos) [] [] pos) (tMeth C m sp [] E0 ta tNil):=by
 obtain ⟨f,fd,F,c,hm,hb⟩:=G
 exact zj7_ he c hm F hr hb .nil pass0 ht
theorem zeM_ (G:Gk X.prog X.w X.K X.mg X.base CX0 k x C ps sp) (hr:Room (k+1) X.A) (ha:PA X (e::es) t) (hg:Gl X x:=by rfl) (hdb:(x == ("__debug__" : Str))=false:=by decide)
  (he:starEach (e::es) X.env=(false,eval e X.env)::starEach es X.env:=by rfl) (hpl:(backTo pos (starEach es X.env)).any (·.1)=false:=by rfl) :
  PE X (.Call (.Name x p) (e::es) [] pos) (tMake C sp [] E0 t):=by
 obtain ⟨f,fd,F,M,hm,hb⟩:=G
 exact zlF_ M F hr hg hm hb .nil pass0 ha hdb he hpl
end
theorem zdR_:∀ {ns:List Str}{vs:List V}{i:Nat}{f:Str}{v:V},ns.Nodup→ns[i]?=some f→vs[i]?=some v→(ns.zip vs).lookup f=some v
 | [],_,_,_,_,_,h,_=>by simp at h
 | n::ns,[],_,_,_,_,_,h=>by simp at h
 | n::ns,w::vs,0,f,v,_,h,h'=>by
  simp at h h'; subst h h'
  rw [List.zip_cons_cons,List.lookup_cons,beq_self_eq_true]
 | n::ns,w::vs,i+1,f,v,nd,h,h'=>by
  obtain ⟨h1,h2⟩:=List.nodup_cons.mp nd
  have hf:ns[i]?=some f:=by simpa using h
  have hne:(f == n)=false:=beq_eq_false_iff_ne.mpr fun z=>h1 (z ▸ List.mem_of_getElem? hf)
  rw [List.zip_cons_cons,List.lookup_cons,hne]
  exact zdR_ h2 hf (by simpa using h')
theorem zaF_:∀ {ns:List Str}{vs:List V}{f:Str},f∉ns→(ns.zip vs).lookup f=none
 | [],_,_,_=>rfl
 | n::ns,[],_,_=>rfl
 | n::ns,w::vs,f,h=>by
  have hne:(f == n)=false:=beq_eq_false_iff_ne.mpr fun z=>h (z ▸ List.mem_cons_self ..)
  rw [List.zip_cons_cons,List.lookup_cons,hne]
  exact zaF_ fun z=>h (List.mem_cons_of_mem _ z)
theorem zhV_:∀ {ns:List Str}{vs:List V}{i:Nat}{f:Str}(v:V),ns.Nodup→ns[i]?=some f→i<vs.length→putF f v (ns.zip vs)=ns.zip (vs.set i v)
 | [],_,_,_,_,_,h,_=>by simp at h
 | n::ns,[],_,_,_,_,_,h=>by simp at h
 | n::ns,w::vs,0,f,v,_,h,_=>by
  simp at h; subst h
  rw [List.zip_cons_cons,putF,if_pos rfl]; rfl
 | n::ns,w::vs,i+1,f,v,nd,h,h'=>by
  obtain ⟨h1,h2⟩:=List.nodup_cons.mp nd
  have hf:ns[i]?=some f:=by simpa using h
  have hne:¬ n=f:=fun z=>h1 (z ▸ List.mem_of_getElem? hf)
  rw [List.zip_cons_cons,putF,if_neg hne,zhV_ v h2 hf (by simpa using h')]; rfl
theorem zf0_:∀ {ns:List Str}{vs:List V}{f:Str}(v:V),f∉ns→vs.length=ns.length→putF f v (ns.zip vs)=(ns++[f]).zip (vs++[v])
 | [],[],f,v,_,_=>rfl
 | [],_::_,_,_,_,h=>by simp at h
 | _::_,[],_,_,_,h=>by simp at h
 | n::ns,w::vs,f,v,h,hl=>by
  have hne:¬ n=f:=fun z=>h (z ▸ List.mem_cons_self ..)
  rw [List.zip_cons_cons,putF,if_neg hne,zf0_ v (fun z=>h (List.mem_cons_of_mem _ z)) (by simpa using hl)]; rfl
theorem zjo_:∀ {ns:List Str}{vs us:List V},vs.length=ns.length→us.length=ns.length→ns.zip vs=ns.zip us→vs=us
 | [],[],[],_,_,_=>rfl
 | n::ns,v::vs,u::us,h1,h2,e=>by
  rw [List.zip_cons_cons,List.zip_cons_cons] at e
  injection e with e1 e2
  injection e1 with _ e1
  rw [e1,zjo_ (by simpa using h1) (by simpa using h2) e2]
 | [],_::_,_,h,_,_=>by simp at h
 | [],[],_::_,_,h,_=>by simp at h
 | _::_,[],_,h,_,_=>by simp at h
 | _::_,_::_,[],_,h,_=>by simp at h
structure Ps (γ:Type) where
 P:γ→List V→Hp→Hp→Prop
 fr:Cs γ
 mono:∀ {c vs F F' h},Same F F'→P c vs F h→P c vs F' h
 frz:∀ {c vs F h},Dj F h→P c vs F h→fr.R c vs (un F h)
 notup:∀ {c vs F h},P c vs F h→∀ p xs,h p≠some (.tup xs)
section
variable {α β γ:Type}
theorem dj_l {F h1 h2 h:Hp}(d:Dj F h) (j:Jn h1 h2 h):Dj F h1:=fun p=>by
 rcases d p with z | z
 ·exact .inl z
 ·exact .inr (j.l.free z)
theorem dj_r {F h1 h2 h:Hp}(d:Dj F h) (j:Jn h1 h2 h):Dj F h2:=fun p=>by
 rcases d p with z | z
 ·exact .inl z
 ·exact .inr (j.r.free z)
abbrev psNil:Ps Unit:=⟨fun _ vs _ h=>vs=[]∧∀ p,h p=none,csNil,fun _ q=>q,fun _ q=>q.1,fun q p xs z=>by rw [q.2 p] at z; cases z⟩
abbrev psO (O:Own α) (P:Ps γ):Ps (α×γ):=⟨fun c vs F h=>∃ v us h1 h2,vs=v::us∧Jn h1 h2 h∧O.O c.1 v F h1∧P.P c.2 us F h2,csCons O.fr P.fr,
 fun g ⟨v,us,h1,h2,e,j,a,b⟩=>⟨v,us,h1,h2,e,j,O.mono g a,P.mono g b⟩,
 fun d ⟨v,us,h1,h2,e,j,a,b⟩=>⟨v,us,e,O.fr.mono (zcg_ d j.l) (O.frz (dj_l d j) a),P.fr.mono (zcg_ d j.r) (P.frz (dj_r d j) b)⟩,
 fun ⟨v,us,h1,h2,e,j,a,b⟩ p xs z=>by
  rcases j p with ⟨_,y⟩ | ⟨_,y⟩
  ·rw [y] at z; exact P.notup b p xs z
  ·rw [y] at z; exact O.notup a p xs z⟩
def two (p dx:Addr) (o:HO):Hp:=fun q=>if q=p then some o else if q=dx then some (.own p) else none
theorem zgY_ {p dx:Addr}{o:HO}:two p dx o p=some o:=if_pos rfl
theorem zkI_ {p dx:Addr}{o:HO}(h:dx≠p):two p dx o dx=some (.own p):=by unfold two; rw [if_neg h,if_pos rfl]
theorem zlj_ {p dx q:Addr}{o:HO}(h:two p dx o q=none):q≠p∧q≠dx:=by
 refine ⟨fun e=>?_,fun e=>?_⟩
 ·rw [e,zgY_] at h; cases h
 ·unfold two at h; split at h
  ·cases h
  ·first | cases h | (rw [if_pos e] at h; cases h)
abbrev tyI (C:Addr) (ns:List Str) (Q:Cs γ):Ty γ:=⟨fun c v H=>∃ p dx vs,v=.ref p∧H p=some (.ins C dx (ns.zip vs))∧vs.length=ns.length∧Q.R c vs H,fun g ⟨p,dx,vs,e,h,l,q⟩=>⟨p,dx,vs,e,g _ _ h,l,Q.mono g q⟩⟩
abbrev owI (C:Addr) (ns:List Str) (P:Ps γ):Own γ:=⟨fun c v F h=>∃ p dx vs k,v=.ref p∧dx≠p∧Jn (two p dx (.ins C dx (ns.zip vs))) k h∧vs.length=ns.length∧P.P c vs F k,tyI C ns P.fr,
 fun g ⟨p,dx,vs,k,e,n,j,l,q⟩=>⟨p,dx,vs,k,e,n,j,l,P.mono g q⟩,
 fun d ⟨p,dx,vs,k,e,n,j,l,q⟩=>⟨p,dx,vs,e,zfy_ d _ _ (j.l _ _ zgY_),l,P.fr.mono (zcg_ d j.r) (P.frz (dj_r d j) q)⟩,
 fun ⟨p,dx,vs,k,e,n,j,l,q⟩ b xs y=>by
  rcases j b with ⟨_,z⟩ | ⟨_,z⟩
  ·rw [z] at y; exact P.notup q b xs y
  ·rw [z] at y; unfold two at y; split at y
   ·cases y
   ·split at y<;>cases y⟩
abbrev owAt (u:V) (O:Own α):Own α:=⟨fun a v F h=>v=u∧O.O a v F h,O.fr,fun g q=>⟨q.1,O.mono g q.2⟩,fun d q=>O.frz d q.2,fun q=>O.notup q.2⟩
def PsAt (P:Ps γ) (n:Nat) (O:Own β) (pr:γ→β) (st:γ→β→γ):Prop:=∀ {c vs F h},P.P c vs F h→∃ v h1 h2,vs[n]?=some v∧Jn h1 h2 h∧O.O (pr c) v F h1∧∀ z' h1' h' F3,Same F F3→O.O z' v F3 h1'→Jn h1' h2 h'→P.P (st c z') vs F3 h'
theorem zmf_ {O:Own β}{P:Ps γ}:PsAt (psO O P) 0 O (fun c=>c.1) (fun c z=>(z,c.2)):=fun ⟨v,us,h1,h2,e,j,a,b⟩=>by
 subst e
 exact ⟨v,h1,h2,rfl,j,a,fun z' h1' h' F3 g o' j'=>⟨v,us,h1',h2,rfl,j',o',P.mono g b⟩⟩
theorem zmR_ {b t m a h:Hp}(jm:Jn b t m) (j:Jn a m h):Jn t (un a b) h:=fun q=>by
 rcases j q with ⟨x,y⟩ | ⟨x,y⟩
 ·rcases jm q with ⟨c,e⟩ | ⟨c,e⟩
  ·right
   refine ⟨by unfold un; rw [x,c],by rw [y,e]⟩
  ·left
   refine ⟨c,by unfold un; rw [x,y,e]⟩
 ·left
  refine ⟨jm.r.free x,?_⟩
  unfold un
  rw [y]
  cases z:a q with
  | none=>exact (jm.l.free x).symm ▸ rfl
  | some w=>rfl
theorem zmp_ {a b t m h:Hp}(jm:Jn b t m) (j:Jn a m h):Dj a b:=fun q=>by
 rcases j.dj q with z | z
 ·exact .inl z
 ·exact .inr (jm.l.free z)
theorem pat_s {O:Own α}{O':Own β}{P:Ps γ}{n:Nat}{pr:γ→β}{st:γ→β→γ}(h:PsAt P n O' pr st):PsAt (psO O P) (n+1) O' (fun c=>pr c.2) (fun c z=>(c.1,st c.2 z)):=fun ⟨v,us,h1,h2,e,j,a,b⟩=>by
 subst e
 obtain ⟨w,k1,k2,e1,j1,o1,f⟩:=h b
 obtain ⟨m,jm,jh⟩:=zdP_ j1 (zgZ_ j)
 refine ⟨w,k1,m,by simpa using e1,jh,o1,fun z' k1' h' F3 g o' j'=>?_⟩
 exact ⟨v,us,h1,un k1' k2,rfl,zmR_ jm j',O.mono g a,f z' k1' _ F3 g o' (zcw_ (zmp_ jm j'))⟩
def PsPut (P:Ps γ) (n:Nat) (O:Own β) (st:γ→β→γ):Prop:=∀ {c vs F h},P.P c vs F h→n<vs.length∧∃ h2,Same h2 h∧∀ z' v' h1' h' F3,Same F F3→O.O z' v' F3 h1'→Jn h1' h2 h'→P.P (st c z') (vs.set n v') F3 h'
theorem zlN_ {O:Own β}{P:Ps γ}:PsPut (psO O P) 0 O (fun c z=>(z,c.2)):=fun ⟨v,us,h1,h2,e,j,a,b⟩=>by
 subst e
 exact ⟨by simp,h2,j.r,fun z' v' h1' h' F3 g o' j'=>⟨v',us,h1',h2,rfl,j',o',P.mono g b⟩⟩
def PsAdd (P:Ps γ) (O:Own β) {δ:Type}(P':Ps δ) (ad:γ→β→δ):Prop:=∀ {c vs F h},P.P c vs F h→∀ z v' h1' h' F3,Same F F3→O.O z v' F3 h1'→Jn h1' h h'→P'.P (ad c z) (vs++[v']) F3 h'
theorem zfL_ {O:Own β}:PsAdd psNil O (psO O psNil) (fun _ z=>(z,())):=fun q z v' h1' h' F3 g o' j'=>by
 rw [q.1]
 exact ⟨v',[],h1',_,rfl,j',o',rfl,q.2⟩
theorem zeF_ {O:Own α}{O':Own β}{P:Ps γ}{δ:Type}{P':Ps δ}{ad:γ→β→δ}(h:PsAdd P O' P' ad):PsAdd (psO O P) O' (psO O P') (fun c z=>(c.1,ad c.2 z)):=fun ⟨v,us,h1,h2,e,j,a,b⟩ z v' k1' h' F3 g o' j'=>by
 subst e
 have jm:Jn h2 h1 _:=zgZ_ j
 exact ⟨v,us++[v'],h1,un k1' h2,rfl,zmR_ jm j',O.mono g a,h b z v' k1' _ F3 g o' (zcw_ (zmp_ jm j'))⟩
end
section
variable {K:Fgg}{E:XK}{α β γ δ ρ S B:Type}{F0 H0 F h H:Hp}{L:List Sl}{e te ei:TE}{T:Ty α}{r:Mo α}{Or:Own ρ}{u:TS}{LS:S→List Sl}{LB:B→List Sl}{σ:St}{C:Addr}{ns:List Str}{f:Str}{i n:Nat}
theorem zdU_ {Q:Cs γ}{pr:γ→α}{r:Mo γ}(nd:ns.Nodup) (hf:ns[n]?=some f) (ha:CsAt Q n T pr) (he:EvF K te E L r (tyI C ns Q)):EvF K (mFld C te f) E L (r.bind fun c=>.ok (pr c)) T:=by
 intro σ F H R hL hs q
 refine he σ F H _ hL hs (q.bind.imp fun c F1 H1 x1 k1 v hq_=>?_)
 obtain ⟨p,dx,vs,e,hp,hl,hc⟩:=hq_
 subst e
 obtain ⟨w,ew,rw'⟩:=ha hc
 exact ⟨dx,_,w,x1.2.1 _ _ hp,zdR_ nd hf ew,k1.ok x1.2.1 w rw'⟩
theorem zd6_ {O:Own α}{O':Own β}{w:V}{r:Mo (β×(β→α))}(hp:EvPt K te E L i O (owAt w O') r):EvPt K te E L i O O' r:=by
 intro F0 H0 σ F h H Q hL ok q
 refine hp F0 H0 σ F h H _ hL ok (q.imp fun yp G1 H1 x1 k1 u fc=>k1 u fun F2 H2 s o2=>?_)
 obtain ⟨k,⟨e,ho⟩,kh,g⟩:=fc F2 H2 s o2
 exact ⟨k,ho,kh,fun y' k' F3 H3 P hy=>g y' k' F3 H3 P ⟨e,hy⟩⟩
theorem zmY_ {P:Ps γ}{O':Own β}{pr:γ→β}{st:γ→β→γ}{p dx:Addr}{vs:List V}{w:V}{c:γ}(pa:PsAt P n O' pr st) (hv:h p=some (.ins C dx (ns.zip vs))) (hl:vs.length=ns.length) (hw:vs[n]?=some w) :
  ∀ F2 k,Same k h→(owI C ns P).O c (.ref p) F2 k→∃ k1 k2,Jn k1 k2 k∧O'.O (pr c) w F2 k1∧∀ y' k1' k' F3,Same F2 F3→O'.O y' w F3 k1'→Jn k1' k2 k'→(owI C ns P).O (st c y') (.ref p) F3 k':=by
 rintro F2 k kh ⟨p',dx',vs',m,ep,ndx,j,hl',ps⟩
 cases ep
 have ev:=kh _ _ (j.l _ _ zgY_)
 rw [hv] at ev
 injection ev with ev
 injection ev with _ e1 e2
 subst e1
 have ev:=zjo_ hl hl' e2
 subst ev
 obtain ⟨w',a1,a2,e3,j1,o1,g⟩:=pa ps
 rw [hw] at e3; cases e3
 obtain ⟨mm,jm,jk⟩:=zdP_ j1 (zgZ_ j)
 refine ⟨a1,mm,jk,o1,fun y' k1' k' F3 s o' j'=>?_⟩
 exact ⟨p,dx,vs,un k1' a2,rfl,ndx,zmR_ jm j',hl,g y' k1' _ F3 s o' (zcw_ (zmp_ jm j'))⟩
theorem zgw_ {O:Own α}{P:Ps γ}{O':Own β}{pr:γ→β}{st:γ→β→γ}{r:Mo (γ×(γ→α))}(nd:ns.Nodup) (hf:ns[n]?=some f) (pa:PsAt P n O' pr st) (hp:EvPt K te E L i O (owI C ns P) r) :
  EvPt K (mFld C te f) E L i O O' (r.bind fun yp=>.ok (pr yp.1,fun z'=>yp.2 (st yp.1 z'))):=by
 intro F0 H0 σ F h H Q hL ok q
 refine hp F0 H0 σ F h H _ hL ok (q.bind.imp fun yp G1 H1 x1 k1 u fc=>?_)
 obtain ⟨o1,_,_⟩:=ok.back x1
 obtain ⟨k,⟨p,dx,vs,m,rfl,ndx,jn,hl,ps⟩,kh,_⟩:=fc _ H1 (Same.refl _) o1
 have hp1:h p=some (.ins C dx (ns.zip vs)):=kh _ _ (jn.l _ _ zgY_)
 obtain ⟨w,_,_,ew,_⟩:=pa ps
 refine ⟨dx,_,w,o1.2.2.1 _ _ hp1,zdR_ nd hf ew,?_⟩
 exact k1.ok x1.2.1 w (Foc.part (put:=st yp.1) (LF:=fun y'=>L.set i (.ow O (yp.2 y'))) fc fun F2 k s kh ho=>zmY_ pa hp1 hl ew F2 k kh ho)
theorem zg3_ {p dx:Addr}{o o':HO}{m h2 hn:Hp}{k:Hp}(ok:Okk F0 H0 F h H) (kh:Same k h) (ndx:dx≠p) (jn:Jn (two p dx o) m k) (h2m:Same h2 m) (fresh:∀ q,hn q≠none→F q=none∧h q=none∧H0 q=none) (hs:Same hn H) (dn:Dj hn h2) :
  Jn (two p dx o') (un hn h2) (un (two p dx o') (un hn h2))∧PutC F H h H0 k (un (two p dx o') (un hn h2)) F (upd H p o'):=by
 have hnk:∀ q,hn q≠none→k q=none:=fun q z=>kh.free (fresh q z).2.1
 have kp:k p=some o:=jn.l _ _ zgY_
 have kdx:k dx=some (.own p):=jn.l _ _ (zkI_ ndx)
 have m0:∀ q,two p dx o q≠none→m q=none:=fun q z=>by
  rcases jn.dj q with y | y
  ·exact absurd y z
  ·exact y
 have two_ne:∀ {o:HO}{q},two p dx o q≠none→q=p∨q=dx:=fun {o q} z=>by
  by_cases a:q=p
  ·exact .inl a
  ·by_cases b:q=dx
   ·exact .inr b
   ·exact absurd (by unfold two; rw [if_neg a,if_neg b]) z
 have dj:Dj (two p dx o') (un hn h2):=fun q=>by
  by_cases z:two p dx o' q=none
  ·exact .inl z
  ·right
   have kq:k q≠none:=by
    rcases two_ne z with e | e
    ·rw [e,kp]; exact Option.some_ne_none _
    ·rw [e,kdx]; exact Option.some_ne_none _
   have hq:hn q=none:=by
    by_cases y:hn q=none
    ·exact y
    ·exact absurd (hnk q y) kq
   have mq:m q=none:=m0 q (by
    rcases two_ne z with e | e
    ·rw [e,zgY_]; exact Option.some_ne_none _
    ·rw [e,zkI_ ndx]; exact Option.some_ne_none _)
   unfold un; rw [hq]; exact h2m.free mq
 refine ⟨zcw_ dj,PutC.same ok kh (fun q s z=>?_) (fun q z1 z2=>zN_ fun e=>?_) fun q z1 z2=>?_⟩
 ·unfold un at z
  cases y:two p dx o' q with
  | some w =>
   rw [y] at z
   by_cases e:q=p
   ·rw [e,zgY_] at y; rw [e,zP_,y]; exact z
   ·rw [zN_ e]
    have e2:q=dx:=by
     rcases two_ne (o:=o') (q:=q) (by rw [y]; exact Option.some_ne_none _) with a | a
     ·exact absurd a e
     ·exact a
    rw [e2,zkI_ ndx] at y
    rw [← z,← y,e2]; exact ok.2.2.1 _ _ (kh _ _ kdx)
  | none =>
   rw [y] at z
   have e:=(zlj_ y).1
   rw [zN_ e]
   cases x:hn q with
   | some w=>rw [x] at z; rw [← z]; exact hs _ _ x
   | none=>rw [x] at z; exact ok.2.2.1 _ _ (kh _ _ (jn.r _ _ (h2m _ _ z)))
 ·rw [e,kp] at z1; cases z1
 ·have e1:two p dx o' q=none:=by
   by_cases y:two p dx o' q=none
   ·exact y
   ·rcases two_ne y with e | e
    ·rw [e,kp] at z1; cases z1
    ·rw [e,kdx] at z1; cases z1
  have e2:h2 q=none:=h2m.free (jn.r.free z1)
  have eu:un (two p dx o') (un hn h2) q=hn q:=by
   unfold un; rw [e1]
   cases x:hn q with
   | some w=>rfl
   | none=>exact e2
  rw [eu] at z2 ⊢
  obtain ⟨a,b,c⟩:=fresh q z2
  refine ⟨a,b,c,?_⟩
  cases x:hn q with
  | none=>exact absurd x z2
  | some w=>exact hs _ _ x
theorem zng_ {P:Ps γ}{P':Ps δ}{ad:γ→α→δ}{x:γ}{w:V}{k:δ→Mo (Out ρ B S)}(hi:L[i]?=some (.ow (owAt w (owI C ns P)) x)) (hf:f∉ns) (hsm:ns.length<900) (pp:PsAdd P (owF T) P' ad) (hT:Imm T) (he:EvF K e E L r T) (hk:∀ x',EvS K u E (L.set i (.ow (owAt w (owI C (ns++[f]) P')) x')) (k x') LS LB Or) :
  EvS K (tSeq (mSFld C (mVar i) e f) u) E L (r.bind fun a=>k (ad x a)) LS LB Or:=by
 intro F0 H0 σ F h H D hL ok fin
 refine he σ (un F h) H _ (hL.froz ok.2.1) ok.thaw (za2_ (G:=F) ok _ (.inl rfl) fin fun a F' H' hra x1 v hv=>?_)
 obtain ⟨o,hs,ht⟩:=ok.back x1
 rw [hra] at fin
 obtain ⟨v0,k0,e1,⟨ew,p,dx,vs,m,rfl,ndx,jn,hl,ps⟩,kH,kh,_,g⟩:=zfZ_ (hL.mono hs) hi o
 have hp1:H' p=some (.ins C dx (ns.zip vs)):=kH _ _ (jn.l _ _ zgY_)
 refine zc6_ e1 ⟨dx,_,hp1,by rw [List.length_zip]; omega,?_⟩
 rw [zf0_ v hf hl]
 have nul:∀ q,(fun _:Addr=>(none:Option HO)) q≠none→less F' h q=none∧h q=none∧H0 q=none:=fun q z=>absurd rfl z
 obtain ⟨j',PC⟩:=zg3_ (o':=.ins C dx ((ns++[f]).zip (vs++[v]))) (hn:=fun _=>none) o kh ndx jn (Same.refl m) nul (fun q o z=>by cases z) (fun q=>.inl rfl)
 have eu:un (fun _=>none) m=m:=by funext q; rfl
 rw [eu] at j' PC
 obtain ⟨h',a1,a2⟩:=g (owAt w (owI C (ns++[f]) P')) (ad x a) (.ref p) _ _ _ PC ⟨ew,p,dx,vs++[v],m,rfl,ndx,j',by rw [List.length_append,List.length_append,hl]; rfl,pp ps a v (fun _=>none) m _ (Same.refl _) ⟨fun _=>rfl,hT ht hv⟩ (fun q=>.inl ⟨rfl,rfl⟩)⟩
 rw [za0_ e1] at a1
 exact hk _ F0 H0 σ _ h' _ D a1 a2 fin
end
end L2
namespace L2
open PySem PySem.Spec PyProof.Rows
section
variable {K:Fgg}{E:XK}{α β γ δ ρ ρ' S B:Type}{F0 H0 F h H:Hp}{L:List Sl}{e te ei:TE}{T:Ty α}{r:Mo α}{Or:Own ρ}{t u:TS}{LS:S→List Sl}{LB:B→List Sl}{σ:St}{C:Addr}{ns:List Str}{f m:Str}{i n:Nat}
def FinM (K:Fgg) (r:Mo ρ) (E:XK) (F0 H0:Hp) (kk:ρ→Hp→Hp→Hp→Prop):Prop:=match r with
 | .ok a=>∀ F h H,Okk F0 H0 F h H→kk a F h H
 | .ex c=>∀ F h H,Okk F0 H0 F h H→E (.ref (gA K c)) none H
 | .no=>False
abbrev owRM (w:V) (O2:Own β) (Or:Own ρ):Own (ρ×β):=⟨fun r v F h=>∃ h1 h2,Jn h1 h2 h∧Or.O r.1 v F h1∧O2.O r.2 w F h2,⟨fun r v H=>Or.fr.R r.1 v H,fun g q=>Or.fr.mono g q⟩,
 fun g ⟨h1,h2,j,a,b⟩=>⟨h1,h2,j,Or.mono g a,O2.mono g b⟩,
 fun d ⟨h1,h2,j,a,b⟩=>Or.fr.mono (zcg_ d j.l) (Or.frz (dj_l d j) a),
 fun ⟨h1,h2,j,a,b⟩ p xs z=>by
  rcases j p with ⟨_,y⟩ | ⟨_,y⟩
  ·rw [y] at z; exact O2.notup b p xs z
  ·rw [y] at z; exact Or.notup a p xs z⟩
def CtM (K:Fgg) (O:Own α) (O2:Own β) (Q:Cs γ) (g:α→γ→Mo (ρ×β)) (Or:Own ρ):Sp:=fun vs H R E=>∃ F h x c w ws,vs=w::ws∧Same F H∧Dj F h∧Same h H∧O.O x w F h∧Q.R c ws F ∧
 FinM K (g x c) E F (less H h) fun r F' h' H'=>∀ v,(owRM w O2 Or).O r v F' h'→R v H'
theorem zgk_ {k:Hp}(ok:Okk F0 H0 F h H) (s:Same k h):Okk F0 H0 F k H:=by
 refine ⟨ok.1,fun p=>?_,s.trans ok.2.2.1,fun p z=>ok.2.2.2.1 p fun y=>z (s.free y),fun p xs z=>ok.2.2.2.2 p xs (s _ _ z)⟩
 rcases ok.2.1 p with z | z
 ·exact .inl z
 ·exact .inr (s.free z)
theorem zF_ {h:Hp}(p:Addr) (z:h p≠none):less H h p=none:=by
 unfold less
 cases y:h p with
 | none=>exact absurd y z
 | some w=>rfl
theorem zaq_:Same (less H h) H:=fun p o z=>by
 unfold less at z
 split at z
 ·exact z
 ·cases z
theorem zh2_ (hs:Same F H) (dj:Dj F h) (hh:Same h H) (nt:∀ p xs,h p≠some (.tup xs)):Okk F (less H h) F h H:=by
 refine ⟨⟨Same.refl _,hs,zaq_,fun p a b=>absurd a b⟩,dj,hh,fun p z=>zF_ p z,nt⟩
def fnMU (r:Mo (Out (Unit×β) Unit β)):Mo (Unit×β):=r.bind fun o=>match o with | .rt a=>.ok a | .nx x=>.ok ((),x) | _=>.no
def fnMR (r:Mo (Out (ρ×β) Unit Unit)):Mo (ρ×β):=r.bind fun o=>match o with | .rt a=>.ok a | _=>.no
theorem zh7_ {O:Own α}{Q:Cs γ}{ss:γ→List Sl}{x:α}{c:γ}{w:V}{ws:List V}(m:Nat) (hC:CsS Q ss) (hO:O.O x w F h) (hc:Q.R c ws F):Hold (.ow (owAt w O) x::(ss c++List.replicate m .dead)) (some w::(ws.map some++List.replicate m none)) F h :=
 ⟨h,fun _=>none,fun _=>.inr ⟨rfl,rfl⟩,⟨w,rfl,rfl,hO⟩,(hC hc).hold m⟩
theorem zkW_ {t:XK→TS}{O:Own α}{O2:Own β}{Q:Cs γ}{ss:γ→List Sl}{g:α→γ→Mo (Out (Unit×β) Unit β)}{N:List Str}{LS:V→β→List Sl}(n m:Nat) (hn:CsN Q n) (hm:N.length-(n+1)=m) (hC:CsS Q ss) (hLS:∀ w x,(LS w x)[0]?=some (.ow (owAt w O2) x))
  (hb:∀ w x c E,EvS K (t E) E (.ow (owAt w O) x::(ss c++List.replicate m .dead)) (g x c) (LS w) (fun _:Unit=>[]) (owRM w O2 (owF tyNon))) :
  ∀ vs H R E,CtM K O O2 Q (fun x c=>fnMU (g x c)) (owF tyNon) vs H R E→t E { nx:=fun _ H'=>R .non H',rt:=R } (start N vs) H:=by
 rintro vs H R E ⟨F,h,x,c,w,ws,rfl,hs,dj,hh,hO,hc,q⟩
 have hstart:start N (w::ws)=some w::(ws.map some++List.replicate m none):=by
  unfold start
  rw [List.length_cons,hn hc,hm]; rfl
 rw [hstart]
 refine hb w x c E F (less H h) _ F h H _ (zh7_ m hC hO hc) (zh2_ hs dj hh (O.notup hO)) ?_
 cases e:g x c with
 | no=>simp only [fnMU,e] at q; exact q
 | ex cc=>simp only [fnMU,e] at q; exact q
 | ok o =>
  simp only [fnMU,e] at q
  cases o with
  | nx s =>
   intro σ F' h' H' hL ok
   obtain ⟨o,k,hr,e1,j,⟨v,e2,e3,ho⟩,_⟩:=hL.at 0 (hLS w s)
   subst e3
   exact q F' k H' (zgk_ ok j.l) .non ⟨fun _=>none,k,fun _=>.inl ⟨rfl,rfl⟩,⟨fun _=>rfl,rfl⟩,ho⟩
  | bk s=>exact q.elim
  | ct s=>exact q.elim
  | rt a=>exact fun v F' h' H' ok hv=>q F' h' H' ok v hv
theorem zgK_ {O2:Own β}{x:β}{w:V}(h0:L[i]?=some (.ow (owAt w O2) x)) (hT:Imm T) (he:EvF K e E L r T):EvS K (tRet e) E L (r.bind fun a=>.ok (.rt (a,x))) LS LB (owRM w O2 (owF T)):=by
 intro F0 H0 σ F h H D hL ok fin
 refine he σ (un F h) H _ (hL.froz ok.2.1) ok.thaw (za2_ (G:=F) ok _ (.inl rfl) fin fun a F' H' hr x1 v hv=>?_)
 obtain ⟨o,hs,ht⟩:=ok.back x1
 rw [hr] at fin
 obtain ⟨_,k,_,_,j,⟨v',_,e3,ho⟩,_⟩:=(hL.mono hs).at i h0
 subst e3
 exact fin v _ k H' (zgk_ o j.l) ⟨fun _=>none,k,fun _=>.inl ⟨rfl,rfl⟩,⟨fun _=>rfl,hT ht hv⟩,ho⟩
theorem zld_ {O:Own α}{P:Ps β}{r0:Mo (β×(β→α))}{Q:Cs γ}{ta:TA}{ra:Mo γ}{g:β→γ→Mo (ρ'×β)}{Or':Own ρ'}{k:α→Mo (Out ρ B S)}(hno:m∉ns) (hI:ImmO (owI C ns P)) (hp:EvPt K te E L i O (owI C ns P) r0) (hC:ImmC Q) (ha:EvA K ta E L ra Q)
  (hk:∀ x',EvS K u E (L.set i (.ow O x')) (k x') LS LB Or) :
  EvS K (tSeq (tDrop (tMeth C m (CtM K (owI C ns P) (owI C ns P) Q g Or') [] E0 te ta)) u) E L (r0.bind fun yp=>ra.bind fun c=>(g yp.1 c).noex.bind fun q=>k (yp.2 q.2)) LS LB Or:=by
 intro F0 H0 σ F h H D hL ok fin
 show te σ H fun x H1=>∃ a dx fs,x=.ref a∧H1 a=some (.ins C dx fs)∧fs.lookup m=none∧ta σ H1 fun vs H2=>CtM K (owI C ns P) (owI C ns P) Q g Or' (x::(vs++[])) H2 (fun _ H3=>u D σ H3) E0
 refine hp F0 H0 σ F h H _ hL ok (za2_ (G:=F) ok _ (.inl rfl) fin fun yp G1 H1 hr0 x1 u0 fc=>?_)
 obtain ⟨o1,hs1,_⟩:=ok.back x1
 rw [hr0] at fin
 obtain ⟨k0,⟨p,dx,vs0,m0,rfl,ndx,jn,hl,ps⟩,kh,_⟩:=fc _ H1 (Same.refl _) o1
 refine ⟨p,dx,_,rfl,o1.2.2.1 _ _ (kh _ _ (jn.l _ _ zgY_)),zaF_ hno,?_⟩
 refine ha σ (un (less G1 h) h) H1 _ ((hL.mono hs1).froz o1.2.1) o1.thaw (za2_ (G:=F) o1 _ (.inl rfl) fin fun c G2 H2 hra x2 vs hvs=>?_)
 obtain ⟨o2,hs2,ht2⟩:=o1.back x2
 rw [hra] at fin
 rw [List.append_nil]
 obtain ⟨k1,hO,kh1,gg⟩:=fc _ H2 hs2 o2
 have dFc:∀ q,less h k1 q≠none→k1 q=none:=fun q z=>by
  cases y:k1 q with
  | none=>rfl
  | some s=>exact absurd (zF_ (H:=h) q (by rw [y]; exact Option.some_ne_none _)) z
 have sFc:Same (un (less G2 h) (less h k1)) H2:=fun q o z=>by
  unfold un at z
  cases y:less G2 h q with
  | some s=>rw [y] at z; rw [← z]; exact o2.1.2.1 _ _ y
  | none=>rw [y] at z; exact o2.2.2.1 _ _ (zaq_ _ _ z)
 have djc:Dj (un (less G2 h) (less h k1)) k1:=fun q=>by
  by_cases z:k1 q=none
  ·exact .inr z
  ·left
   unfold un
   have:less G2 h q=none:=zF_ q fun y=>z (kh1.free y)
   rw [this]; exact zF_ q z
 refine ⟨un (less G2 h) (less h k1),k1,yp.1,c,.ref p,vs,rfl,sFc,djc,kh1.trans o2.2.2.1,(owI C ns P).mono zR_ hO,Q.mono zR_ (hC ht2 hvs),?_⟩
 have fin:Fin K ((g yp.1 c).noex.bind fun q=>k (yp.2 q.2)) E LS LB Or F0 H0 D:=fin
 cases e:g yp.1 c with
 | no=>rw [e] at fin; exact fin
 | ex cc=>rw [e] at fin; exact fin.elim
 | ok q =>
  rw [e] at fin
  rintro F' h' H' okc v ⟨hr,hs',j,_,hO2⟩
  have lo:∀ q',less h k1 q'≠none→h q'≠none:=fun q' z y=>z (by unfold less; split; exact y; rfl)
  have tp:Tups F' (less F' (less h k1)):=fun b xs z=>by
   cases y:less h k1 b with
   | none=>rw [zx_ y]; exact z
   | some s =>
    exfalso
    have y2:un (less G2 h) (less h k1) b=some s:=by
     unfold un
     have:less G2 h b=none:=zF_ b (lo b (by rw [y]; exact Option.some_ne_none _))
     rw [this]; exact y
    have:=okc.1.1 _ _ y2
    rw [z] at this
    injection this with this
    exact o2.2.2.2.2 b xs (by rw [this]; exact zaq_ _ _ y)
  have PC:PutC (less G2 h) H2 h H0 k1 hs' (less F' (less h k1)) H':=by
   refine ⟨fun b o z=>?_,fun b o z=>okc.1.2.1 _ _ (zaq_ _ _ z),okc.1.2.2.1,fun b a1 a2=>?_,j.r.trans okc.2.2.1,fun b=>?_,fun b a1 a2=>?_⟩
   ·have hb:h b=none:=by
     cases y:h b with
     | none=>rfl
     | some s=>rw [zF_ b (by rw [y]; exact Option.some_ne_none _)] at z; cases z
    have:less h k1 b=none:=zaq_.free hb
    rw [zx_ this]
    exact okc.1.1 _ _ (zR_ _ _ z)
   ·have y:less h k1 b=none:=by
     cases y:less h k1 b with
     | none=>rfl
     | some s=>exact absurd (zF_ b (by rw [y]; exact Option.some_ne_none _)) a2
    rw [zx_ y] at a2
    have y2:un (less G2 h) (less h k1) b=none:=by unfold un; rw [a1]; exact y
    have y3:=okc.1.2.2.2 b y2 a2
    by_cases z:k1 b=none
    ·left; rw [zx_ z] at y3; exact y3
    ·exact .inr z
   ·by_cases z:hs' b=none
    ·exact .inr z
    ·left
     rcases okc.2.1 b with y | y
     ·exact zaq_.free y
     ·exact absurd (j.r.free y) z
   ·have y:=okc.2.2.2.1 b fun y=>a2 (j.r.free y)
    rw [zx_ a1] at y
    exact ⟨o2.2.2.1.free y,o2.1.2.2.1.free y⟩
  obtain ⟨h3,a1,a2⟩:=gg q.2 hs' _ H' PC (hI tp hO2)
  exact hk _ F0 H0 σ _ h3 H' D a1 a2 fin
theorem zgt_ {Q:Cs γ}{r0:Mo γ}{g:γ→Mo α}(hno:m∉ns) (he:EvF K te E L r0 (tyI C ns Q)) :
  EvF K (tMeth C m (Ct K (csLast (tyI C ns Q)) g (owF T)) [] E0 te tNil) E L (r0.bind fun x=>(g x).noex) T:=by
 intro σ F H R hL hs q
 refine he σ F H _ hL hs (q.bind.imp fun x F1 H1 x1 k1 v hv=>?_)
 obtain ⟨p,dx,vs,rfl,hp,hl,hc⟩:=id hv
 refine ⟨p,dx,_,rfl,x1.2.1 _ _ hp,zaF_ hno,?_⟩
 exact ⟨F1,x,x1.2.1,⟨_,rfl,hv⟩,k1.noex.imp fun a F3 H3 x3 k3 w hw _ _ _ hv=>k3 w hv.2⟩
theorem zgq_ {P:Ps γ}{Q:Cs δ}{ta:TA}{ra:Mo δ}{g:Unit→δ→Mo (Unit×γ)}(ha:EvA K ta E L ra Q) :
  EvO K (tMake C (CtM K (owI C [] psNil) (owI C ns P) Q g (owF tyNon)) [] E0 ta) E L (ra.bind fun c=>(g () c).noex.bind fun q=>.ok q.2) (owI C ns P):=by
 intro σ F H R hL hs q
 refine ha σ F H _ hL hs (q.bind.imp fun c F1 H1 x1 k1 vs hvs x dx hx hdx ndx=>?_)
 rw [List.append_nil]
 have new:∀ b,two x dx (.ins C dx []) b≠none→H1 b=none:=fun b z=>by
  unfold two at z
  split at z
  ·rename_i e; rw [e]; exact hx
  ·split at z
   ·rename_i e; rw [e]; exact hdx
   ·exact absurd rfl z
 have at1:∀ b,two x dx (.ins C dx []) b=none→upd (upd H1 dx (.own x)) x (.ins C dx []) b=H1 b:=fun b z=>by
  obtain ⟨a1,a2⟩:=zlj_ z
  rw [zN_ a1,zN_ a2]
 have at2:Same (two x dx (.ins C dx [])) (upd (upd H1 dx (.own x)) x (.ins C dx [])):=fun b o z=>by
  unfold two at z
  split at z
  ·rename_i e; rw [e,zP_]; exact z
  ·rename_i e0
   split at z
   ·rename_i e; rw [zN_ e0,e,zP_]; exact z
   ·cases z
 have dj:Dj F1 (two x dx (.ins C dx [])):=fun b=>by
  by_cases z:two x dx (.ins C dx []) b=none
  ·exact .inr z
  ·exact .inl (x1.2.1.free (new b z))
 have sF:Same F1 (upd (upd H1 dx (.own x)) x (.ins C dx [])):=fun b o z=>by
  have hb:=x1.2.1 _ _ z
  rw [at1 b ?_]
  ·exact hb
  ·cases y:two x dx (.ins C dx []) b with
   | none=>rfl
   | some s=>rw [new b (by rw [y]; exact Option.some_ne_none _)] at hb; cases hb
 have eH:∀ b,less (upd (upd H1 dx (.own x)) x (.ins C dx [])) (two x dx (.ins C dx [])) b=H1 b:=fun b=>by
  by_cases z:two x dx (.ins C dx []) b=none
  ·rw [zx_ z,at1 b z]
  ·rw [zF_ b z,new b z]
 refine ⟨F1,two x dx (.ins C dx []),(),c,.ref x,vs,rfl,sF,dj,at2,⟨x,dx,[],fun _=>none,rfl,ndx,fun _=>.inr ⟨rfl,rfl⟩,rfl,rfl,fun _=>rfl⟩,hvs,?_⟩
 cases e:g () c with
 | no=>rw [e] at k1; exact k1
 | ex cc=>rw [e] at k1; exact k1.elim
 | ok q0 =>
  rw [e] at k1
  rintro F' h' H' okc v ⟨hr,hs',j,⟨_,hv⟩,hO2⟩
  refine ⟨hv,?_⟩
  have xx:Ext F1 H1 F' H':=⟨okc.1.1,okc.1.2.1,fun b o z=>okc.1.2.2.1 b o (by rw [eH]; exact z),fun b a1 a2=>by rw [← eH b]; exact okc.1.2.2.2 b a1 a2⟩
  refine k1 F' H' xx (.ref x) hs' (fun b z=>?_) (fun b=>?_) (j.r.trans okc.2.2.1) hO2
  ·have:=okc.2.2.2.1 b fun y=>z (j.r.free y)
   rw [eH] at this
   exact x1.2.2.1.free this
  ·rcases okc.2.1 b with y | y
   ·exact .inl y
   ·exact .inr (j.r.free y)
end
end L2
namespace L2
open PySem PySem.Spec PyProof.Rows
section
variable {K:Fgg}{E:XK}{α β γ δ ρ ρ' S B:Type}{F0 H0 F h H:Hp}{L:List Sl}{e te ei:TE}{T:Ty α}{r:Mo α}{Or:Own ρ}{t u:TS}{LS:S→List Sl}{LB:B→List Sl}{σ:St}{C:Addr}{ns:List Str}{f m:Str}{i n:Nat}
def ImmP (P:Ps γ):Prop:=∀ {c vs F F' h},Tups F F'→P.P c vs F h→P.P c vs F' h
theorem zY_:ImmP psNil:=fun _ q=>q
theorem zt_ {O:Own α}{P:Ps γ}(a:ImmO O) (b:ImmP P):ImmP (psO O P):=fun g ⟨v,us,h1,h2,e,j,x,y⟩=>⟨v,us,h1,h2,e,j,a g x,b g y⟩
theorem zbJ_ {P:Ps γ}(b:ImmP P):ImmO (owI C ns P):=fun g ⟨p,dx,vs,k,e,nd,j,l,q⟩=>⟨p,dx,vs,k,e,nd,j,l,b g q⟩
theorem zht_ {P:Ps γ}{P':Ps δ}{ad:γ→α→δ}{x:γ}{w:V}{k:δ→Mo (Out ρ B S)}(hi:L[i]?=some (.ow (owAt w (owI C ns P)) x)) (hf:f∉ns) (hsm:ns.length<900) (pp:PsAdd P (owF T) P' ad) (hT:Imm T) (he:EvF K e E L r T) (hk:∀ x',EvS K u E (L.set i (.ow (owAt w (owI C (ns++[f]) P')) x')) (k x') LS LB Or) :
  EvS K (tSeq (mSFld C (mVar i) e f) u) E L (r.bind fun a=>(Mo.ok (ad x a)).bind k) LS LB Or:=zng_ hi hf hsm pp hT he hk
theorem zew_ {O:Own α}{P:Ps β}{r0:Mo (β×(β→α))}{Q:Cs γ}{ta:TA}{ra:Mo γ}{g:β→γ→Mo (ρ'×β)}{Or':Own ρ'}{k:α→Mo (Out ρ B S)}(hno:m∉ns) (hI:ImmO (owI C ns P)) (hp:EvPt K te E L i O (owI C ns P) r0) (hC:ImmC Q) (ha:EvA K ta E L ra Q)
  (hk:∀ x',EvS K u E (L.set i (.ow O x')) (k x') LS LB Or) :
  EvS K (tSeq (tDrop (tMeth C m (CtM K (owI C ns P) (owI C ns P) Q g Or') [] E0 te ta)) u) E L (r0.bind fun yp=>ra.bind fun c=>(g yp.1 c).noex.bind fun q=>(Mo.ok (yp.2 q.2)).bind k) LS LB Or:=zld_ hno hI hp hC ha hk
theorem zcy_ {O:Own β}{r0:Mo (List α×(List α→β))}{k:β→Mo (Out ρ B S)}(hp:EvPt K te E L i O (owL T) r0) (hT:Imm T) (he:EvF K e E L r T) (hk:∀ x',EvS K u E (L.set i (.ow O x')) (k x') LS LB Or) :
  EvS K (tSeq (tDrop (tBM K "list" rAppend te (tCons e tNil))) u) E L (r0.bind fun yp=>r.bind fun a=>.lim (yp.1.length+1) ((Mo.ok (yp.2 (yp.1++[a]))).bind k)) LS LB Or:=ziE_ hp hT he hk
def EvAO (K:Fgg) (t:TA) (E:XK) (L:List Sl) (r:Mo (List α)) (O:Own α):Prop :=
 ∀ σ F H (Q:List V→Hp→Prop),HoldF L σ F→Same F H→After K r E F H (fun xs F' H'=>∀ vs h,(∀ p,h p≠none→H p=none)→Dj F' h→Same h H'→OwAll O F' xs vs h→Q vs H')→t σ H Q
theorem zgn_ {O:Own α}:EvAO K tNil E L (.ok ([]:List α)) O:=fun σ F H Q hL hs q=>q.ok hs [] (fun _=>none) (fun p z=>absurd rfl z) (fun p=>.inr rfl) (fun p o z=>by cases z) fun _=>rfl
theorem zcT_ {O:Own α}{t:TA}{r':Mo (List α)}(he:EvO K e E L r O) (ht:EvAO K t E L r' O):EvAO K (tCons e t) E L (r.bind fun a=>r'.bind fun as=>.ok (a::as)) O:=by
 intro σ F H Q hL hs q
 refine he σ F H _ hL hs (q.bind.imp fun a F1 H1 x1 k1 v h1 fr1 d1 s1 o1=>?_)
 refine ht σ F1 H1 _ (hL.mono x1.1) x1.2.1 (k1.bind.imp fun as F2 H2 x2 k2 vs h2 fr2 d2 s2 o2=>?_)
 have dj:Dj h1 h2:=fun p=>by
  by_cases z:h2 p=none
  ·exact .inr z
  ·exact .inl (s1.free (fr2 p z))
 have k3:=k2.ok x2.2.1
 refine k3 (v::vs) (un h1 h2) (fun p z=>?_) (fun p=>?_) (fun p o z=>?_) ⟨h1,h2,zcw_ dj,O.mono x2.1 o1,o2⟩
 ·unfold un at z
  cases y:h1 p with
  | some w=>exact fr1 p (by rw [y]; exact Option.some_ne_none _)
  | none=>rw [y] at z; exact x1.2.2.1.free (fr2 p z)
 ·unfold un
  cases y:h1 p with
  | some w =>
   left
   have F1p:F1 p=none:=by
    rcases d1 p with z | z
    ·exact z
    ·rw [z] at y; cases y
   by_cases w:F2 p=none
   ·exact w
   ·have:=x2.2.2.2 p F1p w
    rw [s1 _ _ y] at this; cases this
  | none=>exact d2 p
 ·unfold un at z
  cases y:h1 p with
  | some w=>rw [y] at z; rw [← z]; exact x2.2.2.1 _ _ (s1 _ _ y)
  | none=>rw [y] at z; exact s2 _ _ z
theorem zgs_ {O:Own α}{t:TA}{r:Mo (List α)}(ht:EvAO K t E L r O):EvO K (tLst t) E L (r.bind fun xs=>.lim xs.length (.ok xs)) (owLO O):=by
 intro σ F H Q hL hs q
 refine ht σ F H _ hL hs (q.bind.imp fun xs F1 H1 x1 k1 vs h1 fr d s o=>?_)
 obtain ⟨hz,k1⟩:=k1.lim
 refine ⟨by rw [← o.len]; exact hz,fun p hp=>?_⟩
 have hp1:h1 p=none:=s.free hp
 have dj:Dj (one p (.lst vs)) h1:=fun q=>by
  by_cases z:q=p
  ·rw [z]; exact .inr hp1
  ·left; unfold one; rw [if_neg z]
 have xx:Ext F1 H1 F1 (upd H1 p (.lst vs)):=⟨Same.refl _,fun b o z=>by rw [zN_ (fun e=>by rw [e] at z; have:=x1.2.1 _ _ z; rw [hp] at this; cases this)]; exact x1.2.1 _ _ z,fun b o z=>by rw [zN_ (fun e=>by rw [e,hp] at z; cases z)]; exact z,fun b a c=>absurd a c⟩
 refine k1 F1 _ xx (.ref p) (un (one p (.lst vs)) h1) (fun b z=>?_) (fun b=>?_) (fun b o' z=>?_) ⟨p,vs,h1,rfl,zcw_ dj,o⟩
 ·unfold un at z
  by_cases e:b=p
  ·rw [e]; exact x1.2.2.1.free hp
  ·unfold one at z; rw [if_neg e] at z; exact fr b z
 ·unfold un
  by_cases e:b=p
  ·left; rw [e]; exact x1.2.1.free hp
  ·unfold one; rw [if_neg e]; exact d b
 ·unfold un at z
  by_cases e:b=p
  ·rw [e,zX_] at z; rw [e,zP_]; exact z
  ·unfold one at z; rw [if_neg e] at z; rw [zN_ e]; exact s _ _ z
theorem zl2_ {hn:Hp}(ok:Okk F0 H0 F h H) (fr:∀ p,hn p≠none→H0 p=none∧h p=none) (s:Same hn H):Okk F0 H0 (un F hn) h H:=by
 refine ⟨⟨ok.1.1.trans zR_,fun p o z=>?_,ok.1.2.2.1,fun p a b=>?_⟩,fun p=>?_,ok.2.2.1,ok.2.2.2.1,ok.2.2.2.2⟩
 ·unfold un at z
  cases y:F p with
  | some w=>rw [y] at z; rw [← z]; exact ok.1.2.1 _ _ y
  | none=>rw [y] at z; exact s _ _ z
 ·unfold un at b
  cases y:F p with
  | some w=>exact ok.1.2.2.2 p a (by rw [y]; exact Option.some_ne_none _)
  | none=>rw [y] at b; exact (fr p b).1
 ·unfold un
  cases y:F p with
  | some w =>
   right
   rcases ok.2.1 p with z | z
   ·rw [z] at y; cases y
   ·exact z
  | none =>
   by_cases z:hn p=none
   ·exact .inl z
   ·exact .inr (fr p z).2
end
end L2
namespace L2
open PySem PySem.Spec PyProof.Rows
section
variable {K:Fgg}{E:XK}{γ:Type}{L:List Sl}{C:Addr}{ns:List Str}
theorem zcI_ (i:Nat) {P:Ps γ}{x:γ}(h:L[i]?=some (.ow (owI C ns P) x)):EvF K (mVar i) E L (.ok x) (tyI C ns P.fr):=zhq_ i h
theorem zdG_ (i:Nat) {P:Ps γ}{x:γ}{w:V}(h:L[i]?=some (.ow (owAt w (owI C ns P)) x)):EvF K (mVar i) E L (.ok x) (tyI C ns P.fr):=zhq_ i h
end
end L2
namespace L2
open PySem PySem.Spec PyProof.Rows
end L2
namespace L2
open PySem PySem.Spec PyProof.Rows
section
variable {X:Cx}
end
section
variable {K:Fgg}{E:XK}{α β:Type}{L:List Sl}{e:TE}{T:Ty α}
end
end L2
namespace L2
open PySem PySem.Spec PyProof.Rows
end L2
namespace L2
open PySem PySem.Spec PyProof.Rows
section
variable {prog:Program}{w:World}{A:Around}{E:Value→Shared→Prop}{s:Shared}
theorem parts2 {l:Addr}{x y:Value}{Q:List Value→Shared→Prop}(hA:A.handled=none) (hl:s.heap.IsList l #[x,y]) (q:∀ h1,Heap.ExtBut s.heap.objs.size s.heap h1→Q [x,y] { s with heap:=h1 }) :
  wpAny (model prog w) A (unpackItems (.ref l) 2 none) Q E s:=by
 have ne:l≠s.heap.objs.size:=by obtain ⟨o,ho,_⟩:=hl; exact Nat.ne_of_lt (Heap.lt_size ho)
 unfold unpackItems notIterableAtAll
 refine wpAny_bind (wpAny_bind (wpAny_specialOf hl.typeIs slot_list_iter.lookup (wpAny_pure ?_)))
 rw [if_neg (by decide)]
 refine wpAny_bind (wpAny_holding (wpAny_pyIter_list hl ?_))
 have i0:Heap.IsListIter (s.heap.push { cls:=.type "list_iterator",data:=.fields #[.ref l,.int 0 0] }) s.heap.objs.size l 0:=⟨_,Heap.get?_push_size _ rfl,rfl,rfl⟩
 refine wpAny_bind (wpAny_holding ?_)
 show wpAny _ _ (pyNext _>>=_) _ _ _; refine wpAny_bind (wpAny_pyNext_list_item i0 (hl.push _) rfl fun h1 i1 e1=>?_)
 have l1:h1.IsList l #[x,y]:=(hl.push _).extBut e1.extBut ne
 refine wpAny_bind (wpAny_holding ?_)
 show wpAny _ _ (pyNext _>>=_) _ _ _; refine wpAny_bind (wpAny_pyNext_list_item (s:={ s with heap:=h1 }) i1 l1 rfl fun h2 i2 e2=>?_)
 have l2:h2.IsList l #[x,y]:=l1.extBut e2.extBut ne
 refine wpAny_bind (wpAny_holding (wpAny_pure (wpAny_pure (wpAny_pure ?_))))
 rw [if_neg (by simp)]
 refine wpAny_bind (wpAny_holding (wpAny_pyNext_list_end (s:={ s with heap:=h2 }) hA i2 l2 rfl fun h3 e3=>?_))
 exact wpAny_pure (q h3 fun b o hb e=>e3 b o hb (e2.extBut b o hb (e1.extBut b o hb (Heap.get?_push_of_some _ e))))
end
section
variable {X:Cx}
def gLst2 (K:Fgg) (t:TGs):TG:=fun v σ H Q=>match v with | .ref a=>∃ x y,SqL K H a [x,y]∧t [x,y] σ H Q | _=>False
theorem zk7_ {es:List Expr}{k:Nat}{t:TGs}{pos:Pos}(hc:X.calm=true) (h:PGs X es t)
  (hn:(assignEach es X.env).length=2:=by rfl) (hst:(assignEach es X.env).findIdx? (·.1)=none:=by rfl):PG X (.Tuple es k pos) (gLst2 X.K t):=by
 intro pins s σ H v u Q I r hw
 cases v with
 | ref a =>
  obtain ⟨x,y,hq,hw⟩:=hw
  cases r
  obtain ⟨its,rv,hp,_⟩:=I.list hq
  obtain ⟨x',y',rfl⟩:∃ x' y',its=[x',y']:=by
   have:=rv.length
   match its,this with  
   | [x',y'],_=>exact ⟨x',y',rfl⟩
  rw [PyProof.Rows.assign_Tuple]
  refine wpAny_bind (wpAny_standAt ?_)
  unfold unpack
  rw [hn,hst]
  refine wpAny_bind (wpAny_holding (parts2 (I.ok.hd hc) hp.isList fun h1 hx=>?_))
  have I1:Inv X pins σ H { s with heap:=h1 }:=I.kept (t':=s.toks) fun b o e=>hx b o (Nat.ne_of_lt (Heap.lt_size e)) e
  exact h pins _ σ H _ _ Q I1 rv hw
 | _=>exact hw.elim
end
section
variable {K:Fgg}{E:XK}{α β γ ρ S B:Type}{F H:Hp}{L:List Sl}{e:TE}{T:Ty α}
end
end L2
namespace L2
open PySem PySem.Spec PyProof.Rows
section
variable {α β γ:Type}
abbrev owPn (u:V) (O':Own β) (put:β→α) (O:Own α):Own β:=⟨fun z v F k=>∃ k1 k2,Jn k1 k2 k∧O'.O z u F k1∧∀ z' k1' k' F3,Same F F3→O'.O z' u F3 k1'→Jn k1' k2 k'→O.O (put z') v F3 k',
 ⟨fun z v H=>O.fr.R (put z) v H∧O'.fr.R z u H,fun g q=>⟨O.fr.mono g q.1,O'.fr.mono g q.2⟩⟩,
 fun g ⟨k1,k2,j,a,b⟩=>⟨k1,k2,j,O'.mono g a,fun z' k1' k' F3 s=>b z' k1' k' F3 (g.trans s)⟩,
 fun d ⟨k1,k2,j,a,b⟩=>⟨O.frz d (b _ k1 _ _ (Same.refl _) a j),O'.fr.mono (zcg_ d j.l) (O'.frz (dj_l d j) a)⟩,
 fun ⟨k1,k2,j,a,b⟩=>O.notup (b _ k1 _ _ (Same.refl _) a j)⟩
theorem zmv_ {k:Hp}:Jn k (fun _=>none) k:=fun p=>.inr ⟨rfl,rfl⟩
theorem ziK_ {k k':Hp}(j:Jn k (fun _=>none) k'):k'=k:=by
 funext p
 rcases j p with ⟨a,b⟩ | ⟨a,b⟩
 ·rw [a,b]
 ·exact b
end
section
variable {K:Fgg}{E:XK}{α β γ δ ρ ρ' S B:Type}{F0 H0 F h H:Hp}{L:List Sl}{e te ei:TE}{T:Ty α}{r:Mo α}{Or:Own ρ}{t u:TS}{LS:S→List Sl}{LB:B→List Sl}{σ:St}{C:Addr}{ns:List Str}{f m:Str}{i n w:Nat}
theorem zhC_ {O1:Own α}{O2:Own β}{x:α}{x2:β}(hL:Hold L σ F h) (hi:L[i]?=some (.ow O1 x)) (g:∀ v k,σ[i]?=some (some v)→Same k h→O1.O x v F k→O2.O x2 v F k):Hold (L.set i (.ow O2 x2)) σ F h:=by
 obtain ⟨o,k,hr,e1,j,⟨v,e2,ho⟩,f⟩:=hL.at i hi
 subst e2
 have:=f (.ow O2 x2) (some v) k h j ⟨v,rfl,g v k e1 j.l ho⟩
 rwa [za0_ e1] at this
def EvPw (K:Fgg) (te:TE) (E:XK) (L:List Sl) (i:Nat) (O:Own α) (O':Own β) (r:Mo (β×(β→α))):Prop :=
 ∀ F0 H0 σ F h H (Q:VK),Hold L σ F h→Okk F0 H0 F h H→After K r E (un F h) H (fun yp G1 H1=>∀ u,i<L.length→Hold (L.set i (.ow (owPn u O' yp.2 O) yp.1)) σ (less G1 h) h→Q u H1)→te σ H Q
theorem zjw_ {O:Own α}{x:α}(hi:L[i]?=some (.ow O x)):EvPw K (mVar i) E L i O O (.ok (x,fun z=>z)):=by
 intro F0 H0 σ F h H Q hL ok q
 obtain ⟨o,hs,_⟩:=ok.back (Ext.refl ok.thaw)
 obtain ⟨_,k,hr,e1,j,⟨v,e2,ho⟩,f⟩:=(hL.mono hs).at i hi
 subst e2
 refine zc6_ e1 (q.ok ok.thaw v (List.getElem?_eq_some_iff.mp hi).1 (zhC_ (hL.mono hs) hi fun v' k ev kh ho=>?_))
 rw [e1] at ev; cases ev
 exact ⟨k,fun _=>none,zmv_,ho,fun z' k1' k' F3 s o' j'=>by rw [ziK_ j']; exact o'⟩
theorem zjz_ {r:Mo α}{k:α→Mo ρ}{kk':ρ→Hp→Hp→Hp→Prop}{kk:α→Hp→Hp→Prop}(ok:Okk F0 H0 F h H) (fin:FinM K (r.bind k) E F0 H0 kk') (hk:∀ a F' H',r=.ok a→Ext (un F h) H F' H'→kk a F' H'):After K r E (un F h) H kk:=by
 cases r with
 | ok a=>exact fun F' H' x=>hk a F' H' rfl x
 | no=>exact fin
 | ex c=>exact fun F' H' x=>fin _ _ _ (ok.back x).1
def EvM (K:Fgg) (t:TE) (E:XK) (L:List Sl) (i:Nat) (O:Own α) (Or':Own ρ') (r:Mo (ρ'×α)):Prop :=
 ∀ F0 H0 σ F h H (Q:VK),Hold L σ F h→Okk F0 H0 F h H→FinM K r E F0 H0 (fun q F' h' H'=>∀ v h1 h2,Jn h1 h2 h'→Hold (L.set i (.ow O q.2)) σ F' h1→Or'.O q.1 v F' h2→Q v H')→t σ H Q
theorem zfT_ {G2 H2 ka kb hrest hs' hr F' h' H' k:Hp}(o2:Okk F0 H0 (less G2 h) h H2) (j:Jn k hrest h) (jk:Jn ka kb k) (okc:Okk (un (less G2 h) (less h ka)) (less H2 ka) F' h' H') (j':Jn hr hs' h') :
  Same (less G2 h) (less F' (less h ka))∧Tups F' (less F' (less h ka))∧Dj hs' kb∧Dj (un hs' kb) hrest∧Dj (un (un hs' kb) hrest) hr∧Okk F0 H0 (less F' (less h ka)) (un (un (un hs' kb) hrest) hr) H':=by
 have kah:Same ka h:=jk.l.trans j.l
 have kab:∀ q,kb q≠none→h q=kb q∧ka q=none:=fun q z=>by
  cases y:kb q with
  | none=>exact absurd y z
  | some o =>
   refine ⟨j.l _ _ (jk.r _ _ y),?_⟩
   rcases jk.dj q with x | x
   ·exact x
   ·rw [x] at y; cases y
 have rst:∀ q,hrest q≠none→h q=hrest q∧ka q=none:=fun q z=>by
  cases y:hrest q with
  | none=>exact absurd y z
  | some o =>
   refine ⟨j.r _ _ y,?_⟩
   rcases j.dj q with x | x
   ·exact jk.l.free x
   ·rw [x] at y; cases y
 have key:∀ q,h' q≠none→h q≠none→ka q=none→False:=fun q z1 z2 z3=>by
  have:=okc.2.2.2.1 q z1
  rw [zx_ z3] at this
  exact z2 (o2.2.2.1.free this)
 have h0:∀ q,less H2 ka q=none→H0 q=none:=fun q z=>by
  by_cases y:ka q=none
  ·rw [zx_ y] at z; exact o2.1.2.2.1.free z
  ·exact o2.2.2.2.1 q fun x=>y (kah.free x)
 have old:∀ q o,h q=some o→ka q=none→H' q=some o:=fun q o z1 z2=>okc.1.2.2.1 q o (by rw [zx_ z2]; exact o2.2.2.1 _ _ z1)
 have d1:Dj hs' kb:=fun q=>by
  by_cases z:hs' q=none
  ·exact .inl z
  ·by_cases y:kb q=none
   ·exact .inr y
   ·obtain ⟨a,b⟩:=kab q y
    exact (key q (fun x=>z (j'.r.free x)) (by rw [a]; exact y) b).elim
 have d2:Dj (un hs' kb) hrest:=fun q=>by
  by_cases y:hrest q=none
  ·exact .inr y
  ·left
   obtain ⟨a,b⟩:=rst q y
   have z1:hs' q=none:=by
    by_cases z:hs' q=none
    ·exact z
    ·exact (key q (fun x=>z (j'.r.free x)) (by rw [a]; exact y) b).elim
   have z2:kb q=none:=by
    rcases j.dj q with x | x
    ·exact jk.r.free x
    ·exact absurd x y
   unfold un; rw [z1]; exact z2
 have d3:Dj (un (un hs' kb) hrest) hr:=fun q=>by
  by_cases y:hr q=none
  ·exact .inr y
  ·left
   have hq:h' q≠none:=fun x=>y (j'.l.free x)
   have z1:hs' q=none:=by
    rcases j'.dj q with x | x
    ·exact absurd x y
    ·exact x
   have z2:kb q=none:=by
    by_cases z:kb q=none
    ·exact z
    ·obtain ⟨a,b⟩:=kab q z
     exact (key q hq (by rw [a]; exact z) b).elim
   have z3:hrest q=none:=by
    by_cases z:hrest q=none
    ·exact z
    ·obtain ⟨a,b⟩:=rst q z
     exact (key q hq (by rw [a]; exact z) b).elim
   unfold un; rw [z1]; simp only; rw [z2]; exact z3
 have parts:∀ q o,un (un (un hs' kb) hrest) hr q=some o→h' q=some o∨(h q=some o∧ka q=none):=fun q o z=>by
  unfold un at z
  cases z1:hs' q with
  | some a=>rw [z1] at z; left; rw [← z]; exact j'.r _ _ z1
  | none =>
   rw [z1] at z; simp only at z
   cases z2:kb q with
   | some a=>rw [z2] at z; right; obtain ⟨x,y⟩:=kab q (by rw [z2]; exact Option.some_ne_none _); exact ⟨by rw [x,z2]; exact z,y⟩
   | none =>
    rw [z2] at z; simp only at z
    cases z3:hrest q with
    | some a=>rw [z3] at z; right; obtain ⟨x,y⟩:=rst q (by rw [z3]; exact Option.some_ne_none _); exact ⟨by rw [x,z3]; exact z,y⟩
    | none=>rw [z3] at z; left; exact j'.l _ _ z
 have ff:Same (less G2 h) (less F' (less h ka)):=fun b o z=>by
  have hb:h b=none:=by
   cases y:h b with
   | none=>rfl
   | some s=>rw [zF_ b (by rw [y]; exact Option.some_ne_none _)] at z; cases z
  have:less h ka b=none:=zaq_.free hb
  rw [zx_ this]
  exact okc.1.1 _ _ (zR_ _ _ z)
 have lo:∀ q',less h ka q'≠none→h q'≠none:=fun q' z y=>z (by unfold less; split; exact y; rfl)
 have tp:Tups F' (less F' (less h ka)):=fun b xs z=>by
  cases y:less h ka b with
  | none=>rw [zx_ y]; exact z
  | some s =>
   exfalso
   have y2:un (less G2 h) (less h ka) b=some s:=by
    unfold un
    have:less G2 h b=none:=zF_ b (lo b (by rw [y]; exact Option.some_ne_none _))
    rw [this]; exact y
   have:=okc.1.1 _ _ y2
   rw [z] at this
   injection this with this
   exact o2.2.2.2.2 b xs (by rw [this]; exact zaq_ _ _ y)
 refine ⟨ff,tp,d1,d2,d3,⟨o2.1.1.trans ff,fun b o z=>okc.1.2.1 _ _ (zaq_ _ _ z),fun b o z=>?_,fun b a1 a2=>?_⟩,fun b=>?_,fun b o z=>?_,fun b z=>?_,fun b xs z=>?_⟩
 ·have kb0:ka b=none:=by
   by_cases y:ka b=none
   ·exact y
   ·have:=o2.2.2.2.1 b fun x=>y (kah.free x)
    rw [z] at this; cases this
  exact okc.1.2.2.1 b o (by rw [zx_ kb0]; exact o2.1.2.2.1 _ _ z)
 ·by_cases y0:less G2 h b=none
  ·have y:less h ka b=none:=by
    cases y:less h ka b with
    | none=>rfl
    | some s=>exact absurd (zF_ b (by rw [y]; exact Option.some_ne_none _)) a2
   rw [zx_ y] at a2
   exact h0 b (okc.1.2.2.2 b (by unfold un; rw [y0]; exact y) a2)
  ·exact o2.1.2.2.2 b a1 y0
 ·cases z:un (un (un hs' kb) hrest) hr b with
  | none=>exact .inr rfl
  | some o =>
   left
   rcases parts b o z with y | ⟨y1,y2⟩
   ·rcases okc.2.1 b with x | x
    ·exact zaq_.free x
    ·rw [x] at y; cases y
   ·exact zF_ b (by rw [zx_ y2,y1]; exact Option.some_ne_none _)
 ·rcases parts b o z with y | ⟨y1,y2⟩
  ·exact okc.2.2.1 _ _ y
  ·exact old b o y1 y2
 ·cases y:un (un (un hs' kb) hrest) hr b with
  | none=>exact absurd y z
  | some o =>
   rcases parts b o y with x | ⟨x,_⟩
   ·exact h0 b (okc.2.2.2.1 b (by rw [x]; exact Option.some_ne_none _))
   ·exact o2.2.2.2.1 b (by rw [x]; exact Option.some_ne_none _)
 ·rcases parts b _ z with y | ⟨y,_⟩
  ·exact okc.2.2.2.2 b xs y
  ·exact o2.2.2.2.2 b xs y
end
end L2
namespace L2
open PySem PySem.Spec PyProof.Rows
section
variable {K:Fgg}{E:XK}{α β γ δ ρ ρ' S B:Type}{F0 H0 F h H:Hp}{L:List Sl}{e te ei tc:TE}{T:Ty α}{r:Mo α}{Or:Own ρ}{Or':Own ρ'}{t u:TS}{LS:S→List Sl}{LB:B→List Sl}{σ:St}{C:Addr}{ns:List Str}{f m:Str}{i n w j:Nat}
theorem zhl_ {r:Mo ρ'}{k:ρ'→Mo (Out ρ B S)}{D:Ends}{kk:ρ'→Hp→Hp→Hp→Prop}(fin:Fin K (r.bind k) E LS LB Or F0 H0 D) (hk:∀ q F' h' H',r=.ok q→Okk F0 H0 F' h' H'→kk q F' h' H'):FinM K r E F0 H0 kk:=by
 cases r with
 | ok q=>exact fun F h H o=>hk q F h H rfl o
 | ex c=>exact fin
 | no=>exact fin
theorem zlg_ {O:Own α}{O':Own β}{w:V}{r:Mo (β×(β→α))}(hp:EvPw K te E L i O (owAt w O') r):EvPw K te E L i O O' r:=by
 intro F0 H0 σ F h H Q hL ok q
 refine hp F0 H0 σ F h H _ hL ok (q.imp fun yp G1 H1 x1 k1 uu il hh=>k1 uu il ?_)
 have hi:(L.set i (.ow (owPn uu (owAt w O') yp.2 O) yp.1))[i]?=some (.ow (owPn uu (owAt w O') yp.2 O) yp.1):=by rw [List.getElem?_set_self (by exact il)]
 have:=zhC_ (O2:=owPn uu O' yp.2 O) (x2:=yp.1) hh hi fun v k ev kh ⟨ka,kb,jk,⟨e,ho⟩,wand⟩=>⟨ka,kb,jk,ho,fun z' k1' k' F3 s oz j'=>wand z' k1' k' F3 s ⟨e,oz⟩ j'⟩
 rwa [List.set_set] at this
end
end L2
namespace L2
open PySem PySem.Spec PyProof.Rows
section
variable {K:Fgg}{E:XK}{α β γ δ ρ ρ' S B:Type}{F0 H0 F h H:Hp}{L:List Sl}{e te ei tc:TE}{T:Ty α}{r:Mo α}{Or:Own ρ}{Or':Own ρ'}{t u:TS}{LS:S→List Sl}{LB:B→List Sl}{σ:St}{C:Addr}{ns:List Str}{f m:Str}{i n w j:Nat}
theorem zfO_ {lv:List Str}{fr:List (Str×Nat)}{wi:TI}{g:TG}{tt:TT}{te:TE}{r:Mo (List α)}{ss:α→List (Nat×Sl)}{c:α→Mo Bool}{f:α→Mo β}{O':Own β}
  (hi:EvI K wi E L r T) (hg:TgR K g T ss) (hd:∀ a,DeadAt (cL lv fr L) ((ss a).map (·.1))) (ht:∀ a,EvT K tt E0 (setL (cL lv fr L) (ss a)) (c a)) (he:∀ a,EvO K te E0 (setL (cL lv fr L) (ss a)) (f a) O') :
  EvO K (tComp lv fr wi g tt te) E L (r.bind fun xs=>compM (fun x=>cond1 (c x) (f x)) xs []) (owLO O'):=by
 intro σ F0 H0 Q hL hs q
 refine hi σ F0 H0 _ hL hs (q.bind.imp fun xs F1 H1 x1 k1 J Y D hD=>?_)
 have hL1:=hL.mono x1.1
 refine ⟨fun i m ys σ' H'=>m=xs.length-i∧i≤xs.length∧∃ acc Fi hh,Ext F1 H1 Fi H'∧Fi D=none∧hh D=none∧H' D=some (.lst ys)∧OwAll O' Fi acc ys hh∧Dj Fi hh∧Same hh H'∧(∀ p,hh p≠none→H1 p=none)∧HoldF (cL lv fr L) σ' F1∧σ'.length=(cL lv fr L).length∧After K (compM (fun x=>cond1 (c x) (f x)) (xs.drop i) acc) E F1 H1 (OwnK (owLO O') H0 Q),
  ⟨_,rfl,Nat.zero_le _,[],F1,fun _=>none,.heap x1.2.1 (zct_ hD _),x1.2.1.free hD,rfl,zP_,fun _=>rfl,fun _=>.inr rfl,(fun p o z=>by cases z),fun p z=>absurd rfl z,zhm_ hL1,zkr_.symm,k1⟩,?_⟩
 rintro i m ys σ' H' ⟨rfl,hi,acc,Fi,hh,xi,hDi,hDh,hy,hp,dj,sh,fresh,hσ,hln,A⟩
 by_cases hlt:i<xs.length
 ·right
  have ex:xs[i]?=some xs[i]:=List.getElem?_eq_getElem hlt
  obtain ⟨g1,g2⟩:=Y.go i H' xs[i] (xi.1.trans xi.2.1) ex
  refine ⟨g1,fun ys' σ'' H''=>i+1≤xs.length∧∃ acc Fi hh,Ext F1 H1 Fi H''∧Fi D=none∧hh D=none∧H'' D=some (.lst ys')∧OwAll O' Fi acc ys' hh∧Dj Fi hh∧Same hh H''∧(∀ p,hh p≠none→H1 p=none)∧HoldF (cL lv fr L) σ'' F1∧σ''.length=(cL lv fr L).length∧After K (compM (fun x=>cond1 (c x) (f x)) (xs.drop (i+1)) acc) E F1 H1 (OwnK (owLO O') H0 Q),fun ys' σ'' H'' z=>⟨xs.length-(i+1),by omega,rfl,z⟩,fun v H2 hyl=>?_⟩
  obtain ⟨F2,x2,hv⟩:=g2 v H2 hyl Fi xi.1 xi.2.1
  have keep:∀ {Fa Ha Fb Hb:Hp},Ext Fa Ha Fb Hb→Fa D=none→Ha D=some (.lst ys)→Dj Fa hh→Same hh Ha→(Fb D=none∧Hb D=some (.lst ys))∧Dj Fb hh∧Same hh Hb:=by
   intro Fa Ha Fb Hb x h1 h2 h3 h4
   refine ⟨⟨?_,x.2.2.1 _ _ h2⟩,fun p=>?_,h4.trans x.2.2.1⟩
   ·cases z:Fb D with
    | none=>rfl
    | some o=>have:=x.2.2.2 D h1 (by rw [z]; exact Option.some_ne_none _); rw [h2] at this; cases this
   ·cases y:hh p with
    | none=>exact .inr rfl
    | some w =>
     left
     rcases h3 p with z | z
     ·cases zz:Fb p with
      | none=>rfl
      | some o=>have:=x.2.2.2 p z (by rw [zz]; exact Option.some_ne_none _); rw [h4 _ _ y] at this; cases this
     ·rw [z] at y; cases y
  obtain ⟨⟨hD2,hy2⟩,dj2,sh2⟩:=keep x2 hDi hy dj sh
  refine hg xs[i] v σ' F2 H2 _ x2.2.1 hv fun vs hpl=>?_
  have hσ2:HoldF (cL lv fr L) σ' F2:=hσ.mono (xi.1.trans x2.1)
  obtain ⟨a1,a2,a3⟩:=zgT_ hpl hln.symm hσ2
  have hσd:HoldF (cL lv fr L) (setS σ' vs) F1:=by
   have hdead:=hd xs[i]
   refine fun j s e=>?_
   by_cases hj:∃ q∈(ss xs[i]).map (·.1),q=j
   ·obtain ⟨q,hq,rfl⟩:=hj
    rw [hdead q hq s e]; trivial
   ·have:((setS σ' vs)[j]?)=σ'[j]?:=zkm_ hpl (fun hq=>hj ⟨j,hq,rfl⟩)
    rw [this]; exact hσ j s e
  have hdrop:xs.drop i=xs[i]::xs.drop (i+1):=List.drop_eq_getElem_cons hlt
  rw [hdrop] at A
  unfold compM at A
  cases ec:c xs[i] with
  | no=>unfold cond1 at A; rw [ec] at A; exact A.elim
  | ex cc=>unfold cond1 at A; rw [ec] at A; exact A.elim
  | ok bb =>
   refine ht xs[i] _ F2 H2 _ a1 x2.2.1 ?_
   rw [ec]
   intro F3 H3 x3
   obtain ⟨⟨hD3,hy3⟩,dj3,sh3⟩:=keep x3 hD2 hy2 dj2 sh2
   have x13:=(xi.trans x2).trans x3
   cases bb with
   | false =>
    rw [if_neg (by decide)]
    refine ⟨hlt,acc,F3,hh,x13,hD3,hDh,hy3,hp.mono (x2.1.trans x3.1),dj3,sh3,fresh,hσd,by rw [a2]; exact hln,?_⟩
    unfold cond1 at A; rw [ec] at A
    exact A
   | true =>
    rw [if_pos rfl]
    cases ef:f xs[i] with
    | no=>unfold cond1 at A; rw [ec,ef] at A; exact A.elim
    | ex cc=>unfold cond1 at A; rw [ec,ef] at A; exact A.elim
    | ok y =>
     unfold cond1 at A; rw [ec,ef] at A
     have A':After K (Mo.lim (acc.length+1) (compM (fun x=>cond1 (c x) (f x)) (xs.drop (i+1)) (acc++[y]))) E F1 H1 (OwnK (owLO O') H0 Q):=A
     obtain ⟨hz,A'⟩:=A'.lim
     refine he xs[i] _ F3 H3 _ (a1.mono x3.1) x3.2.1 ?_
     rw [ef]
     intro F4 H4 x4 v4 hn fr4 dj4n sn4 hv4
     obtain ⟨⟨hD4,hy4⟩,dj4,sh4⟩:=keep x4 hD3 hy3 dj3 sh3
     have hlen:=hp.len
     have hnD:hn D=none:=by
      cases z:hn D with
      | none=>rfl
      | some w=>have:=fr4 D (by rw [z]; exact Option.some_ne_none _); rw [hy3] at this; cases this
     have djn:Dj hh hn:=fun p=>by
      cases z:hn p with
      | none=>exact .inr rfl
      | some w=>exact .inl (sh3.free (fr4 p (by rw [z]; exact Option.some_ne_none _)))
     have x14:=x13.trans x4
     refine ⟨hy4,by omega,hlt,acc++[y],F4,un hh hn,?_,hD4,by unfold un; rw [hDh]; exact hnD,zP_,(hp.mono ((x2.1.trans x3.1).trans x4.1)).snoc hv4 djn,fun p=>?_,fun p o z=>?_,fun p z=>?_,hσd,by rw [a2]; exact hln,A'⟩
     ·refine ⟨x14.1,fun b o z=>?_,fun b o z=>?_,x14.2.2.2⟩
      ·unfold upd; split
       ·rename_i w; rw [w,hD4] at z; cases z
       ·exact x14.2.1 _ _ z
      ·unfold upd; split
       ·rename_i w; rw [w,hD] at z; cases z
       ·exact x14.2.2.1 _ _ z
     ·unfold un
      cases z:hh p with
      | some w =>
       rcases dj4 p with y | y
       ·exact .inl y
       ·rw [y] at z; cases z
      | none=>exact dj4n p
     ·have hpD:p≠D:=fun w=>by
       unfold un at z; rw [w,hDh,hnD] at z; cases z
      unfold upd; rw [if_neg hpD]
      unfold un at z
      cases w:hh p with
      | some o'=>rw [w] at z; cases z; exact sh4 _ _ w
      | none=>rw [w] at z; exact sn4 _ _ z
     ·unfold un at z
      cases w:hh p with
      | some o'=>exact fresh p (by rw [w]; exact Option.some_ne_none _)
      | none=>rw [w] at z; exact x13.2.2.1.free (fr4 p z)
 ·left
  have e:i=xs.length:=by omega
  subst e
  refine ⟨Y.stop H' (xi.1.trans xi.2.1),?_⟩
  rw [List.drop_length] at A
  have A':OwnK (owLO O') H0 Q acc Fi H':=A Fi H' xi
  have dD:Dj (one D (.lst ys)) hh:=fun p=>by
   unfold one; split
   ·rename_i w; rw [w]; exact .inr hDh
   ·exact .inl rfl
  refine A' (.ref D) (un (one D (.lst ys)) hh) (fun p z=>?_) (fun p=>?_) (fun p o z=>?_) ⟨D,ys,hh,rfl,zcw_ dD,hp⟩
  ·unfold un one at z
   by_cases w:p=D
   ·rw [w]; exact x1.2.2.1.free hD
   ·simp only [if_neg w] at z; exact x1.2.2.1.free (fresh p z)
  ·by_cases w:p=D
   ·rw [w]; exact .inl hDi
   ·unfold un one; simp only [if_neg w]; exact dj p
  ·unfold un one at z
   by_cases w:p=D
   ·simp only [if_pos w] at z; rw [w]; cases z; exact hy
   ·simp only [if_neg w] at z; exact sh _ _ z
theorem EvO.weak {O O2:Own α}{e:TE}{r:Mo α}(h:∀ {a v F h},O.O a v F h→O2.O a v F h) (he:EvO K e E L r O):EvO K e E L r O2:=by
 intro σ F H Q hL hs q
 exact he σ F H Q hL hs (q.imp fun a F1 H1 x1 k1 v hp fresh d s o=>k1 v hp fresh d s (h o))
theorem zme_ {h1 h2 h:Hp}(j:Jn h1 h2 h) (n:∀ p,h2 p=none):h=h1:=funext fun p=>by
 rcases j p with ⟨a,b⟩ | ⟨_,b⟩
 ·rw [b,n,a]
 ·exact b
theorem OwAll.plain {T':Ty β}:∀ {xs:List β}{vs:List V}{F h:Hp},OwAll (owF T') F xs vs h→(∀ p,h p=none)∧Prs T' F xs vs
 | [],[],_,_,q=>⟨q,.nil⟩
 | x::xs,v::vs,_,_,⟨h1,h2,j,⟨e,r⟩,q⟩=>have z:=OwAll.plain q; ⟨fun p=>by rw [zme_ j z.1]; exact e p,.cons r z.2⟩
 | [],_::_,_,_,q=>q.elim
 | _::_,[],_,_,q=>q.elim
theorem zeL_ {lv:List Str}{fr:List (Str×Nat)}{wi:TI}{g:TG}{tt:TT}{te:TE}{r:Mo (List α)}{ss:α→List (Nat×Sl)}{c:α→Mo Bool}{f:α→Mo β}{T':Ty β}
  (hi:EvI K wi E L r T) (hg:TgR K g T ss) (hd:∀ a,DeadAt (cL lv fr L) ((ss a).map (·.1))) (ht:∀ a,EvT K tt E0 (setL (cL lv fr L) (ss a)) (c a)) (he:∀ a,EvF K te E0 (setL (cL lv fr L) (ss a)) (f a) T') :
  EvO K (tComp lv fr wi g tt te) E L (r.bind fun xs=>compM (fun x=>cond1 (c x) (f x)) xs []) (owL T') :=
 EvO.weak (O:=owLO (owF T')) (O2:=owL T') (fun ⟨p,vs,k,e,j,q⟩=>have z:=OwAll.plain q; ⟨p,vs,e,zme_ j z.1,z.2⟩) (zfO_ hi hg hd ht fun a=>EvF.ow (he a))
section
open PySem PySem.Spec PyProof.Rows PySem.W
variable {κ:Type}
end
theorem zcO_ {α:Type}{us:List α}{n:Nat}(h:us.length=n+1):∃ a t,us=a::t∧t.length=n:=by
 cases us with
 | nil=>cases h
 | cons a t=>exact ⟨a,t,rfl,Nat.succ.inj h⟩
theorem Fun.binds1 {x qual:Str}{st:Stmt}{f:Addr}{fd:FuncData}{ps:List Str}(hp:ps.length=1) (F:Fun K x qual st f fd) (h:∀ (kV doc pm:Value) (an:Option Addr) (cdv ct:Value) (ua:Value),bindArgs (PySem.W.fnOf x qual (defArgs st) (defBody st) (defScope st) .none kV doc pm an cdv ct) ⟨[ua],[]⟩=pure (ps.zip [ua])):Binds K fd ps []:=by
 refine F.binds fun kV doc pm an cdv ct us hl=>?_
 have h0:=hl.trans hp
 obtain ⟨ua,t1,rfl,h1⟩:=zcO_ h0
 cases List.length_eq_zero_iff.mp h1
 exact h kV doc pm an cdv ct ua
theorem Fun.binds2 {x qual:Str}{st:Stmt}{f:Addr}{fd:FuncData}{ps:List Str}(hp:ps.length=2) (F:Fun K x qual st f fd) (h:∀ (kV doc pm:Value) (an:Option Addr) (cdv ct:Value) (ua ub:Value),bindArgs (PySem.W.fnOf x qual (defArgs st) (defBody st) (defScope st) .none kV doc pm an cdv ct) ⟨[ua,ub],[]⟩=pure (ps.zip [ua,ub])):Binds K fd ps []:=by
 refine F.binds fun kV doc pm an cdv ct us hl=>?_
 have h0:=hl.trans hp
 obtain ⟨ua,t1,rfl,h1⟩:=zcO_ h0
 obtain ⟨ub,t2,rfl,h2⟩:=zcO_ h1
 cases List.length_eq_zero_iff.mp h2
 exact h kV doc pm an cdv ct ua ub
theorem Fun.binds3 {x qual:Str}{st:Stmt}{f:Addr}{fd:FuncData}{ps:List Str}(hp:ps.length=3) (F:Fun K x qual st f fd) (h:∀ (kV doc pm:Value) (an:Option Addr) (cdv ct:Value) (ua ub uc:Value),bindArgs (PySem.W.fnOf x qual (defArgs st) (defBody st) (defScope st) .none kV doc pm an cdv ct) ⟨[ua,ub,uc],[]⟩=pure (ps.zip [ua,ub,uc])):Binds K fd ps []:=by
 refine F.binds fun kV doc pm an cdv ct us hl=>?_
 have h0:=hl.trans hp
 obtain ⟨ua,t1,rfl,h1⟩:=zcO_ h0
 obtain ⟨ub,t2,rfl,h2⟩:=zcO_ h1
 obtain ⟨uc,t3,rfl,h3⟩:=zcO_ h2
 cases List.length_eq_zero_iff.mp h3
 exact h kV doc pm an cdv ct ua ub uc
theorem zgz_ {P:Ps γ}{P':Ps δ}{O1:Own α}{ad:γ→α→δ}{x:γ}{w:V}{k:δ→Mo (Out ρ B S)}(hi:L[i]?=some (.ow (owAt w (owI C ns P)) x)) (hf:f∉ns) (hsm:ns.length<900) (pp:PsAdd P O1 P' ad) (hO:ImmO O1) (he:EvO K e E L r O1) (hk:∀ x',EvS K u E (L.set i (.ow (owAt w (owI C (ns++[f]) P')) x')) (k x') LS LB Or) :
  EvS K (tSeq (mSFld C (mVar i) e f) u) E L (r.bind fun a=>(Mo.ok (ad x a)).bind k) LS LB Or:=by
 intro F0 H0 σ F h H D hL ok fin
 refine he σ (un F h) H _ (hL.froz ok.2.1) ok.thaw (za2_ (G:=F) ok _ (.inl rfl) fin fun a F' H' hra x1 v hn fresh dj hsn hv=>?_)
 obtain ⟨o,hs,ht⟩:=ok.back x1
 rw [hra] at fin
 obtain ⟨v0,k0,e1,⟨ew,p,dx,vs,m,rfl,ndx,jn,hl,ps⟩,kH,kh,_,g⟩:=zfZ_ (hL.mono hs) hi o
 have hp1:H' p=some (.ins C dx (ns.zip vs)):=kH _ _ (jn.l _ _ zgY_)
 refine zc6_ e1 ⟨dx,_,hp1,by rw [List.length_zip]; lia,?_⟩
 rw [zf0_ v hf hl]
 have fr:∀ q,hn q≠none→less F' h q=none∧h q=none∧H0 q=none:=fun q z=>⟨by
  rcases dj q with y | y
  ·exact zaq_.free y
  ·exact absurd y z,ok.2.2.1.free (fresh q z),ok.1.2.2.1.free (fresh q z)⟩
 have dn:Dj hn m:=fun q=>by
  by_cases z:hn q=none
  ·exact .inl z
  ·exact .inr (jn.r.free (kh.free (fr q z).2.1))
 obtain ⟨j',PC⟩:=zg3_ (o':=.ins C dx ((ns++[f]).zip (vs++[v]))) (hn:=hn) o kh ndx jn (Same.refl m) fr hsn dn
 obtain ⟨h',a1,a2⟩:=g (owAt w (owI C (ns++[f]) P')) (ad x a) (.ref p) _ _ _ PC ⟨ew,p,dx,vs++[v],un hn m,rfl,ndx,j',by rw [List.length_append,List.length_append,hl]; rfl,pp ps a v hn _ _ (Same.refl _) (hO ht hv) (zcw_ dn)⟩
 rw [za0_ e1] at a1
 exact hk _ F0 H0 σ _ h' _ D a1 a2 fin
end
end L2
namespace L2
open PySem PySem.Spec PyProof.Rows
section
variable {K:Fgg}{E:XK}{L:List Sl}
end
section
variable {K:Fgg}{E:XK}{α β ρ B:Type}{F0 H0 F h H:Hp}{L:List Sl}{te:TE}{Or:Own ρ}{tb:TS}{LB:B→List Sl}{i w:Nat}
end
end L2
namespace L2
open PySem PySem.Spec PyProof.Rows
section
variable {K:Fgg}{E:XK}{α β γ δ ρ ρ' S B:Type}{F0 H0 F h H:Hp}{L:List Sl}{e te ei tc:TE}{ta:TA}{T:Ty α}{r:Mo α}{Or:Own ρ}{Or':Own ρ'}{t u:TS}{LS:S→List Sl}{LB:B→List Sl}{σ:St}{C:Addr}{ns:List Str}{f m:Str}{i n w j:Nat}
def EvN (K:Fgg) (e:TE) (E:XK) (L:List Sl) (r:Mo α) (T:Ty α):Prop :=
 ∀ σ F H (Q:VK),HoldF L σ F→Same F H→After K r E F H (fun a G H'=>∀ v,(∀ h,Same h F→(∀ p xs,h p≠some (.tup xs))→T.R a v (less G h))→Q v H')→e σ H Q
def EvAN (K:Fgg) (t:TA) (E:XK) (L:List Sl) (r:Mo γ) (C:Cs γ):Prop :=
 ∀ σ F H (Q:List V→Hp→Prop),HoldF L σ F→Same F H→After K r E F H (fun c G H'=>∀ vs,(∀ h,Same h F→(∀ p xs,h p≠some (.tup xs))→C.R c vs (less G h))→Q vs H')→t σ H Q
theorem ziD_ {G:Hp}(s:Same h G) (nt:∀ p xs,h p≠some (.tup xs)):Tups G (less G h):=fun p xs z=>by
 cases y:h p with
 | none=>rw [zx_ y]; exact z
 | some o=>have:=s _ _ y; rw [z] at this; cases this; exact absurd y (nt p xs)
theorem zjF_ (hT:Imm T) (he:EvF K e E L r T):EvN K e E L r T:=by
 intro σ F H Q hL hs q
 exact he σ F H Q hL hs (q.imp fun a G H' x k v hv=>k v fun h sh nt=>hT (ziD_ (sh.trans x.1) nt) hv)
theorem zhO_ (h:EvN K e E L r T):EvAN K (tCons e tNil) E L r (csLast T):=by
 intro σ F H Q hL hs q
 exact h σ F H _ hL hs (q.imp fun a G H' x k v hv=>k [v] fun h sh nt=>⟨v,rfl,hv h sh nt⟩)
theorem zgi_ {O:Own α}{P:Ps β}{r0:Mo (β×(β→α))}{Q:Cs γ}{ta:TA}{ra:Mo γ}{g:β→γ→Mo (ρ'×β)}{Or':Own ρ'}(hno:m∉ns) (hI:ImmO (owI C ns P)) (hR:ImmO Or') (hp:EvPw K te E L i O (owI C ns P) r0) (ha:EvAN K ta E L ra Q) :
  EvM K (tMeth C m (CtM K (owI C ns P) (owI C ns P) Q g Or') [] E0 te ta) E L i O Or' (r0.bind fun yp=>ra.bind fun c=>(g yp.1 c).noex.bind fun q=>.ok (q.1,yp.2 q.2)):=by
 intro F0 H0 σ F h H R hL ok fin
 show te σ H fun x H1=>∃ a dx fs,x=.ref a∧H1 a=some (.ins C dx fs)∧fs.lookup m=none∧ta σ H1 fun vs H2=>CtM K (owI C ns P) (owI C ns P) Q g Or' (x::(vs++[])) H2 R E0
 refine hp F0 H0 σ F h H _ hL ok (zjz_ ok fin fun yp G1 H1 hr0 x1 uu il hh=>?_)
 obtain ⟨o1,hs1,_⟩:=ok.back x1
 rw [hr0] at fin
 have hi:(L.set i (.ow (owPn uu (owI C ns P) yp.2 O) yp.1))[i]?=some (.ow (owPn uu (owI C ns P) yp.2 O) yp.1):=by rw [List.getElem?_set_self (by exact il)]
 obtain ⟨_,_,_,_,j0,⟨_,_,ka0,kb0,jk0,⟨p,dx,vs0,m0,rfl,ndx,jn,hl,ps⟩,_⟩,_⟩:=hh.at i hi
 refine ⟨p,dx,_,rfl,o1.2.2.1 _ _ (j0.l _ _ (jk0.l _ _ (jn.l _ _ zgY_))),zaF_ hno,?_⟩
 refine ha σ (un (less G1 h) h) H1 _ ((hL.mono hs1).froz o1.2.1) o1.thaw (zjz_ o1 fin fun c G2 H2 hra x2 vs hvs=>?_)
 obtain ⟨o2,hs2,ht2⟩:=o1.back x2
 rw [hra] at fin
 rw [List.append_nil]
 obtain ⟨_,k,hrest,e1,j,⟨v0,rfl,ka,kb,jk,hO,wand⟩,f⟩:=(hh.mono hs2).atM i hi
 have kh1:Same ka h:=jk.l.trans j.l
 have sFc:Same (un (less G2 h) (less h ka)) H2:=fun q o z=>by
  unfold un at z
  cases y:less G2 h q with
  | some s=>rw [y] at z; rw [← z]; exact o2.1.2.1 _ _ y
  | none=>rw [y] at z; exact o2.2.2.1 _ _ (zaq_ _ _ z)
 have djc:Dj (un (less G2 h) (less h ka)) ka:=fun q=>by
  by_cases z:ka q=none
  ·exact .inr z
  ·left
   unfold un
   have:less G2 h q=none:=zF_ q fun y=>z (kh1.free y)
   rw [this]; exact zF_ q z
 refine ⟨un (less G2 h) (less h ka),ka,yp.1,c,.ref p,vs,rfl,sFc,djc,kh1.trans o2.2.2.1,(owI C ns P).mono zR_ hO,Q.mono zR_ (hvs h (zfy_ o1.2.1) o1.2.2.2.2),?_⟩
 have fin:FinM K ((g yp.1 c).noex.bind fun q=>.ok (q.1,yp.2 q.2)) E F0 H0 _:=fin
 cases e:g yp.1 c with
 | no=>rw [e] at fin; exact fin
 | ex cc=>rw [e] at fin; exact fin.elim
 | ok q =>
  rw [e] at fin
  rintro F' h' H' okc v ⟨hr,hs',j',hRes,hO2⟩
  obtain ⟨ff,tp,d1,d2,d3,okk⟩:=zfT_ o2 j jk okc j'
  have hold:=f (less F' (less h ka)) (.ow O (yp.2 q.2)) (some v0) (un hs' kb) _ ff (zcw_ d2) ⟨v0,rfl,wand q.2 hs' _ _ ff (hI tp hO2) (zcw_ d1)⟩
  rw [za0_ e1,List.set_set] at hold
  exact fin _ _ H' okk v _ hr (zcw_ d3) hold (hR tp hRes)
theorem zjd_ {O:Own α}{r:Mo (ρ'×α)}{k:ρ'×α→Mo (Out ρ B S)}(hm:EvM K tc E L i O Or' r) (hk:∀ q,EvS K u E (L.set i (.ow O q.2)) (k q) LS LB Or):EvS K (tSeq (tDrop tc) u) E L (r.bind k) LS LB Or:=by
 intro F0 H0 σ F h H D hL ok fin
 show tc σ H fun _ H3=>u D σ H3
 refine hm F0 H0 σ F h H _ hL ok (zhl_ fin fun q F' h' H' hr o v h1 h2 j hold res=>?_)
 rw [hr] at fin
 exact hk q F0 H0 σ F' h1 H' D hold (zgk_ o j.l) fin
end
end L2
namespace L2
open PySem PySem.Spec PyProof.Rows
section
variable {K:Fgg}{E:XK}{α κ:Type} [DecidableEq κ] {KY:KyT κ}{L:List Sl}{e1 e2 e3:TE}{T:Ty α}
end
section
variable {K:Fgg}{E:XK}{α β ρ ρ' B:Type}{L:List Sl}{te:TE}{Or:Own ρ}{Or':Own ρ'}{LB:B→List Sl}{C:Addr}{ns:List Str}{m:Str}{i w:Nat}
end
end L2
namespace L2
open PySem PySem.Spec PyProof.Rows
section
variable {K:Fgg}{E:XK}{α β γ δ ρ ρ' S B:Type}{F0 H0 F h H:Hp}{L:List Sl}{e te te2 tc:TE}{ta:TA}{T:Ty α}{r:Mo α}{Or:Own ρ}{Or':Own ρ'}{t u:TS}{LS:S→List Sl}{LB:B→List Sl}{σ:St}{C:Addr}{ns:List Str}{f m:Str}{i n w j:Nat}
theorem zz_ {Q:Cs γ}{r0:Mo γ}{g:γ→Mo α}{O:Own α}(hno:m∉ns) (he:EvF K te E L r0 (tyI C ns Q)) :
  EvO K (tMeth C m (Ct K (csLast (tyI C ns Q)) g O) [] E0 te tNil) E L (r0.bind fun x=>(g x).noex) O:=by
 intro σ F H R hL hs q
 refine he σ F H _ hL hs (q.bind.imp fun x F1 H1 x1 k1 v hv=>?_)
 obtain ⟨p,dx,vs,rfl,hp,hl,hc⟩:=id hv
 refine ⟨p,dx,_,rfl,x1.2.1 _ _ hp,zaF_ hno,?_⟩
 exact ⟨F1,x,x1.2.1,⟨_,rfl,hv⟩,k1.noex.imp fun a F3 H3 x3 k3 w h fresh d s o=>k3 w h (fun p z=>x1.2.2.1.free (fresh p z)) d s o⟩
theorem zfd_ {s:Sl}{o:Option V}(hl:L.length=σ.length) (h:HoldF L σ F) (hs:s.Z o F):HoldF (L++[s]) (σ++[o]) F:=by
 intro j t e
 by_cases hj:j<L.length
 ·rw [List.getElem?_append_left hj] at e
  rw [List.getElem?_append_left (by lia)]
  exact h j t e
 ·rw [List.getElem?_append_right (by lia)] at e
  rw [List.getElem?_append_right (by lia)]
  have hj0:j-L.length=0:=by
   by_cases z:j-L.length=0
   ·exact z
   ·rw [List.getElem?_eq_none (by simp; lia)] at e; cases e
  rw [hj0] at e
  cases e
  rw [← hl,hj0]
  exact hs
end
end L2
namespace L2
open PySem PySem.Spec PyProof.Rows
section
variable {X:Cx}{tg:Expr}
end
section
variable {K:Fgg}{E:XK}{α β:Type}{L:List Sl}{T:Ty α}
end
section
variable {X:Cx}{o e f:Expr}{apos cpos:Pos}{td ty tz:TE}
end
section
variable {K:Fgg}{E:XK}{α β γ ρ κ S B:Type}{F0 H0 F h H:Hp}{L:List Sl}{T:Ty α}{O:Own ρ}{t u:TS}{LS:S→List Sl}{LB:B→List Sl}{KY:KyT κ} [DecidableEq κ]
end
end L2
namespace L2
open PySem PySem.Spec PyProof.Rows
section
variable {X:Cx}{pins:Pnn}{σ:St}{H:Hp}{s:Shared}{d:Addr}{o:Obj}{kvs:List (Key×V)}
end
section
variable {X:Cx}{e:Expr}{te:TE}{apos cpos pos tpos:Pos}{elts:List Expr}{kk:Nat}
end
abbrev hpE:Hp:=fun _=>none
section
variable {F0 H0 F1 H1 F h H:Hp}{d:Addr}{o:Obj}{u:HO}
end
section
variable {K:Fgg}{E:XK}{α β γ ρ κ S B:Type}{L Li:List Sl}{T:Ty α}{O:Own ρ}{LB:B→List Sl}{KY:KyT κ}
end
end L2
namespace L2
open PySem PySem.Spec PyProof.Rows
section
variable {K:Fgg}{E:XK}{α β γ ρ κ S B:Type}{F0 H0 F h H:Hp}{L:List Sl}{T:Ty α}{O:Own ρ}{t u:TS}{e e1 e2:TE}{LS:S→List Sl}{LB:B→List Sl}{KY:KyT κ}
variable [DecidableEq κ]
end
section
variable {K:Fgg}{E:XK}{α κ:Type}{T:Ty α}{KY:KyT κ} [DecidableEq κ]
end
end L2
namespace L2
open PySem PySem.Spec PyProof.Rows
section
variable {X:Cx}{pins:Pnn}{σ:St}{H:Hp}{s:Shared}{A:Around}{p q:Addr}{ka kb:List (Key×V)}
end
section
variable {K:Fgg}{E:XK}
end
end L2
namespace L2
open PySem PySem.Spec PyProof.Rows
section
variable {K:Fgg}{E:XK}{L:List Sl}{e:TE}
end
end L2
namespace L2
open PySem PySem.Spec PyProof.Rows
section
variable {K:Fgg}{E:XK}{α β γ ρ ρ' S B:Type}{F0 H0 F h H:Hp}{L:List Sl}{T:Ty α}{Or:Own ρ}{t u:TS}{e e1 e2 te:TE}{LS:S→List Sl}{LB:B→List Sl}{i j:Nat}{σ:St}
end
section
variable {K:Fgg}{E:XK}{α β γ ρ κ S B:Type}{T:Ty α}{O:Own ρ}{LB:B→List Sl}{KY:KyT κ}
end
end L2
namespace L2
open PySem PySem.Spec PyProof.Rows
section
variable {K:Fgg}{E E0:XK}{α β γ ρ ρ' S B:Type}{F0 H0 F h H:Hp}{L:List Sl}{T:Ty α}{Or:Own ρ}{t u:TS}{e te:TE}{LS:S→List Sl}{LB:B→List Sl}{i j n:Nat}{σ:St}
def putL.{uu} {α:Type uu}:Nat→α→List α→List α
 | 0,x,l=>x::l
 | n+1,x,y::l=>y::putL n x l
 | _+1,x,[]=>[x]
theorem putL_len.{uu} {α:Type uu}(x:α):∀ (n:Nat) (l:List α),(putL n x l).length=l.length+1
 | 0,l=>rfl
 | n+1,y::l=>by show (putL n x l).length+1=_; rw [putL_len x n l]; rfl
 | n+1,[]=>rfl
theorem zg9_ {α β:Type}(f:α→β) (x:α):∀ (n:Nat) (l:List α),(putL n x l).map f=putL n (f x) (l.map f)
 | 0,l=>rfl
 | n+1,y::l=>by show f y::(putL n x l).map f=f y::putL n (f x) (l.map f); rw [zg9_ f x n l]
 | n+1,[]=>rfl
theorem zhv_ {α:Type}(x:α):∀ (n:Nat) (l l':List α),n≤l.length→putL n x l++l'=putL n x (l++l')
 | 0,l,l',_=>rfl
 | n+1,y::l,l',h=>by show y::(putL n x l++l')=y::putL n x (l++l'); rw [zhv_ x n l l' (Nat.le_of_succ_le_succ h)]
 | n+1,[],l',h=>by cases h
def CtMk (K:Fgg) (n:Nat) (O:Own α) (O2:Own β) (Q:Cs γ) (g:α→γ→Mo (ρ×β)) (Or:Own ρ):Sp:=fun vs H R E=>∃ F h x c w ws,vs=putL n w ws∧Same F H∧Dj F h∧Same h H∧O.O x w F h∧Q.R c ws F ∧
 FinM K (g x c) E F (less H h) fun r F' h' H'=>∀ v,(owRM w O2 Or).O r v F' h'→R v H'
theorem zke_ {h1 h2:Hp}(j:Jn h1 h2 hpE):h1=hpE∧h2=hpE:=by
 refine ⟨funext fun p=>?_,funext fun p=>?_⟩
 ·rcases j p with ⟨a,_⟩ | ⟨_,b⟩
  ·exact a
  ·exact b.symm
 ·rcases j p with ⟨_,b⟩ | ⟨a,_⟩
  ·exact b.symm
  ·exact a
theorem zg0_ {s:Sl}{o:Option V}(hp:s.P o F h):∀ (n:Nat) {L:List Sl}{σ:St},Hold L σ F hpE→Hold (putL n s L) (putL n o σ) F h
 | 0,L,σ,q=>⟨h,hpE,fun _=>.inr ⟨rfl,rfl⟩,hp,q⟩
 | n+1,[],[],q=>⟨h,hpE,fun _=>.inr ⟨rfl,rfl⟩,hp,q⟩
 | n+1,s'::L,o'::σ,⟨h1,h2,jj,p,r⟩=>by
  obtain ⟨e1,e2⟩:=zke_ jj
  subst e1; subst e2
  exact ⟨hpE,h,fun _=>.inl ⟨rfl,rfl⟩,p,zg0_ hp n r⟩
 | n+1,[],_::_,q=>q.elim
 | n+1,_::_,[],q=>q.elim
theorem zkh_ {t:XK→TS}{O:Own α}{O2:Own β}{Q:Cs γ}{ss:γ→List Sl}{g:α→γ→Mo (Out (ρ×β) Unit Unit)}{N:List Str}(k n m:Nat) (hk:k≤n) (hn:CsN Q n) (hm:N.length-(n+1)=m) (hC:CsS Q ss)
  (hb:∀ w x c E,EvS K (t E) E (putL k (.ow (owAt w O) x) (ss c++List.replicate m .dead)) (g x c) (fun _:Unit=>[]) (fun _:Unit=>[]) (owRM w O2 Or)) :
  ∀ vs H R E,CtMk K k O O2 Q (fun x c=>fnMR (g x c)) Or vs H R E→t E { nx:=fun _ H'=>R .non H',rt:=R } (start N vs) H:=by
 rintro vs H R E ⟨F,h,x,c,w,ws,rfl,hs,dj,hh,hO,hc,q⟩
 have hstart:start N (putL k w ws)=putL k (some w) (ws.map some++List.replicate m none):=by
  unfold start
  rw [putL_len,hn hc,hm,zg9_,zhv_ _ _ _ _ (by rw [List.length_map,hn hc]; exact hk)]
 rw [hstart]
 refine hb w x c E F (less H h) _ F h H _ (zg0_ (s:=.ow (owAt w O) x) ⟨w,rfl,rfl,hO⟩ k ((hC hc).hold m)) (zh2_ hs dj hh (O.notup hO)) ?_
 cases e:g x c with
 | no=>simp only [fnMR,e] at q; exact q
 | ex cc=>simp only [fnMR,e] at q; exact q
 | ok o =>
  simp only [fnMR,e] at q
  cases o with
  | nx s=>exact q.elim
  | bk s=>exact q.elim
  | ct s=>exact q.elim
  | rt a=>exact fun v F' h' H' ok hv=>q F' h' H' ok v hv
inductive TaIn (i:Nat):Nat→TA→TA→Prop
 | zero {ta:TA}:TaIn i 0 ta (tCons (mVar i) ta)
 | succ {n:Nat}{e:TE}{ta ta':TA}(h:TaIn i n ta ta'):TaIn i (n+1) (tCons e ta) (tCons e ta')
theorem zlv_ {w:V}(e:σ[i]?=some (some w)) (H:Hp) (Q:VK):mVar i σ H Q=Q w H:=by unfold mVar; rw [e]
theorem TaIn.eq {ta ta':TA}{w:V}(h:TaIn i n ta ta') (e:σ[i]?=some (some w)):∀ (H:Hp) (Q:List V→Hp→Prop),ta' σ H Q=ta σ H fun vs H1=>Q (putL n w vs) H1:=by
 induction h with
 | zero=>intro H Q; exact zlv_ e H _
 | succ _ ih =>
  intro H Q
  unfold tCons
  congr 1
  funext x H1
  exact ih H1 _
theorem zjb_ (d:Dj F h):less F h=F:=funext fun p=>by
 cases y:h p with
 | none=>exact zx_ y
 | some w =>
  rw [zF_ p (by rw [y]; exact Option.some_ne_none _)]
  rcases d p with z | z
  ·exact z.symm
  ·rw [y] at z; cases z
theorem zhH_ {O':Own β}{x:β}{Q:Cs γ}{ta ta':TA}{ra:Mo γ}{g:β→γ→Mo (ρ'×β)}{Or':Own ρ'}(hi:L[i]?=some (.ow O' x)) (hI:ImmO O') (hR:ImmO Or') (ht:TaIn i n ta ta') (ha:EvA K ta E (L.map Sl.cold) ra Q) :
  EvM K (tCall (CtMk K n O' O' Q g Or') [] E0 ta') E L i O' Or' (ra.bind fun c=>(g x c).noex.bind fun q=>.ok (q.1,q.2)):=by
 intro F0 H0 σ F h H R hL ok fin
 obtain ⟨_,_,_,e0,_,⟨v0,rfl,_⟩,_⟩:=hL.at i hi
 show ta' σ H fun vs H1=>CtMk K n O' O' Q g Or' (vs++[]) H1 R E0
 rw [ht.eq e0]
 have aft:∀ {kk:γ→Hp→Hp→Prop},(∀ c F' H',ra=.ok c→Ext F H F' H'→kk c F' H')→After K ra E F H kk:=fun {kk} hk=>by
  cases e:ra with
  | ok c=>exact fun F' H' x=>hk c F' H' e x
  | no=>rw [e] at fin; exact fin
  | ex cc=>rw [e] at fin; exact fun F' H' x=>fin _ _ _ (ok.cold x)
 refine ha σ F H _ hL.coldF ok.1.2.1 (aft fun c F2 H2 hra x2 vs hvs=>?_)
 rw [hra] at fin
 have o2:=ok.cold x2
 rw [List.append_nil]
 obtain ⟨_,k,hrest,e1,j,⟨v1,e2,hO⟩,f⟩:=(hL.mono x2.1).atM i hi
 rw [e0] at e1
 cases e1
 cases e2
 have kh1:Same k h:=j.l
 have sFc:Same (un F2 (less h k)) H2:=fun q o z=>by
  unfold un at z
  cases y:F2 q with
  | some s=>rw [y] at z; rw [← z]; exact o2.1.2.1 _ _ y
  | none=>rw [y] at z; exact o2.2.2.1 _ _ (zaq_ _ _ z)
 have djc:Dj (un F2 (less h k)) k:=fun q=>by
  by_cases z:k q=none
  ·exact .inr z
  ·left
   unfold un
   have:F2 q=none:=by
    rcases o2.2.1 q with y | y
    ·exact y
    ·exact absurd (kh1.free y) z
   rw [this]; exact zF_ q z
 refine ⟨un F2 (less h k),k,x,c,v0,vs,rfl,sFc,djc,kh1.trans o2.2.2.1,O'.mono zR_ hO,Q.mono zR_ hvs,?_⟩
 have fin:FinM K ((g x c).noex.bind fun q=>.ok (q.1,q.2)) E F0 H0 _:=fin
 cases e:g x c with
 | no=>rw [e] at fin; exact fin
 | ex cc=>rw [e] at fin; exact fin.elim
 | ok q =>
  rw [e] at fin
  rintro F' h' H' okc v ⟨hr,hs',j',hRes,hO2⟩
  have el:=zjb_ o2.2.1
  have jk:Jn k hpE k:=fun _=>.inr ⟨rfl,rfl⟩
  obtain ⟨ff,tp,d1,d2,d3,okk⟩:=zfT_ (G2:=F2) (by rw [el]; exact o2) j jk (by rw [el]; exact okc) j'
  rw [el] at ff
  have eh:un hs' hpE=hs':=zme_ (zcw_ d1) fun _=>rfl
  have hold:=f (less F' (less h k)) (.ow O' q.2) (some v0) (un hs' hpE) _ ff (zcw_ d2) ⟨v0,rfl,by rw [eh]; exact hI tp hO2⟩
  rw [za0_ e0] at hold
  exact fin _ _ H' okk v _ hr (zcw_ d3) hold (hR tp hRes)
variable {tc te2:TE}{w:Nat}
theorem zhc_ {Or':Own ρ'}{a:ρ'}{v:V}{F' h' h1 h2 H':Hp}(o:Okk F0 H0 F' h' H') (j:Jn h1 h2 h') (res:Or'.O a v F' h2):Okk F0 H0 (un F' h2) h1 H'∧Or'.fr.R a v (un F' h2):=by
 refine ⟨zl2_ (zgk_ o j.l) (fun p z=>⟨o.2.2.2.1 p fun y=>z (j.r.free y),?_⟩) (j.r.trans o.2.2.1),Or'.frz (fun p=>?_) res⟩
 ·rcases j.dj p with y | y
  ·exact y
  ·exact absurd y z
 ·rcases o.2.1 p with z | z
  ·exact .inl z
  ·exact .inr (j.r.free z)
end
end L2
namespace L2
open PySem PySem.Spec PyProof.Rows
def Fi (K:Fgg) (x q:Str) (st:Stmt) (f:Addr):Prop:=∃ (oc:Value) (od:Option Addr) (kV doc pm:Value) (an:Option Addr) (cdv ct:Value) (osl:Array (Option Value)),
 K.lookup f=some ⟨oc,od,.func (PySem.W.fnOf x q (defArgs st) (defBody st) (defScope st) .none kV doc pm an cdv ct),osl⟩∧PySem.W.codeIn K cdv q=true∧PySem.W.keepIn K (.ref f)=true
def Fg (K:Fgg) (x:Str) (st:Stmt):Prop:=∃ f,PySem.W.nsIn K mainGlobals x=some (some (.ref f))∧Fi K x x st f
def Fm (K:Fgg) (c m q:Str) (st:Stmt):Prop:=∃ cw f,PySem.W.nsIn K mainGlobals c=some (some (.ref cw))∧PySem.W.findIn K (.ref cw) m=some (some (.ref f))∧PySem.W.isFn K (.ref f)=true∧Fi K m q st f
def Fc (K:Fgg) (c:Str):Prop:=∃ cw,PySem.W.nsIn K mainGlobals c=some (some (.ref cw))∧PySem.W.plainGet K cw Str.empty=true∧PySem.W.hasDictIn K cw=true∧PySem.W.plainOver K cw=true ∧
 PySem.W.findIn K (.ref cw) "__setattr__" = some (some (.builtin "object.__setattr__"))∧PySem.W.makesIn K cw=true∧PySem.W.keepIn K (.ref cw)=true
def Fa (K:Fgg) (c a:Str):Prop:=∃ cw,PySem.W.nsIn K mainGlobals c=some (some (.ref cw))∧PySem.W.findIn K (.ref cw) a=some none
def Fb (K:Fgg) (x:Str):Prop:=PySem.W.nsIn K mainGlobals x=some none
def Fv (K:Fgg) (x:Str) (v:V):Prop:=∃ u,PySem.W.nsIn K mainGlobals x=some (some u)∧RelV v u
def Fk (K:Fgg) (x:Str):Prop:=∃ c,PySem.W.nsIn K mainGlobals x=some (some (.ref c))
def Mgo (K:Fgg) (mg:Str→Option Value):Prop:=∃ h:Heap,K.In h∧h.Ns mainGlobals mg
section
variable {P:Program}{w:World}{K:Fgg}{mg:Str→Option Value}{base:Heap}{CX:CXT}{x q c m a:Str}{st:Stmt}{f:Addr}{fd:FuncData}{N ps:List Str}{k j:Nat}{sp:Sp}{A:Around}{v:V}
theorem Fg.mk_ {oc:Value}{od:Option Addr}{kV doc pm:Value}{an:Option Addr}{cdv ct:Value}{osl:Array (Option Value)}(h:PySem.W.nsIn K mainGlobals x=some (some (.ref f))) (l:K.lookup f=some ⟨oc,od,.func (PySem.W.fnOf x x (defArgs st) (defBody st) (defScope st) .none kV doc pm an cdv ct),osl⟩) (c:PySem.W.codeIn K cdv x=true) (k:PySem.W.keepIn K (.ref f)=true):Fg K x st:=⟨f,h,oc,od,kV,doc,pm,an,cdv,ct,osl,l,c,k⟩
theorem Fm.mk_ {cw:Addr}{oc:Value}{od:Option Addr}{kV doc pm:Value}{an:Option Addr}{cdv ct:Value}{osl:Array (Option Value)}(h:PySem.W.nsIn K mainGlobals c=some (some (.ref cw))) (h1:PySem.W.findIn K (.ref cw) m=some (some (.ref f))) (h2:PySem.W.isFn K (.ref f)=true) (l:K.lookup f=some ⟨oc,od,.func (PySem.W.fnOf m q (defArgs st) (defBody st) (defScope st) .none kV doc pm an cdv ct),osl⟩) (h3:PySem.W.codeIn K cdv q=true) (k:PySem.W.keepIn K (.ref f)=true):Fm K c m q st:=⟨cw,f,h,h1,h2,oc,od,kV,doc,pm,an,cdv,ct,osl,l,h3,k⟩
theorem Fc.mk_ {cw:Addr}(h:PySem.W.nsIn K mainGlobals c=some (some (.ref cw))) (h1:PySem.W.plainGet K cw Str.empty=true) (h2:PySem.W.hasDictIn K cw=true) (h3:PySem.W.plainOver K cw=true) (h4:PySem.W.findIn K (.ref cw) "__setattr__" = some (some (.builtin "object.__setattr__"))) (h5:PySem.W.makesIn K cw=true) (h6:PySem.W.keepIn K (.ref cw)=true):Fc K c:=⟨cw,h,h1,h2,h3,h4,h5,h6⟩
theorem Fa.mk_ {cw:Addr}(h:PySem.W.nsIn K mainGlobals c=some (some (.ref cw))) (h1:PySem.W.findIn K (.ref cw) a=some none):Fa K c a:=⟨cw,h,h1⟩
theorem Fv.mk_ {u:Value}(h:PySem.W.nsIn K mainGlobals x=some (some u)) (h1:RelV v u):Fv K x v:=⟨u,h,h1⟩
theorem Fk.mk_ {cw:Addr}(h:PySem.W.nsIn K mainGlobals x=some (some (.ref cw))):Fk K x:=⟨cw,h⟩
theorem Fi.fun_ (h:Fi K x q st f):∃ fd,Fun K x q st f fd:=by
 obtain ⟨oc,od,kV,doc,pm,an,cdv,ct,osl,l,c,k⟩:=h
 exact ⟨_,zlC_ l c k⟩
theorem Mgo.gb (M:Mgo K mg) (h:Fb K x):Gb mg x:=by
 obtain ⟨_,X,G⟩:=M
 exact PySem.W.mg_none_of X G h
theorem Mgo.gv (M:Mgo K mg) (h:Fv K x v):Gc mg x v:=by
 obtain ⟨_,X,G⟩:=M; obtain ⟨u,e,r⟩:=h
 exact ⟨u,PySem.W.mg_of X G e,r⟩
theorem Mgo.gk (M:Mgo K mg) (h:Fk K x):mg x=some (.ref (gA K x)):=by
 obtain ⟨_,X,G⟩:=M; obtain ⟨u,e⟩:=h
 rw [zjk_ e]; exact PySem.W.mg_of X G e
theorem Mgo.gkc (M:Mgo K mg) (h:Fk K x):Gc mg x (.ref (gA K x)):=⟨_,M.gk h,rfl⟩
theorem Fc.cls (h:Fc K c):Cls K (gA K c):=by
 obtain ⟨cw,e,h1,h2,h3,h4,_⟩:=h
 rw [zjk_ e]; exact ⟨h1,h2,h3,h4⟩
theorem Fa.no (h:Fa K c a):NoAttr K (gA K c) a:=by
 obtain ⟨cw,e,h⟩:=h
 rw [zjk_ e]; exact h
abbrev OkF (P:Program) (w:World) (K:Fgg) (mg:Str→Option Value) (base:Heap) (CX:CXT) (k:Nat) (x q:Str) (st:Stmt) (ps:List Str) (sp:Sp):Prop:=∀ f fd,Fun K x q st f fd→FnOk P w K mg base CX k f fd ps sp∧Binds K fd ps []
theorem zfu_ (M:Mgo K mg) (F:Fg K x st) (h:OkF P w K mg base CX k x x st ps sp):Gd P w K mg base CX k x ps sp:=by
 obtain ⟨_,X,G⟩:=M; obtain ⟨f,e,i⟩:=F; obtain ⟨fd,F⟩:=i.fun_
 exact ⟨f,fd,(h f fd F).1,PySem.W.mg_of X G e,F.kp,(h f fd F).2⟩
theorem zfF_ (C:Fc K c) (F:Fm K c m q st) (h:OkF P w K mg base CX k m q st ps sp):Gm P w K mg base CX k (gA K c) m ps sp:=by
 obtain ⟨cw,f,e,e2,e3,i⟩:=F; obtain ⟨fd,F⟩:=i.fun_
 exact ⟨f,fd,(h f fd F).1,C.cls,by rw [zjk_ e]; exact ⟨e2,e3,F.kp⟩,(h f fd F).2⟩
theorem gk_of (M:Mgo K mg) (C:Fc K c) (F:Fm K c "__init__" q st) (h:OkF P w K mg base CX k "__init__" q st ps sp):Gk P w K mg base CX k c (gA K c) ps sp:=by
 obtain ⟨cw,f,e,e2,e3,i⟩:=F; obtain ⟨fd,F⟩:=i.fun_
 obtain ⟨cw',e',_,_,_,_,h5,h6⟩:=C
 cases e.symm.trans e'
 refine ⟨f,fd,(h f fd F).1,by rw [zjk_ e]; exact ⟨h5,e2,e3,h6⟩,M.gk ⟨_,e⟩,(h f fd F).2⟩
theorem hm (hr:Room k A) (h:j≤k:=by decide):Room j A:=hr.mono h
end
section
variable {P:Program}{w:World}{K:Fgg}{mg:Str→Option Value}{base:Heap}{x q:Str}{st:Stmt}{N ps:List Str}{k:Nat}{α β γ ρ:Type}
abbrev Tm (P:Program) (w:World) (K:Fgg) (mg:Str→Option Value) (base:Heap) (k:Nat) (N:List Str) (q:Str) (st:Stmt) (t:XK→TS):Prop :=
 ∀ (cdv:Value) (A:Around) (outer:List Env) (s:Shared) (H:Hp) (f:Addr) (E:XK),N.Nodup→Room k (A.deeper (envOfC q (defScope st) s.heap.objs.size f cdv))→PSs (cxOf CX0 P w K mg base N q (defScope st) f cdv A outer s H E).nox (defBody st) (t E)
abbrev TmX (P:Program) (w:World) (K:Fgg) (mg:Str→Option Value) (base:Heap) (k:Nat) (N:List Str) (q:Str) (st:Stmt) (t:XK→TS):Prop :=
 ∀ (cdv:Value) (A:Around) (outer:List Env) (s:Shared) (H:Hp) (f:Addr) (E:XK),N.Nodup→Room k (A.deeper (envOfC q (defScope st) s.heap.objs.size f cdv))→PSs (cxOf (CXx P w) P w K mg base N q (defScope st) f cdv A outer s H E) (defBody st) (t E)
abbrev Bnd (K:Fgg) (x q:Str) (st:Stmt) (ps:List Str):Prop:=∀ f fd,Fun K x q st f fd→Binds K fd ps []
theorem okC {C:Cs γ}{O:Own ρ}{ss:γ→List Sl}{g:γ→Mo (Out ρ Unit Unit)}{t:XK→TS}(n m:Nat) (hC:CsS C ss) (tm:Tm P w K mg base k N q st t)
  (ev:∀ c E,EvS K (t E) E (ss c++List.replicate m .dead) (g c) (fun _:Unit=>[]) (fun _:Unit=>[]) O) (hn:CsN C n:=by repeat first | exact zao_ | exact zfe_ | refine zaa_ ?_) (S:FnScope N ps (defScope st):=by exact ⟨rfl,rfl,rfl,by decide +kernel,rfl,by decide +kernel,by decide +kernel⟩) (b:Bnd K x q st ps:=by first | exact fun _ _ F=>Fun.binds1 rfl F fun _ _ _ _ _ _ _=>rfl | exact fun _ _ F=>Fun.binds2 rfl F fun _ _ _ _ _ _ _ _=>rfl | exact fun _ _ F=>Fun.binds3 rfl F fun _ _ _ _ _ _ _ _ _=>rfl | exact fun _ _ F=>Fun.binds4 rfl F fun _ _ _ _ _ _ _ _ _ _=>rfl | exact fun _ _ F=>Fun.binds5 rfl F fun _ _ _ _ _ _ _ _ _ _ _=>rfl | exact fun _ _ F=>Fun.binds6 rfl F fun _ _ _ _ _ _ _ _ _ _ _ _=>rfl | exact fun _ _ F=>Fun.binds7 rfl F fun _ _ _ _ _ _ _ _ _ _ _ _ _=>rfl) (hp:ps.length=n:=by rfl) (hm:N.length-n=m:=by rfl):OkF P w K mg base CX0 (k+1) x q st ps (Ct K C (fun c=>fnO (g c)) O):=fun f fd F =>
 ⟨F.ok S (fun vs H Q E h=>by obtain ⟨F,c,_,hc,_⟩:=h; exact (hn hc).trans hp.symm) fun cdv A outer s H vs Q E hr h=>⟨t E,tm cdv A outer s H f E S.nd hr,znc_ (N:=N) (t:=t) n m hn hm hC ev vs H Q E h⟩,b f fd F⟩
theorem okX {C:Cs γ}{O:Own ρ}{ss:γ→List Sl}{g:γ→Mo (Out ρ Unit Unit)}{t:XK→TS}(n m:Nat) (hC:CsS C ss) (tm:TmX P w K mg base k N q st t)
  (ev:∀ c E,EvS K (t E) E (ss c++List.replicate m .dead) (g c) (fun _:Unit=>[]) (fun _:Unit=>[]) O) (hn:CsN C n:=by repeat first | exact zao_ | exact zfe_ | refine zaa_ ?_) (S:FnScope N ps (defScope st):=by exact ⟨rfl,rfl,rfl,by decide +kernel,rfl,by decide +kernel,by decide +kernel⟩) (b:Bnd K x q st ps:=by first | exact fun _ _ F=>Fun.binds1 rfl F fun _ _ _ _ _ _ _=>rfl | exact fun _ _ F=>Fun.binds2 rfl F fun _ _ _ _ _ _ _ _=>rfl | exact fun _ _ F=>Fun.binds3 rfl F fun _ _ _ _ _ _ _ _ _=>rfl | exact fun _ _ F=>Fun.binds4 rfl F fun _ _ _ _ _ _ _ _ _ _=>rfl | exact fun _ _ F=>Fun.binds5 rfl F fun _ _ _ _ _ _ _ _ _ _ _=>rfl | exact fun _ _ F=>Fun.binds6 rfl F fun _ _ _ _ _ _ _ _ _ _ _ _=>rfl | exact fun _ _ F=>Fun.binds7 rfl F fun _ _ _ _ _ _ _ _ _ _ _ _ _=>rfl) (hp:ps.length=n:=by rfl) (hm:N.length-n=m:=by rfl):OkF P w K mg base (CXx P w) (k+1) x q st ps (Ct K C (fun c=>fnO (g c)) O):=fun f fd F =>
 ⟨F.okX S (fun vs H Q E h=>by obtain ⟨F,c,_,hc,_⟩:=h; exact (hn hc).trans hp.symm) fun cdv A outer s H vs Q E hr h=>⟨t E,tm cdv A outer s H f E S.nd hr,znc_ (N:=N) (t:=t) n m hn hm hC ev vs H Q E h⟩,b f fd F⟩
theorem okU {O:Own α}{O2:Own β}{C:Cs γ}{ss:γ→List Sl}{g:α→γ→Mo (Out (Unit×β) Unit β)}{t:XK→TS}{LS:V→β→List Sl}(n m:Nat) (hC:CsS C ss) (tm:Tm P w K mg base k N q st t)
  (ev:∀ w x c E,EvS K (t E) E (.ow (owAt w O) x::(ss c++List.replicate m .dead)) (g x c) (LS w) (fun _:Unit=>[]) (owRM w O2 (owF tyNon))) (hn:CsN C n:=by repeat first | exact zao_ | exact zfe_ | refine zaa_ ?_) (S:FnScope N ps (defScope st):=by exact ⟨rfl,rfl,rfl,by decide +kernel,rfl,by decide +kernel,by decide +kernel⟩) (b:Bnd K x q st ps:=by first | exact fun _ _ F=>Fun.binds1 rfl F fun _ _ _ _ _ _ _=>rfl | exact fun _ _ F=>Fun.binds2 rfl F fun _ _ _ _ _ _ _ _=>rfl | exact fun _ _ F=>Fun.binds3 rfl F fun _ _ _ _ _ _ _ _ _=>rfl | exact fun _ _ F=>Fun.binds4 rfl F fun _ _ _ _ _ _ _ _ _ _=>rfl | exact fun _ _ F=>Fun.binds5 rfl F fun _ _ _ _ _ _ _ _ _ _ _=>rfl | exact fun _ _ F=>Fun.binds6 rfl F fun _ _ _ _ _ _ _ _ _ _ _ _=>rfl | exact fun _ _ F=>Fun.binds7 rfl F fun _ _ _ _ _ _ _ _ _ _ _ _ _=>rfl) (hp:ps.length=n+1:=by rfl) (hm:N.length-(n+1)=m:=by rfl) (hLS:∀ w x,(LS w x)[0]?=some (.ow (owAt w O2) x):=by exact fun _ _=>rfl):OkF P w K mg base CX0 (k+1) x q st ps (CtM K O O2 C (fun x c=>fnMU (g x c)) (owF tyNon)):=fun f fd F =>
 ⟨F.ok S (fun vs H Q E h=>by obtain ⟨F,h,x,c,w,ws,rfl,_,_,_,_,hc,_⟩:=h; rw [List.length_cons,hn hc,hp]) fun cdv A outer s H vs Q E hr h=>⟨t E,tm cdv A outer s H f E S.nd hr,zkW_ (N:=N) (t:=t) n m hn hm hC hLS ev vs H Q E h⟩,b f fd F⟩
theorem okRk {O:Own α}{O2:Own β}{Or:Own ρ}{C:Cs γ}{ss:γ→List Sl}{g:α→γ→Mo (Out (ρ×β) Unit Unit)}{t:XK→TS}(j n m:Nat) (hC:CsS C ss) (tm:Tm P w K mg base k N q st t)
  (ev:∀ w x c E,EvS K (t E) E (putL j (.ow (owAt w O) x) (ss c++List.replicate m .dead)) (g x c) (fun _:Unit=>[]) (fun _:Unit=>[]) (owRM w O2 Or)) (hn:CsN C n:=by repeat first | exact zao_ | exact zfe_ | refine zaa_ ?_) (S:FnScope N ps (defScope st):=by exact ⟨rfl,rfl,rfl,by decide +kernel,rfl,by decide +kernel,by decide +kernel⟩) (b:Bnd K x q st ps:=by first | exact fun _ _ F=>Fun.binds1 rfl F fun _ _ _ _ _ _ _=>rfl | exact fun _ _ F=>Fun.binds2 rfl F fun _ _ _ _ _ _ _ _=>rfl | exact fun _ _ F=>Fun.binds3 rfl F fun _ _ _ _ _ _ _ _ _=>rfl | exact fun _ _ F=>Fun.binds4 rfl F fun _ _ _ _ _ _ _ _ _ _=>rfl | exact fun _ _ F=>Fun.binds5 rfl F fun _ _ _ _ _ _ _ _ _ _ _=>rfl | exact fun _ _ F=>Fun.binds6 rfl F fun _ _ _ _ _ _ _ _ _ _ _ _=>rfl | exact fun _ _ F=>Fun.binds7 rfl F fun _ _ _ _ _ _ _ _ _ _ _ _ _=>rfl) (hp:ps.length=n+1:=by rfl) (hm:N.length-(n+1)=m:=by rfl) (hj:j≤n:=by decide):OkF P w K mg base CX0 (k+1) x q st ps (CtMk K j O O2 C (fun x c=>fnMR (g x c)) Or):=fun f fd F =>
 ⟨F.ok S (fun vs H Q E h=>by obtain ⟨F,h,x,c,w,ws,rfl,_,_,_,_,hc,_⟩:=h; rw [putL_len,hn hc,hp]) fun cdv A outer s H vs Q E hr h=>⟨t E,tm cdv A outer s H f E S.nd hr,zkh_ (N:=N) (t:=t) j n m hj hn hm hC ev vs H Q E h⟩,b f fd F⟩
end
section
variable {l:PySem.W.OpenLaw}{w:World}{K:Fgg}{mg:Str→Option Value}{st:Stmt}{x:Str}{k:Nat}{sp:Sp}{fa:Addr}
theorem okLaw (M:Mgo K mg) (F:Fg K "law" st) (hfa:mg "law" = some (.ref fa)) (hb:∀ (kV doc pm:Value) (an:Option Addr) (cdv ct:Value) (s:Shared) (v:Value),bindArgs (PySem.W.fnOf "law" "law" (defArgs st) (defBody st) (defScope st) .none kV doc pm an cdv ct) ⟨[v],[]⟩=pure [(x,v)])
  (h:∀ (base:Heap) (f:Addr) (fd:FuncData),Fun K "law" "law" st f fd→FnOk l.prog w K mg base CX0 k f fd [x] sp) :
  ∃ fd:FuncData,(∀ (s:Shared) (v:Value),BindsTo s fd ⟨[v],[]⟩ [(x,v)])∧∀ base:Heap,K.In base→base.Ns mainGlobals mg→FnOk l.prog w K mg base CX0 k fa fd [x] sp:=by
 obtain ⟨_,X,G⟩:=M
 obtain ⟨f,e,oc,od,kV,doc,pm,an,cdv,ct,osl,l',c,kk⟩:=F
 cases hfa.symm.trans (PySem.W.mg_of X G e)
 exact ⟨_,fun s v=>.of_eq (hb kV doc pm an cdv ct s v),fun base _ _=>h base _ _ (zlC_ l' c kk)⟩
def spL (K:Fgg):Sp:=fun vs H Q _=>∃ (a:Addr) (ns:List Int),vs=[.ref a]∧SqL K H a (ns.map V.int)∧ns.length≤63∧BitsOk ns∧∀ H',Q (.bl true) H'
theorem okL {base:Heap}{N:List Str}{g:List Int→Mo (Out Bool Unit Unit)}{t:XK→TS}(m:Nat) (tm:Tm l.prog w K mg base k N "law" st t)
  (hf:∀ ns:List Int,ns.length≤63→BitsOk ns→fnO (g ns)=.ok true)
  (ev:∀ c E,EvS K (t E) E (.fz (tySc K) c::List.replicate m .dead) (g c) (fun _:Unit=>[]) (fun _:Unit=>[]) (owF tyBl)) (f:Addr) (fd:FuncData) (F:Fun K "law" "law" st f fd) (S:FnScope N [x] (defScope st):=by exact ⟨rfl,rfl,rfl,by decide +kernel,rfl,by decide +kernel,by decide +kernel⟩) (hm:N.length-1=m:=by rfl):FnOk l.prog w K mg base CX0 (k+1) f fd [x] (spL K) :=
 F.ok S (fun vs H Q E h=>by obtain ⟨a,ns,rfl,_⟩:=h; rfl) fun cdv A outer s H vs Q E hr h=>⟨t E,tm cdv A outer s H f E S.nd hr,by
  obtain ⟨a,ns,rfl,hS,hl,hb,q⟩:=h
  refine znc_ (K:=K) (N:=N) (C:=csLast (tySc K)) (O:=owF tyBl) (t:=t) (ss:=fun c=>[.fz (tySc K) c]) (f:=g) 1 m zao_ hm zj_ ev _ H Q E ⟨H,ns,Same.refl _,⟨_,rfl,a,rfl,hS⟩,?_⟩
  show After K (fnO (g ns)) E H H _
  rw [hf ns hl hb]
  rintro F' H' x v h _ _ _ ⟨_,rfl⟩
  exact q H'⟩
end
section
variable {X:Cx}{x:Str}{pos pos':Pos}{e:Expr}{te:TE}
abbrev FrP (X:Cx) (scope:Scope) (q:Str×Nat):Prop:=X.N[q.2]?=some q.1∧(q.1,NameKind.free)∈scope.names∧(X.env.kindOf q.1=some .cell∨X.env.kindOf q.1=some .free)∧((relabel scope X.env).names.lookup q.1=some .cell∨(relabel scope X.env).names.lookup q.1=some .free)
theorem pgn (i:Nat) (hN:X.N.Nodup:=by assumption) (hi:X.N[i]?=some x:=by rfl) (hx:Loc X.env.scope x:=by first | exact Or.inl rfl | exact Or.inr rfl) (hf:X.fn x=true∨X.env.scope.names.lookup x=some .local:=by first | exact .inl rfl | exact .inr rfl | assumption):PG X (.Name x pos) (gName i):=zjG_ hN hi hx hf
theorem pst (i:Nat) (he:PE X e te) (hN:X.N.Nodup:=by assumption) (hi:X.N[i]?=some x:=by rfl) (hx:Loc X.env.scope x:=by first | exact Or.inl rfl | exact Or.inr rfl) (hs:swapsWith e (some (.Name x pos')) pos.line X.env=pure false:=by rfl) (hf:X.fn x=true∨X.env.scope.names.lookup x=some .local:=by first | exact .inl rfl | exact .inr rfl | assumption) :
  PS X (.Assign [.Name x pos'] e pos) (tAsg te (gName i)):=zmT_ hN hi hx he hs hf
theorem csm {scope:Scope}{cl:List (Str×Addr)}{lv:List Str}{fr:List (Str×Nat)}(h:closeL X.env.cells scope.names []=some cl) (f:∀ q∈fr,FrP X scope q) (h2:∀ y∈scope.names,y.2≠.cell:=by decide +kernel) (h3:scope.kind=.function:=by rfl) (h4:∀ z∈scope.names,z.2=.local→scope.names.lookup z.1=some .local:=by decide +kernel):CScope X scope cl lv fr:=⟨h,h2,h3,h4,f⟩
theorem frc {scope:Scope}{q:Str×Nat}{fr:List (Str×Nat)}(t:∀ q∈fr,FrP X scope q) (h:FrP X scope q:=by refine ⟨rfl,by decide +kernel,?_,?_⟩<;>first | exact Or.inl rfl | exact Or.inr rfl):∀ z∈q::fr,FrP X scope z:=zl1_ h t
theorem fr0 {scope:Scope}:∀ q∈([]:List (Str×Nat)),FrP X scope q:=fun _ h=>by cases h
theorem pgc {scope:Scope}{cl:List (Str×Addr)}{C:Addr}{lv:List Str}{fr:List (Str×Nat)}{fp:List Addr}{s2:Shared}{H2:Hp}(i:Nat) (hN:(cN lv fr).Nodup:=by decide +kernel) (hi:(cN lv fr)[i]?=some x:=by rfl) (hx:Loc (cxComp X scope cl C (cN lv fr) fp s2 H2).env.scope x:=by exact Or.inl rfl) (hf:(cxComp X scope cl C (cN lv fr) fp s2 H2).fn x=true∨(cxComp X scope cl C (cN lv fr) fp s2 H2).env.scope.names.lookup x=some .local:=by first | exact .inl rfl | exact .inr rfl | assumption):PG (cxComp X scope cl C (cN lv fr) fp s2 H2) (.Name x pos) (gName i):=zjG_ hN hi hx hf
end
abbrev zfX_:=@PySem.F.slot_str_zfill
abbrev zfP_:=@PySem.F.type_str_zfill
abbrev zf1_:=@PySem.F.slot_str_index
abbrev zfM_:=@PySem.F.type_str_index
abbrev zbZ_:=@PySem.F.plainAttrs_list
abbrev zw_:=@PySem.F.slot_list_append
abbrev zv_:=@PySem.F.type_list_append
abbrev zeJ_:=@PySem.F.slot_list_extend
abbrev zeQ_:=@PySem.F.type_list_extend
end L2
namespace L2
open PySem PySem.Spec PyProof.Rows PySem.W
def gallop':Bool→Keyed→Array Keyed→Nat→Nat→Nat→StateT SortSt Sem (Option Nat):=sortPriv% PySem.Builtin.gallop
section
variable {prog:Program}{w:World}{A:Around}{E:Value→Shared→Prop}{s:Shared}{κ:SortKind}{it:Nat→Keyed}{lt:Nat→Nat→Bool}{n:Nat}{st:SortSt}
end
section
variable {lt:Nat→Nat→Bool}{X Y O:List Nat}{ja jb k:Nat}
end
section
variable {prog:Program}{w:World}{A:Around}{E:Value→Shared→Prop}{s:Shared}{κ:SortKind}{it:Nat→Keyed}{lt:Nat→Nat→Bool}{n:Nat}{st st1 st2:SortSt}{X Y:List Nat}
abbrev T7:Type:=Option (Array Keyed)×Array Keyed×Nat×Nat×Nat×Nat×Nat
def lo3 (a b ou:Array Keyed) (ja jb mg ac bc:Nat):StateT SortSt Sem (ForInStep T7):=do
 let e ← elem' a ja
 if ja+1+1 == a.size then pure (.done (some (ou.push e++b.extract jb b.size++a.extract (ja+1) a.size),ou.push e,ja+1,jb,mg,ac,bc))
 else if ac<7 && bc<7 then pure (.done (none,ou.push e,ja+1,jb,mg,ac,bc)) else pure (.yield (none,ou.push e,ja+1,jb,mg,ac,bc))
def lo2 (a b ou:Array Keyed) (ja jb mg ac bc:Nat):StateT SortSt Sem (ForInStep T7):=do
 let e ← elem' b jb
 if jb+1 == b.size then pure (.done (some (ou.push e++a.extract ja a.size++b.extract (jb+1) b.size),ou.push e,ja,jb+1,mg,ac,bc))
 else
  let f ← elem' a ja
  let r ← gallop' true f b (jb+1) (b.size-(jb+1)) 0
  match r with
  | some k =>
   if k > 0 then
    if jb+1+k == b.size then pure (.done (some (ou.push e++b.extract (jb+1) (jb+1+k)++a.extract ja a.size++b.extract (jb+1+k) b.size),ou.push e++b.extract (jb+1) (jb+1+k),ja,jb+1+k,mg,ac,k))
    else lo3 a b (ou.push e++b.extract (jb+1) (jb+1+k)) ja (jb+1+k) mg ac k
   else lo3 a b (ou.push e) ja (jb+1) mg ac k
  | _=>pure (.done (some (ou.push e++a.extract ja a.size++b.extract (jb+1) b.size),ou.push e,ja,jb+1,mg,ac,bc))
def lo1 (a b ou:Array Keyed) (ja jb mg k bc:Nat):StateT SortSt Sem (ForInStep T7) :=
 if k > 0 then
  if ja+k+1 == a.size then pure (.done (some (ou++a.extract ja (ja+k)++b.extract jb b.size++a.extract (ja+k) a.size),ou++a.extract ja (ja+k),ja+k,jb,mg,k,bc))
  else if ja+k == a.size then pure (.done (some (ou++a.extract ja (ja+k)++a.extract (ja+k) a.size++b.extract jb b.size),ou++a.extract ja (ja+k),ja+k,jb,mg,k,bc))
  else lo2 a b (ou++a.extract ja (ja+k)) (ja+k) jb mg k bc
 else lo2 a b ou ja jb mg k bc
variable {O:List Nat}{ja jb mg ac bc x:Nat}
end
section
variable {lt:Nat→Nat→Bool}{X Y O R:List Nat}{na nb i k q:Nat}
abbrev op (lt:Nat→Nat→Bool):Nat→Nat→Bool:=fun a b=>lt b a
end
section
variable {prog:Program}{w:World}{A:Around}{E:Value→Shared→Prop}{s:Shared}{κ:SortKind}{it:Nat→Keyed}{lt:Nat→Nat→Bool}{n:Nat}{st st1 st2:SortSt}{X Y:List Nat}
abbrev U7:Type:=Option (Array Keyed)×Nat×Nat×Array Keyed×Nat×Nat×Nat
def hi3 (a b:Array Keyed) (na nb:Nat) (ou:Array Keyed) (mg ac bc:Nat):StateT SortSt Sem (ForInStep U7):=do
 let e ← elem' a (na-1)
 if na-1 == 0 then pure (.done (some (a.extract 0 (na-1)++b.extract 0 nb++(ou.push e).reverse),na-1,nb,ou.push e,mg,ac,bc))
 else if ac<7 && bc<7 then pure (.done (none,na-1,nb,ou.push e,mg,ac,bc)) else pure (.yield (none,na-1,nb,ou.push e,mg,ac,bc))
def hi2b (a b:Array Keyed) (na nb q:Nat) (ou:Array Keyed) (mg ac:Nat):StateT SortSt Sem (ForInStep U7) :=
 if nb-q > 0 then
  if q == 1 then pure (.done (some (b.extract 0 q++a.extract 0 na++(ou++(b.extract q nb).reverse).reverse),na,q,ou++(b.extract q nb).reverse,mg,ac,nb-q))
  else if q == 0 then pure (.done (some (a.extract 0 na++b.extract 0 q++(ou++(b.extract q nb).reverse).reverse),na,q,ou++(b.extract q nb).reverse,mg,ac,nb-q))
  else hi3 a b na q (ou++(b.extract q nb).reverse) mg ac (nb-q)
 else hi3 a b na nb ou mg ac (nb-q)
def hi2 (a b:Array Keyed) (na nb:Nat) (ou:Array Keyed) (mg ac bc:Nat):StateT SortSt Sem (ForInStep U7):=do
 let e ← elem' b (nb-1)
 if nb-1 == 1 then pure (.done (some (b.extract 0 (nb-1)++a.extract 0 na++(ou.push e).reverse),na,nb-1,ou.push e,mg,ac,bc))
 else
  let f ← elem' a (na-1)
  let r ← gallop' true f b 0 (nb-1) (nb-1-1)
  match r with
  | some q=>hi2b a b na (nb-1) q (ou.push e) mg ac
  | _=>pure (.done (some (a.extract 0 na++b.extract 0 (nb-1)++(ou.push e).reverse),na,nb-1,ou.push e,mg,ac,bc))
def hi1 (a b:Array Keyed) (na nb q:Nat) (ou:Array Keyed) (mg bc:Nat):StateT SortSt Sem (ForInStep U7) :=
 if na-q > 0 then
  if q == 0 then pure (.done (some (a.extract 0 q++b.extract 0 nb++(ou++(a.extract q na).reverse).reverse),q,nb,ou++(a.extract q na).reverse,mg,na-q,bc))
  else hi2 a b q nb (ou++(a.extract q na).reverse) mg (na-q) bc
 else hi2 a b na nb ou mg (na-q) bc
variable {O:List Nat}{na nb mg ac bc x:Nat}
end
end L2
namespace L2
open PySem PySem.Spec PyProof.Rows PySem.W
section
variable {prog:Program}{w:World}{A:Around}{E:Value→Shared→Prop}{s:Shared}{κ:SortKind}{it:Nat→Keyed}{lt:Nat→Nat→Bool}{n:Nat}{st st1 st2:SortSt}
end
section
variable {prog:Program}{w:World}{A:Around}{E:Value→Shared→Prop}{s:Shared}{κ:SortKind}{it:Nat→Keyed}{lt:Nat→Nat→Bool}{n lo:Nat}{st st1 st2:SortSt}{p:Array Nat}{pd:Array (Nat×Nat×Nat)}
end
end L2
namespace L2
open PySem PySem.Spec PyProof.Rows PySem.W
section
variable {lt:Nat→Nat→Bool}
end
section
variable {prog:Program}{w:World}{A:Around}{E:Value→Shared→Prop}{s:Shared}{κ:SortKind}{it:Nat→Keyed}{lt:Nat→Nat→Bool}{n lo c:Nat}{st:SortSt}{T:List Nat}
end
section
variable {prog:Program}{w:World}{A:Around}{E:Value→Shared→Prop}{s:Shared}{vs:List Value}{lt:Nat→Nat→Bool}
end
end L2
namespace L2
open PySem PySem.Spec PyProof.Rows
section
variable {K:Fgg}{E:XK}{α β γ ρ S S' B B':Type}{F0 H0 F h H:Hp}{L L':List Sl}{e e1 e2:TE}{T:Ty α}{O:Own ρ}{t u:TS}{LS:S→List Sl}{LS':S'→List Sl}{LB:B→List Sl}
def fnU (r:Mo (Out Unit Unit Unit)):Mo Unit:=r.bind fun o=>match o with | .rt a=>.ok a | .nx _=>.ok () | _=>.no
theorem zmi_ {t:XK→TS}{C:Cs γ}{ss:γ→List Sl}{f:γ→Mo (Out Unit Unit Unit)}{LS:Unit→List Sl}{N:List Str}(n m:Nat) (hn:CsN C n) (hm:N.length-n=m) (hC:CsS C ss) (h:∀ c E,EvS K (t E) E (ss c++List.replicate m .dead) (f c) LS (fun _:Unit=>[]) (owF tyNon)) :
  ∀ vs H Q E,Ct K C (fun c=>fnU (f c)) (owF tyNon) vs H Q E→t E { nx:=fun _ H'=>Q .non H',rt:=Q } (start N vs) H:=by
 rintro vs H Q E ⟨F,c,hs,hc,q⟩
 have hstart:start N vs=vs.map some++List.replicate m none:=by unfold start; rw [hn hc,hm]
 rw [hstart]
 refine h c E F H _ F (fun _=>none) H _ ((hC hc).hold m) (zgm_ hs) ?_
 have q:After K (fnU (f c)) E F H (OwnK (owF tyNon) H Q):=q
 cases e:f c with
 | no=>rw [e] at q; exact q
 | ex cc=>rw [e] at q; exact fun F h H ok=>q F H ok.1
 | ok o =>
  rw [e] at q
  cases o with
  | nx s=>exact fun σ F' h' H' _ ok=>q F' H' ok.1 .non (fun _=>none) (fun p z=>absurd rfl z) (fun p=>.inr rfl) (fun p o z=>by cases z) ⟨fun _=>rfl,rfl⟩
  | bk s=>exact q.elim
  | ct s=>exact q.elim
  | rt a=>exact fun v F' h' H' ok hv=>q F' H' ok.1 v h' (fun p z=>ok.2.2.2.1 p z) ok.2.1 ok.2.2.1 hv
end
section
variable {P:Program}{w:World}{K:Fgg}{mg:Str→Option Value}{base:Heap}{x q:Str}{st:Stmt}{N ps:List Str}{k:Nat}{α β γ ρ:Type}
theorem okCU {C:Cs γ}{ss:γ→List Sl}{g:γ→Mo (Out Unit Unit Unit)}{LS:Unit→List Sl}{t:XK→TS}(n m:Nat) (hC:CsS C ss) (tm:Tm P w K mg base k N q st t)
  (ev:∀ c E,EvS K (t E) E (ss c++List.replicate m .dead) (g c) LS (fun _:Unit=>[]) (owF tyNon)) (hn:CsN C n:=by repeat first | exact zao_ | exact zfe_ | refine zaa_ ?_) (S:FnScope N ps (defScope st):=by exact ⟨rfl,rfl,rfl,by decide +kernel,rfl,by decide +kernel,by decide +kernel⟩) (b:Bnd K x q st ps:=by first | exact fun _ _ F=>Fun.binds1 rfl F fun _ _ _ _ _ _ _=>rfl | exact fun _ _ F=>Fun.binds2 rfl F fun _ _ _ _ _ _ _ _=>rfl | exact fun _ _ F=>Fun.binds3 rfl F fun _ _ _ _ _ _ _ _ _=>rfl | exact fun _ _ F=>Fun.binds4 rfl F fun _ _ _ _ _ _ _ _ _ _=>rfl | exact fun _ _ F=>Fun.binds5 rfl F fun _ _ _ _ _ _ _ _ _ _ _=>rfl | exact fun _ _ F=>Fun.binds6 rfl F fun _ _ _ _ _ _ _ _ _ _ _ _=>rfl | exact fun _ _ F=>Fun.binds7 rfl F fun _ _ _ _ _ _ _ _ _ _ _ _ _=>rfl) (hp:ps.length=n:=by rfl) (hm:N.length-n=m:=by rfl):OkF P w K mg base CX0 (k+1) x q st ps (Ct K C (fun c=>fnU (g c)) (owF tyNon)):=fun f fd F =>
 ⟨F.ok S (fun vs H Q E h=>by obtain ⟨F,c,_,hc,_⟩:=h; exact (hn hc).trans hp.symm) fun cdv A outer s H vs Q E hr h=>⟨t E,tm cdv A outer s H f E S.nd hr,zmi_ (N:=N) (t:=t) n m hn hm hC ev vs H Q E h⟩,b f fd F⟩
end
def Fe1 (K:Fgg) (a:Str) (P:Addr→Prop):Prop:=∃ v,PySem.W.nsIn K mainGlobals a=some (some (.ref v))∧P v
theorem Fe1.mk_ {K:Fgg}{a:Str}{P:Addr→Prop}{v:Addr}(h:PySem.W.nsIn K mainGlobals a=some (some (.ref v))) (p:P v):Fe1 K a P:=⟨v,h,p⟩
theorem Fe1.g {K:Fgg}{a:Str}{P:Addr→Prop}(h:Fe1 K a P):P (gA K a):=by
 obtain ⟨v,h,p⟩:=h
 rw [zjk_ h]; exact p
def Fe2 (K:Fgg) (a b:Str) (P:Addr→Addr→Prop):Prop:=∃ v w,PySem.W.nsIn K mainGlobals a=some (some (.ref v))∧PySem.W.nsIn K mainGlobals b=some (some (.ref w))∧P v w
theorem Fe2.mk_ {K:Fgg}{a b:Str}{P:Addr→Addr→Prop}{v w:Addr}(h:PySem.W.nsIn K mainGlobals a=some (some (.ref v))) (h2:PySem.W.nsIn K mainGlobals b=some (some (.ref w))) (p:P v w):Fe2 K a b P:=⟨v,w,h,h2,p⟩
theorem Fe2.g {K:Fgg}{a b:Str}{P:Addr→Addr→Prop}(h:Fe2 K a b P):P (gA K a) (gA K b):=by
 obtain ⟨v,w,h,h2,p⟩:=h
 rw [zjk_ h,zjk_ h2]; exact p
end L2
namespace L2
open PySem PySem.Spec PyProof.Rows
section
variable {K:Fgg}{E:XK}{L:List Sl}{e:TE}{α γ δ:Type}{T:Ty α}{C:Cs γ}{C':Cs δ}{f:γ→δ}{n m:Nat}
end
end L2
namespace L2
open PySem PySem.Spec PyProof.Rows
section
variable {K:Fgg}{E:XK}{α β γ ρ ρ' S B:Type}{F0 H0 F h H:Hp}{L:List Sl}{T:Ty α}{Or:Own ρ}{t u:TS}{e e1 e2 te:TE}{LS:S→List Sl}{LB:B→List Sl}{i j:Nat}{σ:St}
end
end L2
namespace L2
open PySem PySem.Spec PyProof.Rows
section
variable {K:Fgg}{E:XK}{α β γ ρ ρ' S B:Type}{F0 H0 F h H:Hp}{L:List Sl}{T:Ty α}{Or:Own ρ}{t u:TS}{e e1 e2 te:TE}{LS:S→List Sl}{LB:B→List Sl}{i j:Nat}{σ:St}
end
end L2
namespace L2
open PySem PySem.Spec PyProof.Rows
section
variable {K:Fgg}{E:XK}{α β γ ρ ρ' S B:Type}{F0 H0 F h H:Hp}{L:List Sl}{T:Ty α}{Or:Own ρ}{t u:TS}{e e1 e2 te:TE}{LS:S→List Sl}{LB:B→List Sl}{i j:Nat}{σ:St}
end
section
variable {X:Cx}
end
section
variable {K:Fgg}{E:XK}
end
end L2
namespace L2
open PySem PySem.Spec PyProof.Rows
section
variable {K:Fgg}{E:XK}{α β γ δ ρ ρ' S B:Type}{F0 H0 F h H:Hp}{L:List Sl}{e te ei tc:TE}{T:Ty α}{r:Mo α}{Or:Own ρ}{Or':Own ρ'}{t u:TS}{LS:S→List Sl}{LB:B→List Sl}{σ:St}{C:Addr}{ns:List Str}{f m:Str}{i n w j:Nat}
end
end L2
namespace L2
open PySem PySem.Spec PyProof.Rows
open PySem.SeqAt
open PySem.AutoSeq1 (wpAny_loadPart')
open PySem.MeetsSeq PySem.MeetsSeq2 PySem.MeetsSeq3
end L2
namespace L2
open PySem PySem.Spec PyProof.Rows
section
variable {K:Fgg}{E:XK}{H:Hp}
end
end L2
namespace L2
open PySem PySem.Spec PyProof.Rows
section
variable {α:Type}{O:Own α}
end
section
variable {K:Fgg}{E:XK}{α β γ δ ρ ρ' S B:Type}{F0 H0 F h H:Hp}{L:List Sl}{e te ei tc:TE}{T:Ty α}{r:Mo α}{Or:Own ρ}{Or':Own ρ'}{t u:TS}{LS:S→List Sl}{LB:B→List Sl}{σ:St}{C:Addr}{ns:List Str}{f m:Str}{i n w j:Nat}
end
end L2
namespace L2
open PySem PySem.Spec PyProof.Rows
section
variable {X:Cx}
end
section
variable {K:Fgg}{E:XK}{L:List Sl}{ta:TA}
end
end L2
namespace L2
open PySem PySem.Spec PyProof.Rows
section
variable {K:Fgg}{E E0:XK}{α β γ ρ ρ' S B:Type}{F0 H0 F h H:Hp}{L:List Sl}{T:Ty α}{Or:Own ρ}{t u:TS}{e te:TE}{LS:S→List Sl}{LB:B→List Sl}{i j n:Nat}{σ:St}
end
end L2
namespace L2
open PySem PySem.Spec PyProof.Rows
section
variable {K:Fgg}{E:XK}{α β γ δ ρ ρ' S B:Type}{F0 H0 F h H:Hp}{L:List Sl}{e te te2 ei tc:TE}{T:Ty α}{Or:Own ρ}{Or':Own ρ'}{t u:TS}{LS:S→List Sl}{LB:B→List Sl}{σ:St}{i n w j:Nat}
theorem zmW_ {c c2:TT}{O:Own α}{r:Mo (ρ'×α)}{kb:ρ'×α→Mo Bool}{r1 r2:ρ'×α→Mo (Out ρ B S)}(hm:EvM K tc E L i O Or' r) (hk:∀ q,EvT K c2 E ((L.set i (.ow O q.2))++[.fz Or'.fr q.1]) (kb q))
  (hte:∀ (σ:St),σ.length=L.length→∀ (H:Hp) (Q:Bool→Hp→Prop),(tc σ H fun v H1=>c2 (σ++[some v]) H1 Q)→c σ H Q) (h1:∀ q,EvS K t E (L.set i (.ow O q.2)) (r1 q) LS LB Or) (h2:∀ q,EvS K u E (L.set i (.ow O q.2)) (r2 q) LS LB Or) :
  EvS K (mIfS c t u) E L (r.bind fun q=>(kb q).bind fun b=>if b then r1 q else r2 q) LS LB Or:=by
 intro F0 H0 σ F h H D hL ok fin
 refine hte σ hL.len.symm H _ (hm F0 H0 σ F h H _ hL ok (zhl_ fin fun q F' h' H' hr o v k1 k2 j hold res=>?_))
 rw [hr] at fin
 obtain ⟨o2,hv⟩:=zhc_ o j res
 have fin:Fin K ((kb q).bind fun b=>if b then r1 q else r2 q) E LS LB Or F0 H0 D:=fin
 refine hk q _ (un (un F' k2) k1) H' _ (zfd_ (by rw [hold.len]) ((hold.mono zR_).froz o2.2.1) ⟨v,rfl,Or'.fr.mono zR_ hv⟩) o2.thaw (za2_ (G:=F') o2 _ (.inl rfl) fin fun b G2 H2 hra x2=>?_)
 obtain ⟨o3,hs3,_⟩:=o2.back x2
 rw [hra] at fin
 have fin':Fin K (if b then r1 q else r2 q) E LS LB Or F0 H0 D:=fin
 have hold3:=(hold.mono zR_).mono hs3
 refine ⟨fun z=>?_,fun z=>?_⟩
 ·rw [if_pos z] at fin'; exact h1 q F0 H0 σ _ k1 H2 D hold3 o3 fin'
 ·rw [if_neg (by rw [z]; decide)] at fin'; exact h2 q F0 H0 σ _ k1 H2 D hold3 o3 fin'
end
end L2
namespace L2
theorem atT {K:Fgg}{E:XK}{e:TT}{r:Mo Bool}(L:List Sl) (h:EvT K e E L r):EvT K e E L r:=h
end L2
namespace L2
open PySem PySem.Spec PyProof.Rows
structure Scl (K:Fgg) (C:Addr) (m:Str) (f:Addr):Prop where
 sp:PySem.W.specialIn K (.ref C) "__getattribute__" = some (some (.builtin "type.__getattribute__"))
 rd:PySem.W.readsIn K C (.type "type")=true
 fd:PySem.W.findCls K (.ref C) (.type "type") m=some (.val (.ref f))
 hd:PySem.W.handedIn (.ref f)=true
 kp:PySem.W.keepIn K (.ref f)=true
def Gs (P:Program) (w:World) (K:Fgg) (mg:Str→Option Value) (base:Heap) (CX:CXT) (k:Nat) (x m:Str) (ps:List Str) (sp:Sp):Prop :=
 ∃ C f fd,FnOk P w K mg base CX k f fd ps sp∧mg x=some (.ref C)∧Scl K C m f∧Binds K fd ps []
section
variable {X:Cx}{e:Expr}{es:List Expr}{m x:Str}{p pos apos:Pos}{t:TA}{k:Nat}{ps:List Str}{sp:Sp}
theorem zjn_ {pl:Sem Bool}(G:Gs X.prog X.w X.K X.mg X.base CX0 k x m ps sp) (hr:Room k X.A) (ha:PA X (e::es) t) (hg:Gl X x:=by rfl) (hdb:(x == ("__debug__" : Str))=false:=by decide)
  (hst:starEach (e::es) X.env=(false,eval e X.env)::starEach es X.env:=by rfl) (hpl:(backTo pos (starEach es X.env)).any (·.1)=false:=by rfl)
  (ht:eval (.Call (.Attribute (.Name x p) m apos) (e::es) [] pos) X.env=(do
   let ov ← eval (.Name x p) X.env
   standAt apos.atName
   let (f,first) ← holding [ov] (getMethod ov m pl)
   callWith pos f first (backTo pos (starEach (e::es) X.env)) (backToKw pos (keywordEach [] X.env))):=by rfl) :
  PE X (.Call (.Attribute (.Name x p) m apos) (e::es) [] pos) (tCall sp [] E0 t):=by
 obtain ⟨C,f,fd,F,hm,hs,hb⟩:=G
 intro pins s σ H Q I h
 have hn:PE X (.Name x p) (tC (.ref C)):=zjr_ hg hm rfl hdb
 refine PySem.W.methodCall_KW (pl:=pl) (thn (hn pins s σ H (fun v H1=>v=.ref C∧tCall sp [] E0 t σ H1 Q) I ⟨rfl,h⟩) fun u s1 hq_=>?_) ht
 obtain ⟨x,H1,I1,rx,ex,q⟩:=hq_
 subst ex
 obtain rfl:u=Value.ref C:=rx
 refine PySem.W.method_cls I1.kIn hs.sp (PySem.W.cls_value I1.kIn hs.rd hs.fd hs.hd ?_)
 refine PySem.W.callWith_K (first:=[]) (h₀:=X.base) I.ok.mod.kin hs.kp (thn (ha pos pins _ σ H1 _ (I1.tok _) q) fun us s2 ⟨vs,H2,I2,r,q2⟩=>⟨I2.kIn,?_⟩) hst hpl
 exact zhI_ F hr hb .nil pass0 I2 r q2
end
def Fs (K:Fgg) (c m q:Str) (st:Stmt):Prop:=∃ cw f,PySem.W.nsIn K mainGlobals c=some (some (.ref cw))∧PySem.W.specialIn K (.ref cw) "__getattribute__" = some (some (.builtin "type.__getattribute__"))∧PySem.W.readsIn K cw (.type "type")=true∧PySem.W.findCls K (.ref cw) (.type "type") m=some (.val (.ref f))∧Fi K m q st f
section
variable {P:Program}{w:World}{K:Fgg}{mg:Str→Option Value}{base:Heap}{CX:CXT}{x q c m a:Str}{st:Stmt}{f:Addr}{fd:FuncData}{N ps:List Str}{k j:Nat}{sp:Sp}
theorem Fs.mk_ {cw:Addr}{oc:Value}{od:Option Addr}{kV doc pm:Value}{an:Option Addr}{cdv ct:Value}{osl:Array (Option Value)}(h:PySem.W.nsIn K mainGlobals c=some (some (.ref cw))) (h1:PySem.W.specialIn K (.ref cw) "__getattribute__" = some (some (.builtin "type.__getattribute__"))) (h2:PySem.W.readsIn K cw (.type "type")=true) (h3:PySem.W.findCls K (.ref cw) (.type "type") m=some (.val (.ref f)))
  (l:K.lookup f=some ⟨oc,od,.func (PySem.W.fnOf m q (defArgs st) (defBody st) (defScope st) .none kV doc pm an cdv ct),osl⟩) (hc:PySem.W.codeIn K cdv q=true) (hk:PySem.W.keepIn K (.ref f)=true):Fs K c m q st:=⟨cw,f,h,h1,h2,h3,oc,od,kV,doc,pm,an,cdv,ct,osl,l,hc,hk⟩
theorem gs_of (M:Mgo K mg) (F:Fs K c m q st) (h:OkF P w K mg base CX k m q st ps sp):Gs P w K mg base CX k c m ps sp:=by
 obtain ⟨_,X,G⟩:=M; obtain ⟨cw,f,e,e1,e2,e3,i⟩:=F; obtain ⟨fd,F⟩:=i.fun_
 exact ⟨cw,f,fd,(h f fd F).1,PySem.W.mg_of X G e,⟨e1,e2,e3,rfl,F.kp⟩,(h f fd F).2⟩
end
def isiK (K:Fgg) (C:Addr) (c:Value):Option Bool :=
 if (PySem.W.plainGet K C Str.empty && PySem.W.hasDictIn K C && PySem.W.plainOver K C && PySem.W.findIn K (.ref C) "__setattr__" == some (some (.builtin "object.__setattr__"))) && PySem.W.findIn K (.ref C) "__class__" == some (some (.builtin "object.__class__")) && PySem.W.specialIn K (.builtin "object.__class__") "__get__" == some (some (.builtin "getset_descriptor.__get__"))
  && PySem.W.takesIn K (.builtin "object.__class__") == some true && PySem.W.mroIn K C (.type "object") == some true then PySem.W.kitOne K (.ref C) c else none
def mIsaI (K:Fgg):List V→Hp→VK→Prop:=fun xs H Q=>match xs with
 | [.ref p,.ref s]=>∃ C dx fs b,H p=some (.ins C dx fs)∧isiK K C (.ref s)=some b∧Q (.bl b) H
 | _=>False
theorem zgg_ {X:Cx}:CallR X (.builtin "isinstance") (mIsaI X.K):=by
 intro pins s σ H xs us Q I r h
 unfold mIsaI at h
 split at h
 ·rename_i p c
  obtain ⟨C,dx,fs,b,hp,hk,q⟩:=h
  obtain ⟨u,z,rfl,r1,r2⟩:=vals2 r
  obtain rfl:z=.ref c:=r2
  unfold isiK at hk
  split at hk
  ·rename_i hc
   simp only [Bool.and_eq_true,beq_iff_eq] at hc
   obtain ⟨⟨⟨⟨⟨⟨⟨a1,a2⟩,a3⟩,a4⟩,a5⟩,a6⟩,a7⟩,a8⟩:=hc
   exact zf8_ I r1 (.ins hp ⟨a1,a2,a3,a4⟩ a5 a6 a7 a8) hk fun tk=>⟨.bl b,H,I.tok tk,rfl,q⟩
  ·cases hk
 ·exact h.elim
section
variable {K:Fgg}{E:XK}{α β γ δ ρ ρ' S B κ:Type}{F0 H0 F h H:Hp}{L:List Sl}{e te ei tc:TE}{T:Ty α}{r:Mo α}{Or:Own ρ}{Or':Own ρ'}{t u:TS}{ta:TA}{LS:S→List Sl}{LB:B→List Sl}{σ:St}{C s:Addr}{ns:List Str}{f m:Str}{i n w j:Nat}
theorem zjp_ {Q:Cs γ}{r:Mo γ}{b:Bool}(hb:isiK K C (.ref s)=some b) (h:EvF K e E L r (tyI C ns Q)):EvF K (tCB (mIsaI K) (tCons e (tCons (tC (.ref s)) tNil))) E L (r.bind fun _=>.ok b) tyBl:=by
 intro σ F H R hL hs q
 refine h σ F H _ hL hs (q.bind.imp fun l F1 H1 x1 k1 v hq_=>?_)
 obtain ⟨p,dx,vs,e,hp,hl,hc⟩:=hq_
 subst e
 exact ⟨C,dx,_,b,x1.2.1 _ _ hp,hb,k1.ok x1.2.1 _ rfl⟩
theorem zdq_:Op2 K mIsNot E tyNon tyNon (fun _ _=>.ok false) tyBl:=by
 rintro a b x y F H Q hs rfl rfl k
 exact k.ok hs _ rfl
theorem zgv_ {O':Own β}{O2:Own δ}{x:β}{w0:V}{Q:Cs γ}{ra:Mo γ}{g:β→γ→Mo (ρ'×δ)}(hi:L[i]?=some (.ow (owAt w0 O') x)) (hI:ImmO O2) (hR:ImmO Or') (ha:EvA K ta E (L.map Sl.cold) ra Q) :
  EvM K (tCall (CtM K O' O2 Q g Or') [] E0 (tCons (mVar i) ta)) E L i (owAt w0 O2) Or' (ra.bind fun c=>(g x c).noex.bind fun q=>.ok (q.1,q.2)):=by
 intro F0 H0 σ F h H R hL ok fin
 obtain ⟨_,_,_,e0,_,⟨v0,rfl,_⟩,_⟩:=hL.at i hi
 show (tCons (mVar i) ta) σ H fun vs H1=>CtM K O' O2 Q g Or' (vs++[]) H1 R E0
 rw [(TaIn.zero (i:=i) (ta:=ta)).eq e0]
 have aft:∀ {kk:γ→Hp→Hp→Prop},(∀ c F' H',ra=.ok c→Ext F H F' H'→kk c F' H')→After K ra E F H kk:=fun {kk} hk=>by
  cases e:ra with
  | ok c=>exact fun F' H' x=>hk c F' H' e x
  | no=>rw [e] at fin; exact fin
  | ex cc=>rw [e] at fin; exact fun F' H' x=>fin _ _ _ (ok.cold x)
 refine ha σ F H _ hL.coldF ok.1.2.1 (aft fun c F2 H2 hra x2 vs hvs=>?_)
 rw [hra] at fin
 have o2:=ok.cold x2
 rw [List.append_nil]
 obtain ⟨_,k,hrest,e1,j,⟨v1,e2,hw0,hO⟩,f⟩:=(hL.mono x2.1).atM i hi
 rw [e0] at e1
 cases e1
 cases e2
 have kh1:Same k h:=j.l
 have sFc:Same (un F2 (less h k)) H2:=fun q o z=>by
  unfold un at z
  cases y:F2 q with
  | some s=>rw [y] at z; rw [← z]; exact o2.1.2.1 _ _ y
  | none=>rw [y] at z; exact o2.2.2.1 _ _ (zaq_ _ _ z)
 have djc:Dj (un F2 (less h k)) k:=fun q=>by
  by_cases z:k q=none
  ·exact .inr z
  ·left
   unfold un
   have:F2 q=none:=by
    rcases o2.2.1 q with y | y
    ·exact y
    ·exact absurd (kh1.free y) z
   rw [this]; exact zF_ q z
 refine ⟨un F2 (less h k),k,x,c,v0,vs,rfl,sFc,djc,kh1.trans o2.2.2.1,O'.mono zR_ hO,Q.mono zR_ hvs,?_⟩
 have fin:FinM K ((g x c).noex.bind fun q=>.ok (q.1,q.2)) E F0 H0 _:=fin
 cases e:g x c with
 | no=>rw [e] at fin; exact fin
 | ex cc=>rw [e] at fin; exact fin.elim
 | ok q =>
  rw [e] at fin
  rintro F' h' H' okc v ⟨hr,hs',j',hRes,hO2⟩
  have el:=zjb_ o2.2.1
  have jk:Jn k hpE k:=fun _=>.inr ⟨rfl,rfl⟩
  obtain ⟨ff,tp,d1,d2,d3,okk⟩:=zfT_ (G2:=F2) (by rw [el]; exact o2) j jk (by rw [el]; exact okc) j'
  rw [el] at ff
  have eh:un hs' hpE=hs':=zme_ (zcw_ d1) fun _=>rfl
  have hold:=f (less F' (less h k)) (.ow (owAt w0 O2) q.2) (some v0) (un hs' hpE) _ ff (zcw_ d2) ⟨v0,rfl,hw0,by rw [eh]; exact hI tp hO2⟩
  rw [za0_ e0] at hold
  exact fin _ _ H' okk v _ hr (zcw_ d3) hold (hR tp hRes)
theorem zju_ {O:Own β}{O1:Own α}{P:Ps γ}{st:γ→α→γ}{r0:Mo (γ×(γ→β))}{k:β→Mo (Out ρ B S)}(nd:ns.Nodup) (hf:ns[n]?=some f) (hsm:ns.length<1000) (pp:PsPut P n O1 st) (hO:ImmO O1) (he:EvO K e E L r O1) (hp:EvPt K te E L i O (owI C ns P) r0) (hk:∀ x',EvS K u E (L.set i (.ow O x')) (k x') LS LB Or) :
  EvS K (tSeq (mSFld C te e f) u) E L (r.bind fun a=>r0.bind fun yp=>(Mo.ok (yp.2 (st yp.1 a))).bind k) LS LB Or:=by
 intro F0 H0 σ F h H D hL ok fin
 refine he σ (un F h) H _ (hL.froz ok.2.1) ok.thaw (za2_ (G:=F) ok _ (.inl rfl) fin fun a F' H' hra x v hn fresh dj hsn hv=>?_)
 obtain ⟨o,hs,ht⟩:=ok.back x
 rw [hra] at fin
 refine hp F0 H0 σ (less F' h) h H' _ (hL.mono hs) o (za2_ (G:=F) o _ (.inl rfl) fin fun yp G1 H1 hr0 x1 u0 fc=>?_)
 obtain ⟨o1,hs1,_⟩:=o.back x1
 rw [hr0] at fin
 obtain ⟨k0,⟨p,dx,vs,m,rfl,ndx,jn,hl,ps⟩,kh,g⟩:=fc _ H1 (Same.refl _) o1
 obtain ⟨hnn,h2,h2m,pf⟩:=pp ps
 have hp1:H1 p=some (.ins C dx (ns.zip vs)):=o1.2.2.1 _ _ (kh _ _ (jn.l _ _ zgY_))
 refine ⟨dx,_,hp1,by rw [List.length_zip]; lia,?_⟩
 rw [zhV_ v nd hf hnn]
 have fr:∀ q,hn q≠none→less G1 h q=none∧h q=none∧H0 q=none:=fun q z=>by
  have hH':H' q≠none:=by
   cases y:hn q with
   | none=>exact absurd y z
   | some o=>rw [hsn _ _ y]; exact Option.some_ne_none _
  have hh:h q=none:=ok.2.2.1.free (fresh q z)
  refine ⟨?_,hh,ok.1.2.2.1.free (fresh q z)⟩
  have f1:less F' h q=none:=by
   rcases dj q with y | y
   ·exact zaq_.free y
   ·exact absurd y z
  have f2:un (less F' h) h q=none:=by unfold un; rw [f1]; exact hh
  refine zaq_.free ?_
  cases y:G1 q with
  | none=>rfl
  | some o'=>exact absurd (x1.2.2.2 q f2 (by rw [y]; exact Option.some_ne_none _)) hH'
 have dn:Dj hn h2:=fun q=>by
  by_cases z:hn q=none
  ·exact .inl z
  ·exact .inr (h2m.free (jn.r.free (kh.free (fr q z).2.1)))
 obtain ⟨j',P'⟩:=zg3_ (o':=.ins C dx (ns.zip (vs.set n v))) (hn:=hn) o1 kh ndx jn h2m fr (hsn.trans x1.2.2.1) dn
 obtain ⟨h',a1,a2⟩:=g (st yp.1 a) _ _ _ P' ⟨p,dx,vs.set n v,un hn h2,rfl,ndx,j',by rw [List.length_set]; exact hl,pf a v hn _ _ (Same.refl _) (O1.mono hs1 (hO ht hv)) (zcw_ dn)⟩
 exact hk _ F0 H0 σ _ h' _ D a1 a2 fin
theorem zlZ_ {p:Addr}{o':HO}(ok:Okk F0 H0 F h H) (hF:F p=none) (hh:h p=none) (h0:H0 p=none):Okk F0 H0 F h (upd H p o'):=by
 have ne:∀ {G:Hp}{b:Addr}{o:HO},G p=none→G b=some o→b≠p:=fun g z e=>by rw [e,g] at z; cases z
 exact ⟨⟨ok.1.1,fun b o z=>by rw [zN_ (ne hF z)]; exact ok.1.2.1 _ _ z,fun b o z=>by rw [zN_ (ne h0 z)]; exact ok.1.2.2.1 _ _ z,ok.1.2.2.2⟩,ok.2.1,fun b o z=>by rw [zN_ (ne hh z)]; exact ok.2.2.1 _ _ z,ok.2.2.2⟩
section
variable [DecidableEq κ] {KY:KyT κ}
def KvT (KY:KyT κ):Prop:=∀ {a v H},KY.T.R a v H→v=kV (KY.key a)
def EvPs (K:Fgg) (trs:List (TE×TE)) (E:XK) (L:List Sl) (r:Mo (List (κ×α))) (KY:KyT κ) (T:Ty α):Prop :=
 ∀ σ F H (Q:List (V×V)→Hp→Prop),HoldF L σ F→Same F H→After K r E F H (fun m F' H'=>∀ kvs,DPr KY T F' m kvs→Q (kvs.map fun kv=>(kV kv.1,kv.2)) H')→tPairs trs σ H Q
theorem zll_:EvPs K [] E L (.ok ([]:List (κ×α))) KY T:=fun σ F H Q hL hs q=>q.ok hs [] .nil
theorem zjP_ {e1 e2:TE}{trs:List (TE×TE)}{rk:Mo κ}{rs:Mo (List (κ×α))}(hkv:KvT KY) (h1:EvF K e1 E L rk KY.T) (h2:EvF K e2 E L r T) (h3:EvPs K trs E L rs KY T) :
  EvPs K ((e1,e2)::trs) E L (rk.bind fun y=>r.bind fun a=>rs.bind fun m=>.ok ((y,a)::m)) KY T:=by
 intro σ F H Q hL hs q
 show e1 σ H fun x H1=>e2 σ H1 fun y H2=>tPairs trs σ H2 fun ps H3=>Q ((x,y)::ps) H3
 refine h1 σ F H _ hL hs (q.bind.imp fun y F1 H1 x1 k1 v1 hv1=>?_)
 refine h2 σ F1 H1 _ (hL.mono x1.1) x1.2.1 (k1.bind.imp fun a F2 H2 x2 k2 v2 hv2=>?_)
 refine h3 σ F2 H2 _ (hL.mono (x1.1.trans x2.1)) x2.2.1 (k2.bind.imp fun m F3 H3 x3 k3 kvs hd=>?_)
 have e:=hkv hv1
 rw [e]
 exact k3.ok x3.2.1 ((KY.key y,v2)::kvs) (.cons ⟨rfl,T.mono x3.1 hv2⟩ hd)
def mergeA (m:List (κ×α)):List (κ×α):=m.foldl (fun acc kv=>putA acc kv.1 kv.2) []
theorem ziO_ {F:Hp}:∀ {m:List (κ×α)}{kvs:List (Key×V)}{acc:List (κ×α)}{ka:List (Key×V)},DPr KY T F m kvs→DPr KY T F acc ka→DPr KY T F (m.foldl (fun acc kv=>putA acc kv.1 kv.2) acc) (mergeK ka kvs):=by
 intro m kvs acc ka h
 induction h generalizing acc ka with
 | nil=>intro q; exact q
 | @cons a b as bs h t ih =>
  intro q
  obtain ⟨h1,h2⟩:=h
  have:=zl6_ q a.1 h2
  rw [← h1] at this
  exact ih this
theorem zlP_ {trs:List (TE×TE)}{r:Mo (List (κ×α))}(h:EvPs K trs E L r KY T):EvO K (tDisp trs) E L (r.bind fun m=>.grd (m.length≤15) (.ok (mergeA m))) (owD KY T):=by
 intro σ F H Q hL hs q p hp
 have sn:=zct_ (H:=H) hp (.dK [])
 have x0:Ext F H F (upd H p (.dK [])):=.heap hs sn
 refine h σ F (upd H p (.dK [])) _ hL x0.2.1 ?_
 cases e:r with
 | no=>rw [e] at q; exact q
 | ex c=>rw [e] at q; exact fun F' H' x=>q F' H' (x0.trans x)
 | ok m =>
  rw [e] at q
  obtain ⟨h15,q⟩:=After.grd (show After K (Mo.grd (m.length≤15) (.ok (mergeA m))) E F H _ from q)
  intro F2 H2 x2 kvs hd
  have hp2:H2 p=some (.dK []):=x2.2.2.1 _ _ zP_
  have hF:F p=none:=hs.free hp
  have hF2:F2 p=none:=by
   cases y:F2 p with
   | none=>rfl
   | some o' =>
    have:=x2.2.2.2 p hF (by rw [y]; exact Option.some_ne_none _)
    rw [zP_] at this; cases this
  have hlen:=Paired.length hd
  refine ⟨hp2,kvs,rfl,by lia,?_⟩
  have ne:∀ {G:Hp}{b:Addr}{o:HO},G p=none→G b=some o→b≠p:=fun g z e=>by rw [e,g] at z; cases z
  have xx:Ext F H F2 (upd H2 p (.dK (mergeK [] kvs))):=⟨x2.1,fun b o z=>by rw [zN_ (ne hF2 z)]; exact x2.2.1 _ _ z,fun b o z=>by rw [zN_ (ne hp z)]; exact x2.2.2.1 _ _ (sn _ _ z),fun b a1 a2=>sn.free (x2.2.2.2 b a1 a2)⟩
  refine q F2 _ xx (.ref p) (one p (.dK (mergeK [] kvs))) (fun b z=>?_) (fun b=>?_) (fun b o z=>?_) ⟨p,_,rfl,rfl,ziO_ hd .nil⟩
  ·unfold one at z; split at z
   ·rename_i e; rw [e]; exact hp
   ·exact absurd rfl z
  ·unfold one; split
   ·rename_i e; rw [e]; exact .inl hF2
   ·exact .inr rfl
  ·unfold one at z; split at z
   ·rename_i e; rw [e]; cases z; exact zP_
   ·cases z
end
theorem zl7_:KvT kStr:=fun h=>by cases h; rfl
theorem zl4_:EvS K tRetN E L ((Mo.ok ()).bind fun a=>.ok (.rt a)) LS LB (owF tyNon):=zb1_ (zA_ zfo_) (EvF.ow zhN_)
variable {te2:TE}
theorem zlL_ {c c2 d:TT}{O:Own α}{r:Mo (ρ'×α)}{kb:ρ'×α→Mo Bool}{r1 r2:ρ'×α→Mo (Out ρ B S)}(hm:EvM K tc E L i O Or' r) (hk:∀ q,EvT K c2 E ((L.set i (.ow O q.2))++[.fz Or'.fr q.1]) (kb q))
  (hte:∀ (σ:St),σ.length=L.length→∀ (H:Hp) (Q:Bool→Hp→Prop),(tc σ H fun v H1=>c2 (σ++[some v]) H1 Q)→c σ H Q) (h1:∀ q,EvS K t E (L.set i (.ow O q.2)) (r1 q) LS LB Or) (h2:∀ q,EvS K (mIfS d t u) E (L.set i (.ow O q.2)) (r2 q) LS LB Or) :
  EvS K (mIfS (mOr c d) t u) E L (r.bind fun q=>(kb q).bind fun b=>if b then r1 q else r2 q) LS LB Or:=by
 intro F0 H0 σ F h H D hL ok fin
 refine hte σ hL.len.symm H _ (hm F0 H0 σ F h H _ hL ok (zhl_ fin fun q F' h' H' hr o v k1 k2 j hold res=>?_))
 rw [hr] at fin
 obtain ⟨o2,hv⟩:=zhc_ o j res
 have fin:Fin K ((kb q).bind fun b=>if b then r1 q else r2 q) E LS LB Or F0 H0 D:=fin
 refine hk q _ (un (un F' k2) k1) H' _ (zfd_ (by rw [hold.len]) ((hold.mono zR_).froz o2.2.1) ⟨v,rfl,Or'.fr.mono zR_ hv⟩) o2.thaw (za2_ (G:=F') o2 _ (.inl rfl) fin fun b G2 H2 hra x2=>?_)
 obtain ⟨o3,hs3,_⟩:=o2.back x2
 rw [hra] at fin
 have fin':Fin K (if b then r1 q else r2 q) E LS LB Or F0 H0 D:=fin
 have hold3:=(hold.mono zR_).mono hs3
 refine ⟨fun z=>?_,fun z=>?_⟩
 ·rw [if_pos z] at fin'; exact ⟨fun _=>h1 q F0 H0 σ _ k1 H2 D hold3 o3 fin',fun y=>by cases y⟩
 ·rw [if_neg (by rw [z]; decide)] at fin'; exact h2 q F0 H0 σ _ k1 H2 D hold3 o3 fin'
end
theorem Fun.binds0 {K:Fgg}{x qual:Str}{st:Stmt}{f:Addr}{fd:FuncData}(F:Fun K x qual st f fd) (h:∀ (kV doc pm:Value) (an:Option Addr) (cdv ct:Value),bindArgs (PySem.W.fnOf x qual (defArgs st) (defBody st) (defScope st) .none kV doc pm an cdv ct) ⟨[],[]⟩=pure []):Binds K fd [] []:=by
 refine F.binds fun kV doc pm an cdv ct us hl=>?_
 cases List.length_eq_zero_iff.mp hl
 exact h kV doc pm an cdv ct
end L2
namespace L2
open PySem PySem.Spec PyProof.Rows
section
variable {K:Fgg}{E:XK}{α β γ δ ρ ρ' S B κ:Type}{F0 H0 F h H:Hp}{L:List Sl}{e te te1 tc:TE}{T:Ty α}{r:Mo α}{Or:Own ρ}{Or':Own ρ'}{t u:TS}{ta:TA}{LS:S→List Sl}{LB:B→List Sl}{σ:St}{C s:Addr}{ns:List Str}{f m:Str}{i n w j:Nat}
end
section
variable {prog:Program}{w:World}{A:Around}{E:Value→Shared→Prop}{s:Shared}
end
section
variable {X:Cx}
end
section
variable {K:Fgg}{E:XK}{α:Type}{L:List Sl}{e:TE}{T:Ty α}
end
end L2
namespace L2
open PySem PySem.Spec PyProof.Rows
section
variable {K:Fgg}{E:XK}{α β γ δ ρ ρ' S B κ:Type}{F0 H0 F h H:Hp}{L:List Sl}{e te te1 tc e1 e2:TE}{T:Ty α}{r:Mo α}{Or:Own ρ}{Or':Own ρ'}{t u:TS}{ta:TA}{LS:S→List Sl}{LB:B→List Sl}{σ:St}{C s:Addr}{ns:List Str}{f m:Str}{i n w j:Nat}
abbrev owH2 (O1:Own α) (O2:Own β):Own (α×β):=⟨fun c v F h=>∃ p v1 v2 m h1 h2,v=.ref p∧Jn (one p (.lst [v1,v2])) m h∧Jn h1 h2 m∧O1.O c.1 v1 F h1∧O2.O c.2 v2 F h2,tyH (csCons O1.fr (csLast O2.fr)),
 fun g ⟨p,v1,v2,m,h1,h2,e,jn,j,a,b⟩=>⟨p,v1,v2,m,h1,h2,e,jn,j,O1.mono g a,O2.mono g b⟩,
 fun d ⟨p,v1,v2,m,h1,h2,e,jn,j,a,b⟩=>⟨p,[v1,v2],e,zfy_ d _ _ (jn.l _ _ zX_),v1,[v2],rfl,O1.fr.mono (zcg_ d (j.l.trans jn.r)) (O1.frz (dj_l (dj_r d jn) j) a),v2,rfl,O2.fr.mono (zcg_ d (j.r.trans jn.r)) (O2.frz (dj_r (dj_r d jn) j) b)⟩,
 fun ⟨p,v1,v2,m,h1,h2,e,jn,j,a,b⟩ q xs z=>by
  rcases jn q with ⟨_,y⟩ | ⟨_,y⟩
  ·rw [y] at z
   rcases j q with ⟨_,y⟩ | ⟨_,y⟩
   ·rw [y] at z; exact O2.notup b q xs z
   ·rw [y] at z; exact O1.notup a q xs z
  ·rw [y] at z; unfold one at z; split at z<;>cases z⟩
theorem zjE_ {O1:Own α}{O2:Own β}(i1:ImmO O1) (i2:ImmO O2):ImmO (owH2 O1 O2):=fun g ⟨p,v1,v2,m,h1,h2,e,jn,j,a,b⟩=>⟨p,v1,v2,m,h1,h2,e,jn,j,i1 g a,i2 g b⟩
theorem zhi_ {O1:Own α}{O2:Own β}{r2:Mo β}(h1:EvO K e1 E L r O1) (h2:EvO K e2 E L r2 O2):EvO K (tLst (tCons e1 (tCons e2 tNil))) E L (r.bind fun a=>r2.bind fun b=>.ok (a,b)) (owH2 O1 O2):=by
 intro σ F H Q hL hs q
 show e1 σ H fun x H1=>e2 σ H1 fun y H2=>[x,y].length≤sizeLine∧∀ p,H2 p=none→Q (.ref p) (upd H2 p (.lst [x,y]))
 refine h1 σ F H _ hL hs (q.bind.imp fun a F1 H1 x1 k1 v1 hn1 fr1 d1 s1 o1=>?_)
 refine h2 σ F1 H1 _ (hL.mono x1.1) x1.2.1 (k1.bind.imp fun b F2 H2 x2 k2 v2 hn2 fr2 d2 s2 o2=>?_)
 refine ⟨zc8_ (by show 2≤100000; decide),fun p hp=>?_⟩
 have dj:Dj hn1 hn2:=fun q=>by
  by_cases z:hn2 q=none
  ·exact .inr z
  ·exact .inl (s1.free (fr2 q z))
 have n1:hn1 p=none:=(s1.trans x2.2.2.1).free hp
 have n2:hn2 p=none:=s2.free hp
 have hF2:F2 p=none:=x2.2.1.free hp
 have dp:Dj (one p (.lst [v1,v2])) (un hn1 hn2):=fun q=>by
  by_cases z:q=p
  ·subst z; right; unfold un; rw [n1]; exact n2
  ·left; unfold one; rw [if_neg z]
 have xx:Ext F2 H2 F2 (upd H2 p (.lst [v1,v2])):=.heap x2.2.1 (zct_ hp _)
 have k3:=k2 F2 _ xx
 refine k3 (.ref p) (un (one p (.lst [v1,v2])) (un hn1 hn2)) (fun b z=>?_) (fun b=>?_) (fun b o z=>?_) ⟨p,v1,v2,un hn1 hn2,hn1,hn2,rfl,zcw_ dp,zcw_ dj,O1.mono x2.1 o1,o2⟩
 ·unfold un at z
  by_cases e:b=p
  ·rw [e]; exact (x1.2.2.1.trans x2.2.2.1).free hp
  ·unfold one at z; rw [if_neg e] at z
   cases y:hn1 b with
   | some w=>exact fr1 b (by rw [y]; exact Option.some_ne_none _)
   | none=>rw [y] at z; exact x1.2.2.1.free (fr2 b z)
 ·unfold un
  by_cases e:b=p
  ·rw [e]; exact .inl hF2
  ·unfold one; rw [if_neg e]
   cases y:hn1 b with
   | some w =>
    left
    have F1b:F1 b=none:=by
     rcases d1 b with z | z
     ·exact z
     ·rw [z] at y; cases y
    cases yy:F2 b with
    | none=>rfl
    | some o' =>
     have:=x2.2.2.2 b F1b (by rw [yy]; exact Option.some_ne_none _)
     rw [s1 _ _ y] at this; cases this
   | none=>exact d2 b
 ·unfold un at z
  by_cases e:b=p
  ·rw [e] at z ⊢; rw [zX_] at z; rw [zP_]; exact z
  ·unfold one at z; rw [if_neg e] at z; rw [zN_ e]
   cases y:hn1 b with
   | some w=>rw [y] at z; rw [← z]; exact x2.2.2.1 _ _ (s1 _ _ y)
   | none=>rw [y] at z; exact s2 _ _ z
theorem zhz_ {i:Nat}{s:Sl}{σ:St}{a:α}{v:V}{O1:Own α}{hn:Hp}(ok:Okk F0 H0 F h H) (hi:L[i]?=some s) (hL:Hold L σ F h) (fresh:∀ p,hn p≠none→H0 p=none) (dj:Dj F hn) (dh:Dj hn h) (hs:Same hn H) (hv:O1.O a v F hn) :
  ∃ h',Hold (L.set i (.ow O1 a)) (σ.set i (some v)) F h'∧Okk F0 H0 F h' H∧∀ q,h' q≠none→hn q≠none∨h q≠none:=by
 obtain ⟨o,h1,h2,_,j,_,f⟩:=hL.at i hi
 have d2:Dj hn h2:=fun p=>by
  rcases dh p with z | z
  ·exact .inl z
  ·exact .inr (j.r.free z)
 refine ⟨un hn h2,f (.ow O1 a) (some v) hn _ (zcw_ d2) ⟨v,rfl,hv⟩,⟨ok.1,fun p=>?_,fun p o e=>?_,fun p e=>?_,fun p xs e=>?_⟩,fun q e=>?_⟩
 ·unfold un
  cases z:hn p with
  | some w =>
   rcases dj p with y | y
   ·exact .inl y
   ·rw [y] at z; cases z
  | none =>
   rcases ok.2.1 p with y | y
   ·exact .inl y
   ·exact .inr (j.r.free y)
 ·unfold un at e
  cases z:hn p with
  | some w=>rw [z] at e; cases e; exact hs _ _ z
  | none=>rw [z] at e; exact ok.2.2.1 _ _ (j.r _ _ e)
 ·unfold un at e
  cases z:hn p with
  | some w=>exact fresh p (by rw [z]; exact Option.some_ne_none _)
  | none =>
   rw [z] at e
   cases y:h2 p with
   | none=>exact absurd y e
   | some w=>exact ok.2.2.2.1 p (by rw [j.r _ _ y]; exact Option.some_ne_none _)
 ·unfold un at e
  cases z:hn p with
  | some w=>rw [z] at e; cases e; exact O1.notup hv p xs z
  | none=>rw [z] at e; exact ok.2.2.2.2 p xs (j.r _ _ e)
 ·unfold un at e
  cases z:hn q with
  | some w=>exact .inl (Option.some_ne_none _)
  | none =>
   rw [z] at e
   exact .inr fun y=>e (j.r.free y)
theorem zk3_ {O1:Own α}{O2:Own β}{r:Mo (α×β)}{s1 s2:Sl}{k:α×β→Mo (Out ρ B S)}(hi:L[i]?=some s1) (hj:L[j]?=some s2) (hne:i≠j) (h1:ImmO O1) (h2:ImmO O2) (he:EvO K e E L r (owH2 O1 O2)) (hk:∀ a,EvS K u E ((L.set i (.ow O1 a.1)).set j (.ow O2 a.2)) (k a) LS LB Or) :
  EvS K (tSeq (tAsg e (gLst2 K (gConsM (gName i) (gConsM (gName j) gNilM)))) u) E L (r.bind k) LS LB Or:=by
 intro F0 H0 σ F h H D hL ok fin
 refine he σ (un F h) H _ (hL.froz ok.2.1) ok.thaw (za2_ (G:=F) ok _ (.inl rfl) fin fun a F' H' hr x v hn fresh dj hsn hv=>?_)
 obtain ⟨o,hs,ht⟩:=ok.back x
 rw [hr] at fin
 obtain ⟨p,v1,v2,m,k1,k2,rfl,jn,jm,a1,a2⟩:=hv
 have hp:H' p=some (.lst [v1,v2]):=hsn _ _ (jn.l _ _ zX_)
 have dj':Dj (less F' h) hn:=fun q=>by
  rcases dj q with z | z
  ·exact .inl (zaq_.free z)
  ·exact .inr z
 have dh:Dj hn h:=zk0_ ok.2.2.1 fresh
 have m1:Same k1 hn:=jm.l.trans jn.r
 have m2:Same k2 hn:=jm.r.trans jn.r
 have fr0:∀ q,hn q≠none→H0 q=none:=fun q z=>ok.1.2.2.1.free (fresh q z)
 refine ⟨v1,v2,.of hp,?_⟩
 show u D ((σ.set i (some v1)).set j (some v2)) H'
 have sub1:∀ {q},k1 q≠none→hn q≠none:=fun {q} z y=>z (m1.free y)
 have sub2:∀ {q},k2 q≠none→hn q≠none:=fun {q} z y=>z (m2.free y)
 obtain ⟨h',b1,b2,b3⟩:=zhz_ o hi (hL.mono hs) (fun q z=>fr0 q (sub1 z)) (fun q=>by
  rcases dj' q with z | z
  ·exact .inl z
  ·exact .inr (m1.free z)) (fun q=>by
  rcases dh q with z | z
  ·exact .inl (m1.free z)
  ·exact .inr z) (m1.trans hsn) (h1 ht a1)
 obtain ⟨h'',c1,c2⟩:=zga_ b2 (by rw [List.getElem?_set_ne hne]; exact hj) b1 (fun q z=>fr0 q (sub2 z)) (fun q=>by
  rcases dj' q with z | z
  ·exact .inl z
  ·exact .inr (m2.free z)) (fun q=>by
  by_cases z:k2 q=none
  ·exact .inl z
  ·right
   cases y:h' q with
   | none=>rfl
   | some w =>
    rcases b3 q (by rw [y]; exact Option.some_ne_none _) with y1 | y1
    ·rcases jm.dj q with y2 | y2
     ·exact absurd y2 y1
     ·exact absurd y2 z
    ·rcases dh q with y2 | y2
     ·exact absurd y2 (sub2 z)
     ·exact absurd y2 y1) (m2.trans hsn) (h2 ht a2)
 exact hk a F0 H0 _ _ h'' H' D c1 c2 fin
theorem zh1_ {l:List Nat}{T0:Ty β}{r0:Mo (List (List β))}{s0:Sl}(hw:L[w]?=some s0) (he:EvO K te E L r0 (owLO (owL T0))) :
  EvS K (tFor (iAny K te) (gName w) (tDrop (tBM K "list" rAppend (mVar w) (tCons (tC (tx l)) tNil)))) E L (r0.bind fun xs=>.grd (xs.length≤1000∧∀ x∈xs,x.length≤50000) (.ok (.nx ()))) (fun _=>L.set w .dead) LB Or:=by
 intro F0 H0 σ F h H D hL ok fin
 have dd:∀ {σ F h},Hold L σ F h→Hold (L.set w .dead) σ F h:=fun {σ F h} hL=>by
  obtain ⟨o,k,hr,e1,j,_,f⟩:=hL.at w hw
  have:=f .dead o k h j trivial
  rwa [za0_ e1] at this
 unfold tFor iAny
 refine he σ (un F h) H _ (hL.froz ok.2.1) ok.thaw (za2_ (G:=F) ok _ (.inl rfl) fin fun xs F1 H1 hr0 x1 v hn fresh dj hsn hv=>?_)
 obtain ⟨o1,hs1,_⟩:=ok.back x1
 rw [hr0] at fin
 obtain ⟨⟨hb1,hb2⟩,fin⟩:=zkZ_ (show Fin K (Mo.grd (xs.length≤1000∧∀ x∈xs,x.length≤50000) (.ok (.nx ()))) E (fun _=>L.set w .dead) LB Or F0 H0 D from fin)
 obtain ⟨p,vs,m,rfl,jn,all⟩:=hv
 have hlen:=all.len
 have hp1:H1 p=some (.lst vs):=hsn _ _ (jn.l _ _ zX_)
 have fr:∀ q,hn q≠none→less F1 h q=none∧h q=none∧H0 q=none:=fun q z=>⟨by
  rcases dj q with y | y
  ·exact zaq_.free y
  ·exact absurd y z,ok.2.2.1.free (fresh q z),ok.1.2.2.1.free (fresh q z)⟩
 have frp:=fr p (by rw [jn.l _ _ zX_]; exact Option.some_ne_none _)
 refine .inl ⟨⟨vs,.of hp1⟩,?_⟩
 refine ⟨fun k m σ H=>m=vs.length-k∧k≤vs.length∧Hold (L.set w .dead) σ (less F1 h) h∧Okk F0 H0 (less F1 h) h H∧H p=some (.lst vs)∧∀ (j:Nat) (b:V),vs[j]?=some b→∃ (q:Addr) (ws:List V),b=V.ref q∧q≠p∧H q=some (.lst ws)∧ws.length≤50000+k∧less F1 h q=none∧h q=none∧H0 q=none,⟨_,rfl,Nat.zero_le _,dd (hL.mono hs1),o1,hp1,fun j b ej=>?_⟩,?_⟩
 ·have hj:j<xs.length:=by rw [hlen]; exact (List.getElem?_eq_some_iff.mp ej).1
  obtain ⟨v,k1,k2,ev,jj,⟨q,ws,e5,e6,pr⟩,_⟩:=all.at j (List.getElem?_eq_getElem hj)
  rw [ej] at ev; cases ev
  have hm:m q=some (.lst ws):=jj.l _ _ (by rw [e6]; exact zX_)
  have hq:hn q=some (.lst ws):=jn.r _ _ hm
  refine ⟨q,ws,e5,fun z=>?_,hsn _ _ hq,?_,fr q (by rw [hq]; exact Option.some_ne_none _)⟩
  ·rcases jn.dj p with y | y
   ·rw [zX_] at y; cases y
   ·rw [← z,hm] at y; cases y
  ·have:=hb2 _ (List.getElem_mem hj)
   rw [← pr.len]; lia
 ·rintro k m σ H ⟨rfl,hk,hL,ok,hp,hq⟩
  by_cases hlt:k<vs.length
  ·right
   have ek:vs[k]?=some vs[k]:=List.getElem?_eq_getElem hlt
   refine ⟨⟨vs,vs[k],.of hp,ek⟩,fun σ' H'=>k+1≤vs.length∧Hold (L.set w .dead) σ' (less F1 h) h∧Okk F0 H0 (less F1 h) h H'∧H' p=some (.lst vs)∧∀ (j:Nat) (b:V),vs[j]?=some b→∃ (q:Addr) (ws:List V),b=V.ref q∧q≠p∧H' q=some (.lst ws)∧ws.length≤50000+(k+1)∧less F1 h q=none∧h q=none∧H0 q=none,
    fun σ' H' z=>⟨vs.length-(k+1),by lia,rfl,z⟩,fun v H2 hy=>?_⟩
   obtain ⟨rfl,zz⟩:=hy
   have ev:=zz vs (.of hp)
   rw [ek] at ev
   injection ev with ev
   subst ev
   obtain ⟨q,ws,e5,qp,hH,hws,f1,f2,f3⟩:=hq k vs[k] ek
   rw [e5]
   have hwl:w<σ.length:=by
    have:=hL.len
    rw [List.length_set] at this
    rw [← this]; exact (List.getElem?_eq_some_iff.mp hw).1
   unfold gName tDrop tBM
   refine zc6_ (List.getElem?_set_self hwl) ⟨.inl ⟨rfl,ws,.of hH⟩,?_⟩
   have hw2:(L.set w .dead)[w]?=some .dead:=by rw [List.getElem?_set_self]; exact (List.getElem?_eq_some_iff.mp hw).1
   have hold2:Hold (L.set w .dead) (σ.set w (some (.ref q))) (less F1 h) h:=by
    obtain ⟨o,k1,hr,_,jj,_,f⟩:=hL.at w hw2
    have:=f .dead (some (.ref q)) k1 h jj trivial
    rwa [List.set_set] at this
   refine ⟨q,ws,tx l,rfl,rfl,hH,by rw [sizeLine_eq]; lia,hlt,hold2,zlZ_ ok f1 f2 f3,by rw [zN_ (Ne.symm qp)]; exact hp,fun j b ej=>?_⟩
   obtain ⟨q',ws',a1,a2,a3,a4,a5⟩:=hq j b ej
   by_cases z:q'=q
   ·subst z
    rw [hH] at a3; cases a3
    exact ⟨q',_,a1,a2,zP_,by rw [List.length_append,List.length_singleton]; lia,a5⟩
   ·exact ⟨q',ws',a1,a2,by rw [zN_ z]; exact a3,by lia,a5⟩
  ·left
   have:k=vs.length:=by lia
   exact ⟨⟨vs,.of hp,by rw [this]; simp⟩,fin σ _ h H hL ok⟩
end
end L2
namespace K55
open PySem PySem.Spec PyProof.Rows L2
open Mo renaming bind→Mb,ok→Mq
open Sl renaming fz→Zf,dead→Zd,ow→Zo
theorem S4 {a b c d:Sl}{L L':List Sl}(h:Sub L L'):Sub (a::b::c::d::L) (a::b::c::d::L'):=.same (.same (.same (.same h)))
abbrev Qn0:List Str:=["pockets", "log", "column", "sign"]
abbrev Qn1:List Str:=["pockets", "log", "column"]
abbrev Qq0 (K:Fgg):=(owI (gA K "Picker") Qn0 (psO (owLO (owL tyStr)) (psO (owL tyInt) (psO (owF tyInt) (psO (owF tyStr) psNil)))))
abbrev Qq1 (K:Fgg):=(owI (gA K "Dealer") Qn1 (psO (owLO (owL tyStr)) (psO (owL tyInt) (psO (owF tyInt) psNil))))
abbrev Qq2 (K:Fgg):=(tyI (gA K "Picker") Qn0 (csCons (tyL (tyL tyStr)) (csCons (tyL tyInt) (csCons tyInt (csCons tyStr csNil)))))
abbrev Qq3:=((List (List (List Nat)))×((List Int)×(Int×((List Nat)×Unit))))
abbrev Qq4 (K:Fgg):=(tyI (gA K "Dealer") Qn1 (csCons (tyL (tyL tyStr)) (csCons (tyL tyInt) (csCons tyInt csNil))))
abbrev Qq5:=((List (List (List Nat)))×((List Int)×(Int×Unit)))
abbrev Qq6:=(psO (owLO (owL tyStr)) (psO (owL tyInt) psNil))
abbrev Qq7:=((List (List (List Nat)))×((List Int)×Unit))
abbrev Qq8:=(tyTup (csCons tyStr (csCons tyStr (csCons tyInt (csLast tyStr)))))
abbrev Qq9:=(tyTup (csCons tyStr (csCons tyStr (csLast tyInt))))
abbrev Qq10:=(psO (owLO (owL tyStr)) (psO (owL tyInt) (psO (owF tyInt) psNil)))
abbrev Qq11:=(psO (owLO (owL tyStr)) (psO (owL tyInt) (psO (owF tyInt) (psO (owF tyStr) psNil))))
abbrev Qq12 (K:Fgg):=(owI (gA K "Picker") ["pockets", "log"] Qq6)
abbrev Qq13 (K:Fgg):=(owI (gA K "Dealer") ["pockets", "log"] Qq6)
def zen_  : Mo (Out (List Nat) Unit Unit) :=
 (Mb (Mq (SG:List Nat)) fun r_1=>Mq (.rt r_1))
def zbp_  : Mo (List Nat):=fnO (zen_)
def zdQ_ (p_cell:Int) (p_menu:(List Nat)) (p_mark:(List Nat)):Mo (Out (List Nat) Unit Unit) :=
 (Mb (Mq ([]:List Nat)) fun u1'=>(Mb (Mb (Mb (Mq p_cell) fun v3=>Mb (Mq (2147483647:Int)) fun y4=>Mo.grd (0<y4) (Mq (v3 % y4))) fun v5=>Mb (Mq (3:Int)) fun w6=>Mq (v5+w6)) fun u2'=>(thenO (S:=(Int×(List Nat))) (Mb (Mb (Mq (36:Int)) fun c8=>Mo.grd (-(2 ^ 62)≤c8∧c8<2 ^ 62) (Mq (rngI 0 c8.toNat))) fun x31=>forO (fun (t7:(Int×(List Nat))) x9=>(Mb (Mb (Mb (Mb (Mb (Mq t7.1) fun a11=>Mb (Mq t7.1) fun b12=>Mo.grd (IntMulOk a11 b12) (Mq (a11*b12))) fun a15=>Mb (Mb (Mq (17:Int)) fun a13=>Mb (Mq x9) fun b14=>Mo.grd (IntMulOk a13 b14) (Mq (a13*b14))) fun b16=>Mq (a15+b16)) fun a17=>Mb (Mq (5:Int)) fun b18=>Mq (a17+b18)) fun a19=>Mb (Mq (2147483629:Int)) fun b20=>Mo.grd (0<b20) (Mq (a19 % b20))) fun n10=>(Mb (Mb (Mq t7.2) fun a29=>Mb (Mb (Mq p_menu) fun a27=>Mb (Mb (Mb (Mq n10) fun a22=>Mb (Mq (3:Int)) fun b23=>Mo.grd (CDivG a22 b23) (Mq (a22 / b23))) fun a25=>Mb (Mb (Mq p_menu) fun c24=>Mo.lim c24.length (Mq (c24.length:Int))) fun b26=>Mo.grd (0<b26) (Mq (a25 % b26))) fun b28=>Mo.lim a27.length (Mo.opt ((atI a27 b28).map fun c=>[c]))) fun b30=>Mo.lim (a29.length+b30.length) (Mq (a29++b30))) fun v21=>(Mq (.nx (n10,v21)))))) x31 (u2',u1')) fun t7=>(Mb (Mb (Mq t7.2) fun a32=>Mb (Mq p_mark) fun b33=>Mo.lim (a32.length+b33.length) (Mq (a32++b33))) fun r34=>Mq (.rt r34)))))
def zbX_ (p_cell:Int) (p_menu:(List Nat)) (p_mark:(List Nat)):Mo (List Nat):=fnO (zdQ_ p_cell p_menu p_mark)
def zdy_ (p_cells:(List Int)) (p_way:Int):Mo (Out (List (List Nat)) Unit Unit) :=
 (Mb (Mb (Mb (Mb (Mq ([65,32]:List Nat)) fun v7=>Mb (Mb (Mq ([48,90,57]:List Nat)) fun v5=>Mb (Mb (Mq ([66,53,65,32,48]:List Nat)) fun v3=>Mb (Mb (Mq ()) fun c_2=>Mo.noex (zbp_)) fun t4=>Mq (v3,t4)) fun c6=>Mq (v5,c6)) fun c8=>Mq (v7,c8)) fun c9=>Mq [c9.1,c9.2.1,c9.2.2.1,c9.2.2.2]) fun a12=>Mb (Mb (Mq p_way) fun a10=>Mb (Mq (4:Int)) fun b11=>Mo.grd (0<b11) (Mq (a10 % b11))) fun b13=>Mo.opt (atI a12 b13)) fun z1'=>(Mb (Mq ([]:List (List Nat))) fun d14=>(thenO (S:=(List (List Nat))) (Mb (Mb (Mq p_cells) fun c16=>Mq (enumL c16)) fun x41=>forO (fun (s15:(List (List Nat))) x17=>(Mb (Mb (Mb (Mb (Mb (Mq x17.1) fun a19=>Mb (Mq (271:Int)) fun b20=>Mo.grd (IntMulOk a19 b20) (Mq (a19*b20))) fun a21=>Mb (Mq (10000:Int)) fun b22=>Mo.grd (0<b22) (Mq (a21 % b22))) fun c23=>Mo.grd (c23.natAbs.log2<1920) (Mq (strI c23))) fun a24=>Mb (Mq (4:Int)) fun b25=>Mo.grd (PadOk b25=true) (Mq (zfL a24 b25))) fun m18=>(thenO (S:=(List Nat)) (Mb (Mb (Mb (Mb (Mq p_way) fun a26=>Mb (Mq (4:Int)) fun b27=>Mo.grd (CDivG a26 b27) (Mq (a26 / b27))) fun a28=>Mb (Mq (4:Int)) fun b29=>Mo.grd (0<b29) (Mq (a28 % b29))) fun a30=>Mb (Mq (1:Int)) fun b31=>Mq (decide (a30=b31))) fun c32=>if c32 then (Mb (Mq ([77,65,82,75]:List Nat)) fun m34=>(Mq (.nx m34))) else (Mq (.nx m18))) fun s33=>(Mb (Mb (Mb (Mq x17.2) fun a37=>Mb (Mb (Mq z1') fun a35=>Mb (Mq s33) fun c36=>Mq (a35,c36)) fun c38=>Mq (a37,c38)) fun c39=>Mo.noex (zbX_ c39.1 c39.2.1 c39.2.2)) fun a40=>Mo.lim (s15.length+1) (Mq (.nx (s15++[a40]))))))) x41 d14) fun s15=>(Mq (.rt s15)))))
def zcA_ (p_cells:(List Int)) (p_way:Int):Mo (List (List Nat)):=fnO (zdy_ p_cells p_way)
def zb3_ (p_script:(List Int)) (p_k:Int):Mo (Out Int Unit Unit) :=
 (thenO (S:=Unit) (Mb (Mb (Mq p_k) fun a_2=>Mb (Mb (Mq p_script) fun c_1=>Mq (c_1.length:Int)) fun b_3=>Mq (decide (a_2<b_3))) fun t4=>if t4 then (Mb (Mb (Mq p_script) fun v6=>Mb (Mq p_k) fun b7=>Mo.opt (atI v6 b7)) fun w8=>Mq (.rt w8)) else (Mq (.nx ()))) fun _=>(Mb (Mq (0:Int)) fun r9=>Mq (.rt r9)))
def zaf_ (p_script:(List Int)) (p_k:Int):Mo Int:=fnO (zb3_ p_script p_k)
def zD_ (p_self:Unit):Mo (Out (Unit×Qq7) Unit Qq7) :=
 (Mb (Mb (Mq ([]:(List (List (List Nat))))) fun l5=>Mo.lim l5.length (Mq l5)) fun a_1=>Mb (Mq (a_1,())) fun x_2=>(Mb (Mq ([]:List Int)) fun v3=>Mb (Mq (x_2.1,(v3,()))) fun x_4=>(Mq (.nx x_4))))
def zr_ (p_self:Unit):Mo (Unit×Qq7):=fnMU (zD_ p_self)
def z9_ (p_self:Qq7) (p_many:Int):Mo (Out (Unit×Qq7) Unit Qq7) :=
 (Mb (Mb (Mb (Mq p_many) fun t4=>Mo.grd (-(2 ^ 62)≤t4∧t4<2 ^ 62) (Mq (rngI 0 t4.toNat))) fun u6'=>compM (fun x_5=>cond1 (Mq true) (Mq ([]:List (List Nat)))) u6' []) fun a_1=>Mb (Mq (p_self,fun (z:Qq7)=>z)) fun y_3=>Mb (Mq (y_3.2 (a_1,y_3.1.2))) fun x_2=>(Mq (.nx x_2)))
def zL_ (p_self:Qq7) (p_many:Int):Mo (Unit×Qq7):=fnMU (z9_ p_self p_many)
def zaH_ (p_self:Unit) (p_column:Int):Mo (Out (Unit×Qq5) Unit Qq5) :=
 (Mb (Mb (Mq ()) fun c_1=>Mb (Mo.noex (zr_ p_self)) fun q_3=>Mq (q_3.1,q_3.2)) fun q_2=>(Mb (Mq (q_2.2,fun (z:Qq7)=>z)) fun y_5=>Mb (Mb (Mq (SG:List Nat)) fun t4=>Mo.lim t4.length (Mq (t4.length:Int))) fun c6=>Mb (Mo.noex (zL_ y_5.1 c6)) fun y7=>Mb (Mq (y_5.2 y7.2)) fun x8=>(Mb (Mq p_column) fun a9=>Mb (Mq (x8.1,(x8.2.1,(a9,())))) fun x10=>(Mq (.nx x10)))))
def zS_ (p_self:Unit) (p_column:Int):Mo (Unit×Qq5):=fnMU (zaH_ p_self p_column)
def zC_ (p_self:Unit):Mo (Out (Unit×Qq7) Unit Qq7) :=
 (Mb (Mb (Mq ([]:(List (List (List Nat))))) fun l5=>Mo.lim l5.length (Mq l5)) fun a_1=>Mb (Mq (a_1,())) fun x_2=>(Mb (Mq ([]:List Int)) fun v3=>Mb (Mq (x_2.1,(v3,()))) fun x_4=>(Mq (.nx x_4))))
def zs_ (p_self:Unit):Mo (Unit×Qq7):=fnMU (zC_ p_self)
def z8_ (p_self:Qq7) (p_many:Int):Mo (Out (Unit×Qq7) Unit Qq7) :=
 (Mb (Mb (Mb (Mq p_many) fun t4=>Mo.grd (-(2 ^ 62)≤t4∧t4<2 ^ 62) (Mq (rngI 0 t4.toNat))) fun u6'=>compM (fun x_5=>cond1 (Mq true) (Mq ([]:List (List Nat)))) u6' []) fun a_1=>Mb (Mq (p_self,fun (z:Qq7)=>z)) fun y_3=>Mb (Mq (y_3.2 (a_1,y_3.1.2))) fun x_2=>(Mq (.nx x_2)))
def zK_ (p_self:Qq7) (p_many:Int):Mo (Unit×Qq7):=fnMU (z8_ p_self p_many)
def zaJ_ (p_self:Unit) (p_column:Int) (p_sign:(List Nat)):Mo (Out (Unit×Qq3) Unit Qq3) :=
 (Mb (Mb (Mq ()) fun c_1=>Mb (Mo.noex (zs_ p_self)) fun q_3=>Mq (q_3.1,q_3.2)) fun q_2=>(Mb (Mq (q_2.2,fun (z:Qq7)=>z)) fun y_4=>Mb (Mq (2:Int)) fun c5=>Mb (Mo.noex (zK_ y_4.1 c5)) fun z6=>Mb (Mq (y_4.2 z6.2)) fun x_7=>(Mb (Mq p_column) fun v8=>Mb (Mq (x_7.1,(x_7.2.1,(v8,())))) fun x9=>(Mb (Mq p_sign) fun a10=>Mb (Mq (x9.1,(x9.2.1,(x9.2.2.1,(a10,()))))) fun x11=>(Mq (.nx x11))))))
def zT_ (p_self:Unit) (p_column:Int) (p_sign:(List Nat)):Mo (Unit×Qq3):=fnMU (zaJ_ p_self p_column p_sign)
def zaK_ (p_going:((List Nat)×((List Nat)×Int))) (p_trays:(List ((List Nat)×(List (List Nat))))):Mo (Out Qq5 Unit Unit) :=
 (Mb (Mb (Mq p_going) fun a_2=>Mq a_2.1) fun y1'=>(thenO (S:=Unit) (Mb (Mb (Mq y1') fun v3=>Mb (Mq ([100,101,97,108]:List Nat)) fun y4=>Mq (decide (v3=y4))) fun c5=>if c5 then (Mb (Mb (Mb (Mq p_going) fun v7=>Mq v7.2.2) fun c8=>Mb (Mo.noex (zS_ () c8)) fun q9=>Mq q9.2) fun r10=>Mq (.rt r10)) else (Mq (.nx ()))) fun _=>(thenO (S:=Unit) (Mb (Mb (Mq y1') fun a11=>Mb (Mq ([112,105,99,107]:List Nat)) fun b12=>Mq (decide (a11=b12))) fun c13=>if c13 then Mo.no else (Mq (.nx ()))) fun _=>(thenO (S:=Unit) (Mb (Mb (Mq y1') fun a15=>Mb (Mq ([109,97,116,101]:List Nat)) fun b16=>Mq (decide (a15=b16))) fun c17=>if c17 then Mo.no else (Mq (.nx ()))) fun _=>(thenO (S:=Unit) (Mb (Mb (Mq y1') fun a19=>Mb (Mq ([102,105,114,115,116]:List Nat)) fun b20=>Mq (decide (a19=b20))) fun c21=>if c21 then Mo.no else (Mq (.nx ()))) fun _=>(thenO (S:=Unit) (Mb (Mb (Mq y1') fun a23=>Mb (Mq ([112,117,110,99,104]:List Nat)) fun b24=>Mq (decide (a23=b24))) fun c25=>if c25 then Mo.no else (Mq (.nx ()))) fun _=>Mo.no))))))
def zae_ (p_going:((List Nat)×((List Nat)×Int))) (p_trays:(List ((List Nat)×(List (List Nat))))):Mo Qq5:=fnO (zaK_ p_going p_trays)
def zaL_ (p_going:((List Nat)×((List Nat)×(Int×(List Nat))))) (p_trays:(List ((List Nat)×(List (List Nat))))):Mo (Out Qq3 Unit Unit) :=
 (Mb (Mb (Mq p_going) fun a_2=>Mq a_2.1) fun y1'=>(thenO (S:=Unit) (Mb (Mb (Mq y1') fun v3=>Mb (Mq ([100,101,97,108]:List Nat)) fun y4=>Mq (decide (v3=y4))) fun c5=>if c5 then Mo.no else (Mq (.nx ()))) fun _=>(thenO (S:=Unit) (Mb (Mb (Mq y1') fun v7=>Mb (Mq ([112,105,99,107]:List Nat)) fun b8=>Mq (decide (v7=b8))) fun c9=>if c9 then (Mb (Mb (Mb (Mb (Mq p_going) fun a11=>Mq a11.2.2.1) fun a13=>Mb (Mb (Mq p_going) fun a12=>Mq a12.2.2.2) fun c14=>Mq (a13,c14)) fun c15=>Mb (Mo.noex (zT_ () c15.1 c15.2)) fun q16=>Mq q16.2) fun r17=>Mq (.rt r17)) else (Mq (.nx ()))) fun _=>(thenO (S:=Unit) (Mb (Mb (Mq y1') fun a18=>Mb (Mq ([109,97,116,101]:List Nat)) fun b19=>Mq (decide (a18=b19))) fun c20=>if c20 then Mo.no else (Mq (.nx ()))) fun _=>(thenO (S:=Unit) (Mb (Mb (Mq y1') fun a22=>Mb (Mq ([102,105,114,115,116]:List Nat)) fun b23=>Mq (decide (a22=b23))) fun c24=>if c24 then Mo.no else (Mq (.nx ()))) fun _=>(thenO (S:=Unit) (Mb (Mb (Mq y1') fun a26=>Mb (Mq ([112,117,110,99,104]:List Nat)) fun b27=>Mq (decide (a26=b27))) fun c28=>if c28 then Mo.no else (Mq (.nx ()))) fun _=>Mo.no))))))
def zad_ (p_going:((List Nat)×((List Nat)×(Int×(List Nat))))) (p_trays:(List ((List Nat)×(List (List Nat))))):Mo Qq3:=fnO (zaL_ p_going p_trays)
def zby_ (p_column:Int) (p_sign:(List Nat)) (p_way:Int):Mo (Out (Qq5×Qq3) Unit Unit) :=
 (thenO (S:=Unit) (Mb (Mb (Mb (Mq p_way) fun a_1=>Mb (Mq (2:Int)) fun b_2=>Mo.grd (0<b_2) (Mq (a_1 % b_2))) fun v3=>Mb (Mq (0:Int)) fun y4=>Mq (decide (v3=y4))) fun c5=>if c5 then (Mb (Mb (Mb (Mq p_column) fun c7=>Mb (Mo.noex (zS_ () c7)) fun q8=>Mq q8.2) fun a13=>Mb (Mb (Mb (Mq p_column) fun a9=>Mb (Mq p_sign) fun c10=>Mq (a9,c10)) fun c11=>Mb (Mo.noex (zT_ () c11.1 c11.2)) fun q12=>Mq q12.2) fun b14=>Mq (a13,b14)) fun r15=>Mq (.rt r15)) else (Mq (.nx ()))) fun _=>(Mb (Mb (Mb (Mb (Mb (Mq ([100,101,97,108]:List Nat)) fun a18=>Mb (Mb (Mq ([97]:List Nat)) fun a16=>Mb (Mq p_column) fun c17=>Mq (a16,c17)) fun c19=>Mq (a18,c19)) fun a20=>Mb (Mq ([]:(List ((List Nat)×(List (List Nat)))))) fun c21=>Mq (a20,c21)) fun c22=>Mo.noex (zae_ c22.1 c22.2)) fun a36=>Mb (Mb (Mb (Mb (Mq ([112,105,99,107]:List Nat)) fun a27=>Mb (Mb (Mq ([98]:List Nat)) fun a25=>Mb (Mb (Mq p_column) fun a23=>Mb (Mq p_sign) fun c24=>Mq (a23,c24)) fun c26=>Mq (a25,c26)) fun c28=>Mq (a27,c28)) fun a33=>Mb (Mb (Mb (Mq ([98]:List Nat)) fun y29=>Mb (Mq ([]:List (List Nat))) fun a30=>Mb (Mq ([]:(List ((List Nat)×(List (List Nat)))))) fun m31=>Mq ((y29,a30)::m31)) fun m32=>Mo.grd (m32.length≤15) (Mq (mergeA m32))) fun c34=>Mq (a33,c34)) fun c35=>Mo.noex (zad_ c35.1 c35.2)) fun b37=>Mq (a36,b37)) fun r38=>Mq (.rt r38)))
def zaQ_ (p_column:Int) (p_sign:(List Nat)) (p_way:Int):Mo (Qq5×Qq3):=fnO (zby_ p_column p_sign p_way)
def zci_ (p_self:Qq5):Mo (Out Unit Unit Unit) :=
 (Mb (Mq ()) fun r_1=>Mq (.rt r_1))
def zbc_ (p_self:Qq5):Mo Unit:=fnU (zci_ p_self)
def zco_ (p_self:Qq3):Mo (Out Unit Unit Unit) :=
 (Mb (Mq ()) fun r_1=>Mq (.rt r_1))
def zbe_ (p_self:Qq3):Mo Unit:=fnU (zco_ p_self)
def zbs_ (p_self:Qq5):Mo (Out (List (List Nat)) Unit Unit) :=
 (Mb (Mq ([]:List (List Nat))) fun r_1=>Mq (.rt r_1))
def z5_ (p_self:Qq5):Mo (List (List Nat)):=fnO (zbs_ p_self)
def zfQ_ (p_some:(List (List (List Nat)))):Mo (Out (List (List Nat)) Unit Unit) :=
 (Mb (Mq ([]:List (List Nat))) fun v1'=>(thenO (S:=(List (List Nat))) (Mb (Mq p_some) fun u5'=>forO (fun (s_2:(List (List Nat))) x_3=>(Mb (Mq x_3) fun w4=>Mo.lim (s_2.length+w4.length) (Mq (.nx (s_2++w4))))) u5' v1') fun s_2=>(Mq (.rt s_2))))
def zdK_ (p_some:(List (List (List Nat)))):Mo (List (List Nat)):=fnO (zfQ_ p_some)
def zbf_ (p_self:Qq5):Mo (Out (List (List Nat)) Unit Unit) :=
 (Mb (Mb (Mb (Mq p_self) fun a_1=>Mq a_1.1) fun c_2=>Mo.noex (zdK_ c_2)) fun r_3=>Mq (.rt r_3))
def zW_ (p_self:Qq5):Mo (List (List Nat)):=fnO (zbf_ p_self)
def za6_ (p_self:Qq5):Mo (Out (List (List Nat)) Unit Unit) :=
 (Mb (Mq ([]:List (List Nat))) fun r_1=>Mq (.rt r_1))
def zH_ (p_self:Qq5):Mo (List (List Nat)):=fnO (za6_ p_self)
def zbP_ (p_found:(List (List Nat))) (p_due:(List (List Nat))):Mo (Out Bool Unit Unit) :=
 (thenO (S:=Unit) (Mb (Mb (Mb (Mb (Mq p_found) fun a_1=>Mq true) fun a_2=>Mq (!a_2)) fun c7=>if c7 then Mq true else (Mb (Mb (Mq p_found) fun c_3=>Mq (c_3.length:Int)) fun v5=>Mb (Mb (Mq p_due) fun t4=>Mq (t4.length:Int)) fun w6=>Mq (!decide (v5=w6)))) fun c8=>if c8 then (Mb (Mq false) fun r10=>Mq (.rt r10)) else (Mq (.nx ()))) fun _=>(thenO (S:=Unit) (Mb (Mb (Mb (Mq p_found) fun a12=>Mb (Mq p_due) fun c13=>Mq (a12,c13)) fun c14=>Mq (c14.1.zip c14.2)) fun x23=>forO (fun (_:Unit) x15=>(Mb (Mb (Mb (Mb (Mq x15.1) fun a16=>Mq true) fun a17=>Mq (!a17)) fun c20=>if c20 then Mq true else (Mb (Mq x15.1) fun a18=>Mb (Mq x15.2) fun b19=>Mq (!decide (a18=b19)))) fun c21=>if c21 then (Mb (Mq false) fun r22=>Mq (.rt r22)) else (Mq (.nx ())))) x23 ()) fun _=>(Mb (Mq true) fun r24=>Mq (.rt r24))))
def zl_ (p_found:(List (List Nat))) (p_due:(List (List Nat))):Mo Bool:=fnO (zbP_ p_found p_due)
def zbh_ (p_machine:Qq5) (p_stayed:(List (List Nat))) (p_aside:(List (List Nat))):Mo (Out Bool Unit Unit) :=
 (thenO (S:=Unit) (Mb (Mb (Mb (Mb (Mb (Mb (Mq p_machine) fun o_1=>Mo.noex (zW_ o_1)) fun a_2=>Mb (Mq p_stayed) fun c_3=>Mq (a_2,c_3)) fun t4=>Mo.noex (zl_ t4.1 t4.2)) fun v5=>Mq (!v5)) fun c11=>if c11 then Mq true else (Mb (Mb (Mb (Mb (Mq p_machine) fun y6=>Mo.noex (zH_ y6)) fun v7=>Mb (Mq p_aside) fun c8=>Mq (v7,c8)) fun c9=>Mo.noex (zl_ c9.1 c9.2)) fun a10=>Mq (!a10))) fun c12=>if c12 then (Mb (Mq false) fun r14=>Mq (.rt r14)) else (Mq (.nx ()))) fun _=>(thenO (S:=Unit) (Mb (Mb (Mb (Mb (Mq p_machine) fun o21=>Mo.noex (zW_ o21)) fun a22=>Mb (Mb (Mb (Mq p_machine) fun o18=>Mo.noex (zH_ o18)) fun a19=>Mb (Mb (Mb (Mq p_machine) fun o15=>Mo.noex (z5_ o15)) fun a16=>Mb (Mq ([]:List (List (List Nat)))) fun l17=>Mq (a16::l17)) fun l20=>Mq (a19::l20)) fun l23=>Mq (a22::l23)) fun l24=>Mo.lim l24.length (Mq l24)) fun x25=>Mo.grd (x25.length≤1000∧∀ x∈x25,x.length≤50000) (Mq (.nx ()))) fun _=>(thenO (S:=Unit) (Mb (Mb (Mb (Mb (Mb (Mb (Mq p_machine) fun o26=>Mo.noex (zW_ o26)) fun a27=>Mb (Mq p_stayed) fun c28=>Mq (a27,c28)) fun c29=>Mo.noex (zl_ c29.1 c29.2)) fun a30=>Mq (!a30)) fun c36=>if c36 then Mq true else (Mb (Mb (Mb (Mb (Mq p_machine) fun o31=>Mo.noex (zH_ o31)) fun a32=>Mb (Mq p_aside) fun c33=>Mq (a32,c33)) fun c34=>Mo.noex (zl_ c34.1 c34.2)) fun a35=>Mq (!a35))) fun c37=>if c37 then (Mb (Mq false) fun r39=>Mq (.rt r39)) else (Mq (.nx ()))) fun _=>(Mb (Mb (Mq p_machine) fun o41=>Mo.noex (z5_ o41)) fun l40=>(Mb (Mb (Mb (Mq l40) fun a42=>Mq true) fun c45=>if c45 then (Mb (Mq l40) fun a43=>Mb (Mq ([]:List (List Nat))) fun b44=>Mq (((eqL (fun a b=>decide (a=b))) a43 b44))) else Mq false) fun r46=>Mq (.rt r46))))))
def zac_ (p_machine:Qq5) (p_stayed:(List (List Nat))) (p_aside:(List (List Nat))):Mo Bool:=fnO (zbh_ p_machine p_stayed p_aside)
def zbm_ (p_self:Qq3):Mo (Out (List (List Nat)) Unit Unit) :=
 (Mb (Mq ([]:List (List Nat))) fun r_1=>Mq (.rt r_1))
def z4_ (p_self:Qq3):Mo (List (List Nat)):=fnO (zbm_ p_self)
def zbg_ (p_self:Qq3):Mo (Out (List (List Nat)) Unit Unit) :=
 (Mb (Mb (Mb (Mb (Mq p_self) fun a_1=>Mq a_1.1) fun a_2=>Mb (Mq (0:Int)) fun b_3=>Mo.opt (atI a_2 b_3)) fun t4=>Mq t4) fun z5=>Mq (.rt z5))
def zV_ (p_self:Qq3):Mo (List (List Nat)):=fnO (zbg_ p_self)
def zap_ (p_self:Qq3):Mo (Out (List (List Nat)) Unit Unit) :=
 (Mb (Mb (Mb (Mb (Mq p_self) fun a_1=>Mq a_1.1) fun v3=>Mb (Mb (Mq (1:Int)) fun i_2=>Mq (some i_2)) fun y4=>Mb (Mq none) fun d5=>Mq (cutG v3 y4 d5)) fun c6=>Mo.noex (zdK_ c6)) fun z7=>Mq (.rt z7))
def zy_ (p_self:Qq3):Mo (List (List Nat)):=fnO (zap_ p_self)
def zbi_ (p_machine:Qq3) (p_stayed:(List (List Nat))) (p_aside:(List (List Nat))):Mo (Out Bool Unit Unit) :=
 (thenO (S:=Unit) (Mb (Mb (Mb (Mb (Mb (Mb (Mq p_machine) fun o_1=>Mo.noex (zV_ o_1)) fun a_2=>Mb (Mq p_stayed) fun c_3=>Mq (a_2,c_3)) fun t4=>Mo.noex (zl_ t4.1 t4.2)) fun v5=>Mq (!v5)) fun c11=>if c11 then Mq true else (Mb (Mb (Mb (Mb (Mq p_machine) fun y6=>Mo.noex (zy_ y6)) fun v7=>Mb (Mq p_aside) fun c8=>Mq (v7,c8)) fun c9=>Mo.noex (zl_ c9.1 c9.2)) fun a10=>Mq (!a10))) fun c12=>if c12 then (Mb (Mq false) fun r14=>Mq (.rt r14)) else (Mq (.nx ()))) fun _=>(thenO (S:=Unit) (Mb (Mb (Mb (Mb (Mq p_machine) fun o21=>Mo.noex (zV_ o21)) fun a22=>Mb (Mb (Mb (Mq p_machine) fun o18=>Mo.noex (zy_ o18)) fun a19=>Mb (Mb (Mb (Mq p_machine) fun o15=>Mo.noex (z4_ o15)) fun a16=>Mb (Mq ([]:List (List (List Nat)))) fun l17=>Mq (a16::l17)) fun l20=>Mq (a19::l20)) fun l23=>Mq (a22::l23)) fun l24=>Mo.lim l24.length (Mq l24)) fun x25=>Mo.grd (x25.length≤1000∧∀ x∈x25,x.length≤50000) (Mq (.nx ()))) fun _=>(thenO (S:=Unit) (Mb (Mb (Mb (Mb (Mb (Mb (Mq p_machine) fun o26=>Mo.noex (zV_ o26)) fun a27=>Mb (Mq p_stayed) fun c28=>Mq (a27,c28)) fun c29=>Mo.noex (zl_ c29.1 c29.2)) fun a30=>Mq (!a30)) fun c36=>if c36 then Mq true else (Mb (Mb (Mb (Mb (Mq p_machine) fun o31=>Mo.noex (zy_ o31)) fun a32=>Mb (Mq p_aside) fun c33=>Mq (a32,c33)) fun c34=>Mo.noex (zl_ c34.1 c34.2)) fun a35=>Mq (!a35))) fun c37=>if c37 then (Mb (Mq false) fun r39=>Mq (.rt r39)) else (Mq (.nx ()))) fun _=>(Mb (Mb (Mq p_machine) fun o41=>Mo.noex (z4_ o41)) fun l40=>(Mb (Mb (Mb (Mq l40) fun a42=>Mq true) fun c45=>if c45 then (Mb (Mq l40) fun a43=>Mb (Mq ([]:List (List Nat))) fun b44=>Mq (((eqL (fun a b=>decide (a=b))) a43 b44))) else Mq false) fun r46=>Mq (.rt r46))))))
def zav_ (p_machine:Qq3) (p_stayed:(List (List Nat))) (p_aside:(List (List Nat))):Mo Bool:=fnO (zbi_ p_machine p_stayed p_aside)
def zdS_ (p_some:(List (List (List Nat)))) (p_numbers:(List Int)):Mo (Out (List (List Nat)) Unit Unit) :=
 (Mb (Mb (Mq p_some) fun u3'=>compM (fun x_2=>cond1 (Mq true) (Mq (0:Int))) u3' []) fun x1'=>(Mb (Mq ([]:List (List Nat))) fun d4=>(thenO (S:=((List (List Nat))×(List Int))) (Mb (Mq p_numbers) fun x25=>forO (fun (t5:((List (List Nat))×(List Int))) t6=>(Mb (Mb (Mb (Mq p_some) fun v7=>Mb (Mq t6) fun b8=>Mo.opt (atI v7 b8)) fun a11=>Mb (Mb (Mq t5.2) fun a9=>Mb (Mq t6) fun b10=>Mo.opt (atI a9 b10)) fun b12=>Mo.opt (atI a11 b12)) fun a13=>Mo.lim (t5.1.length+1) (Mb (Mb (Mb (Mq t5.2) fun a18=>Mb (Mq t6) fun b19=>Mo.opt (atI a18 b19)) fun a20=>Mb (Mq (1:Int)) fun b21=>Mq (a20+b21)) fun a22=>Mb (Mq t6) fun j23=>Mb (Mo.opt ((ixN (t5.2).length j23).map fun n=>(t5.2).set n a22)) fun t24=>(Mq (.nx ((t5.1++[a13]),t24)))))) x25 (d4,x1')) fun t5=>(Mq (.rt t5.1)))))
def zbM_ (p_some:(List (List (List Nat)))) (p_numbers:(List Int)):Mo (List (List Nat)):=fnO (zdS_ p_some p_numbers)
def zbU_ (p_self:Qq5):Mo (Out (List (List Nat)) Unit Unit) :=
 (Mb (Mb (Mb (Mb (Mq p_self) fun a_1=>Mq a_1.1) fun v3=>Mb (Mb (Mq p_self) fun a_2=>Mq a_2.2.1) fun t4=>Mq (v3,t4)) fun c5=>Mo.noex (zbM_ c5.1 c5.2)) fun r6=>Mq (.rt r6))
def zaE_ (p_self:Qq5):Mo (List (List Nat)):=fnO (zbU_ p_self)
def zb5_ (p_self:Qq3):Mo (Out (List (List Nat)) Unit Unit) :=
 (Mb (Mb (Mb (Mb (Mq p_self) fun a_1=>Mq a_1.1) fun v3=>Mb (Mb (Mq p_self) fun a_2=>Mq a_2.2.1) fun t4=>Mq (v3,t4)) fun c5=>Mo.noex (zbM_ c5.1 c5.2)) fun r6=>Mq (.rt r6))
def zaD_ (p_self:Qq3):Mo (List (List Nat)):=fnO (zb5_ p_self)
def zbd_ (p_self:Qq5) (p_card:(List Nat)) (p_number:Int):Mo (Out (Unit×Qq5) Unit Qq5) :=
 (Mb (Mb (Mb (Mq (p_self,fun (z:Qq5)=>z)) fun y_1=>Mq (y_1.1.1,fun (z':(List (List (List Nat))))=>y_1.2 (z',y_1.1.2))) fun y_2=>Mb (Mq p_number) fun j3=>Mb (Mo.opt (ixN y_2.1.length j3)) fun n_4=>Mb (Mo.opt (y_2.1[n_4]?)) fun z_5=>Mq (z_5,fun (z':(List (List Nat)))=>y_2.2 (y_2.1.set n_4 z'))) fun y_7=>Mb (Mq p_card) fun v6=>Mo.lim (y_7.1.length+1) (Mb (Mq (y_7.2 (y_7.1++[v6]))) fun x8=>(Mb (Mb (Mq (x8,fun (z:Qq5)=>z)) fun y9=>Mq (y9.1.2.1,fun (z':(List Int))=>y9.2 (y9.1.1,(z',y9.1.2.2)))) fun y11=>Mb (Mq p_number) fun a10=>Mo.lim (y11.1.length+1) (Mb (Mq (y11.2 (y11.1++[a10]))) fun x12=>(Mq (.nx x12))))))
def zau_ (p_self:Qq5) (p_card:(List Nat)) (p_number:Int):Mo (Unit×Qq5):=fnMU (zbd_ p_self p_card p_number)
def ze3_ (p_text:(List Nat)):Mo (Out Bool Unit Unit) :=
 (Mb (Mb (Mb (Mb (Mq p_text) fun c_1=>Mo.lim c_1.length (Mq (c_1.length:Int))) fun a_2=>Mb (Mq (1:Int)) fun b_3=>Mq (decide (a_2=b_3))) fun c6=>if c6 then (Mb (Mq p_text) fun w4=>Mb (Mq (SG:List Nat)) fun w5=>Mq (inS w4 w5)) else Mq false) fun z7=>Mq (.rt z7))
def zdr_ (p_text:(List Nat)):Mo Bool:=fnO (ze3_ p_text)
def zeN_ (p_sign:(List Nat)):Mo (Out Int Unit Unit) :=
 (thenO (S:=Unit) (Mb (Mb (Mb (Mq p_sign) fun c_1=>Mo.noex (zdr_ c_1)) fun a_2=>Mq (!a_2)) fun c_3=>if c_3 then Mo.no else (Mq (.nx ()))) fun _=>(Mb (Mb (Mq (SG:List Nat)) fun v5=>Mb (Mq p_sign) fun w6=>Mo.grd (findS v5 w6 ≠ -1) (Mq (findS v5 w6))) fun z7=>Mq (.rt z7)))
def zdm_ (p_sign:(List Nat)):Mo Int:=fnO (zeN_ p_sign)
def zeE_ (p_card:(List Nat)) (p_column:Int):Mo (Out (List Nat) Unit Unit) :=
 (Mb (Mb (Mq p_card) fun v3=>Mb (Mb (Mq p_column) fun a_1=>Mb (Mq (1:Int)) fun b_2=>Mq (a_1-b_2)) fun y4=>Mo.lim v3.length (Mo.opt ((atI v3 y4).map fun c=>[c]))) fun z5=>Mq (.rt z5))
def zcJ_ (p_card:(List Nat)) (p_column:Int):Mo (List Nat):=fnO (zeE_ p_card p_column)
def zb2_ (p_self:Qq5) (p_card:(List Nat)):Mo (Out (Unit×Qq5) Unit Qq5) :=
 (Mb (Mq (p_self,fun (z:Qq5)=>z)) fun y8=>Mb (Mb (Mq p_card) fun v6=>Mb (Mb (Mb (Mb (Mq p_card) fun a_2=>Mb (Mb (Mq p_self) fun a_1=>Mq a_1.2.2.1) fun c_3=>Mq (a_2,c_3)) fun t4=>Mo.noex (zcJ_ t4.1 t4.2)) fun c5=>Mo.noex (zdm_ c5)) fun c7=>Mq (v6,c7)) fun c9=>Mb (Mo.noex (zau_ y8.1 c9.1 c9.2)) fun q10=>Mb (Mq (y8.2 q10.2)) fun x11=>(Mq (.nx x11)))
def za7_ (p_self:Qq5) (p_card:(List Nat)):Mo (Unit×Qq5):=fnMU (zb2_ p_self p_card)
def zbv_ (p_machine:Qq5) (p_card_here:(List Nat)) (p_fed_here:(List (List Nat))):Mo (Out (Bool×Qq5) Unit Unit) :=
 (thenO (S:=Qq5) (Mb (Mb (Mq (p_machine,fun (z:Qq5)=>z)) fun y_4=>Mb (Mq p_card_here) fun c5=>Mb (Mo.noex (za7_ y_4.1 c5)) fun z6=>Mq (z6.1,y_4.2 z6.2)) fun q_2=>Mb (Mb (Mq q_2.1) fun v7=>Mb (Mq ()) fun b8=>Mq false) fun b_3=>if b_3 then (Mb (Mq false) fun r9=>Mq (.rt (r9,q_2.2))) else (Mq (.nx q_2.2))) fun s_1=>(Mb (Mb (Mq s_1) fun v11=>Mo.noex (zaE_ v11)) fun t10=>(thenO (S:=Unit) (Mb (Mb (Mb (Mb (Mq t10) fun a15=>Mb (Mb (Mq p_fed_here) fun a13=>Mb (Mb (Mq p_card_here) fun c12=>Mq [c12]) fun b14=>Mo.lim (a13.length+b14.length) (Mq (a13++b14))) fun c16=>Mq (a15,c16)) fun c17=>Mo.noex (zl_ c17.1 c17.2)) fun a18=>Mq (!a18)) fun c19=>if c19 then (Mb (Mq false) fun r21=>Mq (.rt (r21,s_1))) else (Mq (.nx ()))) fun _=>(Mb (Mq ([]:List Nat)) fun a22=>Mo.lim (t10.length+1) (Mb (Mq true) fun r23=>Mq (.rt (r23,s_1)))))))
def zaP_ (p_machine:Qq5) (p_card_here:(List Nat)) (p_fed_here:(List (List Nat))):Mo (Bool×Qq5):=fnMR (zbv_ p_machine p_card_here p_fed_here)
def zbl_ (p_self:Qq3) (p_card:(List Nat)) (p_number:Int):Mo (Out (Unit×Qq3) Unit Qq3) :=
 (Mb (Mb (Mb (Mq (p_self,fun (z:Qq3)=>z)) fun y_1=>Mq (y_1.1.1,fun (z':(List (List (List Nat))))=>y_1.2 (z',y_1.1.2))) fun y_2=>Mb (Mq p_number) fun j3=>Mb (Mo.opt (ixN y_2.1.length j3)) fun n_4=>Mb (Mo.opt (y_2.1[n_4]?)) fun z_5=>Mq (z_5,fun (z':(List (List Nat)))=>y_2.2 (y_2.1.set n_4 z'))) fun y_7=>Mb (Mq p_card) fun v6=>Mo.lim (y_7.1.length+1) (Mb (Mq (y_7.2 (y_7.1++[v6]))) fun x8=>(Mb (Mb (Mq (x8,fun (z:Qq3)=>z)) fun y9=>Mq (y9.1.2.1,fun (z':(List Int))=>y9.2 (y9.1.1,(z',y9.1.2.2)))) fun y11=>Mb (Mq p_number) fun a10=>Mo.lim (y11.1.length+1) (Mb (Mq (y11.2 (y11.1++[a10]))) fun x12=>(Mq (.nx x12))))))
def zat_ (p_self:Qq3) (p_card:(List Nat)) (p_number:Int):Mo (Unit×Qq3):=fnMU (zbl_ p_self p_card p_number)
def zbO_ (p_self:Qq3) (p_card:(List Nat)):Mo (Out (Unit×Qq3) Unit Qq3) :=
 (Mb (Mq (p_self,fun (z:Qq3)=>z)) fun y11=>Mb (Mb (Mq p_card) fun a9=>Mb (Mb (Mb (Mb (Mb (Mq p_card) fun a_2=>Mb (Mb (Mq p_self) fun a_1=>Mq a_1.2.2.1) fun c_3=>Mq (a_2,c_3)) fun t4=>Mo.noex (zcJ_ t4.1 t4.2)) fun v6=>Mb (Mb (Mq p_self) fun v5=>Mq v5.2.2.2.1) fun b7=>Mq (decide (v6=b7))) fun c8=>if c8 then (Mq (0:Int)) else (Mq (1:Int))) fun c10=>Mq (a9,c10)) fun c12=>Mb (Mo.noex (zat_ y11.1 c12.1 c12.2)) fun q13=>Mb (Mq (y11.2 q13.2)) fun v14=>(Mq (.nx v14)))
def za3_ (p_self:Qq3) (p_card:(List Nat)):Mo (Unit×Qq3):=fnMU (zbO_ p_self p_card)
def zbF_ (p_machine:Qq3) (p_card_here:(List Nat)) (p_fed_here:(List (List Nat))):Mo (Out (Bool×Qq3) Unit Unit) :=
 (thenO (S:=Qq3) (Mb (Mb (Mq (p_machine,fun (z:Qq3)=>z)) fun y_4=>Mb (Mq p_card_here) fun c5=>Mb (Mo.noex (za3_ y_4.1 c5)) fun z6=>Mq (z6.1,y_4.2 z6.2)) fun q_2=>Mb (Mb (Mq q_2.1) fun v7=>Mb (Mq ()) fun b8=>Mq false) fun b_3=>if b_3 then (Mb (Mq false) fun r9=>Mq (.rt (r9,q_2.2))) else (Mq (.nx q_2.2))) fun s_1=>(Mb (Mb (Mq s_1) fun v11=>Mo.noex (zaD_ v11)) fun t10=>(thenO (S:=Unit) (Mb (Mb (Mb (Mb (Mq t10) fun a15=>Mb (Mb (Mq p_fed_here) fun a13=>Mb (Mb (Mq p_card_here) fun c12=>Mq [c12]) fun b14=>Mo.lim (a13.length+b14.length) (Mq (a13++b14))) fun c16=>Mq (a15,c16)) fun c17=>Mo.noex (zl_ c17.1 c17.2)) fun a18=>Mq (!a18)) fun c19=>if c19 then (Mb (Mq false) fun r21=>Mq (.rt (r21,s_1))) else (Mq (.nx ()))) fun _=>(Mb (Mq ([]:List Nat)) fun a22=>Mo.lim (t10.length+1) (Mb (Mq true) fun r23=>Mq (.rt (r23,s_1)))))))
def zaS_ (p_machine:Qq3) (p_card_here:(List Nat)) (p_fed_here:(List (List Nat))):Mo (Bool×Qq3):=fnMR (zbF_ p_machine p_card_here p_fed_here)
def zms_ (p_script:(List Int)):Mo (Out Bool Unit Unit) :=
 (Mb (Mb (Mb (Mb (Mq p_script) fun w4=>Mb (Mb (Mq (3:Int)) fun i_2=>Mq (some i_2)) fun w5=>Mb (Mb (Mq (63:Int)) fun i3=>Mq (some i3)) fun d6=>Mq (cutG w4 w5 d6)) fun a10=>Mb (Mb (Mb (Mq p_script) fun v7=>Mb (Mq (0:Int)) fun c8=>Mq (v7,c8)) fun c9=>Mo.noex (zaf_ c9.1 c9.2)) fun c11=>Mq (a10,c11)) fun c12=>Mo.noex (zcA_ c12.1 c12.2)) fun w1'=>(Mb (Mb (Mq (1:Int)) fun a19=>Mb (Mb (Mb (Mb (Mq p_script) fun a14=>Mb (Mq (1:Int)) fun c15=>Mq (a14,c15)) fun c16=>Mo.noex (zaf_ c16.1 c16.2)) fun a17=>Mb (Mq (36:Int)) fun b18=>Mo.grd (0<b18) (Mq (a17 % b18))) fun b20=>Mq (a19+b20)) fun v13=>(Mb (Mb (Mb (Mq p_script) fun a22=>Mb (Mq (2:Int)) fun c23=>Mq (a22,c23)) fun c24=>Mo.noex (zaf_ c24.1 c24.2)) fun t21=>(Mb (Mb (Mb (Mq ()) fun c26=>Mo.noex (zbp_)) fun a31=>Mb (Mb (Mb (Mq t21) fun a27=>Mb (Mq (3:Int)) fun b28=>Mo.grd (CDivG a27 b28) (Mq (a27 / b28))) fun a29=>Mb (Mq (37:Int)) fun b30=>Mo.grd (0<b30) (Mq (a29 % b30))) fun b32=>Mo.lim a31.length (Mo.opt ((atI a31 b32).map fun c=>[c]))) fun s25=>(thenO (S:=(List Nat)) (Mb (Mb (Mb (Mb (Mq t21) fun a33=>Mb (Mq (3:Int)) fun b34=>Mo.grd (0<b34) (Mq (a33 % b34))) fun a35=>Mb (Mq (0:Int)) fun b36=>Mq (decide (b36<a35))) fun c39=>if c39 then (Mb (Mq w1') fun a37=>Mb (Mq ([]:List (List Nat))) fun b38=>Mq (!((eqL (fun a b=>decide (a=b))) a37 b38))) else Mq false) fun c40=>if c40 then (Mb (Mb (Mb (Mq w1') fun a48=>Mb (Mb (Mb (Mq t21) fun a43=>Mb (Mq (3:Int)) fun b44=>Mo.grd (CDivG a43 b44) (Mq (a43 / b44))) fun a46=>Mb (Mb (Mq w1') fun c45=>Mq (c45.length:Int)) fun b47=>Mo.grd (0<b47) (Mq (a46 % b47))) fun b49=>Mo.opt (atI a48 b49)) fun a52=>Mb (Mb (Mq v13) fun a50=>Mb (Mq (1:Int)) fun b51=>Mq (a50-b51)) fun b53=>Mo.lim a52.length (Mo.opt ((atI a52 b53).map fun c=>[c]))) fun s42=>(Mq (.nx s42))) else (Mq (.nx s25))) fun s41=>(Mb (Mb (Mb (Mq v13) fun a58=>Mb (Mb (Mq s41) fun a56=>Mb (Mb (Mq t21) fun a54=>Mb (Mq (111:Int)) fun b55=>Mo.grd (CDivG a54 b55) (Mq (a54 / b55))) fun c57=>Mq (a56,c57)) fun c59=>Mq (a58,c59)) fun c60=>Mo.noex (zaQ_ c60.1 c60.2.1 c60.2.2)) fun a61=>(thenO (S:=Unit) (Mb (Mb (Mb (Mb (Mq a61.1) fun a62=>Mq true) fun a63=>Mq (!a63)) fun c66=>if c66 then Mq true else (Mb (Mb (Mq a61.2) fun a64=>Mq true) fun a65=>Mq (!a65))) fun c67=>if c67 then (Mb (Mq false) fun r69=>Mq (.rt r69)) else (Mq (.nx ()))) fun _=>(thenO (S:=(Qq5×Qq3)) (Mb (Mb (Mq w1') fun c71=>Mq (enumL c71)) fun x97=>forO (fun (s70:(Qq5×Qq3)) x72=>(Mb (Mb (Mb (Mq x72.2) fun a79=>Mb (Mb (Mq w1') fun a76=>Mb (Mq none) fun b77=>Mb (Mb (Mq x72.1) fun i75=>Mq (some i75)) fun d78=>Mq (cutG a76 b77 d78)) fun c80=>Mq (a79,c80)) fun c81=>Mb (Mo.noex (zaP_ s70.1 c81.1 c81.2)) fun q82=>Mq (q82.1,q82.2)) fun q73=>Mb (Mb (Mq q73.1) fun a83=>Mq (!a83)) fun b74=>if b74 then (Mb (Mq false) fun r84=>Mq (.rt r84)) else (Mb (Mb (Mb (Mq x72.2) fun a91=>Mb (Mb (Mq w1') fun a88=>Mb (Mq none) fun b89=>Mb (Mb (Mq x72.1) fun i87=>Mq (some i87)) fun d90=>Mq (cutG a88 b89 d90)) fun c92=>Mq (a91,c92)) fun c93=>Mb (Mo.noex (zaS_ s70.2 c93.1 c93.2)) fun q94=>Mq (q94.1,q94.2)) fun q85=>Mb (Mb (Mq q85.1) fun a95=>Mq (!a95)) fun b86=>if b86 then (Mb (Mq false) fun r96=>Mq (.rt r96)) else (Mq (.nx (q73.2,q85.2)))))) x97 (a61.1,a61.2)) fun s70=>(thenO (S:=Unit) (Mb (Mb (Mb (Mb (Mb (Mb (Mq s70.1) fun o98=>Mo.noex (zaE_ o98)) fun a99=>Mb (Mq w1') fun c100=>Mq (a99,c100)) fun c101=>Mo.noex (zl_ c101.1 c101.2)) fun a102=>Mq (!a102)) fun c108=>if c108 then Mq true else (Mb (Mb (Mb (Mb (Mq s70.2) fun o103=>Mo.noex (zaD_ o103)) fun a104=>Mb (Mq w1') fun c105=>Mq (a104,c105)) fun c106=>Mo.noex (zl_ c106.1 c106.2)) fun a107=>Mq (!a107))) fun c109=>if c109 then (Mb (Mq false) fun r111=>Mq (.rt r111)) else (Mq (.nx ()))) fun _=>(thenO (S:=Unit) (Mb (Mb (Mb (Mb (Mq s70.1) fun o112=>Mo.noex (zbc_ o112)) fun a113=>Mb (Mq ()) fun b114=>Mq false) fun c118=>if c118 then Mq true else (Mb (Mb (Mq s70.2) fun o115=>Mo.noex (zbe_ o115)) fun a116=>Mb (Mq ()) fun b117=>Mq false)) fun c119=>if c119 then (Mb (Mq false) fun r121=>Mq (.rt r121)) else (Mq (.nx ()))) fun _=>(Mb (Mq ([]:List (List Nat))) fun g122=>(thenO (S:=(List (List Nat))) (Mb (Mb (Mb (Mq ()) fun c124=>Mo.noex (zbp_)) fun a125=>Mq (a125.map fun c=>[c])) fun x138=>forO (fun (s123:(List (List Nat))) x126=>(Mb (Mb (Mq s123) fun a136=>Mb (Mb (Mq w1') fun x135=>compM (fun x128=>cond1 (Mb (Mb (Mq x128) fun a131=>Mb (Mb (Mq v13) fun a129=>Mb (Mq (1:Int)) fun b130=>Mq (a129-b130)) fun b132=>Mo.lim a131.length (Mo.opt ((atI a131 b132).map fun c=>[c]))) fun a133=>Mb (Mq x126) fun b134=>Mq (decide (a133=b134))) (Mq x128)) x135 []) fun b137=>Mo.lim (a136.length+b137.length) (Mq (a136++b137))) fun g127=>(Mq (.nx g127)))) x138 g122) fun s123=>(Mb (Mb (Mq w1') fun x147=>compM (fun x140=>cond1 (Mb (Mb (Mq x140) fun a143=>Mb (Mb (Mq v13) fun a141=>Mb (Mq (1:Int)) fun b142=>Mq (a141-b142)) fun b144=>Mo.lim a143.length (Mo.opt ((atI a143 b144).map fun c=>[c]))) fun a145=>Mb (Mq s41) fun b146=>Mq (decide (a145=b146))) (Mq x140)) x147 []) fun k139=>(Mb (Mb (Mq w1') fun x156=>compM (fun x149=>cond1 (Mb (Mb (Mq x149) fun a152=>Mb (Mb (Mq v13) fun a150=>Mb (Mq (1:Int)) fun b151=>Mq (a150-b151)) fun b153=>Mo.lim a152.length (Mo.opt ((atI a152 b153).map fun c=>[c]))) fun a154=>Mb (Mq s41) fun b155=>Mq (!decide (a154=b155))) (Mq x149)) x156 []) fun r148=>(Mb (Mb (Mb (Mb (Mq s70.1) fun a159=>Mb (Mb (Mq s123) fun a157=>Mb (Mq ([]:List (List Nat))) fun c158=>Mq (a157,c158)) fun c160=>Mq (a159,c160)) fun c161=>Mo.noex (zac_ c161.1 c161.2.1 c161.2.2)) fun c173=>if c173 then (Mb (Mb (Mb (Mq s70.2) fun a164=>Mb (Mb (Mq k139) fun a162=>Mb (Mq r148) fun c163=>Mq (a162,c163)) fun c165=>Mq (a164,c165)) fun c166=>Mo.noex (zav_ c166.1 c166.2.1 c166.2.2)) fun c172=>if c172 then (Mb (Mb (Mq s70.1) fun a169=>Mb (Mb (Mq s123) fun a167=>Mb (Mq ([]:List (List Nat))) fun c168=>Mq (a167,c168)) fun c170=>Mq (a169,c170)) fun c171=>Mo.noex (zac_ c171.1 c171.2.1 c171.2.2)) else Mq false) else Mq false) fun r174=>Mq (.rt r174))))))))))))))))
def f_law (p_script:(List Int)):Mo Bool:=fnO (zms_ p_script)
end K55
namespace K55
open PySem PySem.Spec PyProof.Rows L2
open Mo renaming bind→Mb,ok→Mq
open Sl renaming fz→Zf,dead→Zd,ow→Zo
def top (i:Nat):Stmt:=PySem.Challenge.pw_cardshop_k55_dealer_and_picker.main.body.getD i (.Pass ⟨0,0,0,0⟩)
abbrev zgG_:Stmt:=top 54
abbrev zhF_:Stmt:=top 55
abbrev zh3_:Stmt:=top 56
abbrev zfj_:Stmt:=top 53
abbrev zaW_:Stmt:=inClass (top 42) 0
abbrev zcc_:Stmt:=inClass (top 42) 1
abbrev zde_:Stmt:=inClass (top 43) 0
abbrev za1_:Stmt:=inClass (top 42) 0
abbrev zcd_:Stmt:=inClass (top 42) 1
abbrev zdl_:Stmt:=inClass (top 44) 0
abbrev zdk_:Stmt:=top 51
abbrev zdh_:Stmt:=top 51
abbrev zez_:Stmt:=top 58
abbrev zeb_:Stmt:=inClass (top 42) 3
abbrev zd4_:Stmt:=inClass (top 42) 3
abbrev zcR_:Stmt:=inClass (top 42) 7
abbrev zj2_:Stmt:=top 39
abbrev zef_:Stmt:=inClass (top 43) 2
abbrev zcM_:Stmt:=inClass (top 43) 3
abbrev zfb_:Stmt:=top 57
abbrev zdX_:Stmt:=top 59
abbrev zc2_:Stmt:=inClass (top 42) 7
abbrev zed_:Stmt:=inClass (top 42) 5
abbrev zcB_:Stmt:=inClass (top 42) 6
abbrev zdZ_:Stmt:=top 59
abbrev zg4_:Stmt:=top 40
abbrev zfB_:Stmt:=inClass (top 42) 4
abbrev zfC_:Stmt:=inClass (top 42) 4
abbrev zd8_:Stmt:=inClass (top 42) 2
abbrev ziy_:Stmt:=top 9
abbrev zis_:Stmt:=top 10
abbrev ziI_:Stmt:=top 12
abbrev zfp_:Stmt:=inClass (top 43) 1
abbrev zeU_:Stmt:=top 60
abbrev zd3_:Stmt:=inClass (top 42) 2
abbrev zfk_:Stmt:=inClass (top 44) 1
abbrev zeu_:Stmt:=top 60
abbrev zm9_:Stmt:=top 61
structure Fx (K:Fgg):Prop where
 exc_NoCard:excK K (gA K "NoCard")=true
 isi_Dealer_Machine:isiK K (gA K "Dealer") (.ref (gA K "Machine"))=some true
 isi_Picker_Machine:isiK K (gA K "Picker") (.ref (gA K "Machine"))=some true
def zbC_ (K:Fgg):Sp:=Ct K csNil (fun c=>zbp_) (owF tyStr)
def zei_ (K:Fgg):Sp:=Ct K (csCons tyInt (csCons tyStr (csLast tyStr))) (fun c=>zbX_ c.1 c.2.1 c.2.2) (owF tyStr)
def zem_ (K:Fgg):Sp:=Ct K (csCons (tyL tyInt) (csLast tyInt)) (fun c=>zcA_ c.1 c.2) (owL tyStr)
def zaT_ (K:Fgg):Sp:=Ct K (csCons (tySc K) (csLast tyInt)) (fun c=>zaf_ c.1 c.2) (owF tyInt)
def z0_ (K:Fgg):Sp:=CtM K (owI (gA K "Dealer") [] psNil) (Qq13 K) csNil (fun x c=>zr_ x) (owF tyNon)
def zaw_ (K:Fgg):Sp:=CtM K (Qq13 K) (Qq13 K) (csLast tyInt) (fun x c=>zL_ x c) (owF tyNon)
def zar_ (K:Fgg):Sp:=CtM K (owI (gA K "Dealer") [] psNil) (Qq1 K) (csLast tyInt) (fun x c=>zS_ x c) (owF tyNon)
def z1_ (K:Fgg):Sp:=CtM K (owI (gA K "Picker") [] psNil) (Qq12 K) csNil (fun x c=>zs_ x) (owF tyNon)
def zay_ (K:Fgg):Sp:=CtM K (Qq12 K) (Qq12 K) (csLast tyInt) (fun x c=>zK_ x c) (owF tyNon)
def zas_ (K:Fgg):Sp:=CtM K (owI (gA K "Picker") [] psNil) (Qq0 K) (csCons tyInt (csLast tyStr)) (fun x c=>zT_ x c.1 c.2) (owF tyNon)
def zbr_ (K:Fgg):Sp:=Ct K (csCons Qq9 (csLast (tyD kStr (tyL tyStr)))) (fun c=>zae_ c.1 c.2) (Qq1 K)
def zbu_ (K:Fgg):Sp:=Ct K (csCons Qq8 (csLast (tyD kStr (tyL tyStr)))) (fun c=>zad_ c.1 c.2) (Qq0 K)
def zcj_ (K:Fgg):Sp:=Ct K (csCons tyInt (csCons tyStr (csLast tyInt))) (fun c=>zaQ_ c.1 c.2.1 c.2.2) (owH2 (Qq1 K) (Qq0 K))
def zbR_ (K:Fgg):Sp:=Ct K (csLast (Qq4 K)) (fun c=>zbc_ c) (owF tyNon)
def zb4_ (K:Fgg):Sp:=Ct K (csLast (Qq2 K)) (fun c=>zbe_ c) (owF tyNon)
def zam_ (K:Fgg):Sp:=Ct K (csLast (Qq4 K)) (fun c=>z5_ c) (owL tyStr)
def zeK_ (K:Fgg):Sp:=Ct K (csLast (tyL (tyL tyStr))) (fun c=>zdK_ c) (owL tyStr)
def zah_ (K:Fgg):Sp:=Ct K (csLast (Qq4 K)) (fun c=>zW_ c) (owL tyStr)
def zO_ (K:Fgg):Sp:=Ct K (csLast (Qq4 K)) (fun c=>zH_ c) (owL tyStr)
def zn_ (K:Fgg):Sp:=Ct K (csCons (tyL tyStr) (csLast (tyL tyStr))) (fun c=>zl_ c.1 c.2) (owF tyBl)
def zaY_ (K:Fgg):Sp:=Ct K (csCons (Qq4 K) (csCons (tyL tyStr) (csLast (tyL tyStr)))) (fun c=>zac_ c.1 c.2.1 c.2.2) (owF tyBl)
def zai_ (K:Fgg):Sp:=Ct K (csLast (Qq2 K)) (fun c=>z4_ c) (owL tyStr)
def zaj_ (K:Fgg):Sp:=Ct K (csLast (Qq2 K)) (fun c=>zV_ c) (owL tyStr)
def zQ_ (K:Fgg):Sp:=Ct K (csLast (Qq2 K)) (fun c=>zy_ c) (owL tyStr)
def zbY_ (K:Fgg):Sp:=Ct K (csCons (Qq2 K) (csCons (tyL tyStr) (csLast (tyL tyStr)))) (fun c=>zav_ c.1 c.2.1 c.2.2) (owF tyBl)
def zcQ_ (K:Fgg):Sp:=Ct K (csCons (tyL (tyL tyStr)) (csLast (tyL tyInt))) (fun c=>zbM_ c.1 c.2) (owL tyStr)
def zbG_ (K:Fgg):Sp:=Ct K (csLast (Qq4 K)) (fun c=>zaE_ c) (owL tyStr)
def zbx_ (K:Fgg):Sp:=Ct K (csLast (Qq2 K)) (fun c=>zaD_ c) (owL tyStr)
def zb0_ (K:Fgg):Sp:=CtM K (Qq1 K) (Qq1 K) (csCons tyStr (csLast tyInt)) (fun x c=>zau_ x c.1 c.2) (owF tyNon)
def zfA_ (K:Fgg):Sp:=Ct K (csLast tyStr) (fun c=>zdr_ c) (owF tyBl)
def zfz_ (K:Fgg):Sp:=Ct K (csLast tyStr) (fun c=>zdm_ c) (owF tyInt)
def zdB_ (K:Fgg):Sp:=Ct K (csCons tyStr (csLast tyInt)) (fun c=>zcJ_ c.1 c.2) (owF tyStr)
def zbz_ (K:Fgg):Sp:=CtM K (Qq1 K) (Qq1 K) (csLast tyStr) (fun x c=>za7_ x c) (owF tyNon)
def zbj_ (K:Fgg):Sp:=CtMk K 0 (Qq1 K) (Qq1 K) (csCons tyStr (csLast (tyL tyStr))) (fun x c=>zaP_ x c.1 c.2) (owF tyBl)
def zbQ_ (K:Fgg):Sp:=CtM K (Qq0 K) (Qq0 K) (csCons tyStr (csLast tyInt)) (fun x c=>zat_ x c.1 c.2) (owF tyNon)
def zbw_ (K:Fgg):Sp:=CtM K (Qq0 K) (Qq0 K) (csLast tyStr) (fun x c=>za3_ x c) (owF tyNon)
def zbb_ (K:Fgg):Sp:=CtMk K 0 (Qq0 K) (Qq0 K) (csCons tyStr (csLast (tyL tyStr))) (fun x c=>zaS_ x c.1 c.2) (owF tyBl)
def zgI_ (K:Fgg):TS:=(tRet (tC (tx SG)))
def zhs_ (K:Fgg):TS:=(tSeq (tAsg (tC (tx [])) (gName 3)) (tSeq (tAsg (tOp mAdd (tOp mMod (mVar 0) (tC (.int 2147483647))) (tC (.int 3))) (gName 4)) (tSeq (tFor (mRng1 (tCons (tC (.int 36)) tNil)) (gName 5) (tSeq (tAsg (tOp mMod (tOp mAdd (tOp mAdd (tOp mMulX (mVar 4) (mVar 4)) (tOp mMulX (tC (.int 17)) (mVar 5))) (tC (.int 5))) (tC (.int 2147483629))) (gName 4)) (tAsg (tOp mAdd (mVar 3) (tOp (mIx K) (mVar 1) (tOp mMod (tOp mDivG (mVar 4) (tC (.int 3))) (tCB (mLen K) (tCons (mVar 1) tNil))))) (gName 3)))) (tRet (tOp mAdd (mVar 3) (mVar 2))))))
def zhL_ (K:Fgg):TS:=(tSeq (tAsg (tOp (mIx K) (tLst (tCons (tC (tx [65,32])) (tCons (tC (tx [48,90,57])) (tCons (tC (tx [66,53,65,32,48])) (tCons (tCall (zbC_ K) [] E0 tNil) tNil))))) (tOp mMod (mVar 1) (tC (.int 4)))) (gName 2)) (tSeq (tAsg (tLst tNil) (gName 3)) (tSeq (tFor (iEnum K (tCons (mVar 0) tNil)) (gTupM K 2 (gConsM (gName 4) (gConsM (gName 5) gNilM))) (tSeq (tAsg (tBM K "str" mZfill (tCB (mStr) (tCons (tOp mMod (tOp mMulX (mVar 4) (tC (.int 271))) (tC (.int 10000))) tNil)) (tCons (tC (.int 4)) tNil)) (gName 6)) (tSeq (mIfS (mTest (tOp (mEqK K) (tOp mMod (tOp mDivG (mVar 1) (tC (.int 4))) (tC (.int 4))) (tC (.int 1)))) (tAsg (tC (tx [77,65,82,75])) (gName 6)) tNext) (tDrop (tBM K "list" rAppend (mVar 3) (tCons (tCall (zei_ K) [] E0 (tCons (mVar 5) (tCons (mVar 2) (tCons (mVar 6) tNil)))) tNil)))))) (tRet (mVar 3)))))
def zfh_ (K:Fgg):TS:=(tSeq (mIfS (mTest (tOp mLt (mVar 1) (tCB (mLen K) (tCons (mVar 0) tNil)))) (tRet (tOp (mIx K) (mVar 0) (mVar 1))) tNext) (tRet (tC (.int 0))))
def zaV_ (K:Fgg):TS:=(tSeq (mSFld (gA K "Dealer") (mVar 0) (tLst tNil) "pockets") (mSFld (gA K "Dealer") (mVar 0) (tLst tNil) "log"))
def zcb_ (K:Fgg):TS:=(mSFld (gA K "Dealer") (mVar 0) (tComp ["number"] [] (mRng1 (tCons (mVar 1) tNil)) (gName 0) tTrue (tLst tNil)) "pockets")
def zdg_ (K:Fgg):TS:=(tSeq (tDrop (tCall (z0_ K) [] E0 (tCons (mVar 0) tNil))) (tSeq (tDrop (tMeth (gA K "Dealer") "make_pockets" (zaw_ K) [] E0 (mVar 0) (tCons (tCB (mLen K) (tCons (tC (tx SG)) tNil)) tNil))) (mSFld (gA K "Dealer") (mVar 0) (mVar 1) "column")))
def zaX_ (K:Fgg):TS:=(tSeq (mSFld (gA K "Picker") (mVar 0) (tLst tNil) "pockets") (mSFld (gA K "Picker") (mVar 0) (tLst tNil) "log"))
def zce_ (K:Fgg):TS:=(mSFld (gA K "Picker") (mVar 0) (tComp ["number"] [] (mRng1 (tCons (mVar 1) tNil)) (gName 0) tTrue (tLst tNil)) "pockets")
def zdi_ (K:Fgg):TS:=(tSeq (tDrop (tCall (z1_ K) [] E0 (tCons (mVar 0) tNil))) (tSeq (tDrop (tMeth (gA K "Picker") "make_pockets" (zay_ K) [] E0 (mVar 0) (tCons (tC (.int 2)) tNil))) (tSeq (mSFld (gA K "Picker") (mVar 0) (mVar 1) "column") (mSFld (gA K "Picker") (mVar 0) (mVar 2) "sign"))))
def zdj_ (K:Fgg):TS:=(tSeq (tAsg (tOp (mIx K) (mVar 0) (tC (.int 0))) (gName 2)) (tSeq (mIfS (mTest (tOp (mEqK K) (mVar 2) (tC (tx [100,101,97,108])))) (tRet (tMake (gA K "Dealer") (zar_ K) [] E0 (tCons (tOp (mIx K) (mVar 0) (tC (.int 2))) tNil))) tNext) (tSeq (mIfS (mTest (tOp (mEqK K) (mVar 2) (tC (tx [112,105,99,107])))) tNever tNext) (tSeq (mIfS (mTest (tOp (mEqK K) (mVar 2) (tC (tx [109,97,116,101])))) tNever tNext) (tSeq (mIfS (mTest (tOp (mEqK K) (mVar 2) (tC (tx [102,105,114,115,116])))) tNever tNext) (tSeq (mIfS (mTest (tOp (mEqK K) (mVar 2) (tC (tx [112,117,110,99,104])))) tNever tNext) tNever))))))
def zdf_ (K:Fgg):TS:=(tSeq (tAsg (tOp (mIx K) (mVar 0) (tC (.int 0))) (gName 2)) (tSeq (mIfS (mTest (tOp (mEqK K) (mVar 2) (tC (tx [100,101,97,108])))) tNever tNext) (tSeq (mIfS (mTest (tOp (mEqK K) (mVar 2) (tC (tx [112,105,99,107])))) (tRet (tMake (gA K "Picker") (zas_ K) [] E0 (tCons (tOp (mIx K) (mVar 0) (tC (.int 2))) (tCons (tOp (mIx K) (mVar 0) (tC (.int 3))) tNil)))) tNext) (tSeq (mIfS (mTest (tOp (mEqK K) (mVar 2) (tC (tx [109,97,116,101])))) tNever tNext) (tSeq (mIfS (mTest (tOp (mEqK K) (mVar 2) (tC (tx [102,105,114,115,116])))) tNever tNext) (tSeq (mIfS (mTest (tOp (mEqK K) (mVar 2) (tC (tx [112,117,110,99,104])))) tNever tNext) tNever))))))
def zeV_ (K:Fgg):TS:=(tSeq (mIfS (mTest (tOp (mEqK K) (tOp mMod (mVar 2) (tC (.int 2))) (tC (.int 0)))) (tRet (tLst (tCons (tMake (gA K "Dealer") (zar_ K) [] E0 (tCons (mVar 0) tNil)) (tCons (tMake (gA K "Picker") (zas_ K) [] E0 (tCons (mVar 0) (tCons (mVar 1) tNil))) tNil)))) tNext) (tRet (tLst (tCons (tCall (zbr_ K) [] E0 (tCons (tTup (tCons (tC (tx [100,101,97,108])) (tCons (tC (tx [97])) (tCons (mVar 0) tNil)))) (tCons tDNewK tNil))) (tCons (tCall (zbu_ K) [] E0 (tCons (tTup (tCons (tC (tx [112,105,99,107])) (tCons (tC (tx [98])) (tCons (mVar 0) (tCons (mVar 1) tNil))))) (tCons (tDisp [((tC (tx [98])),(tLst tNil))]) tNil))) tNil)))))
def zd5_ (K:Fgg):TS:=tRetN
def zd2_ (K:Fgg):TS:=tRetN
def zc5_ (K:Fgg):TS:=(tRet (tLst tNil))
def zks_ (K:Fgg):TS:=(tSeq (tAsg (tLst tNil) (gName 1)) (tSeq (tFor (iAny K (mVar 0)) (gName 2) (tDrop (tBM K "list" rExtend (mVar 1) (tCons (mVar 2) tNil)))) (tRet (mVar 1))))
def zeh_ (K:Fgg):TS:=(tRet (tCall (zeK_ K) [] E0 (tCons (mFld (gA K "Dealer") (mVar 0) "pockets") tNil)))
def zcF_ (K:Fgg):TS:=(tRet (tLst tNil))
def zfs_ (K:Fgg):TS:=(tSeq (mIfS (mOr (tNot (mTest (tCB (mIsa K) (tCons (mVar 0) (tCons (tC (.ty "list")) tNil))))) (mTest (tOp (mNeK K) (tCB (mLen K) (tCons (mVar 0) tNil)) (tCB (mLen K) (tCons (mVar 1) tNil))))) (tRet (tC (.bl false))) tNext) (tSeq (tFor (iZip K (tCons (mVar 0) (tCons (mVar 1) tNil))) (gTupM K 2 (gConsM (gName 2) (gConsM (gName 3) gNilM))) (mIfS (mOr (tNot (mTest (tCB (mIsa K) (tCons (mVar 2) (tCons (tC (.ty "str")) tNil))))) (mTest (tOp (mNeK K) (mVar 2) (mVar 3)))) (tRet (tC (.bl false))) tNext)) (tRet (tC (.bl true)))))
def zea_ (K:Fgg):TS:=(tSeq (mIfS (mOr (tNot (mTest (tCall (zn_ K) [] E0 (tCons (tMeth (gA K "Dealer") "stayed" (zah_ K) [] E0 (mVar 0) tNil) (tCons (mVar 1) tNil))))) (tNot (mTest (tCall (zn_ K) [] E0 (tCons (tMeth (gA K "Dealer") "laid_aside" (zO_ K) [] E0 (mVar 0) tNil) (tCons (mVar 2) tNil)))))) (tRet (tC (.bl false))) tNext) (tSeq (tFor (iAny K (tLst (tCons (tMeth (gA K "Dealer") "stayed" (zah_ K) [] E0 (mVar 0) tNil) (tCons (tMeth (gA K "Dealer") "laid_aside" (zO_ K) [] E0 (mVar 0) tNil) (tCons (tMeth (gA K "Dealer") "lines_out" (zam_ K) [] E0 (mVar 0) tNil) tNil))))) (gName 3) (tDrop (tBM K "list" rAppend (mVar 3) (tCons (tC (tx [])) tNil)))) (tSeq (mIfS (mOr (tNot (mTest (tCall (zn_ K) [] E0 (tCons (tMeth (gA K "Dealer") "stayed" (zah_ K) [] E0 (mVar 0) tNil) (tCons (mVar 1) tNil))))) (tNot (mTest (tCall (zn_ K) [] E0 (tCons (tMeth (gA K "Dealer") "laid_aside" (zO_ K) [] E0 (mVar 0) tNil) (tCons (mVar 2) tNil)))))) (tRet (tC (.bl false))) tNext) (tSeq (tAsg (tMeth (gA K "Dealer") "lines_out" (zam_ K) [] E0 (mVar 0) tNil) (gName 4)) (tRet (mAndV (tCB (mIsa K) (tCons (mVar 4) (tCons (tC (.ty "list")) tNil))) (tOp (mEqK K) (mVar 4) (tLst tNil))))))))
def zc3_ (K:Fgg):TS:=(tRet (tLst tNil))
def zdY_ (K:Fgg):TS:=(tRet (tCB (mList K) (tCons (tOp (mIx K) (mFld (gA K "Picker") (mVar 0) "pockets") (tC (.int 0))) tNil)))
def zcz_ (K:Fgg):TS:=(tRet (tCall (zeK_ K) [] E0 (tCons (tSl (mSl K) (mFld (gA K "Picker") (mVar 0) "pockets") (mPart (tC (.int 1))) tNoPart) tNil)))
def zeg_ (K:Fgg):TS:=(tSeq (mIfS (mOr (tNot (mTest (tCall (zn_ K) [] E0 (tCons (tMeth (gA K "Picker") "stayed" (zaj_ K) [] E0 (mVar 0) tNil) (tCons (mVar 1) tNil))))) (tNot (mTest (tCall (zn_ K) [] E0 (tCons (tMeth (gA K "Picker") "laid_aside" (zQ_ K) [] E0 (mVar 0) tNil) (tCons (mVar 2) tNil)))))) (tRet (tC (.bl false))) tNext) (tSeq (tFor (iAny K (tLst (tCons (tMeth (gA K "Picker") "stayed" (zaj_ K) [] E0 (mVar 0) tNil) (tCons (tMeth (gA K "Picker") "laid_aside" (zQ_ K) [] E0 (mVar 0) tNil) (tCons (tMeth (gA K "Picker") "lines_out" (zai_ K) [] E0 (mVar 0) tNil) tNil))))) (gName 3) (tDrop (tBM K "list" rAppend (mVar 3) (tCons (tC (tx [])) tNil)))) (tSeq (mIfS (mOr (tNot (mTest (tCall (zn_ K) [] E0 (tCons (tMeth (gA K "Picker") "stayed" (zaj_ K) [] E0 (mVar 0) tNil) (tCons (mVar 1) tNil))))) (tNot (mTest (tCall (zn_ K) [] E0 (tCons (tMeth (gA K "Picker") "laid_aside" (zQ_ K) [] E0 (mVar 0) tNil) (tCons (mVar 2) tNil)))))) (tRet (tC (.bl false))) tNext) (tSeq (tAsg (tMeth (gA K "Picker") "lines_out" (zai_ K) [] E0 (mVar 0) tNil) (gName 4)) (tRet (mAndV (tCB (mIsa K) (tCons (mVar 4) (tCons (tC (.ty "list")) tNil))) (tOp (mEqK K) (mVar 4) (tLst tNil))))))))
def zhY_ (K:Fgg):TS:=(tSeq (tAsg (tComp ["pocket"] [] (iAny K (mVar 0)) (gName 0) tTrue (tC (.int 0))) (gName 2)) (tSeq (tAsg (tLst tNil) (gName 3)) (tSeq (tFor (iAny K (mVar 1)) (gName 4) (tSeq (tDrop (tBM K "list" rAppend (mVar 3) (tCons (tOp (mIx K) (tOp (mIx K) (mVar 0) (mVar 4)) (tOp (mIx K) (mVar 2) (mVar 4))) tNil))) (tAsg (tOp mAdd (tOp (mIx K) (mVar 2) (mVar 4)) (tC (.int 1))) (gSub (mVar 2) (mVar 4) mSet)))) (tRet (mVar 3)))))
def ze9_ (K:Fgg):TS:=(tRet (tCall (zcQ_ K) [] E0 (tCons (mFld (gA K "Dealer") (mVar 0) "pockets") (tCons (mFld (gA K "Dealer") (mVar 0) "log") tNil))))
def ze7_ (K:Fgg):TS:=(tRet (tCall (zcQ_ K) [] E0 (tCons (mFld (gA K "Picker") (mVar 0) "pockets") (tCons (mFld (gA K "Picker") (mVar 0) "log") tNil))))
def zdV_ (K:Fgg):TS:=(tSeq (tDrop (tBM K "list" rAppend (tOp (mIx K) (mFld (gA K "Dealer") (mVar 0) "pockets") (mVar 2)) (tCons (mVar 1) tNil))) (tDrop (tBM K "list" rAppend (mFld (gA K "Dealer") (mVar 0) "log") (tCons (mVar 2) tNil))))
def ziG_ (K:Fgg):TS:=(tRet (mAndV (tOp (mEqK K) (tCB (mLen K) (tCons (mVar 0) tNil)) (tC (.int 1))) (tOp (mIn K false) (mVar 0) (tC (tx SG)))))
def ziu_ (K:Fgg) (E:XK):TS:=(tSeq (mIfS (tNot (mTest (tCall (zfA_ K) [] E0 (tCons (mVar 0) tNil)))) (tRaise (gA K "NoCard") E (tCons (tJoin (tJ1 (tUn mRepr (mVar 0)) (tJ1 (tC (tx [32,105,115,32,110,111,32,115,105,103,110])) tJ0))) tNil)) tNext) (tRet (tBM K "str" mIndex (tC (tx SG)) (tCons (mVar 0) tNil))))
def ziX_ (K:Fgg):TS:=(tRet (tOp (mIx K) (mVar 0) (tOp mSub (mVar 1) (tC (.int 1)))))
def zfi_ (K:Fgg):TS:=(tDrop (tMeth (gA K "Dealer") "lay_in" (zb0_ K) [] E0 (mVar 0) (tCons (mVar 1) (tCons (tCall (zfz_ K) [] E0 (tCons (tCall (zdB_ K) [] E0 (tCons (mVar 1) (tCons (mFld (gA K "Dealer") (mVar 0) "column") tNil))) tNil)) tNil))))
def zet_ (K:Fgg):TS:=(tSeq (mIfS (mTest (tOp mIsNot (tMeth (gA K "Dealer") "feed" (zbz_ K) [] E0 (mVar 0) (tCons (mVar 1) tNil)) (tC .non))) (tRet (tC (.bl false))) tNext) (tSeq (tAsg (tMeth (gA K "Dealer") "back" (zbG_ K) [] E0 (mVar 0) tNil) (gName 3)) (tSeq (mIfS (tNot (mTest (tCall (zn_ K) [] E0 (tCons (mVar 3) (tCons (tOp mAdd (mVar 2) (tLst (tCons (mVar 1) tNil))) tNil))))) (tRet (tC (.bl false))) tNext) (tSeq (tDrop (tBM K "list" rAppend (mVar 3) (tCons (tC (tx [])) tNil))) (tRet (tC (.bl true)))))))
def zd1_ (K:Fgg):TS:=(tSeq (tDrop (tBM K "list" rAppend (tOp (mIx K) (mFld (gA K "Picker") (mVar 0) "pockets") (mVar 2)) (tCons (mVar 1) tNil))) (tDrop (tBM K "list" rAppend (mFld (gA K "Picker") (mVar 0) "log") (tCons (mVar 2) tNil))))
def zfD_ (K:Fgg):TS:=(tDrop (tMeth (gA K "Picker") "lay_in" (zbQ_ K) [] E0 (mVar 0) (tCons (mVar 1) (tCons (mIf (mTest (tOp (mEqK K) (tCall (zdB_ K) [] E0 (tCons (mVar 1) (tCons (mFld (gA K "Picker") (mVar 0) "column") tNil))) (mFld (gA K "Picker") (mVar 0) "sign"))) (tC (.int 0)) (tC (.int 1))) tNil))))
def zeA_ (K:Fgg):TS:=(tSeq (mIfS (mTest (tOp mIsNot (tMeth (gA K "Picker") "feed" (zbw_ K) [] E0 (mVar 0) (tCons (mVar 1) tNil)) (tC .non))) (tRet (tC (.bl false))) tNext) (tSeq (tAsg (tMeth (gA K "Picker") "back" (zbx_ K) [] E0 (mVar 0) tNil) (gName 3)) (tSeq (mIfS (tNot (mTest (tCall (zn_ K) [] E0 (tCons (mVar 3) (tCons (tOp mAdd (mVar 2) (tLst (tCons (mVar 1) tNil))) tNil))))) (tRet (tC (.bl false))) tNext) (tSeq (tDrop (tBM K "list" rAppend (mVar 3) (tCons (tC (tx [])) tNil))) (tRet (tC (.bl true)))))))
def t_law (K:Fgg):TS:=(tSeq (tAsg (tCall (zem_ K) [] E0 (tCons (tSl (mSl K) (mVar 0) (mPart (tC (.int 3))) (mPart (tC (.int 63)))) (tCons (tCall (zaT_ K) [] E0 (tCons (mVar 0) (tCons (tC (.int 0)) tNil))) tNil))) (gName 1)) (tSeq (tAsg (tOp mAdd (tC (.int 1)) (tOp mMod (tCall (zaT_ K) [] E0 (tCons (mVar 0) (tCons (tC (.int 1)) tNil))) (tC (.int 36)))) (gName 2)) (tSeq (tAsg (tCall (zaT_ K) [] E0 (tCons (mVar 0) (tCons (tC (.int 2)) tNil))) (gName 3)) (tSeq (tAsg (tOp (mIx K) (tCall (zbC_ K) [] E0 tNil) (tOp mMod (tOp mDivG (mVar 3) (tC (.int 3))) (tC (.int 37)))) (gName 4)) (tSeq (mIfS (mAnd (mTest (tOp mGt (tOp mMod (mVar 3) (tC (.int 3))) (tC (.int 0)))) (mTest (tOp (mNeK K) (mVar 1) (tLst tNil)))) (tAsg (tOp (mIx K) (tOp (mIx K) (mVar 1) (tOp mMod (tOp mDivG (mVar 3) (tC (.int 3))) (tCB (mLen K) (tCons (mVar 1) tNil)))) (tOp mSub (mVar 2) (tC (.int 1)))) (gName 4)) tNext) (tSeq (tAsg (tCall (zcj_ K) [] E0 (tCons (mVar 2) (tCons (mVar 4) (tCons (tOp mDivG (mVar 3) (tC (.int 111))) tNil)))) (gLst2 K (gConsM (gName 5) (gConsM (gName 6) gNilM)))) (tSeq (mIfS (mOr (tNot (mTest (tCB (mIsaI K) (tCons (mVar 5) (tCons (tC (.ref (gA K "Machine"))) tNil))))) (tNot (mTest (tCB (mIsaI K) (tCons (mVar 6) (tCons (tC (.ref (gA K "Machine"))) tNil)))))) (tRet (tC (.bl false))) tNext) (tSeq (tFor (iEnum K (tCons (mVar 1) tNil)) (gTupM K 2 (gConsM (gName 7) (gConsM (gName 8) gNilM))) (mIfS (mOr (tNot (mTest (tCall (zbj_ K) [] E0 (tCons (mVar 5) (tCons (mVar 8) (tCons (tSl (mSl K) (mVar 1) tNoPart (mPart (mVar 7))) tNil)))))) (tNot (mTest (tCall (zbb_ K) [] E0 (tCons (mVar 6) (tCons (mVar 8) (tCons (tSl (mSl K) (mVar 1) tNoPart (mPart (mVar 7))) tNil))))))) (tRet (tC (.bl false))) tNext)) (tSeq (mIfS (mOr (tNot (mTest (tCall (zn_ K) [] E0 (tCons (tMeth (gA K "Dealer") "back" (zbG_ K) [] E0 (mVar 5) tNil) (tCons (mVar 1) tNil))))) (tNot (mTest (tCall (zn_ K) [] E0 (tCons (tMeth (gA K "Picker") "back" (zbx_ K) [] E0 (mVar 6) tNil) (tCons (mVar 1) tNil)))))) (tRet (tC (.bl false))) tNext) (tSeq (mIfS (mOr (mTest (tOp mIsNot (tMeth (gA K "Dealer") "finish" (zbR_ K) [] E0 (mVar 5) tNil) (tC .non))) (mTest (tOp mIsNot (tMeth (gA K "Picker") "finish" (zb4_ K) [] E0 (mVar 6) tNil) (tC .non)))) (tRet (tC (.bl false))) tNext) (tSeq (tAsg (tLst tNil) (gName 9)) (tSeq (tFor (iAny K (tCall (zbC_ K) [] E0 tNil)) (gName 10) (tAsg (tOp mAdd (mVar 9) (tComp ["_law_card_here"] [("_law_one",10),("_law_column",2)] (iAny K (mVar 1)) (gName 0) (mTest (tOp (mEqK K) (tOp (mIx K) (mVar 0) (tOp mSub (mVar 2) (tC (.int 1)))) (mVar 1))) (mVar 0))) (gName 9))) (tSeq (tAsg (tComp ["_law_card_here"] [("_law_sign",4),("_law_column",2)] (iAny K (mVar 1)) (gName 0) (mTest (tOp (mEqK K) (tOp (mIx K) (mVar 0) (tOp mSub (mVar 2) (tC (.int 1)))) (mVar 1))) (mVar 0)) (gName 11)) (tSeq (tAsg (tComp ["_law_card_here"] [("_law_sign",4),("_law_column",2)] (iAny K (mVar 1)) (gName 0) (mTest (tOp (mNeK K) (tOp (mIx K) (mVar 0) (tOp mSub (mVar 2) (tC (.int 1)))) (mVar 1))) (mVar 0)) (gName 12)) (tRet (mAndV (tCall (zaY_ K) [] E0 (tCons (mVar 5) (tCons (mVar 9) (tCons (tLst tNil) tNil)))) (mAndV (tCall (zbY_ K) [] E0 (tCons (mVar 6) (tCons (mVar 11) (tCons (mVar 12) tNil)))) (tCall (zaY_ K) [] E0 (tCons (mVar 5) (tCons (mVar 9) (tCons (tLst tNil) tNil)))))))))))))))))))))
abbrev zcS_ (P:Program) (w:World) (K:Fgg) (mg:Str→Option Value) (base:Heap):Prop:=Gd P w K mg base CX0 1 "_law_known" [] (zbC_ K)
abbrev zff_ (P:Program) (w:World) (K:Fgg) (mg:Str→Option Value) (base:Heap):Prop:=Gd P w K mg base CX0 1 "_law_card" ["_law_cell", "_law_menu", "_law_mark"] (zei_ K)
abbrev zfw_ (P:Program) (w:World) (K:Fgg) (mg:Str→Option Value) (base:Heap):Prop:=Gd P w K mg base CX0 2 "_law_deck" ["_law_cells", "_law_way"] (zem_ K)
abbrev zc7_ (P:Program) (w:World) (K:Fgg) (mg:Str→Option Value) (base:Heap):Prop:=Gd P w K mg base CX0 1 "_law_cell_at" ["_law_script", "_law_k"] (zaT_ K)
abbrev z2_ (P:Program) (w:World) (K:Fgg) (mg:Str→Option Value) (base:Heap):Prop:=Gs P w K mg base CX0 1 "Machine" "__init__" ["self"] (z0_ K)
abbrev zaN_ (P:Program) (w:World) (K:Fgg) (mg:Str→Option Value) (base:Heap):Prop:=Gm P w K mg base CX0 1 (gA K "Dealer") "make_pockets" ["self", "many"] (zaw_ K)
abbrev zaG_ (P:Program) (w:World) (K:Fgg) (mg:Str→Option Value) (base:Heap):Prop:=Gk P w K mg base CX0 2 "Dealer" (gA K "Dealer") ["self", "column"] (zar_ K)
abbrev z3_ (P:Program) (w:World) (K:Fgg) (mg:Str→Option Value) (base:Heap):Prop:=Gs P w K mg base CX0 1 "Machine" "__init__" ["self"] (z1_ K)
abbrev zaM_ (P:Program) (w:World) (K:Fgg) (mg:Str→Option Value) (base:Heap):Prop:=Gm P w K mg base CX0 1 (gA K "Picker") "make_pockets" ["self", "many"] (zay_ K)
abbrev zaI_ (P:Program) (w:World) (K:Fgg) (mg:Str→Option Value) (base:Heap):Prop:=Gk P w K mg base CX0 2 "Picker" (gA K "Picker") ["self", "column", "sign"] (zas_ K)
abbrev zbI_ (P:Program) (w:World) (K:Fgg) (mg:Str→Option Value) (base:Heap):Prop:=Gd P w K mg base CX0 4 "machine_of" ["going", "trays"] (zbr_ K)
abbrev zbH_ (P:Program) (w:World) (K:Fgg) (mg:Str→Option Value) (base:Heap):Prop:=Gd P w K mg base CX0 4 "machine_of" ["going", "trays"] (zbu_ K)
abbrev zcN_ (P:Program) (w:World) (K:Fgg) (mg:Str→Option Value) (base:Heap):Prop:=Gd P w K mg base CX0 5 "_law_machines" ["_law_column", "_law_sign", "_law_way"] (zcj_ K)
abbrev zcl_ (P:Program) (w:World) (K:Fgg) (mg:Str→Option Value) (base:Heap):Prop:=Gm P w K mg base CX0 1 (gA K "Dealer") "finish" ["self"] (zbR_ K)
abbrev zcs_ (P:Program) (w:World) (K:Fgg) (mg:Str→Option Value) (base:Heap):Prop:=Gm P w K mg base CX0 1 (gA K "Picker") "finish" ["self"] (zb4_ K)
abbrev zbo_ (P:Program) (w:World) (K:Fgg) (mg:Str→Option Value) (base:Heap):Prop:=Gm P w K mg base CX0 1 (gA K "Dealer") "lines_out" ["self"] (zam_ K)
abbrev zfS_ (P:Program) (w:World) (K:Fgg) (mg:Str→Option Value) (base:Heap):Prop:=Gd P w K mg base CX0 1 "gather" ["some"] (zeK_ K)
abbrev zch_ (P:Program) (w:World) (K:Fgg) (mg:Str→Option Value) (base:Heap):Prop:=Gm P w K mg base CX0 2 (gA K "Dealer") "stayed" ["self"] (zah_ K)
abbrev za5_ (P:Program) (w:World) (K:Fgg) (mg:Str→Option Value) (base:Heap):Prop:=Gm P w K mg base CX0 1 (gA K "Dealer") "laid_aside" ["self"] (zO_ K)
abbrev zag_ (P:Program) (w:World) (K:Fgg) (mg:Str→Option Value) (base:Heap):Prop:=Gd P w K mg base CX0 1 "_law_deck_is" ["_law_found", "_law_due"] (zn_ K)
abbrev zck_ (P:Program) (w:World) (K:Fgg) (mg:Str→Option Value) (base:Heap):Prop:=Gd P w K mg base CX0 3 "_law_told" ["_law_machine", "_law_stayed", "_law_aside"] (zaY_ K)
abbrev zbt_ (P:Program) (w:World) (K:Fgg) (mg:Str→Option Value) (base:Heap):Prop:=Gm P w K mg base CX0 1 (gA K "Picker") "lines_out" ["self"] (zai_ K)
abbrev zcm_ (P:Program) (w:World) (K:Fgg) (mg:Str→Option Value) (base:Heap):Prop:=Gm P w K mg base CX0 1 (gA K "Picker") "stayed" ["self"] (zaj_ K)
abbrev za4_ (P:Program) (w:World) (K:Fgg) (mg:Str→Option Value) (base:Heap):Prop:=Gm P w K mg base CX0 2 (gA K "Picker") "laid_aside" ["self"] (zQ_ K)
abbrev zcq_ (P:Program) (w:World) (K:Fgg) (mg:Str→Option Value) (base:Heap):Prop:=Gd P w K mg base CX0 3 "_law_told" ["_law_machine", "_law_stayed", "_law_aside"] (zbY_ K)
abbrev zdD_ (P:Program) (w:World) (K:Fgg) (mg:Str→Option Value) (base:Heap):Prop:=Gd P w K mg base CX0 1 "put_back" ["some", "numbers"] (zcQ_ K)
abbrev zbT_ (P:Program) (w:World) (K:Fgg) (mg:Str→Option Value) (base:Heap):Prop:=Gm P w K mg base CX0 2 (gA K "Dealer") "back" ["self"] (zbG_ K)
abbrev zb8_ (P:Program) (w:World) (K:Fgg) (mg:Str→Option Value) (base:Heap):Prop:=Gm P w K mg base CX0 2 (gA K "Picker") "back" ["self"] (zbx_ K)
abbrev zcn_ (P:Program) (w:World) (K:Fgg) (mg:Str→Option Value) (base:Heap):Prop:=Gm P w K mg base CX0 1 (gA K "Dealer") "lay_in" ["self", "card", "number"] (zb0_ K)
abbrev zgy_ (P:Program) (w:World) (K:Fgg) (mg:Str→Option Value) (base:Heap):Prop:=Gd P w K mg base CX0 1 "is_sign" ["text"] (zfA_ K)
abbrev zge_ (P:Program) (w:World) (K:Fgg) (mg:Str→Option Value) (base:Heap):Prop:=Gd P w K mg base (CXx P w) 2 "rank_of" ["sign"] (zfz_ K)
abbrev zeB_ (P:Program) (w:World) (K:Fgg) (mg:Str→Option Value) (base:Heap):Prop:=Gd P w K mg base CX0 1 "sign_at" ["card", "column"] (zdB_ K)
abbrev zda_ (P:Program) (w:World) (K:Fgg) (mg:Str→Option Value) (base:Heap):Prop:=Gm P w K mg base CX0 3 (gA K "Dealer") "feed" ["self", "card"] (zbz_ K)
abbrev zcE_ (P:Program) (w:World) (K:Fgg) (mg:Str→Option Value) (base:Heap):Prop:=Gd P w K mg base CX0 4 "_law_fed" ["_law_machine", "_law_card_here", "_law_fed_here"] (zbj_ K)
abbrev zcr_ (P:Program) (w:World) (K:Fgg) (mg:Str→Option Value) (base:Heap):Prop:=Gm P w K mg base CX0 1 (gA K "Picker") "lay_in" ["self", "card", "number"] (zbQ_ K)
abbrev zdc_ (P:Program) (w:World) (K:Fgg) (mg:Str→Option Value) (base:Heap):Prop:=Gm P w K mg base CX0 2 (gA K "Picker") "feed" ["self", "card"] (zbw_ K)
abbrev zcK_ (P:Program) (w:World) (K:Fgg) (mg:Str→Option Value) (base:Heap):Prop:=Gd P w K mg base CX0 3 "_law_fed" ["_law_machine", "_law_card_here", "_law_fed_here"] (zbb_ K)
end K55
namespace K55
open PySem PySem.Spec PyProof.Rows L2
open Mo renaming bind→Mb,ok→Mq
open Sl renaming fz→Zf,dead→Zd,ow→Zo
structure Ek (K:Fgg):Prop where
 w0:Fc K "Dealer"
 w1:Fc K "Picker"
 a0:Fa K "Dealer" "pockets"
 a1:Fa K "Dealer" "log"
 a2:Fa K "Dealer" "column"
 a3:Fa K "Picker" "pockets"
 a4:Fa K "Picker" "log"
 a5:Fa K "Picker" "column"
 a6:Fa K "Picker" "sign"
 f0:Fg K "_law_known" zgG_
 f1:Fg K "_law_card" zhF_
 f2:Fg K "_law_deck" zh3_
 f3:Fg K "_law_cell_at" zfj_
 f4:Fs K "Machine" "__init__" "Machine.__init__" zaW_
 f5:Fm K "Dealer" "make_pockets" "Machine.make_pockets" zcc_
 f6:Fm K "Dealer" "__init__" "Dealer.__init__" zde_
 f7:Fs K "Machine" "__init__" "Machine.__init__" za1_
 f8:Fm K "Picker" "make_pockets" "Machine.make_pockets" zcd_
 f9:Fm K "Picker" "__init__" "Picker.__init__" zdl_
 f10:Fg K "machine_of" zdk_
 f11:Fg K "machine_of" zdh_
 f12:Fg K "_law_machines" zez_
 f13:Fm K "Dealer" "finish" "Machine.finish" zeb_
 f14:Fm K "Picker" "finish" "Machine.finish" zd4_
 f15:Fm K "Dealer" "lines_out" "Machine.lines_out" zcR_
 f16:Fg K "gather" zj2_
 f17:Fm K "Dealer" "stayed" "Dealer.stayed" zef_
 f18:Fm K "Dealer" "laid_aside" "Dealer.laid_aside" zcM_
 f19:Fg K "_law_deck_is" zfb_
 f20:Fg K "_law_told" zdX_
 f21:Fm K "Picker" "lines_out" "Machine.lines_out" zc2_
 f22:Fm K "Picker" "stayed" "Machine.stayed" zed_
 f23:Fm K "Picker" "laid_aside" "Machine.laid_aside" zcB_
 f24:Fg K "_law_told" zdZ_
 f25:Fg K "put_back" zg4_
 f26:Fm K "Dealer" "back" "Machine.back" zfB_
 f27:Fm K "Picker" "back" "Machine.back" zfC_
 f28:Fm K "Dealer" "lay_in" "Machine.lay_in" zd8_
 f29:Fg K "is_sign" ziy_
 f30:Fg K "rank_of" zis_
 f31:Fg K "sign_at" ziI_
 f32:Fm K "Dealer" "feed" "Dealer.feed" zfp_
 f33:Fg K "_law_fed" zeU_
 f34:Fm K "Picker" "lay_in" "Machine.lay_in" zd3_
 f35:Fm K "Picker" "feed" "Picker.feed" zfk_
 f36:Fg K "_law_fed" zeu_
 f37:Fg K "law" zm9_
 c0:Fv K "SIGNS" (tx SG)
 b0:Fb K "range"
 b1:Fb K "len"
 b2:Fb K "enumerate"
 b3:Fb K "str"
 b4:Fb K "isinstance"
 b5:Fb K "list"
 b6:Fb K "zip"
 k0:Fk K "NoCard"
 k1:Fk K "Machine"
 u0:Fe1 K "NoCard" fun v_NoCard=>excK K v_NoCard=true
 u1:Fe2 K "Dealer" "Machine" fun v_Dealer v_Machine=>isiK K v_Dealer (.ref v_Machine)=some true
 u2:Fe2 K "Picker" "Machine" fun v_Picker v_Machine=>isiK K v_Picker (.ref v_Machine)=some true
structure En (K:Fgg) (mg:Str→Option Value):Prop extends Ek K where
 m:Mgo K mg
section
variable {K:Fgg}{mg:Str→Option Value}
theorem En.fx (e:En K mg):Fx K:=⟨e.u0.g,e.u1.g,e.u2.g⟩
end
section
variable {P:Program}{w:World}{K:Fgg}{mg:Str→Option Value}{base:Heap}
theorem zfJ_ (e:En K mg):zcS_ P w K mg base :=
 zfu_ e.m e.f0 (okC (N:=[]) (C:=csNil) (b:=fun _ _ F=>Fun.binds0 F fun _ _ _ _ _ _=>rfl) (O:=(owF tyStr)) (t:=fun E=>zgI_ K) (g:=fun c=>zen_) 0 0 zhG_ (fun _ _ _ _ _ _ E nd hr=>(ze_ (zJ_ (zaA_ (l:=SG))))) fun c E=>at_ []
 (zb1_ (zA_ zf_) (EvF.ow (zaz_ SG))))
theorem zgL_ (e:En K mg):zff_ P w K mg base :=
 zfu_ e.m e.f1 (okC (N:=["_law_cell", "_law_menu", "_law_mark", "_law_card_here", "_law_number", "_law_k"]) (C:=(csCons tyInt (csCons tyStr (csLast tyStr)))) (O:=(owF tyStr)) (t:=fun E=>zhs_ K) (g:=fun c=>zdQ_ c.1 c.2.1 c.2.2) 3 3 (zM_ (zM_ zj_)) (fun _ _ _ _ _ _ E nd hr=>(zd_ (pst 3 (zaA_ (l:=[]))) (zd_ (pst 4 (zca_ zcf_ (zca_ zbN_ (za_ 0) zB_) zB_)) (zd_ (zeW_ PassesOwn.never rfl (zf7_ (e.m.gb e.b0) (zb_ zB_ zg_)) (pgn 5) (zd_ (pst 4 (zca_ zbN_ (zca_ zcf_ (zca_ zcf_ (zca_ zg2_ (za_ 4) (za_ 4)) (zca_ zg2_ zB_ (za_ 5))) zB_) zB_)) (ze_ (pst 3 (zca_ zcf_ (za_ 3) (zdT_ ix_M (za_ 1) (zca_ zbN_ (zca_ zfx_ (za_ 4) zB_) (zgS_ zbE_ (e.m.gb e.b1) (zb_ (za_ 1) zg_))) (fun _ _=>rfl))))))) (ze_ (zJ_ (zca_ zcf_ (za_ 3) (za_ 2)))))))) fun c E=>at_ [(Zf tyInt c.1),(Zf tyStr c.2.1),(Zf tyStr c.2.2),Zd,Zd,Zd]
 (zgM_ (i:=3) rfl zf_ (zaz_ []) fun u1'=>(at_ [(Zf tyInt c.1),(Zf tyStr c.2.1),(Zf tyStr c.2.2),(Zf tyStr u1'),Zd,Zd] (zgM_ (i:=4) rfl zi_ (zZ_ zfl_ (zZ_ zbW_ (zc_ 0 rfl) (zI_ 2147483647)) (zI_ 3)) fun u2'=>(at_ [(Zf tyInt c.1),(Zf tyStr c.2.1),(Zf tyStr c.2.2),(Zf tyStr u1'),(Zf tyInt u2'),Zd] (zbL_ (LS:=(fun t7:(Int×(List Nat))=>[(Zf tyInt c.1),(Zf tyStr c.2.1),(Zf tyStr c.2.2),(Zf tyStr t7.2),(Zf tyInt t7.1),Zd])) (zfH_ (L':=[(Zf tyInt c.1),(Zf tyStr c.2.1),(Zf tyStr c.2.2),(Zf tyStr u1'),(Zf tyInt u2'),Zd]) (S4 (.same (.same .nil))) (zj9_ (LS:=(fun t7:(Int×(List Nat))=>[(Zf tyInt c.1),(Zf tyStr c.2.1),(Zf tyStr c.2.2),(Zf tyStr t7.2),(Zf tyInt t7.1),Zd])) (s0:=(u2',u1')) (zh8_ (zh_ (zI_ 36))) (zbq_ 5) fun t7 x9=>at_ [(Zf tyInt c.1),(Zf tyStr c.2.1),(Zf tyStr c.2.2),(Zf tyStr t7.2),(Zf tyInt t7.1),(Zf tyInt x9)] (zgM_ (i:=4) rfl zi_ (zZ_ zbW_ (zZ_ zfl_ (zZ_ zfl_ (zZ_ zfW_ (zc_ 4 rfl) (zc_ 4 rfl)) (zZ_ zfW_ (zI_ 17) (zc_ 5 rfl))) (zI_ 5)) (zI_ 2147483629)) fun n10=>(at_ [(Zf tyInt c.1),(Zf tyStr c.2.1),(Zf tyStr c.2.2),(Zf tyStr t7.2),(Zf tyInt n10),(Zf tyInt x9)] (ze5_ (zgM_ (i:=3) rfl zf_ (zZ_ zji_ (zc_ 3 rfl) (zZ_ zfY_ (zc_ 1 rfl) (zZ_ zbW_ (zZ_ zdJ_ (zc_ 4 rfl) (zI_ 3)) (zjx_ zhW_ (zh_ (zc_ 1 rfl)))))) fun v21=>(at_ [(Zf tyInt c.1),(Zf tyStr c.2.1),(Zf tyStr c.2.2),(Zf tyStr v21),(Zf tyInt n10),(Zf tyInt x9)] (zm_ (S4 (.same (.dead .nil))))))))))) fun t7=>(at_ [(Zf tyInt c.1),(Zf tyStr c.2.1),(Zf tyStr c.2.2),(Zf tyStr t7.2),(Zf tyInt t7.1),Zd] (zb1_ (zA_ zf_) (EvF.ow (zZ_ zji_ (zc_ 3 rfl) (zc_ 2 rfl)))))))))))
theorem zgV_ (e:En K mg) (g0:zcS_ P w K mg base) (g1:zff_ P w K mg base):zfw_ P w K mg base :=
 zfu_ e.m e.f2 (okC (N:=["_law_cells", "_law_way", "_law_menu", "_law_deck_here", "_law_k", "_law_cell", "_law_mark"]) (C:=(csCons (tyL tyInt) (csLast tyInt))) (O:=(owL tyStr)) (t:=fun E=>zhL_ K) (g:=fun c=>zdy_ c.1 c.2) 2 5 (zM_ zj_) (fun _ _ _ _ _ _ E nd hr=>(zd_ (pst 2 (zdT_ ix_M (zaC_ (zb_ (zaA_ (l:=[65,32])) (zb_ (zaA_ (l:=[48,90,57])) (zb_ (zaA_ (l:=[66,53,65,32,48])) (zb_ (zeZ_ g0 (hm hr)) zg_))))) (zca_ zbN_ (za_ 1) zB_) (fun _ _=>rfl))) (zd_ (pst 3 (zaC_ zg_)) (zd_ (zeW_ PassesOwn.never rfl (zjH_ (e.m.gb e.b2) (zb_ (za_ 0) zg_)) (zg1_ (n:=2) rfl (za9_ (pgn 4) (za9_ (pgn 5) zeY_))) (zd_ (pst 6 (pe_sm zfX_ zfP_ zkj_ (pe_tf "str" ziL_ (e.m.gb e.b3) (zb_ (zca_ zbN_ (zca_ zg2_ (za_ 4) zB_) zB_) zg_)) (zb_ zB_ zg_))) (zd_ (zak_ (zU_ (zbK_ hr.u60) (zca_ zbN_ (zca_ zfx_ (za_ 1) zB_) zB_) zB_) (ze_ (pst 6 (zaA_ (l:=[77,65,82,75])))) zE_) (ze_ (zaB_ (zgX_ zbZ_ zw_ zv_ zal_ (za_ 3) (zb_ (zp_ g1 (hm hr) (zb_ (za_ 5) (zb_ (za_ 2) (zb_ (za_ 6) zg_)))) zg_))))))) (ze_ (zJ_ (za_ 3))))))) fun c E=>at_ [(Zf (tyL tyInt) c.1),(Zf tyInt c.2),Zd,Zd,Zd,Zd,Zd]
 (zgM_ (i:=2) rfl zf_ (zZ_ zf5_ (EvO.fr (O:=(owL tyStr)) (zj0_ (zaa_ (zaa_ (zaa_ zao_))) (zfN_ (zfN_ (zfN_ zf4_))) (zk_ (zaz_ [65,32]) (zk_ (zaz_ [48,90,57]) (zk_ (zaz_ [66,53,65,32,48]) (zh_ (zo_ zhx_))))))) (zZ_ zbW_ (zc_ 1 rfl) (zI_ 4))) fun z1'=>(at_ [(Zf (tyL tyInt) c.1),(Zf tyInt c.2),(Zf tyStr z1'),Zd,Zd,Zd,Zd] (zcW_ (i:=3) rfl (zq_ zf_) (zax_ tyStr) fun d14=>(at_ [(Zf (tyL tyInt) c.1),(Zf tyInt c.2),(Zf tyStr z1'),(Zo (owL tyStr) d14),Zd,Zd,Zd] (zbL_ (LS:=(fun s15:(List (List Nat))=>[(Zf (tyL tyInt) c.1),(Zf tyInt c.2),(Zf tyStr z1'),(Zo (owL tyStr) s15),Zd,Zd,Zd])) (zfH_ (L':=[(Zf (tyL tyInt) c.1),(Zf tyInt c.2),(Zf tyStr z1'),(Zo (owL tyStr) d14),Zd,Zd,Zd]) (S4 (.same (.same (.same .nil)))) (zj9_ (LS:=(fun s15:(List (List Nat))=>[(Zf (tyL tyInt) c.1),(Zf tyInt c.2),(Zf tyStr z1'),(Zo (owL tyStr) s15),Zd,Zd,Zd])) (s0:=d14) (zjf_ (zh_ (zc_ 0 rfl))) (zkn_ (zaa_ zao_) (zhw_ 4 (zg8_ (zbq_ 5)))) fun s15 x17=>at_ [(Zf (tyL tyInt) c.1),(Zf tyInt c.2),(Zf tyStr z1'),(Zo (owL tyStr) s15),(Zf tyInt x17.1),(Zf tyInt x17.2),Zd] (zgM_ (i:=6) rfl zf_ (ev_me zjS_ (zjx_ znl_ (zh_ (zZ_ zbW_ (zZ_ zfW_ (zc_ 4 rfl) (zI_ 271)) (zI_ 10000)))) (zh_ (zI_ 4))) fun m18=>(at_ [(Zf (tyL tyInt) c.1),(Zf tyInt c.2),(Zf tyStr z1'),(Zo (owL tyStr) s15),(Zf tyInt x17.1),(Zf tyInt x17.2),(Zf tyStr m18)] (zbL_ (LS:=(fun s33:(List Nat)=>[(Zf (tyL tyInt) c.1),(Zf tyInt c.2),(Zf tyStr z1'),(Zo (owL tyStr) s15),(Zf tyInt x17.1),(Zf tyInt x17.2),(Zf tyStr s33)])) (s_if (zG_ (zZ_ zkB_ (zZ_ zbW_ (zZ_ zdJ_ (zc_ 1 rfl) (zI_ 4)) (zI_ 4)) (zI_ 1))) (ze5_ (zgM_ (i:=6) rfl zf_ (zaz_ [77,65,82,75]) fun m34=>(at_ [(Zf (tyL tyInt) c.1),(Zf tyInt c.2),(Zf tyStr z1'),(Zo (owL tyStr) s15),(Zf tyInt x17.1),(Zf tyInt x17.2),(Zf tyStr m34)] (zm_ (S4 (.same (.same (.same .nil)))))))) (zm_ (S4 (.same (.same (.same .nil)))))) fun s33=>(at_ [(Zf (tyL tyInt) c.1),(Zf tyInt c.2),(Zf tyStr z1'),(Zo (owL tyStr) s15),(Zf tyInt x17.1),(Zf tyInt x17.2),(Zf tyStr s33)] (ze5_ (zeH_ (i:=3) rfl zf_ (zo_ (zk_ (zc_ 5 rfl) (zk_ (zc_ 2 rfl) (zh_ (zc_ 6 rfl))))) fun a40=>(at_ [(Zf (tyL tyInt) c.1),(Zf tyInt c.2),(Zf tyStr z1'),(Zo (owL tyStr) (s15++[a40])),(Zf tyInt x17.1),(Zf tyInt x17.2),(Zf tyStr s33)] (zm_ (S4 (.dead (.dead (.dead .nil)))))))))))))) fun s15=>(at_ [(Zf (tyL tyInt) c.1),(Zf tyInt c.2),(Zf tyStr z1'),(Zo (owL tyStr) s15),Zd,Zd,Zd] (zkz_ (i:=3) rfl))))))))
theorem zeG_ (e:En K mg):zc7_ P w K mg base :=
 zfu_ e.m e.f3 (okC (N:=["_law_script", "_law_k"]) (C:=(csCons (tySc K) (csLast tyInt))) (O:=(owF tyInt)) (t:=fun E=>zfh_ K) (g:=fun c=>zb3_ c.1 c.2) 2 0 (zM_ zj_) (fun _ _ _ _ _ _ E nd hr=>(zd_ (zak_ (zU_ zmG_ (za_ 1) (zgS_ zbE_ (e.m.gb e.b1) (zb_ (za_ 0) zg_))) (ze_ (zJ_ (zdT_ ix_M (za_ 0) (za_ 1) (fun _ _=>rfl)))) zE_) (ze_ (zJ_ zB_)))) fun c E=>at_ [(Zf (tySc K) c.1),(Zf tyInt c.2)]
 (zbL_ (LS:=(fun _:Unit=>[(Zf (tySc K) c.1),(Zf tyInt c.2)])) (s_if (zG_ (zZ_ zmO_ (zc_ 1 rfl) (zjx_ zjR_ (zh_ (zc_ 0 rfl))))) (zb1_ (zA_ zi_) (EvF.ow (zZ_ zlc_ (zc_ 0 rfl) (zc_ 1 rfl)))) (zm_ (.same (.same .nil)))) fun _=>(at_ [(Zf (tySc K) c.1),(Zf tyInt c.2)] (zb1_ (zA_ zi_) (EvF.ow (zI_ 0))))))
theorem zaR_ (e:En K mg):z2_ P w K mg base :=
 gs_of e.m e.f4 (okU (N:=["self"]) (O:=(owI (gA K "Dealer") [] psNil)) (O2:=(Qq13 K)) (C:=csNil) (t:=fun E=>zaV_ K) (g:=fun x c=>zD_ x) (LS:=fun w_=>(fun x':Qq7=>[(Zo (owAt w_ (Qq13 K)) x')])) 0 0 zhG_ (fun _ _ _ _ _ _ E nd hr=>(zd_ (zcL_ e.w0.cls e.a0.no (za_ 0) (zaC_ zg_)) (ze_ (zcL_ e.w0.cls e.a1.no (za_ 0) (zaC_ zg_))))) fun w_ x c E=>at_ [(Zo (owAt w_ (owI (gA K "Dealer") [] psNil)) x)]
 (zgz_ (P:=psNil) (P':=(psO (owLO (owL tyStr)) psNil)) (ad:=fun c z=>(z,())) (ns:=[]) (O1:=(owLO (owL tyStr))) (i:=0) rfl (by decide +kernel) (by decide) zfL_ (z7_ (zq_ zf_)) (zgs_ zgn_) fun x_2=>(at_ [(Zo (owAt w_ (owI (gA K "Dealer") ["pockets"] (psO (owLO (owL tyStr)) psNil))) x_2)] (ze5_ (zgz_ (P:=(psO (owLO (owL tyStr)) psNil)) (P':=Qq6) (ad:=fun c z=>(c.1,(z,()))) (ns:=["pockets"]) (O1:=(owL tyInt)) (i:=0) rfl (by decide +kernel) (by decide) (zeF_ zfL_) (zq_ zi_) (zax_ tyInt) fun x_4=>(at_ [(Zo (owAt w_ (Qq13 K)) x_4)] (zm_ (.same .nil))))))))
theorem zbV_ (e:En K mg):zaN_ P w K mg base :=
 zfF_ e.w0 e.f5 (okU (N:=["self", "many"]) (O:=(Qq13 K)) (O2:=(Qq13 K)) (C:=(csLast tyInt)) (t:=fun E=>zcb_ K) (g:=fun x c=>z9_ x c) (LS:=fun w_=>(fun x':Qq7=>[(Zo (owAt w_ (Qq13 K)) x'),Zd])) 1 0 zj_ (fun _ _ _ _ _ _ E nd hr=>(ze_ (zcL_ e.w0.cls e.a0.no (za_ 0) (zg6_ (cl:=[]) (lv:=["number"]) (fr:=[]) rfl (csm rfl fr0) (zf7_ (e.m.gb e.b0) (zb_ (za_ 1) zg_)) (fun _ _ _ _=>(pgc 0)) (fun _ _ _ _=>zhP_) (fun _ _ _ _=>(zaC_ zg_)))))) fun w_ x c E=>at_ [(Zo (owAt w_ (Qq13 K)) x),(Zf tyInt c)]
 (ze5_ (zju_ (O1:=(owLO (owL tyStr))) (i:=0) (n:=0) (by decide +kernel) rfl (by decide) zlN_ (z7_ (zq_ zf_)) (zfO_ (zh8_ (zh_ (zc_ 1 rfl))) (zbq_ 0) (fun _=>dead1) (fun x_5=>zh4_) (fun x_5=>(zax_ tyStr))) (zd6_ (zcp_ rfl)) fun x_2=>(at_ [(Zo (owAt w_ (Qq13 K)) x_2),(Zf tyInt c)] (zm_ (.same (.dead .nil)))))))
theorem zcP_ (e:En K mg) (g4:z2_ P w K mg base) (g5:zaN_ P w K mg base):zaG_ P w K mg base :=
 gk_of e.m e.w0 e.f6 (okU (N:=["self", "column"]) (O:=(owI (gA K "Dealer") [] psNil)) (O2:=(Qq1 K)) (C:=(csLast tyInt)) (t:=fun E=>zdg_ K) (g:=fun x c=>zaH_ x c) (LS:=fun w_=>(fun x':Qq5=>[(Zo (owAt w_ (Qq1 K)) x'),Zd])) 1 0 zj_ (fun _ _ _ _ _ _ E nd hr=>(zd_ (zaB_ (zjn_ g4 (hm hr) (zb_ (za_ 0) zg_))) (zd_ (zaB_ (zc1_ g5 (hm hr) (za_ 0) (zb_ (zgS_ zbE_ (e.m.gb e.b1) (zb_ (zlw_ (e.m.gv e.c0)) zg_)) zg_))) (ze_ (zcL_ e.w0.cls e.a2.no (za_ 0) (za_ 1)))))) fun w_ x c E=>at_ [(Zo (owAt w_ (owI (gA K "Dealer") [] psNil)) x),(Zf tyInt c)]
 (zjd_ (zgv_ (i:=0) rfl (zbJ_ (zt_ (z7_ (zq_ zf_)) (zt_ (zq_ zi_) zY_))) (zA_ zfo_) zhx_) fun q_2=>(at_ [(Zo (owAt w_ (Qq13 K)) q_2.2),(Zf tyInt c)] (zew_ (i:=0) (m := "make_pockets") (ns:=["pockets", "log"]) (by decide +kernel) (zbJ_ (zt_ (z7_ (zq_ zf_)) (zt_ (zq_ zi_) zY_))) (zd6_ (zcp_ rfl)) (zdo_ zi_) (zh_ (zjx_ zhW_ (zh_ (zaz_ SG)))) fun x8=>(at_ [(Zo (owAt w_ (Qq13 K)) x8),(Zf tyInt c)] (ze5_ (zht_ (P:=Qq6) (P':=Qq10) (ad:=fun c z=>(c.1,(c.2.1,(z,())))) (ns:=["pockets", "log"]) (i:=0) rfl (by decide +kernel) (by decide) (zeF_ (zeF_ zfL_)) zi_ (zc_ 1 rfl) fun x10=>(at_ [(Zo (owAt w_ (Qq1 K)) x10),(Zf tyInt c)] (zm_ (.same (.dead .nil)))))))))))
theorem zaO_ (e:En K mg):z3_ P w K mg base :=
 gs_of e.m e.f7 (okU (N:=["self"]) (O:=(owI (gA K "Picker") [] psNil)) (O2:=(Qq12 K)) (C:=csNil) (t:=fun E=>zaX_ K) (g:=fun x c=>zC_ x) (LS:=fun w_=>(fun x':Qq7=>[(Zo (owAt w_ (Qq12 K)) x')])) 0 0 zhG_ (fun _ _ _ _ _ _ E nd hr=>(zd_ (zcL_ e.w1.cls e.a3.no (za_ 0) (zaC_ zg_)) (ze_ (zcL_ e.w1.cls e.a4.no (za_ 0) (zaC_ zg_))))) fun w_ x c E=>at_ [(Zo (owAt w_ (owI (gA K "Picker") [] psNil)) x)]
 (zgz_ (P:=psNil) (P':=(psO (owLO (owL tyStr)) psNil)) (ad:=fun c z=>(z,())) (ns:=[]) (O1:=(owLO (owL tyStr))) (i:=0) rfl (by decide +kernel) (by decide) zfL_ (z7_ (zq_ zf_)) (zgs_ zgn_) fun x_2=>(at_ [(Zo (owAt w_ (owI (gA K "Picker") ["pockets"] (psO (owLO (owL tyStr)) psNil))) x_2)] (ze5_ (zgz_ (P:=(psO (owLO (owL tyStr)) psNil)) (P':=Qq6) (ad:=fun c z=>(c.1,(z,()))) (ns:=["pockets"]) (O1:=(owL tyInt)) (i:=0) rfl (by decide +kernel) (by decide) (zeF_ zfL_) (zq_ zi_) (zax_ tyInt) fun x_4=>(at_ [(Zo (owAt w_ (Qq12 K)) x_4)] (zm_ (.same .nil))))))))
theorem zb7_ (e:En K mg):zaM_ P w K mg base :=
 zfF_ e.w1 e.f8 (okU (N:=["self", "many"]) (O:=(Qq12 K)) (O2:=(Qq12 K)) (C:=(csLast tyInt)) (t:=fun E=>zce_ K) (g:=fun x c=>z8_ x c) (LS:=fun w_=>(fun x':Qq7=>[(Zo (owAt w_ (Qq12 K)) x'),Zd])) 1 0 zj_ (fun _ _ _ _ _ _ E nd hr=>(ze_ (zcL_ e.w1.cls e.a3.no (za_ 0) (zg6_ (cl:=[]) (lv:=["number"]) (fr:=[]) rfl (csm rfl fr0) (zf7_ (e.m.gb e.b0) (zb_ (za_ 1) zg_)) (fun _ _ _ _=>(pgc 0)) (fun _ _ _ _=>zhP_) (fun _ _ _ _=>(zaC_ zg_)))))) fun w_ x c E=>at_ [(Zo (owAt w_ (Qq12 K)) x),(Zf tyInt c)]
 (ze5_ (zju_ (O1:=(owLO (owL tyStr))) (i:=0) (n:=0) (by decide +kernel) rfl (by decide) zlN_ (z7_ (zq_ zf_)) (zfO_ (zh8_ (zh_ (zc_ 1 rfl))) (zbq_ 0) (fun _=>dead1) (fun x_5=>zh4_) (fun x_5=>(zax_ tyStr))) (zd6_ (zcp_ rfl)) fun x_2=>(at_ [(Zo (owAt w_ (Qq12 K)) x_2),(Zf tyInt c)] (zm_ (.same (.dead .nil)))))))
theorem zc0_ (e:En K mg) (g7:z3_ P w K mg base) (g8:zaM_ P w K mg base):zaI_ P w K mg base :=
 gk_of e.m e.w1 e.f9 (okU (N:=["self", "column", "sign"]) (O:=(owI (gA K "Picker") [] psNil)) (O2:=(Qq0 K)) (C:=(csCons tyInt (csLast tyStr))) (t:=fun E=>zdi_ K) (g:=fun x c=>zaJ_ x c.1 c.2) (LS:=fun w_=>(fun x':Qq3=>[(Zo (owAt w_ (Qq0 K)) x'),Zd,Zd])) 2 0 (zM_ zj_) (fun _ _ _ _ _ _ E nd hr=>(zd_ (zaB_ (zjn_ g7 (hm hr) (zb_ (za_ 0) zg_))) (zd_ (zaB_ (zc1_ g8 (hm hr) (za_ 0) (zb_ zB_ zg_))) (zd_ (zcL_ e.w1.cls e.a5.no (za_ 0) (za_ 1)) (ze_ (zcL_ e.w1.cls e.a6.no (za_ 0) (za_ 2))))))) fun w_ x c E=>at_ [(Zo (owAt w_ (owI (gA K "Picker") [] psNil)) x),(Zf tyInt c.1),(Zf tyStr c.2)]
 (zjd_ (zgv_ (i:=0) rfl (zbJ_ (zt_ (z7_ (zq_ zf_)) (zt_ (zq_ zi_) zY_))) (zA_ zfo_) zhx_) fun q_2=>(at_ [(Zo (owAt w_ (Qq12 K)) q_2.2),(Zf tyInt c.1),(Zf tyStr c.2)] (zew_ (i:=0) (m := "make_pockets") (ns:=["pockets", "log"]) (by decide +kernel) (zbJ_ (zt_ (z7_ (zq_ zf_)) (zt_ (zq_ zi_) zY_))) (zd6_ (zcp_ rfl)) (zdo_ zi_) (zh_ (zI_ 2)) fun x_7=>(at_ [(Zo (owAt w_ (Qq12 K)) x_7),(Zf tyInt c.1),(Zf tyStr c.2)] (zht_ (P:=Qq6) (P':=Qq10) (ad:=fun c z=>(c.1,(c.2.1,(z,())))) (ns:=["pockets", "log"]) (i:=0) rfl (by decide +kernel) (by decide) (zeF_ (zeF_ zfL_)) zi_ (zc_ 1 rfl) fun x9=>(at_ [(Zo (owAt w_ (owI (gA K "Picker") Qn1 Qq10)) x9),(Zf tyInt c.1),(Zf tyStr c.2)] (ze5_ (zht_ (P:=Qq10) (P':=Qq11) (ad:=fun c z=>(c.1,(c.2.1,(c.2.2.1,(z,()))))) (ns:=Qn1) (i:=0) rfl (by decide +kernel) (by decide) (zeF_ (zeF_ (zeF_ zfL_))) zf_ (zc_ 2 rfl) fun x11=>(at_ [(Zo (owAt w_ (Qq0 K)) x11),(Zf tyInt c.1),(Zf tyStr c.2)] (zm_ (.same (.dead (.dead .nil))))))))))))))
theorem zc4_ (e:En K mg) (g6:zaG_ P w K mg base):zbI_ P w K mg base :=
 zfu_ e.m e.f10 (okC (N:=["going", "trays", "kind"]) (C:=(csCons Qq9 (csLast (tyD kStr (tyL tyStr))))) (O:=(Qq1 K)) (t:=fun E=>zdj_ K) (g:=fun c=>zaK_ c.1 c.2) 2 1 (zM_ zj_) (fun _ _ _ _ _ _ E nd hr=>(zd_ (pst 2 (zdT_ ix_M (za_ 0) zB_ (fun _ _=>rfl))) (zd_ (zak_ (zU_ (zbK_ hr.u60) (za_ 2) (zaA_ (l:=[100,101,97,108]))) (ze_ (zJ_ (zeM_ g6 (hm hr) (zb_ (zdT_ ix_M (za_ 0) zB_ (fun _ _=>rfl)) zg_)))) zE_) (zd_ (zak_ (zU_ (zbK_ hr.u60) (za_ 2) (zaA_ (l:=[112,105,99,107]))) (ze_ zbk_) zE_) (zd_ (zak_ (zU_ (zbK_ hr.u60) (za_ 2) (zaA_ (l:=[109,97,116,101]))) (ze_ zbk_) zE_) (zd_ (zak_ (zU_ (zbK_ hr.u60) (za_ 2) (zaA_ (l:=[102,105,114,115,116]))) (ze_ zbk_) zE_) (zd_ (zak_ (zU_ (zbK_ hr.u60) (za_ 2) (zaA_ (l:=[112,117,110,99,104]))) (ze_ zbk_) zE_) (ze_ zbk_)))))))) fun c E=>at_ [(Zf Qq9 c.1),(Zf (tyD kStr (tyL tyStr)) c.2),Zd]
 (zgM_ (i:=2) rfl zf_ (zhZ_ (i:=0) at_0 (zc_ 0 rfl)) fun y1'=>(at_ [(Zf Qq9 c.1),(Zf (tyD kStr (tyL tyStr)) c.2),(Zf tyStr y1')] (zbL_ (LS:=(fun _:Unit=>[(Zf Qq9 c.1),(Zf (tyD kStr (tyL tyStr)) c.2),(Zf tyStr y1')])) (s_if (zG_ (zZ_ zcZ_ (zc_ 2 rfl) (zaz_ [100,101,97,108]))) (zb1_ (zbJ_ (zt_ (z7_ (zq_ zf_)) (zt_ (zq_ zi_) (zt_ (zA_ zi_) zY_)))) (zgq_ (zh_ (zhZ_ (i:=2) (at_s (at_s zja_)) (zc_ 0 rfl))))) (zm_ (.same (.same (.same .nil))))) fun _=>(at_ [(Zf Qq9 c.1),(Zf (tyD kStr (tyL tyStr)) c.2),(Zf tyStr y1')] (zbL_ (LS:=(fun _:Unit=>[(Zf Qq9 c.1),(Zf (tyD kStr (tyL tyStr)) c.2),(Zf tyStr y1')])) (s_if (zG_ (zZ_ zcZ_ (zc_ 2 rfl) (zaz_ [112,105,99,107]))) zb6_ (zm_ (.same (.same (.same .nil))))) fun _=>(at_ [(Zf Qq9 c.1),(Zf (tyD kStr (tyL tyStr)) c.2),(Zf tyStr y1')] (zbL_ (LS:=(fun _:Unit=>[(Zf Qq9 c.1),(Zf (tyD kStr (tyL tyStr)) c.2),(Zf tyStr y1')])) (s_if (zG_ (zZ_ zcZ_ (zc_ 2 rfl) (zaz_ [109,97,116,101]))) zb6_ (zm_ (.same (.same (.same .nil))))) fun _=>(at_ [(Zf Qq9 c.1),(Zf (tyD kStr (tyL tyStr)) c.2),(Zf tyStr y1')] (zbL_ (LS:=(fun _:Unit=>[(Zf Qq9 c.1),(Zf (tyD kStr (tyL tyStr)) c.2),(Zf tyStr y1')])) (s_if (zG_ (zZ_ zcZ_ (zc_ 2 rfl) (zaz_ [102,105,114,115,116]))) zb6_ (zm_ (.same (.same (.same .nil))))) fun _=>(at_ [(Zf Qq9 c.1),(Zf (tyD kStr (tyL tyStr)) c.2),(Zf tyStr y1')] (zbL_ (LS:=(fun _:Unit=>[(Zf Qq9 c.1),(Zf (tyD kStr (tyL tyStr)) c.2),(Zf tyStr y1')])) (s_if (zG_ (zZ_ zcZ_ (zc_ 2 rfl) (zaz_ [112,117,110,99,104]))) zb6_ (zm_ (.same (.same (.same .nil))))) fun _=>(at_ [(Zf Qq9 c.1),(Zf (tyD kStr (tyL tyStr)) c.2),(Zf tyStr y1')] zb6_)))))))))))))
theorem zcV_ (e:En K mg) (g9:zaI_ P w K mg base):zbH_ P w K mg base :=
 zfu_ e.m e.f11 (okC (N:=["going", "trays", "kind"]) (C:=(csCons Qq8 (csLast (tyD kStr (tyL tyStr))))) (O:=(Qq0 K)) (t:=fun E=>zdf_ K) (g:=fun c=>zaL_ c.1 c.2) 2 1 (zM_ zj_) (fun _ _ _ _ _ _ E nd hr=>(zd_ (pst 2 (zdT_ ix_M (za_ 0) zB_ (fun _ _=>rfl))) (zd_ (zak_ (zU_ (zbK_ hr.u60) (za_ 2) (zaA_ (l:=[100,101,97,108]))) (ze_ zbk_) zE_) (zd_ (zak_ (zU_ (zbK_ hr.u60) (za_ 2) (zaA_ (l:=[112,105,99,107]))) (ze_ (zJ_ (zeM_ g9 (hm hr) (zb_ (zdT_ ix_M (za_ 0) zB_ (fun _ _=>rfl)) (zb_ (zdT_ ix_M (za_ 0) zB_ (fun _ _=>rfl)) zg_))))) zE_) (zd_ (zak_ (zU_ (zbK_ hr.u60) (za_ 2) (zaA_ (l:=[109,97,116,101]))) (ze_ zbk_) zE_) (zd_ (zak_ (zU_ (zbK_ hr.u60) (za_ 2) (zaA_ (l:=[102,105,114,115,116]))) (ze_ zbk_) zE_) (zd_ (zak_ (zU_ (zbK_ hr.u60) (za_ 2) (zaA_ (l:=[112,117,110,99,104]))) (ze_ zbk_) zE_) (ze_ zbk_)))))))) fun c E=>at_ [(Zf Qq8 c.1),(Zf (tyD kStr (tyL tyStr)) c.2),Zd]
 (zgM_ (i:=2) rfl zf_ (zhZ_ (i:=0) at_0 (zc_ 0 rfl)) fun y1'=>(at_ [(Zf Qq8 c.1),(Zf (tyD kStr (tyL tyStr)) c.2),(Zf tyStr y1')] (zbL_ (LS:=(fun _:Unit=>[(Zf Qq8 c.1),(Zf (tyD kStr (tyL tyStr)) c.2),(Zf tyStr y1')])) (s_if (zG_ (zZ_ zcZ_ (zc_ 2 rfl) (zaz_ [100,101,97,108]))) zb6_ (zm_ (.same (.same (.same .nil))))) fun _=>(at_ [(Zf Qq8 c.1),(Zf (tyD kStr (tyL tyStr)) c.2),(Zf tyStr y1')] (zbL_ (LS:=(fun _:Unit=>[(Zf Qq8 c.1),(Zf (tyD kStr (tyL tyStr)) c.2),(Zf tyStr y1')])) (s_if (zG_ (zZ_ zcZ_ (zc_ 2 rfl) (zaz_ [112,105,99,107]))) (zb1_ (zbJ_ (zt_ (z7_ (zq_ zf_)) (zt_ (zq_ zi_) (zt_ (zA_ zi_) (zt_ (zA_ zf_) zY_))))) (zgq_ (zk_ (zhZ_ (i:=2) (at_s (at_s at_0)) (zc_ 0 rfl)) (zh_ (zhZ_ (i:=3) (at_s (at_s (at_s zja_))) (zc_ 0 rfl)))))) (zm_ (.same (.same (.same .nil))))) fun _=>(at_ [(Zf Qq8 c.1),(Zf (tyD kStr (tyL tyStr)) c.2),(Zf tyStr y1')] (zbL_ (LS:=(fun _:Unit=>[(Zf Qq8 c.1),(Zf (tyD kStr (tyL tyStr)) c.2),(Zf tyStr y1')])) (s_if (zG_ (zZ_ zcZ_ (zc_ 2 rfl) (zaz_ [109,97,116,101]))) zb6_ (zm_ (.same (.same (.same .nil))))) fun _=>(at_ [(Zf Qq8 c.1),(Zf (tyD kStr (tyL tyStr)) c.2),(Zf tyStr y1')] (zbL_ (LS:=(fun _:Unit=>[(Zf Qq8 c.1),(Zf (tyD kStr (tyL tyStr)) c.2),(Zf tyStr y1')])) (s_if (zG_ (zZ_ zcZ_ (zc_ 2 rfl) (zaz_ [102,105,114,115,116]))) zb6_ (zm_ (.same (.same (.same .nil))))) fun _=>(at_ [(Zf Qq8 c.1),(Zf (tyD kStr (tyL tyStr)) c.2),(Zf tyStr y1')] (zbL_ (LS:=(fun _:Unit=>[(Zf Qq8 c.1),(Zf (tyD kStr (tyL tyStr)) c.2),(Zf tyStr y1')])) (s_if (zG_ (zZ_ zcZ_ (zc_ 2 rfl) (zaz_ [112,117,110,99,104]))) zb6_ (zm_ (.same (.same (.same .nil))))) fun _=>(at_ [(Zf Qq8 c.1),(Zf (tyD kStr (tyL tyStr)) c.2),(Zf tyStr y1')] zb6_)))))))))))))
theorem zee_ (e:En K mg) (g9:zaI_ P w K mg base) (g6:zaG_ P w K mg base) (g11:zbH_ P w K mg base) (g10:zbI_ P w K mg base):zcN_ P w K mg base :=
 zfu_ e.m e.f12 (okC (N:=["_law_column", "_law_sign", "_law_way"]) (C:=(csCons tyInt (csCons tyStr (csLast tyInt)))) (O:=(owH2 (Qq1 K) (Qq0 K))) (t:=fun E=>zeV_ K) (g:=fun c=>zby_ c.1 c.2.1 c.2.2) 3 0 (zM_ (zM_ zj_)) (fun _ _ _ _ _ _ E nd hr=>(zd_ (zak_ (zU_ (zbK_ hr.u60) (zca_ zbN_ (za_ 2) zB_) zB_) (ze_ (zJ_ (zaC_ (zb_ (zeM_ g6 (hm hr) (zb_ (za_ 0) zg_)) (zb_ (zeM_ g9 (hm hr) (zb_ (za_ 0) (zb_ (za_ 1) zg_))) zg_))))) zE_) (ze_ (zJ_ (zaC_ (zb_ (zp_ g10 (hm hr) (zb_ (zmb_ (zb_ (zaA_ (l:=[100,101,97,108])) (zb_ (zaA_ (l:=[97])) (zb_ (za_ 0) zg_)))) (zb_ zj8_ zg_))) (zb_ (zp_ g11 (hm hr) (zb_ (zmb_ (zb_ (zaA_ (l:=[112,105,99,107])) (zb_ (zaA_ (l:=[98])) (zb_ (za_ 0) (zb_ (za_ 1) zg_))))) (zb_ (zlG_ (zkG_ (zaA_ (l:=[98])) (zaC_ zg_) zk1_) rfl rfl (by simp) (by decide)) zg_))) zg_))))))) fun c E=>at_ [(Zf tyInt c.1),(Zf tyStr c.2.1),(Zf tyInt c.2.2)]
 (zbL_ (LS:=(fun _:Unit=>[(Zf tyInt c.1),(Zf tyStr c.2.1),(Zf tyInt c.2.2)])) (s_if (zG_ (zZ_ zkB_ (zZ_ zbW_ (zc_ 2 rfl) (zI_ 2)) (zI_ 0))) (zb1_ (zjE_ (zbJ_ (zt_ (z7_ (zq_ zf_)) (zt_ (zq_ zi_) (zt_ (zA_ zi_) zY_)))) (zbJ_ (zt_ (z7_ (zq_ zf_)) (zt_ (zq_ zi_) (zt_ (zA_ zi_) (zt_ (zA_ zf_) zY_)))))) (zhi_ (zgq_ (zh_ (zc_ 0 rfl))) (zgq_ (zk_ (zc_ 0 rfl) (zh_ (zc_ 1 rfl)))))) (zm_ (.same (.same (.same .nil))))) fun _=>(at_ [(Zf tyInt c.1),(Zf tyStr c.2.1),(Zf tyInt c.2.2)] (zb1_ (zjE_ (zbJ_ (zt_ (z7_ (zq_ zf_)) (zt_ (zq_ zi_) (zt_ (zA_ zi_) zY_)))) (zbJ_ (zt_ (z7_ (zq_ zf_)) (zt_ (zq_ zi_) (zt_ (zA_ zi_) (zt_ (zA_ zf_) zY_)))))) (zhi_ (zbB_ (zk_ (zlq_ (zaa_ (zaa_ zao_)) (zk_ (zaz_ [100,101,97,108]) (zk_ (zaz_ [97]) (zh_ (zc_ 0 rfl))))) (zh_ (EvO.fr (zkU_ kStr (tyL tyStr)))))) (zbB_ (zk_ (zlq_ (zaa_ (zaa_ (zaa_ zao_))) (zk_ (zaz_ [112,105,99,107]) (zk_ (zaz_ [98]) (zk_ (zc_ 0 rfl) (zh_ (zc_ 1 rfl)))))) (zh_ (EvO.fr (zlP_ (KY:=kStr) (T:=(tyL tyStr)) (zjP_ zl7_ (zaz_ [98]) (EvO.fr (zax_ tyStr)) zll_)))))))))))
theorem zdC_ (e:En K mg):zcl_ P w K mg base :=
 zfF_ e.w0 e.f13 (okCU (N:=["self"]) (C:=(csLast (Qq4 K))) (LS:=fun _:Unit=>[Zd]) (t:=fun E=>zd5_ K) (g:=fun c=>zci_ c) 1 0 zj_ (fun _ _ _ _ _ _ E nd hr=>(ze_ zjj_)) fun c E=>at_ [(Zf (Qq4 K) c)]
 zl4_)
theorem zdu_ (e:En K mg):zcs_ P w K mg base :=
 zfF_ e.w1 e.f14 (okCU (N:=["self"]) (C:=(csLast (Qq2 K))) (LS:=fun _:Unit=>[Zd]) (t:=fun E=>zd2_ K) (g:=fun c=>zco_ c) 1 0 zj_ (fun _ _ _ _ _ _ E nd hr=>(ze_ zjj_)) fun c E=>at_ [(Zf (Qq2 K) c)]
 zl4_)
theorem zcH_ (e:En K mg):zbo_ P w K mg base :=
 zfF_ e.w0 e.f15 (okC (N:=["self"]) (C:=(csLast (Qq4 K))) (O:=(owL tyStr)) (t:=fun E=>zc5_ K) (g:=fun c=>zbs_ c) 1 0 zj_ (fun _ _ _ _ _ _ E nd hr=>(ze_ (zJ_ (zaC_ zg_)))) fun c E=>at_ [(Zf (Qq4 K) c)]
 (zb1_ (zq_ zf_) (zax_ tyStr)))
theorem ziY_ (e:En K mg):zfS_ P w K mg base :=
 zfu_ e.m e.f16 (okC (N:=["some", "deck", "pocket"]) (C:=(csLast (tyL (tyL tyStr)))) (O:=(owL tyStr)) (t:=fun E=>zks_ K) (g:=fun c=>zfQ_ c) 1 2 zj_ (fun _ _ _ _ _ _ E nd hr=>(zd_ (pst 1 (zaC_ zg_)) (zd_ (zeW_ PassesOwn.never rfl (zeO_ (za_ 0)) (pgn 2) (ze_ (zaB_ (zgX_ zbZ_ zeJ_ zeQ_ ziW_ (za_ 1) (zb_ (za_ 2) zg_))))) (ze_ (zJ_ (za_ 1)))))) fun c E=>at_ [(Zf (tyL (tyL tyStr)) c),Zd,Zd]
 (zcW_ (i:=1) rfl (zq_ zf_) (zax_ tyStr) fun v1'=>(at_ [(Zf (tyL (tyL tyStr)) c),(Zo (owL tyStr) v1'),Zd] (zbL_ (LS:=(fun s_2:(List (List Nat))=>[(Zf (tyL (tyL tyStr)) c),(Zo (owL tyStr) s_2),Zd])) (zfH_ (L':=[(Zf (tyL (tyL tyStr)) c),(Zo (owL tyStr) v1'),Zd]) (.same (.same (.same .nil))) (zj9_ (LS:=(fun s_2:(List (List Nat))=>[(Zf (tyL (tyL tyStr)) c),(Zo (owL tyStr) s_2),Zd])) (s0:=v1') (ei_l (zc_ 0 rfl)) (zbq_ 2) fun s_2 x_3=>at_ [(Zf (tyL (tyL tyStr)) c),(Zo (owL tyStr) s_2),(Zf (tyL tyStr) x_3)] (ze5_ (zky_ (i:=1) rfl zf_ (zc_ 2 rfl) fun w4=>(at_ [(Zf (tyL (tyL tyStr)) c),(Zo (owL tyStr) (s_2++w4)),(Zf (tyL tyStr) x_3)] (zm_ (.same (.same (.dead .nil))))))))) fun s_2=>(at_ [(Zf (tyL (tyL tyStr)) c),(Zo (owL tyStr) s_2),Zd] (zkz_ (i:=1) rfl))))))
theorem zdx_ (e:En K mg) (g16:zfS_ P w K mg base):zch_ P w K mg base :=
 zfF_ e.w0 e.f17 (okC (N:=["self"]) (C:=(csLast (Qq4 K))) (O:=(owL tyStr)) (t:=fun E=>zeh_ K) (g:=fun c=>zbf_ c) 1 0 zj_ (fun _ _ _ _ _ _ E nd hr=>(ze_ (zJ_ (zp_ g16 (hm hr) (zb_ (za8_ e.w0.cls e.a0.no (za_ 0)) zg_))))) fun c E=>at_ [(Zf (Qq4 K) c)]
 (zb1_ (zq_ zf_) (zbB_ (zh_ (zdU_ (ns:=Qn1) (by decide +kernel) (n:=0) rfl at_0 (zc_ 0 rfl))))))
theorem zcv_ (e:En K mg):za5_ P w K mg base :=
 zfF_ e.w0 e.f18 (okC (N:=["self"]) (C:=(csLast (Qq4 K))) (O:=(owL tyStr)) (t:=fun E=>zcF_ K) (g:=fun c=>za6_ c) 1 0 zj_ (fun _ _ _ _ _ _ E nd hr=>(ze_ (zJ_ (zaC_ zg_)))) fun c E=>at_ [(Zf (Qq4 K) c)]
 (zb1_ (zq_ zf_) (zax_ tyStr)))
theorem zev_ (e:En K mg):zag_ P w K mg base :=
 zfu_ e.m e.f19 (okC (N:=["_law_found", "_law_due", "_law_card_here", "_law_other"]) (C:=(csCons (tyL tyStr) (csLast (tyL tyStr)))) (O:=(owF tyBl)) (t:=fun E=>zfs_ K) (g:=fun c=>zbP_ c.1 c.2) 2 2 (zM_ zj_) (fun _ _ _ _ _ _ E nd hr=>(zd_ (zak_ (PW.pt (zd9_ (zbD_ (zan_ (zgS_ zeP_ (e.m.gb e.b4) (zb_ (za_ 0) (zb_ (zmd_ "list" (e.m.gb e.b5)) zg_))))) (zdW_ (zU_ (ziV_ hr.u60) (zgS_ zbE_ (e.m.gb e.b1) (zb_ (za_ 0) zg_)) (zgS_ zbE_ (e.m.gb e.b1) (zb_ (za_ 1) zg_)))))) (ze_ (zJ_ zfa_)) zE_) (zd_ (zeW_ PassesOwn.never rfl (zmm_ (e.m.gb e.b6) (zb_ (za_ 0) (zb_ (za_ 1) zg_))) (zg1_ (n:=2) rfl (za9_ (pgn 2) (za9_ (pgn 3) zeY_))) (ze_ (zak_ (PW.pt (zd9_ (zbD_ (zan_ (zgS_ zeP_ (e.m.gb e.b4) (zb_ (za_ 2) (zb_ (zmd_ "str" (e.m.gb e.b3)) zg_))))) (zdW_ (zU_ (ziV_ hr.u60) (za_ 2) (za_ 3))))) (ze_ (zJ_ zfa_)) zE_))) (ze_ (zJ_ zfa_))))) fun c E=>at_ [(Zf (tyL tyStr) c.1),(Zf (tyL tyStr) c.2),Zd,Zd]
 (zbL_ (LS:=(fun _:Unit=>[(Zf (tyL tyStr) c.1),(Zf (tyL tyStr) c.2),Zd,Zd])) (s_if (zio_ (zbA_ (zG_ (zin_ tn_l (zc_ 0 rfl)))) (zG_ (zZ_ zmZ_ (zjx_ zie_ (zh_ (zc_ 0 rfl))) (zjx_ zie_ (zh_ (zc_ 1 rfl)))))) (zb1_ (zA_ zaU_) (EvF.ow (ze4_ false))) (zm_ (S4 .nil))) fun _=>(at_ [(Zf (tyL tyStr) c.1),(Zf (tyL tyStr) c.2),Zd,Zd] (zbL_ (LS:=(fun _:Unit=>[(Zf (tyL tyStr) c.1),(Zf (tyL tyStr) c.2),Zd,Zd])) (zfH_ (L':=[(Zf (tyL tyStr) c.1),(Zf (tyL tyStr) c.2),Zd,Zd]) (S4 .nil) (zj9_ (LS:=(fun _:Unit=>[(Zf (tyL tyStr) c.1),(Zf (tyL tyStr) c.2),Zd,Zd])) (s0:=()) (zni_ (zk_ (zc_ 0 rfl) (zh_ (zc_ 1 rfl)))) (zkn_ (zaa_ zao_) (zhw_ 2 (zg8_ (zbq_ 3)))) fun _ x15=>at_ [(Zf (tyL tyStr) c.1),(Zf (tyL tyStr) c.2),(Zf tyStr x15.1),(Zf tyStr x15.2)] (s_if (zio_ (zbA_ (zG_ (zin_ zmt_ (zc_ 2 rfl)))) (zG_ (zZ_ zlu_ (zc_ 2 rfl) (zc_ 3 rfl)))) (zb1_ (zA_ zaU_) (EvF.ow (ze4_ false))) (zm_ (.same (.same (.dead (.dead .nil)))))))) fun _=>(at_ [(Zf (tyL tyStr) c.1),(Zf (tyL tyStr) c.2),Zd,Zd] (zb1_ (zA_ zaU_) (EvF.ow (ze4_ true))))))))
theorem zdI_ (e:En K mg) (g19:zag_ P w K mg base) (g17:zch_ P w K mg base) (g18:za5_ P w K mg base) (g15:zbo_ P w K mg base):zck_ P w K mg base :=
 zfu_ e.m e.f20 (okC (N:=["_law_machine", "_law_stayed", "_law_aside", "_law_told_here", "_law_lines"]) (C:=(csCons (Qq4 K) (csCons (tyL tyStr) (csLast (tyL tyStr))))) (O:=(owF tyBl)) (t:=fun E=>zea_ K) (g:=fun c=>zbh_ c.1 c.2.1 c.2.2) 3 2 (zM_ (zM_ zj_)) (fun _ _ _ _ _ _ E nd hr=>(zd_ (zak_ (PW.pt (zd9_ (zbD_ (zan_ (zp_ g19 (hm hr) (zb_ (zu_ g17 (hm hr) (za_ 0)) (zb_ (za_ 1) zg_))))) (zdW_ (zbD_ (zan_ (zp_ g19 (hm hr) (zb_ (zu_ g18 (hm hr) (za_ 0)) (zb_ (za_ 2) zg_)))))))) (ze_ (zJ_ zfa_)) zE_) (zd_ (zeW_ PassesOwn.never rfl (zeO_ (zaC_ (zb_ (zu_ g17 (hm hr) (za_ 0)) (zb_ (zu_ g18 (hm hr) (za_ 0)) (zb_ (zu_ g15 (hm hr) (za_ 0)) zg_))))) (pgn 3) (ze_ (zaB_ (zgX_ zbZ_ zw_ zv_ zal_ (za_ 3) (zb_ (zaA_ (l:=[])) zg_))))) (zd_ (zak_ (PW.pt (zd9_ (zbD_ (zan_ (zp_ g19 (hm hr) (zb_ (zu_ g17 (hm hr) (za_ 0)) (zb_ (za_ 1) zg_))))) (zdW_ (zbD_ (zan_ (zp_ g19 (hm hr) (zb_ (zu_ g18 (hm hr) (za_ 0)) (zb_ (za_ 2) zg_)))))))) (ze_ (zJ_ zfa_)) zE_) (zd_ (pst 4 (zu_ g15 (hm hr) (za_ 0))) (ze_ (zJ_ (zfc_ (zgS_ zeP_ (e.m.gb e.b4) (zb_ (za_ 4) (zb_ (zmd_ "list" (e.m.gb e.b5)) zg_))) (ziA_ (zf9_ (zbK_ hr.u60) (za_ 4) (zaC_ zg_))))))))))) fun c E=>at_ [(Zf (Qq4 K) c.1),(Zf (tyL tyStr) c.2.1),(Zf (tyL tyStr) c.2.2),Zd,Zd]
 (zbL_ (LS:=(fun _:Unit=>[(Zf (Qq4 K) c.1),(Zf (tyL tyStr) c.2.1),(Zf (tyL tyStr) c.2.2),Zd,Zd])) (s_if (zio_ (zbA_ (zG_ (zo_ (zk_ (EvO.fr (zz_ (m := "stayed") (ns:=Qn1) (by decide +kernel) (zc_ 0 rfl))) (zh_ (zc_ 1 rfl)))))) (zbA_ (zG_ (zo_ (zk_ (EvO.fr (zz_ (m := "laid_aside") (ns:=Qn1) (by decide +kernel) (zc_ 0 rfl))) (zh_ (zc_ 2 rfl))))))) (zb1_ (zA_ zaU_) (EvF.ow (ze4_ false))) (zm_ (S4 (.same .nil)))) fun _=>(at_ [(Zf (Qq4 K) c.1),(Zf (tyL tyStr) c.2.1),(Zf (tyL tyStr) c.2.2),Zd,Zd] (zbL_ (LS:=(fun _:Unit=>[(Zf (Qq4 K) c.1),(Zf (tyL tyStr) c.2.1),(Zf (tyL tyStr) c.2.2),Zd,Zd])) (zh1_ (w:=3) rfl (zgs_ (zcT_ (zz_ (m := "stayed") (ns:=Qn1) (by decide +kernel) (zc_ 0 rfl)) (zcT_ (zz_ (m := "laid_aside") (ns:=Qn1) (by decide +kernel) (zc_ 0 rfl)) (zcT_ (zz_ (m := "lines_out") (ns:=Qn1) (by decide +kernel) (zc_ 0 rfl)) zgn_))))) fun _=>(at_ [(Zf (Qq4 K) c.1),(Zf (tyL tyStr) c.2.1),(Zf (tyL tyStr) c.2.2),Zd,Zd] (zbL_ (LS:=(fun _:Unit=>[(Zf (Qq4 K) c.1),(Zf (tyL tyStr) c.2.1),(Zf (tyL tyStr) c.2.2),Zd,Zd])) (s_if (zio_ (zbA_ (zG_ (zo_ (zk_ (EvO.fr (zz_ (m := "stayed") (ns:=Qn1) (by decide +kernel) (zc_ 0 rfl))) (zh_ (zc_ 1 rfl)))))) (zbA_ (zG_ (zo_ (zk_ (EvO.fr (zz_ (m := "laid_aside") (ns:=Qn1) (by decide +kernel) (zc_ 0 rfl))) (zh_ (zc_ 2 rfl))))))) (zb1_ (zA_ zaU_) (EvF.ow (ze4_ false))) (zm_ (S4 (.same .nil)))) fun _=>(at_ [(Zf (Qq4 K) c.1),(Zf (tyL tyStr) c.2.1),(Zf (tyL tyStr) c.2.2),Zd,Zd] (zcW_ (i:=4) rfl (zq_ zf_) (zz_ (m := "lines_out") (ns:=Qn1) (by decide +kernel) (zc_ 0 rfl)) fun l40=>zkP_ (i:=4) rfl (at_ [(Zf (Qq4 K) c.1),(Zf (tyL tyStr) c.2.1),(Zf (tyL tyStr) c.2.2),Zd,(Zf (tyL tyStr) l40)] (zb1_ (zA_ zaU_) (EvF.ow (zhS_ (zin_ tn_l (zc_ 4 rfl)) (zZ_ (zlo_ (zmn_ zif_)) (zc_ 4 rfl) (EvO.fr (zax_ tyStr)))))))))))))))
theorem zcx_ (e:En K mg):zbt_ P w K mg base :=
 zfF_ e.w1 e.f21 (okC (N:=["self"]) (C:=(csLast (Qq2 K))) (O:=(owL tyStr)) (t:=fun E=>zc3_ K) (g:=fun c=>zbm_ c) 1 0 zj_ (fun _ _ _ _ _ _ E nd hr=>(ze_ (zJ_ (zaC_ zg_)))) fun c E=>at_ [(Zf (Qq2 K) c)]
 (zb1_ (zq_ zf_) (zax_ tyStr)))
theorem zdN_ (e:En K mg):zcm_ P w K mg base :=
 zfF_ e.w1 e.f22 (okC (N:=["self"]) (C:=(csLast (Qq2 K))) (O:=(owL tyStr)) (t:=fun E=>zdY_ K) (g:=fun c=>zbg_ c) 1 0 zj_ (fun _ _ _ _ _ _ E nd hr=>(ze_ (zJ_ (pe_tf "list" (zhp_ rfl) (e.m.gb e.b5) (zb_ (zdT_ ix_M (za8_ e.w1.cls e.a3.no (za_ 0)) zB_ (fun _ _=>rfl)) zg_))))) fun c E=>at_ [(Zf (Qq2 K) c)]
 (zb1_ (zq_ zf_) (zmz_ zlH_ (zh_ (zZ_ zf5_ (zdU_ (ns:=Qn0) (by decide +kernel) (n:=0) rfl at_0 (zc_ 0 rfl)) (zI_ 0))))))
theorem zcu_ (e:En K mg) (g16:zfS_ P w K mg base):za4_ P w K mg base :=
 zfF_ e.w1 e.f23 (okC (N:=["self"]) (C:=(csLast (Qq2 K))) (O:=(owL tyStr)) (t:=fun E=>zcz_ K) (g:=fun c=>zap_ c) 1 0 zj_ (fun _ _ _ _ _ _ E nd hr=>(ze_ (zJ_ (zp_ g16 (hm hr) (zb_ (ze2_ sl_M (za8_ e.w1.cls e.a3.no (za_ 0)) (po_M zB_) zim_) zg_))))) fun c E=>at_ [(Zf (Qq2 K) c)]
 (zb1_ (zq_ zf_) (zbB_ (zh_ (EvO.fr (zjQ_ (zdU_ (ns:=Qn0) (by decide +kernel) (n:=0) rfl at_0 (zc_ 0 rfl)) (zlW_ (zI_ 1)) znf_))))))
theorem zdO_ (e:En K mg) (g19:zag_ P w K mg base) (g22:zcm_ P w K mg base) (g23:za4_ P w K mg base) (g21:zbt_ P w K mg base):zcq_ P w K mg base :=
 zfu_ e.m e.f24 (okC (N:=["_law_machine", "_law_stayed", "_law_aside", "_law_told_here", "_law_lines"]) (C:=(csCons (Qq2 K) (csCons (tyL tyStr) (csLast (tyL tyStr))))) (O:=(owF tyBl)) (t:=fun E=>zeg_ K) (g:=fun c=>zbi_ c.1 c.2.1 c.2.2) 3 2 (zM_ (zM_ zj_)) (fun _ _ _ _ _ _ E nd hr=>(zd_ (zak_ (PW.pt (zd9_ (zbD_ (zan_ (zp_ g19 (hm hr) (zb_ (zu_ g22 (hm hr) (za_ 0)) (zb_ (za_ 1) zg_))))) (zdW_ (zbD_ (zan_ (zp_ g19 (hm hr) (zb_ (zu_ g23 (hm hr) (za_ 0)) (zb_ (za_ 2) zg_)))))))) (ze_ (zJ_ zfa_)) zE_) (zd_ (zeW_ PassesOwn.never rfl (zeO_ (zaC_ (zb_ (zu_ g22 (hm hr) (za_ 0)) (zb_ (zu_ g23 (hm hr) (za_ 0)) (zb_ (zu_ g21 (hm hr) (za_ 0)) zg_))))) (pgn 3) (ze_ (zaB_ (zgX_ zbZ_ zw_ zv_ zal_ (za_ 3) (zb_ (zaA_ (l:=[])) zg_))))) (zd_ (zak_ (PW.pt (zd9_ (zbD_ (zan_ (zp_ g19 (hm hr) (zb_ (zu_ g22 (hm hr) (za_ 0)) (zb_ (za_ 1) zg_))))) (zdW_ (zbD_ (zan_ (zp_ g19 (hm hr) (zb_ (zu_ g23 (hm hr) (za_ 0)) (zb_ (za_ 2) zg_)))))))) (ze_ (zJ_ zfa_)) zE_) (zd_ (pst 4 (zu_ g21 (hm hr) (za_ 0))) (ze_ (zJ_ (zfc_ (zgS_ zeP_ (e.m.gb e.b4) (zb_ (za_ 4) (zb_ (zmd_ "list" (e.m.gb e.b5)) zg_))) (ziA_ (zf9_ (zbK_ hr.u60) (za_ 4) (zaC_ zg_))))))))))) fun c E=>at_ [(Zf (Qq2 K) c.1),(Zf (tyL tyStr) c.2.1),(Zf (tyL tyStr) c.2.2),Zd,Zd]
 (zbL_ (LS:=(fun _:Unit=>[(Zf (Qq2 K) c.1),(Zf (tyL tyStr) c.2.1),(Zf (tyL tyStr) c.2.2),Zd,Zd])) (s_if (zio_ (zbA_ (zG_ (zo_ (zk_ (EvO.fr (zz_ (m := "stayed") (ns:=Qn0) (by decide +kernel) (zc_ 0 rfl))) (zh_ (zc_ 1 rfl)))))) (zbA_ (zG_ (zo_ (zk_ (EvO.fr (zz_ (m := "laid_aside") (ns:=Qn0) (by decide +kernel) (zc_ 0 rfl))) (zh_ (zc_ 2 rfl))))))) (zb1_ (zA_ zaU_) (EvF.ow (ze4_ false))) (zm_ (S4 (.same .nil)))) fun _=>(at_ [(Zf (Qq2 K) c.1),(Zf (tyL tyStr) c.2.1),(Zf (tyL tyStr) c.2.2),Zd,Zd] (zbL_ (LS:=(fun _:Unit=>[(Zf (Qq2 K) c.1),(Zf (tyL tyStr) c.2.1),(Zf (tyL tyStr) c.2.2),Zd,Zd])) (zh1_ (w:=3) rfl (zgs_ (zcT_ (zz_ (m := "stayed") (ns:=Qn0) (by decide +kernel) (zc_ 0 rfl)) (zcT_ (zz_ (m := "laid_aside") (ns:=Qn0) (by decide +kernel) (zc_ 0 rfl)) (zcT_ (zz_ (m := "lines_out") (ns:=Qn0) (by decide +kernel) (zc_ 0 rfl)) zgn_))))) fun _=>(at_ [(Zf (Qq2 K) c.1),(Zf (tyL tyStr) c.2.1),(Zf (tyL tyStr) c.2.2),Zd,Zd] (zbL_ (LS:=(fun _:Unit=>[(Zf (Qq2 K) c.1),(Zf (tyL tyStr) c.2.1),(Zf (tyL tyStr) c.2.2),Zd,Zd])) (s_if (zio_ (zbA_ (zG_ (zo_ (zk_ (EvO.fr (zz_ (m := "stayed") (ns:=Qn0) (by decide +kernel) (zc_ 0 rfl))) (zh_ (zc_ 1 rfl)))))) (zbA_ (zG_ (zo_ (zk_ (EvO.fr (zz_ (m := "laid_aside") (ns:=Qn0) (by decide +kernel) (zc_ 0 rfl))) (zh_ (zc_ 2 rfl))))))) (zb1_ (zA_ zaU_) (EvF.ow (ze4_ false))) (zm_ (S4 (.same .nil)))) fun _=>(at_ [(Zf (Qq2 K) c.1),(Zf (tyL tyStr) c.2.1),(Zf (tyL tyStr) c.2.2),Zd,Zd] (zcW_ (i:=4) rfl (zq_ zf_) (zz_ (m := "lines_out") (ns:=Qn0) (by decide +kernel) (zc_ 0 rfl)) fun l40=>zkP_ (i:=4) rfl (at_ [(Zf (Qq2 K) c.1),(Zf (tyL tyStr) c.2.1),(Zf (tyL tyStr) c.2.2),Zd,(Zf (tyL tyStr) l40)] (zb1_ (zA_ zaU_) (EvF.ow (zhS_ (zin_ tn_l (zc_ 4 rfl)) (zZ_ (zlo_ (zmn_ zif_)) (zc_ 4 rfl) (EvO.fr (zax_ tyStr)))))))))))))))
theorem zgN_ (e:En K mg):zdD_ P w K mg base :=
 zfu_ e.m e.f25 (okC (N:=["some", "numbers", "taken", "deck", "number"]) (C:=(csCons (tyL (tyL tyStr)) (csLast (tyL tyInt)))) (O:=(owL tyStr)) (t:=fun E=>zhY_ K) (g:=fun c=>zdS_ c.1 c.2) 2 3 (zM_ zj_) (fun _ _ _ _ _ _ E nd hr=>(zd_ (zdv_ (cl:=[]) (lv:=["pocket"]) (fr:=[]) rfl (csm rfl fr0) (zeO_ (za_ 0)) (fun _ _ _ _=>(pgc 0)) (fun _ _ _ _=>zhP_) (fun _ _ _ _=>zB_) (pgn 2)) (zd_ (pst 3 (zaC_ zg_)) (zd_ (zeW_ PassesOwn.never rfl (zeO_ (za_ 1)) (pgn 4) (zd_ (zaB_ (zgX_ zbZ_ zw_ zv_ zal_ (za_ 3) (zb_ (zdT_ ix_M (zdT_ ix_M (za_ 0) (za_ 4) (fun _ _=>rfl)) (zdT_ ix_M (za_ 2) (za_ 4) (fun _ _=>rfl)) (fun _ _=>rfl)) zg_))) (ze_ (zkV_ (zca_ zcf_ (zdT_ ix_M (za_ 2) (za_ 4) (fun _ _=>rfl)) zB_) (zmS_ (za_ 2) (za_ 4) set_M))))) (ze_ (zJ_ (za_ 3))))))) fun c E=>at_ [(Zf (tyL (tyL tyStr)) c.1),(Zf (tyL tyInt) c.2),Zd,Zd,Zd]
 (zcW_ (i:=2) rfl (zq_ zi_) (zeL_ (ei_l (zc_ 0 rfl)) (zbq_ 0) (fun _=>dead1) (fun x_2=>zh4_) (fun x_2=>(zI_ 0))) fun x1'=>(at_ [(Zf (tyL (tyL tyStr)) c.1),(Zf (tyL tyInt) c.2),(Zo (owL tyInt) x1'),Zd,Zd] (zcW_ (i:=3) rfl (zq_ zf_) (zax_ tyStr) fun d4=>(at_ [(Zf (tyL (tyL tyStr)) c.1),(Zf (tyL tyInt) c.2),(Zo (owL tyInt) x1'),(Zo (owL tyStr) d4),Zd] (zbL_ (LS:=(fun t5:((List (List Nat))×(List Int))=>[(Zf (tyL (tyL tyStr)) c.1),(Zf (tyL tyInt) c.2),(Zo (owL tyInt) t5.2),(Zo (owL tyStr) t5.1),Zd])) (zfH_ (L':=[(Zf (tyL (tyL tyStr)) c.1),(Zf (tyL tyInt) c.2),(Zo (owL tyInt) x1'),(Zo (owL tyStr) d4),Zd]) (S4 (.same .nil)) (zj9_ (LS:=(fun t5:((List (List Nat))×(List Int))=>[(Zf (tyL (tyL tyStr)) c.1),(Zf (tyL tyInt) c.2),(Zo (owL tyInt) t5.2),(Zo (owL tyStr) t5.1),Zd])) (s0:=(d4,x1')) (ei_l (zc_ 1 rfl)) (zbq_ 4) fun t5 t6=>at_ [(Zf (tyL (tyL tyStr)) c.1),(Zf (tyL tyInt) c.2),(Zo (owL tyInt) t5.2),(Zo (owL tyStr) t5.1),(Zf tyInt t6)] (zeH_ (i:=3) rfl zf_ (zZ_ zf5_ (zZ_ zf5_ (zc_ 0 rfl) (zc_ 4 rfl)) (zZ_ zf5_ (zgb_ 2 rfl) (zc_ 4 rfl))) fun a13=>(at_ [(Zf (tyL (tyL tyStr)) c.1),(Zf (tyL tyInt) c.2),(Zo (owL tyInt) t5.2),(Zo (owL tyStr) (t5.1++[a13])),(Zf tyInt t6)] (ze5_ (zna_ (i:=2) rfl zi_ (zZ_ zfl_ (zZ_ zf5_ (zgb_ 2 rfl) (zc_ 4 rfl)) (zI_ 1)) (zc_ 4 rfl) fun t24=>(at_ [(Zf (tyL (tyL tyStr)) c.1),(Zf (tyL tyInt) c.2),(Zo (owL tyInt) t24),(Zo (owL tyStr) (t5.1++[a13])),(Zf tyInt t6)] (zm_ (S4 (.dead .nil)))))))))) fun t5=>(at_ [(Zf (tyL (tyL tyStr)) c.1),(Zf (tyL tyInt) c.2),(Zo (owL tyInt) t5.2),(Zo (owL tyStr) t5.1),Zd] (zkz_ (i:=3) rfl))))))))
theorem zeC_ (e:En K mg) (g25:zdD_ P w K mg base):zbT_ P w K mg base :=
 zfF_ e.w0 e.f26 (okC (N:=["self"]) (C:=(csLast (Qq4 K))) (O:=(owL tyStr)) (t:=fun E=>ze9_ K) (g:=fun c=>zbU_ c) 1 0 zj_ (fun _ _ _ _ _ _ E nd hr=>(ze_ (zJ_ (zp_ g25 (hm hr) (zb_ (za8_ e.w0.cls e.a0.no (za_ 0)) (zb_ (za8_ e.w0.cls e.a1.no (za_ 0)) zg_)))))) fun c E=>at_ [(Zf (Qq4 K) c)]
 (zb1_ (zq_ zf_) (zbB_ (zk_ (zdU_ (ns:=Qn1) (by decide +kernel) (n:=0) rfl at_0 (zc_ 0 rfl)) (zh_ (zdU_ (ns:=Qn1) (by decide +kernel) (n:=1) rfl (at_s at_0) (zc_ 0 rfl)))))))
theorem ze1_ (e:En K mg) (g25:zdD_ P w K mg base):zb8_ P w K mg base :=
 zfF_ e.w1 e.f27 (okC (N:=["self"]) (C:=(csLast (Qq2 K))) (O:=(owL tyStr)) (t:=fun E=>ze7_ K) (g:=fun c=>zb5_ c) 1 0 zj_ (fun _ _ _ _ _ _ E nd hr=>(ze_ (zJ_ (zp_ g25 (hm hr) (zb_ (za8_ e.w1.cls e.a3.no (za_ 0)) (zb_ (za8_ e.w1.cls e.a4.no (za_ 0)) zg_)))))) fun c E=>at_ [(Zf (Qq2 K) c)]
 (zb1_ (zq_ zf_) (zbB_ (zk_ (zdU_ (ns:=Qn0) (by decide +kernel) (n:=0) rfl at_0 (zc_ 0 rfl)) (zh_ (zdU_ (ns:=Qn0) (by decide +kernel) (n:=1) rfl (at_s at_0) (zc_ 0 rfl)))))))
theorem zdM_ (e:En K mg):zcn_ P w K mg base :=
 zfF_ e.w0 e.f28 (okU (N:=["self", "card", "number"]) (O:=(Qq1 K)) (O2:=(Qq1 K)) (C:=(csCons tyStr (csLast tyInt))) (t:=fun E=>zdV_ K) (g:=fun x c=>zbd_ x c.1 c.2) (LS:=fun w_=>(fun x':Qq5=>[(Zo (owAt w_ (Qq1 K)) x'),Zd,Zd])) 2 0 (zM_ zj_) (fun _ _ _ _ _ _ E nd hr=>(zd_ (zaB_ (zgX_ zbZ_ zw_ zv_ zal_ (zdT_ ix_M (za8_ e.w0.cls e.a0.no (za_ 0)) (za_ 2) (fun _ _=>rfl)) (zb_ (za_ 1) zg_))) (ze_ (zaB_ (zgX_ zbZ_ zw_ zv_ zal_ (za8_ e.w0.cls e.a1.no (za_ 0)) (zb_ (za_ 2) zg_)))))) fun w_ x c E=>at_ [(Zo (owAt w_ (Qq1 K)) x),(Zf tyStr c.1),(Zf tyInt c.2)]
 (zcy_ (i:=0) (zlJ_ (zgw_ (ns:=Qn1) (by decide +kernel) (n:=0) rfl zmf_ (zd6_ (zcp_ rfl))) (zc_ 2 rfl)) zf_ (zc_ 1 rfl) fun x8=>(at_ [(Zo (owAt w_ (Qq1 K)) x8),(Zf tyStr c.1),(Zf tyInt c.2)] (ze5_ (zcy_ (i:=0) (zgw_ (ns:=Qn1) (by decide +kernel) (n:=1) rfl (pat_s zmf_) (zd6_ (zcp_ rfl))) zi_ (zc_ 2 rfl) fun x12=>(at_ [(Zo (owAt w_ (Qq1 K)) x12),(Zf tyStr c.1),(Zf tyInt c.2)] (zm_ (.same (.dead (.dead .nil))))))))))
theorem zii_ (e:En K mg):zgy_ P w K mg base :=
 zfu_ e.m e.f29 (okC (N:=["text"]) (C:=(csLast tyStr)) (O:=(owF tyBl)) (t:=fun E=>ziG_ K) (g:=fun c=>ze3_ c) 1 0 zj_ (fun _ _ _ _ _ _ E nd hr=>(ze_ (zJ_ (zfc_ (zf9_ (zbK_ hr.u60) (zgS_ zbE_ (e.m.gb e.b1) (zb_ (za_ 0) zg_)) zB_) (ziA_ (zf9_ zmL_ (za_ 0) (zlw_ (e.m.gv e.c0)))))))) fun c E=>at_ [(Zf tyStr c)]
 (zb1_ (zA_ zaU_) (EvF.ow (zhS_ (zZ_ zkB_ (zjx_ zhW_ (zh_ (zc_ 0 rfl))) (zI_ 1)) (zZ_ zmg_ (zc_ 0 rfl) (zaz_ SG))))))
theorem zhB_ (e:En K mg) (g29:zgy_ P w K mg base):zge_ P w K mg base :=
 zfu_ e.m e.f30 (okX (N:=["sign"]) (C:=(csLast tyStr)) (O:=(owF tyInt)) (t:=fun E=>ziu_ K E) (g:=fun c=>zeN_ c) 1 0 zj_ (fun _ _ _ _ _ _ E nd hr=>(zd_ (zak_ (zbD_ (zan_ (zp_ g29 (hm hr) (zb_ (za_ 0) zg_)))) (ze_ (zkt_ zjZ_ rfl e.fx.exc_NoCard (e.m.gk e.k0) (zb_ (zit_ (zjm_ (zm3_ (za_ 0)) (zjm_ (zaA_ (l:=[32,105,115,32,110,111,32,115,105,103,110])) znj_))) zg_))) zE_) (ze_ (zJ_ (pe_sm zf1_ zfM_ zjT_ (zlw_ (e.m.gv e.c0)) (zb_ (za_ 0) zg_)))))) fun c E=>at_ [(Zf tyStr c)]
 (zbL_ (LS:=(fun _:Unit=>[(Zf tyStr c)])) (s_if (zbA_ (zG_ (zo_ (zh_ (zc_ 0 rfl))))) zb6_ (zm_ (.same .nil))) fun _=>(at_ [(Zf tyStr c)] (zb1_ (zA_ zi_) (EvF.ow (ev_me zkl_ (zaz_ SG) (zh_ (zc_ 0 rfl))))))))
theorem zhR_ (e:En K mg):zeB_ P w K mg base :=
 zfu_ e.m e.f31 (okC (N:=["card", "column"]) (C:=(csCons tyStr (csLast tyInt))) (O:=(owF tyStr)) (t:=fun E=>ziX_ K) (g:=fun c=>zeE_ c.1 c.2) 2 0 (zM_ zj_) (fun _ _ _ _ _ _ E nd hr=>(ze_ (zJ_ (zdT_ ix_M (za_ 0) (zca_ ze6_ (za_ 1) zB_) (fun _ _=>rfl))))) fun c E=>at_ [(Zf tyStr c.1),(Zf tyInt c.2)]
 (zb1_ (zA_ zf_) (EvF.ow (zZ_ zfY_ (zc_ 0 rfl) (zZ_ zft_ (zc_ 1 rfl) (zI_ 1))))))
theorem zeD_ (e:En K mg) (g28:zcn_ P w K mg base) (g30:zge_ P w K mg base) (g31:zeB_ P w K mg base):zda_ P w K mg base :=
 zfF_ e.w0 e.f32 (okU (N:=["self", "card"]) (O:=(Qq1 K)) (O2:=(Qq1 K)) (C:=(csLast tyStr)) (t:=fun E=>zfi_ K) (g:=fun x c=>zb2_ x c) (LS:=fun w_=>(fun x':Qq5=>[(Zo (owAt w_ (Qq1 K)) x'),Zd])) 1 0 zj_ (fun _ _ _ _ _ _ E nd hr=>(ze_ (zaB_ (zc1_ g28 (hm hr) (za_ 0) (zb_ (za_ 1) (zb_ (zkK_ g30 (hm hr) passX0 (zb_ (zp_ g31 (hm hr) (zb_ (za_ 1) (zb_ (za8_ e.w0.cls e.a2.no (za_ 0)) zg_))) zg_)) zg_)))))) fun w_ x c E=>at_ [(Zo (owAt w_ (Qq1 K)) x),(Zf tyStr c)]
 (ze5_ (zew_ (i:=0) (m := "lay_in") (ns:=Qn1) (by decide +kernel) (zbJ_ (zt_ (z7_ (zq_ zf_)) (zt_ (zq_ zi_) (zt_ (zA_ zi_) zY_)))) (zd6_ (zcp_ rfl)) (zgh_ zf_ (zdo_ zi_)) (zk_ (zc_ 1 rfl) (zh_ (zo_ (zh_ (zo_ (zk_ (zc_ 1 rfl) (zh_ (zdU_ (ns:=Qn1) (by decide +kernel) (n:=2) rfl (at_s (at_s at_0)) (zdG_ (P:=Qq10) 0 rfl))))))))) fun x11=>(at_ [(Zo (owAt w_ (Qq1 K)) x11),(Zf tyStr c)] (zm_ (.same (.dead .nil)))))))
theorem zd0_ (e:En K mg) (g32:zda_ P w K mg base) (g26:zbT_ P w K mg base) (g19:zag_ P w K mg base):zcE_ P w K mg base :=
 zfu_ e.m e.f33 (okRk (N:=["_law_machine", "_law_card_here", "_law_fed_here", "_law_told_here"]) (O:=(Qq1 K)) (O2:=(Qq1 K)) (Or:=(owF tyBl)) (C:=(csCons tyStr (csLast (tyL tyStr)))) (t:=fun E=>zet_ K) (g:=fun x c=>zbv_ x c.1 c.2) 0 2 1 (zM_ zj_) (fun _ _ _ _ _ _ E nd hr=>(zd_ (zak_ (zU_ zdn_ (zc1_ g32 (hm hr) (za_ 0) (zb_ (za_ 1) zg_)) zi0_) (ze_ (zJ_ zfa_)) zE_) (zd_ (pst 3 (zu_ g26 (hm hr) (za_ 0))) (zd_ (zak_ (zbD_ (zan_ (zp_ g19 (hm hr) (zb_ (za_ 3) (zb_ (zca_ zcf_ (za_ 2) (zaC_ (zb_ (za_ 1) zg_))) zg_))))) (ze_ (zJ_ zfa_)) zE_) (zd_ (zaB_ (zgX_ zbZ_ zw_ zv_ zal_ (za_ 3) (zb_ (zaA_ (l:=[])) zg_))) (ze_ (zJ_ zfa_))))))) fun w_ x c E=>at_ [(Zo (owAt w_ (Qq1 K)) x),(Zf tyStr c.1),(Zf (tyL tyStr) c.2),Zd]
 (zbL_ (LS:=(fun s_1:Qq5=>[(Zo (owAt w_ (Qq1 K)) s_1),(Zf tyStr c.1),(Zf (tyL tyStr) c.2),Zd])) (by refine zmW_ (tc:=(tMeth (gA K "Dealer") "feed" (zbz_ K) [] E0 (mVar 0) (tCons (mVar 1) tNil))) (c2:=(mTest (tOp mIsNot (mVar 4) (tC .non)))) (zgi_ (m := "feed") (ns:=Qn1) (by decide +kernel) (zbJ_ (zt_ (z7_ (zq_ zf_)) (zt_ (zq_ zi_) (zt_ (zA_ zi_) zY_)))) (zA_ zfo_) (zlg_ (zjw_ rfl)) (zhO_ (zjF_ zf_ (zc_ 1 rfl)))) (fun q_2=>atT [(Zo (owAt w_ (Qq1 K)) q_2.2),(Zf tyStr c.1),(Zf (tyL tyStr) c.2),Zd,(Zf tyNon q_2.1)] (zG_ (zZ_ zdq_ (zc_ 4 rfl) zhN_))) ?_ (fun q_2=>at_ [(Zo (owAt w_ (Qq1 K)) q_2.2),(Zf tyStr c.1),(Zf (tyL tyStr) c.2),Zd] (zgK_ (i:=0) rfl zaU_ (ze4_ false))) (fun q_2=>at_ [(Zo (owAt w_ (Qq1 K)) q_2.2),(Zf tyStr c.1),(Zf (tyL tyStr) c.2),Zd] (zm_ (S4 .nil))); intro σ hσ H Q z; exact match σ,hσ,z with | [o0,o1,o2,o3],_,z=>z) fun s_1=>(at_ [(Zo (owAt w_ (Qq1 K)) s_1),(Zf tyStr c.1),(Zf (tyL tyStr) c.2),Zd] (zcW_ (i:=3) rfl (zq_ zf_) (zz_ (m := "back") (ns:=Qn1) (by decide +kernel) (zdG_ (P:=Qq10) 0 rfl)) fun t10=>(at_ [(Zo (owAt w_ (Qq1 K)) s_1),(Zf tyStr c.1),(Zf (tyL tyStr) c.2),(Zo (owL tyStr) t10)] (zbL_ (LS:=(fun _:Unit=>[(Zo (owAt w_ (Qq1 K)) s_1),(Zf tyStr c.1),(Zf (tyL tyStr) c.2),(Zo (owL tyStr) t10)])) (s_if (zbA_ (zG_ (zo_ (zk_ (zgb_ 3 rfl) (zh_ (EvO.fr (zkD_ zih_ (zc_ 2 rfl) (EvO.fr (zj0_ zao_ zf4_ (zh_ (zc_ 1 rfl))))))))))) (zgK_ (i:=0) rfl zaU_ (ze4_ false)) (zm_ (S4 .nil))) fun _=>(at_ [(Zo (owAt w_ (Qq1 K)) s_1),(Zf tyStr c.1),(Zf (tyL tyStr) c.2),(Zo (owL tyStr) t10)] (zeH_ (i:=3) rfl zf_ (zaz_ []) fun a22=>(at_ [(Zo (owAt w_ (Qq1 K)) s_1),(Zf tyStr c.1),(Zf (tyL tyStr) c.2),(Zo (owL tyStr) (t10++[a22]))] (zgK_ (i:=0) rfl zaU_ (ze4_ true)))))))))))
theorem zdE_ (e:En K mg):zcr_ P w K mg base :=
 zfF_ e.w1 e.f34 (okU (N:=["self", "card", "number"]) (O:=(Qq0 K)) (O2:=(Qq0 K)) (C:=(csCons tyStr (csLast tyInt))) (t:=fun E=>zd1_ K) (g:=fun x c=>zbl_ x c.1 c.2) (LS:=fun w_=>(fun x':Qq3=>[(Zo (owAt w_ (Qq0 K)) x'),Zd,Zd])) 2 0 (zM_ zj_) (fun _ _ _ _ _ _ E nd hr=>(zd_ (zaB_ (zgX_ zbZ_ zw_ zv_ zal_ (zdT_ ix_M (za8_ e.w1.cls e.a3.no (za_ 0)) (za_ 2) (fun _ _=>rfl)) (zb_ (za_ 1) zg_))) (ze_ (zaB_ (zgX_ zbZ_ zw_ zv_ zal_ (za8_ e.w1.cls e.a4.no (za_ 0)) (zb_ (za_ 2) zg_)))))) fun w_ x c E=>at_ [(Zo (owAt w_ (Qq0 K)) x),(Zf tyStr c.1),(Zf tyInt c.2)]
 (zcy_ (i:=0) (zlJ_ (zgw_ (ns:=Qn0) (by decide +kernel) (n:=0) rfl zmf_ (zd6_ (zcp_ rfl))) (zc_ 2 rfl)) zf_ (zc_ 1 rfl) fun x8=>(at_ [(Zo (owAt w_ (Qq0 K)) x8),(Zf tyStr c.1),(Zf tyInt c.2)] (ze5_ (zcy_ (i:=0) (zgw_ (ns:=Qn0) (by decide +kernel) (n:=1) rfl (pat_s zmf_) (zd6_ (zcp_ rfl))) zi_ (zc_ 2 rfl) fun x12=>(at_ [(Zo (owAt w_ (Qq0 K)) x12),(Zf tyStr c.1),(Zf tyInt c.2)] (zm_ (.same (.dead (.dead .nil))))))))))
theorem zeT_ (e:En K mg) (g34:zcr_ P w K mg base) (g31:zeB_ P w K mg base):zdc_ P w K mg base :=
 zfF_ e.w1 e.f35 (okU (N:=["self", "card"]) (O:=(Qq0 K)) (O2:=(Qq0 K)) (C:=(csLast tyStr)) (t:=fun E=>zfD_ K) (g:=fun x c=>zbO_ x c) (LS:=fun w_=>(fun x':Qq3=>[(Zo (owAt w_ (Qq0 K)) x'),Zd])) 1 0 zj_ (fun _ _ _ _ _ _ E nd hr=>(ze_ (zaB_ (zc1_ g34 (hm hr) (za_ 0) (zb_ (za_ 1) (zb_ (zmh_ (zU_ (zbK_ hr.u60) (zp_ g31 (hm hr) (zb_ (za_ 1) (zb_ (za8_ e.w1.cls e.a5.no (za_ 0)) zg_))) (za8_ e.w1.cls e.a6.no (za_ 0))) zB_ zB_) zg_)))))) fun w_ x c E=>at_ [(Zo (owAt w_ (Qq0 K)) x),(Zf tyStr c)]
 (ze5_ (zew_ (i:=0) (m := "lay_in") (ns:=Qn0) (by decide +kernel) (zbJ_ (zt_ (z7_ (zq_ zf_)) (zt_ (zq_ zi_) (zt_ (zA_ zi_) (zt_ (zA_ zf_) zY_))))) (zd6_ (zcp_ rfl)) (zgh_ zf_ (zdo_ zi_)) (zk_ (zc_ 1 rfl) (zh_ (ev_if (zG_ (zZ_ zcZ_ (zo_ (zk_ (zc_ 1 rfl) (zh_ (zdU_ (ns:=Qn0) (by decide +kernel) (n:=2) rfl (at_s (at_s at_0)) (zdG_ (P:=Qq11) 0 rfl))))) (zdU_ (ns:=Qn0) (by decide +kernel) (n:=3) rfl (at_s (at_s (at_s at_0))) (zdG_ (P:=Qq11) 0 rfl)))) (zI_ 0) (zI_ 1)))) fun v14=>(at_ [(Zo (owAt w_ (Qq0 K)) v14),(Zf tyStr c)] (zm_ (.same (.dead .nil)))))))
theorem zec_ (e:En K mg) (g35:zdc_ P w K mg base) (g27:zb8_ P w K mg base) (g19:zag_ P w K mg base):zcK_ P w K mg base :=
 zfu_ e.m e.f36 (okRk (N:=["_law_machine", "_law_card_here", "_law_fed_here", "_law_told_here"]) (O:=(Qq0 K)) (O2:=(Qq0 K)) (Or:=(owF tyBl)) (C:=(csCons tyStr (csLast (tyL tyStr)))) (t:=fun E=>zeA_ K) (g:=fun x c=>zbF_ x c.1 c.2) 0 2 1 (zM_ zj_) (fun _ _ _ _ _ _ E nd hr=>(zd_ (zak_ (zU_ zdn_ (zc1_ g35 (hm hr) (za_ 0) (zb_ (za_ 1) zg_)) zi0_) (ze_ (zJ_ zfa_)) zE_) (zd_ (pst 3 (zu_ g27 (hm hr) (za_ 0))) (zd_ (zak_ (zbD_ (zan_ (zp_ g19 (hm hr) (zb_ (za_ 3) (zb_ (zca_ zcf_ (za_ 2) (zaC_ (zb_ (za_ 1) zg_))) zg_))))) (ze_ (zJ_ zfa_)) zE_) (zd_ (zaB_ (zgX_ zbZ_ zw_ zv_ zal_ (za_ 3) (zb_ (zaA_ (l:=[])) zg_))) (ze_ (zJ_ zfa_))))))) fun w_ x c E=>at_ [(Zo (owAt w_ (Qq0 K)) x),(Zf tyStr c.1),(Zf (tyL tyStr) c.2),Zd]
 (zbL_ (LS:=(fun s_1:Qq3=>[(Zo (owAt w_ (Qq0 K)) s_1),(Zf tyStr c.1),(Zf (tyL tyStr) c.2),Zd])) (by refine zmW_ (tc:=(tMeth (gA K "Picker") "feed" (zbw_ K) [] E0 (mVar 0) (tCons (mVar 1) tNil))) (c2:=(mTest (tOp mIsNot (mVar 4) (tC .non)))) (zgi_ (m := "feed") (ns:=Qn0) (by decide +kernel) (zbJ_ (zt_ (z7_ (zq_ zf_)) (zt_ (zq_ zi_) (zt_ (zA_ zi_) (zt_ (zA_ zf_) zY_))))) (zA_ zfo_) (zlg_ (zjw_ rfl)) (zhO_ (zjF_ zf_ (zc_ 1 rfl)))) (fun q_2=>atT [(Zo (owAt w_ (Qq0 K)) q_2.2),(Zf tyStr c.1),(Zf (tyL tyStr) c.2),Zd,(Zf tyNon q_2.1)] (zG_ (zZ_ zdq_ (zc_ 4 rfl) zhN_))) ?_ (fun q_2=>at_ [(Zo (owAt w_ (Qq0 K)) q_2.2),(Zf tyStr c.1),(Zf (tyL tyStr) c.2),Zd] (zgK_ (i:=0) rfl zaU_ (ze4_ false))) (fun q_2=>at_ [(Zo (owAt w_ (Qq0 K)) q_2.2),(Zf tyStr c.1),(Zf (tyL tyStr) c.2),Zd] (zm_ (S4 .nil))); intro σ hσ H Q z; exact match σ,hσ,z with | [o0,o1,o2,o3],_,z=>z) fun s_1=>(at_ [(Zo (owAt w_ (Qq0 K)) s_1),(Zf tyStr c.1),(Zf (tyL tyStr) c.2),Zd] (zcW_ (i:=3) rfl (zq_ zf_) (zz_ (m := "back") (ns:=Qn0) (by decide +kernel) (zdG_ (P:=Qq11) 0 rfl)) fun t10=>(at_ [(Zo (owAt w_ (Qq0 K)) s_1),(Zf tyStr c.1),(Zf (tyL tyStr) c.2),(Zo (owL tyStr) t10)] (zbL_ (LS:=(fun _:Unit=>[(Zo (owAt w_ (Qq0 K)) s_1),(Zf tyStr c.1),(Zf (tyL tyStr) c.2),(Zo (owL tyStr) t10)])) (s_if (zbA_ (zG_ (zo_ (zk_ (zgb_ 3 rfl) (zh_ (EvO.fr (zkD_ zih_ (zc_ 2 rfl) (EvO.fr (zj0_ zao_ zf4_ (zh_ (zc_ 1 rfl))))))))))) (zgK_ (i:=0) rfl zaU_ (ze4_ false)) (zm_ (S4 .nil))) fun _=>(at_ [(Zo (owAt w_ (Qq0 K)) s_1),(Zf tyStr c.1),(Zf (tyL tyStr) c.2),(Zo (owL tyStr) t10)] (zeH_ (i:=3) rfl zf_ (zaz_ []) fun a22=>(at_ [(Zo (owAt w_ (Qq0 K)) s_1),(Zf tyStr c.1),(Zf (tyL tyStr) c.2),(Zo (owL tyStr) (t10++[a22]))] (zgK_ (i:=0) rfl zaU_ (ze4_ true)))))))))))
end
end K55
namespace K55
open PySem PySem.Spec PyProof.Rows L2
open Mo renaming bind→Mb,ok→Mq
open Sl renaming fz→Zf,dead→Zd,ow→Zo
local macro_rules | `(tactic| walk_at "mo") => `(tactic| simp only [Mo.okB, Mo.exB, Mo.noB, Mo.noexO, Mo.optS, zkf_, zjY_, zjX_, zki_, zmX_, zkv_, zlh_, zje_, zkc_, grd_T, Bool.not_true, Bool.not_false, if_true, if_false, Bool.false_eq_true, Option.map_some, Option.map_none, ite_true, ite_false, Int.reduceLT, Int.reduceLE, Int.reduceNeg, Int.reduceSub, Int.reduceAdd, Int.reduceMul, Nat.reduceAdd, Nat.reduceLT, decide_true, decide_false, Option.isSome_none, Option.isSome_some, Option.isNone_none, Option.isNone_some, Bool.and_true, Bool.and_false])
theorem zij_ (ns:List Int) (k:Int) (h:0≤k):∃ c,zaf_ ns k=.ok c:=by
 unfold zaf_ zb3_
 walk_at "mo"
 by_cases hk:k<(ns.length:Int)
 ·obtain ⟨x,e,_⟩:=zcY_ h hk
  rw [decide_eq_true hk,if_pos rfl,e]
  exact ⟨x,rfl⟩
 ·rw [decide_eq_false hk,if_neg (by decide)]
  exact ⟨0,rfl⟩
theorem zig_:zbp_=.ok SG:=rfl
theorem lim40 {α:Type}{c:Crd}(h:isC c) (k:Mo α):Mo.lim c.length k=k:=Mo.lim_ok (by rw [h.1]; lia)
theorem zfn_ {c:Crd}{col:Int}(h:isC c) (hc:colOk col):zcJ_ c col=.ok [sg c col]:=by
 unfold zcJ_ zeE_
 walk_at "mo"
 rw [lim40 h,(zkQ_ h hc).1]
 rfl
theorem zhb_ {x:Nat}(h:x∈SG):zdr_ [x]=.ok true:=by
 unfold zdr_ ze3_
 walk_at "mo"
 rw [Mo.lim_ok (by simp)]
 have:inS [x] SG=true:=decide_eq_true h
 simp [this]
theorem zlM_ {x:Nat}(h:x∈SG):zdm_ [x]=.ok (rk1 x:Int):=by
 unfold zdm_ zeN_
 walk_at "mo"
 rw [zhb_ h]
 walk_at "mo"
 rw [zkq_ h,Mo.grd_ok (by lia)]
 rfl
theorem zix_ {menu:List Nat}(hm:∀ x∈menu,x∈SG) (hne:menu≠[]) (hl:menu.length≤37) (cell:Int) (mark:List Nat) (hmk:mark.length=4∧∀ x∈mark,x∈SG):∃ c,zbX_ cell menu mark=.ok c∧isC c:=by
 unfold zbX_ zdQ_
 walk_at "mo"
 rw [Mo.grd_ok (by decide)]
 walk_at "mo"
 refine zb9_ (G:=fun m=>∃ c,fnO (thenO m _)=.ok c∧isC c) (fun d (s:Int×List Nat)=>s.2.length=d.length∧(∀ x∈s.2,x∈SG)∧0≤s.1∧s.1<4294967296) ⟨rfl,by simp,by show 0≤cell % 2147483647+3; lia,by show cell % 2147483647+3<4294967296; lia⟩ ?_ ?_
 ·rintro d x ⟨n,cs⟩ ⟨r,hr⟩ ⟨q1,q2,q3,q4⟩
  have hd:d.length≤36:=by
   have:=congrArg List.length hr
   rw [zhu_,List.length_append] at this
   simp at this; lia
  have hx:x∈rngI 0 (Int.toNat 36):=by rw [hr]; simp
  have hx:=zkJ_.mp hx
  have hx2:x<36:=by simpa using hx.2
  simp only at q1 q2 q3 q4
  have hmul:IntMulOk n n:=zdH_ (.inl ⟨by lia,by lia⟩)
  walk_at "mo"
  rw [Mo.grd_ok hmul]
  walk_at "mo"
  have hm0:0≤(n*n+17*x+5) % 2147483629∧(n*n+17*x+5) % 2147483629<2147483629:=⟨Int.emod_nonneg _ (by decide),Int.emod_lt_of_pos _ (by decide)⟩
  generalize (n*n+17*x+5) % 2147483629=n' at hm0
  have hpos:(0:Int)<menu.length:=by have:=List.length_pos_iff.mpr hne; lia
  obtain ⟨y,ey,hy⟩:=zle_ (n' / 3) hne
  rw [Mo.lim_ok (by lia)]
  walk_at "mo"
  rw [zje_ hpos]
  walk_at "mo"
  rw [Mo.lim_ok (by lia),ey]
  walk_at "mo"
  rw [Mo.lim_ok (by simp; lia)]
  refine ⟨_,rfl,?_,?_,?_,?_⟩
  ·simp; lia
  ·intro z hz
   rcases List.mem_append.mp hz with hz | hz
   ·exact q2 z hz
   ·rw [List.mem_singleton.mp hz]; exact hm y hy
  ·exact hm0.1
  ·exact Int.lt_trans hm0.2 (by decide)
 rintro s ⟨h1,h2,_,_⟩
 rw [zhu_] at h1
 have h1':s.2.length=36:=h1
 walk_at "mo"
 rw [Mo.lim_ok (by lia)]
 refine ⟨_,rfl,?_,?_⟩
 ·rw [List.length_append,h1',hmk.1]
 ·intro z hz
  rcases List.mem_append.mp hz with hz | hz
  ·exact h2 z hz
  ·exact hmk.2 z hz
theorem zlm_ {v:Int}(h0:0≤v) (h1:v<10000):v.natAbs.log2<1920∧(zfL (strI v) 4).length=4∧∀ x∈zfL (strI v) 4,x∈SG:=by
 obtain ⟨m,rfl⟩:∃ m:Nat,v=m:=⟨v.toNat,by lia⟩
 have hm:m<10 ^ 4:=by lia
 have e:zfL (strI (m:Int)) 4=digs 4 m:=by
  unfold zfL; rw [zjL_]; exact zib_ (w:=4) (by decide) hm
 refine ⟨?_,?_,?_⟩
 ·have:m.log2<14∨m=0:=log2_lt (show m<2 ^ 14 by lia)
  rw [Int.natAbs_natCast]
  rcases this with h | h
  ·lia
  ·rw [h]; decide
 ·rw [e,zek_]
 ·intro x hx
  rw [e] at hx
  have:=zfq_ 4 m x hx
  have hh:∀ y,48≤y→y≤57→y∈SG:=by
   intro y h1 h2
   have:y=48∨y=49∨y=50∨y=51∨y=52∨y=53∨y=54∨y=55∨y=56∨y=57:=by lia
   rcases this with rfl | rfl | rfl | rfl | rfl | rfl | rfl | rfl | rfl | rfl<;>decide
  exact hh x this.1 this.2
def menuOk (m:List Nat):Prop:=(∀ x∈m,x∈SG)∧m≠[]∧m.length≤37
theorem zl8_ (way:Int):∃ m,atI [[65,32],[48,90,57],[66,53,65,32,48],SG] (way % 4)=some m∧menuOk m:=by
 obtain ⟨m,e,hm⟩:=zcY_ (xs:=[[65,32],[48,90,57],[66,53,65,32,48],SG]) (k:=way % 4) (Int.emod_nonneg _ (by decide)) (Int.emod_lt_of_pos _ (by decide))
 refine ⟨m,e,?_⟩
 have:∀ m∈[[65,32],[48,90,57],[66,53,65,32,48],SG],(∀ x∈m,x∈SG)∧m≠[]∧m.length≤37:=by decide +kernel
 exact this m hm
theorem zlp_ {cells:List Int}(way:Int) (hl:cells.length≤100):∃ d,zcA_ cells way=.ok d∧d.length=cells.length∧∀ c∈d,isC c:=by
 unfold zcA_ zdy_
 rw [zig_]
 walk_at "mo"
 obtain ⟨m,em,hm1,hm2,hm3⟩:=zl8_ way
 rw [em]
 walk_at "mo"
 refine zb9_ (G:=fun m=>∃ c:List Crd,fnO (thenO m _)=.ok c∧c.length=cells.length∧∀ x∈c,isC x) (fun d (s:List Crd)=>s.length=d.length∧∀ x∈s,isC x) ⟨rfl,by simp⟩ ?_ ?_
 ·rintro d ⟨k,cell⟩ s ⟨r,hr⟩ ⟨q1,q2⟩
  have hd:d.length≤100:=by
   have:=congrArg List.length hr
   rw [zdp_,List.length_append] at this; lia
  have hk:k=d.length:=by
   have:=congrArg (fun l=>l[d.length]?) hr
   simp only [zex_] at this
   rw [List.getElem?_append_right (Nat.le_refl _),Nat.sub_self] at this
   cases e:cells[d.length]? with
   | none=>rw [e] at this; cases this
   | some z=>rw [e] at this; injection this with this; injection this with h1 h2; exact h1.symm
  subst hk
  simp only
  rw [zjM_ (by decide) (by decide)]
  walk_at "mo"
  obtain ⟨g1,g2,g3⟩:=zlm_ (v:=(d.length:Int)*271 % 10000) (Int.emod_nonneg _ (by decide)) (Int.emod_lt_of_pos _ (by decide))
  rw [Mo.grd_ok g1]
  walk_at "mo"
  rw [Mo.grd_ok (zgO_ (by decide) (by decide))]
  walk_at "mo"
  have hmk:∀ mk:List Nat,(mk.length=4∧∀ x∈mk,x∈SG)→∃ s',((zbX_ cell m mk).noex.bind fun a40=>Mo.lim (s.length+1) (Mq (Out.nx (s++[a40])):Mo (Out (List Crd) (List Crd) (List Crd))))=Mq (Out.nx s')∧s'.length=(d++[((d.length:Int),cell)]).length∧∀ x∈s',isC x:=by
   intro mk hk
   obtain ⟨c,ec,hc⟩:=zix_ hm1 hm2 hm3 cell mk hk
   rw [ec]
   walk_at "mo"
   rw [Mo.lim_ok (by lia)]
   refine ⟨_,rfl,by simp; exact q1,fun x hx=>?_⟩
   rcases List.mem_append.mp hx with hx | hx
   ·exact q2 x hx
   ·rw [List.mem_singleton.mp hx]; exact hc
  by_cases hw:way / 4 % 4=1
  ·rw [decide_eq_true hw]
   walk_at "mo"
   exact hmk _ ⟨rfl,by decide⟩
  ·rw [decide_eq_false hw]
   walk_at "mo"
   exact hmk _ ⟨g2,g3⟩
 ·rintro s ⟨q1,q2⟩
  rw [zdp_] at q1
  exact ⟨s,rfl,q1,q2⟩
theorem zer_ {ps:List (Crd×Nat)}{n:Nat}(hn:∀ q∈ps,q.2<n) (hl:ps.length≤1000) (h2:n≤1000):zbM_ (pkts n ps) (logs ps)=.ok (ps.map Prod.fst):=by
 unfold zbM_ zdS_
 walk_at "mo"
 rw [zgD_ (f:=fun _=>cond1 (Mq true) (Mq 0)) (g:=fun _=>(0:Int)) (fun x _=>rfl) (by rw [zfU_]; simp; lia)]
 have e0:([]:List Int)++(pkts n ps).map (fun _=>(0:Int))=cnts n []:=by
  rw [List.nil_append]; unfold pkts cnts; rw [List.map_map]; rfl
 rw [e0]
 walk_at "mo"
 refine zb9_ (G:=fun m=>fnO (thenO m _)=.ok (ps.map Prod.fst)) (fun d (s:List Crd×List Int)=>s=((ps.take d.length).map Prod.fst,cnts n (ps.take d.length))) rfl ?_ ?_
 ·rintro d x s ⟨r,hr⟩ rfl
  have hlt:d.length<ps.length:=by
   have:=congrArg List.length hr
   unfold logs at this
   rw [List.length_map,List.length_append] at this; simp at this; lia
  obtain ⟨⟨c,m⟩,hcm⟩:∃ q,ps[d.length]=q:=⟨_,rfl⟩
  have hx:x=(m:Int):=by
   have:=congrArg (fun l=>l[d.length]?) hr
   unfold logs at this
   simp only [List.getElem?_map] at this
   rw [List.getElem?_append_right (Nat.le_refl _),Nat.sub_self,List.getElem?_eq_getElem hlt,hcm] at this
   injection this with this
   exact this.symm
  subst hx
  have hm:m<n:=by have:=hn _ (List.getElem_mem hlt); rw [hcm] at this; exact this
  have hsp:ps=ps.take d.length++(c,m)::ps.drop (d.length+1):=by
   rw [← hcm,← List.drop_eq_getElem_cons hlt,List.take_append_drop]
  have htk:ps.take (d.length+1)=ps.take d.length++[(c,m)]:=by rw [List.take_succ,List.getElem?_eq_getElem hlt,hcm]; rfl
  rw [zia_ (by lia),Int.toNat_natCast,zeI_ _ hm,zia_ (by lia),Int.toNat_natCast,zfI_ _ hm]
  walk_at "mo"
  have ha:=zlB_ (d:=ps.take d.length) (r:=ps.drop (d.length+1)) (c:=c) (m:=m)
  rw [← hsp] at ha
  rw [zia_ (by lia),Int.toNat_natCast,ha]
  walk_at "mo"
  rw [Mo.lim_ok (by rw [List.length_map,List.length_take]; lia),zes_,zi2_ (by lia) (by lia)]
  walk_at "mo"
  refine ⟨_,rfl,?_⟩
  rw [List.length_append,List.length_singleton,htk,Int.toNat_natCast,ziv_ _ c hm,List.map_append]
  rfl
 ·rintro s rfl
  have:(logs ps).length=ps.length:=by unfold logs; rw [List.length_map]
  rw [this,List.take_length]
  rfl
theorem zgf_ {xss:List (List Crd)}(hl:xss.flatten.length≤1000):zdK_ xss=.ok xss.flatten:=by
 unfold zdK_ zfQ_
 walk_at "mo"
 refine zb9_ (G:=fun m=>fnO (thenO m _)=.ok xss.flatten) (fun dn s=>s=dn.flatten) rfl ?_ ?_
 ·rintro dn x s ⟨r,hr⟩ rfl
  have:dn.flatten.length+x.length≤1000:=by
   have:=congrArg (fun l=>(List.flatten l).length) hr
   simp only [List.flatten_append,List.flatten_cons,List.length_append] at this
   lia
  rw [Mo.lim_ok (by lia)]
  exact ⟨_,rfl,by simp⟩
 ·rintro s rfl
  rfl
theorem zaZ_ (d:List (List Nat)):zl_ d d=.ok true:=by
 unfold zl_ zbP_
 walk_at "mo"
 rw [zhK_ (fun x hx=>by
  have:x.1=x.2:=by
   obtain ⟨i,hi,e⟩:=List.mem_iff_getElem.mp hx
   rw [← e,List.getElem_zip]
  rw [decide_eq_true this]; rfl)]
 rfl
theorem zh5_ {n m:Nat}(ps:List (Crd×Nat)) (c:Crd) (h:m<n):(pkts n ps).set m (((ps.filter fun q=>decide (q.2=m)).map Prod.fst)++[c])=pkts n (ps++[(c,m)]):=by
 rw [ziQ_ _ _ h]; unfold appN; rw [zeI_ _ h]
theorem zhA_ (ps:List (Crd×Nat)) (c:Crd) (m:Nat):logs ps++[(m:Int)]=logs (ps++[(c,m)]):=by
 unfold logs; rw [List.map_append]; rfl
theorem zha_ (ps:List (Crd×Nat)):(logs ps).length=ps.length:=by unfold logs; rw [List.length_map]
theorem pk_le (ps:List (Crd×Nat)) (m:Nat):((ps.filter fun q=>decide (q.2=m)).map Prod.fst).length≤ps.length:=by rw [List.length_map]; exact List.length_filter_le _ _
abbrev Dl:=List (List Crd)×(List Int×(Int×Unit))
def dps (ds:List Crd) (col:Int):List (Crd×Nat):=ds.map fun c=>(c,rnk c col)
def mkD (ds:List Crd) (col:Int):Dl:=(pkts 37 (dps ds col),logs (dps ds col),col,())
theorem zi8_ (ds:List Crd) (col:Int):(dps ds col).length=ds.length:=by unfold dps; rw [List.length_map]
theorem zkA_ (ds:List Crd) (c:Crd) (col:Int):dps (ds++[c]) col=dps ds col++[(c,rnk c col)]:=by unfold dps; rw [List.map_append]; rfl
theorem initD (col:Int):zS_ () col=.ok ((),mkD [] col):=by
 unfold zS_ zaH_
 walk_at "mo"
 have e1:zr_ ()=.ok ((),(([]:List (List (List Nat))),([]:List Int),())):=by
  unfold zr_ zD_
  walk_at "mo"
  rw [Mo.lim_ok (by decide)]
  rfl
 rw [e1]
 walk_at "mo"
 rw [Mo.lim_ok (by decide)]
 walk_at "mo"
 have e2:zL_ (([]:List (List (List Nat))),([]:List Int),()) (SG.length:Int)=.ok ((),(pkts 37 [],[],())):=by
  unfold zL_ z9_
  walk_at "mo"
  rw [Mo.grd_ok (by decide)]
  rfl
 rw [e2]
 rfl
theorem layD (ds:List Crd) (col:Int) (c:Crd) (hl:ds.length≤100):zau_ (mkD ds col) c (rnk c col:Nat)=.ok ((),mkD (ds++[c]) col):=by
 unfold zau_ zbd_
 have hm:rnk c col<37:=ziM_ _
 have hd:=zi8_ ds col
 show fnMU _=_
 unfold mkD
 walk_at "mo"
 rw [zfU_,zi2_ (by lia) (by lia)]
 walk_at "mo"
 rw [Int.toNat_natCast,zeI_ _ hm]
 walk_at "mo"
 rw [Mo.lim_ok (by have:=pk_le (dps ds col) (rnk c col); lia)]
 rw [Mo.lim_ok (by rw [zha_]; lia),zh5_ _ _ hm,zhA_ _ c,← zkA_]
 rfl
theorem feedD (ds:List Crd) {col:Int}{c:Crd}(hc:isC c) (hk:colOk col) (hl:ds.length≤100):za7_ (mkD ds col) c=.ok ((),mkD (ds++[c]) col):=by
 unfold za7_ zb2_
 walk_at "mo"
 rw [show (mkD ds col).2.2.1=col from rfl,zfn_ hc hk]
 walk_at "mo"
 rw [zlM_ (zkQ_ hc hk).2]
 walk_at "mo"
 rw [show (rk1 (sg c col):Int)=((rnk c col:Nat):Int) from rfl,layD ds col c hl]
 rfl
theorem backD (ds:List Crd) (col:Int) (hl:ds.length≤100):zaE_ (mkD ds col)=.ok ds:=by
 unfold zaE_ zbU_ mkD
 walk_at "mo"
 rw [zer_ (n:=37) (fun q hq=>by obtain ⟨c,_,rfl⟩:=List.mem_map.mp hq; exact ziM_ _) (by rw [zi8_]; lia) (by decide)]
 show Mq ((dps ds col).map Prod.fst)=Mq ds
 unfold dps
 rw [List.map_map,show (Prod.fst∘fun c:List Nat=>(c,rnk c col))=id from rfl,List.map_id]
theorem stayedD (ds:List Crd) (col:Int) (hl:ds.length≤100):zW_ (mkD ds col)=.ok (deal ds col):=by
 unfold zW_ zbf_ mkD dps
 walk_at "mo"
 rw [← zkO_,zgf_ (by rw [zg5_,zhQ_]; lia),zg5_]
 rfl
theorem asideD (P:Dl):zH_ P=.ok []:=rfl
theorem linesD (P:Dl):z5_ P=.ok []:=rfl
theorem finishD (P:Dl):zbc_ P=.ok ():=rfl
abbrev Pk:=List (List Crd)×(List Int×(Int×(List Nat×Unit)))
def pn (col:Int) (s:List Nat) (c:Crd):Nat:=if decide ([sg c col]=s)=true then 0 else 1
theorem pn_lt (col:Int) (s:List Nat) (c:Crd):pn col s c<2:=by unfold pn; split<;>decide
def kps (ds:List Crd) (col:Int) (s:List Nat):List (Crd×Nat):=ds.map fun c=>(c,pn col s c)
def mkK (ds:List Crd) (col:Int) (s:List Nat):Pk:=(pkts 2 (kps ds col s),logs (kps ds col s),col,s,())
theorem zjy_ (ds:List Crd) (col:Int) (s:List Nat):(kps ds col s).length=ds.length:=by unfold kps; rw [List.length_map]
theorem zjK_ (ds:List Crd) (c:Crd) (col:Int) (s:List Nat):kps (ds++[c]) col s=kps ds col s++[(c,pn col s c)]:=by unfold kps; rw [List.map_append]; rfl
theorem initK (col:Int) (s:List Nat):zT_ () col s=.ok ((),mkK [] col s):=by
 unfold zT_ zaJ_
 walk_at "mo"
 have e1:zs_ ()=.ok ((),(([]:List (List (List Nat))),([]:List Int),())):=by
  unfold zs_ zC_
  walk_at "mo"
  rw [Mo.lim_ok (by decide)]
  rfl
 rw [e1]
 walk_at "mo"
 have e2:zK_ (([]:List (List (List Nat))),([]:List Int),()) 2=.ok ((),(pkts 2 [],[],())):=by
  unfold zK_ z8_
  walk_at "mo"
  rw [Mo.grd_ok (by decide)]
  rfl
 rw [e2]
 rfl
theorem layK (ds:List Crd) (col:Int) (s:List Nat) (c:Crd) (hl:ds.length≤100):zat_ (mkK ds col s) c (pn col s c:Nat)=.ok ((),mkK (ds++[c]) col s):=by
 unfold zat_ zbl_
 have hm:=pn_lt col s c
 have hd:=zjy_ ds col s
 show fnMU _=_
 unfold mkK
 walk_at "mo"
 rw [zfU_,zi2_ (by lia) (by lia)]
 walk_at "mo"
 rw [Int.toNat_natCast,zeI_ _ hm]
 walk_at "mo"
 rw [Mo.lim_ok (by have:=pk_le (kps ds col s) (pn col s c); lia)]
 rw [Mo.lim_ok (by rw [zha_]; lia),zh5_ _ _ hm,zhA_ _ c,← zjK_]
 rfl
theorem feedK (ds:List Crd) {col:Int}(s:List Nat) {c:Crd}(hc:isC c) (hk:colOk col) (hl:ds.length≤100):za3_ (mkK ds col s) c=.ok ((),mkK (ds++[c]) col s):=by
 unfold za3_ zbO_
 walk_at "mo"
 rw [show (mkK ds col s).2.2.1=col from rfl,show (mkK ds col s).2.2.2.1=s from rfl,zfn_ hc hk]
 walk_at "mo"
 have e:(if decide ([sg c col]=s)=true then (Mq (0:Int)) else (Mq (1:Int)))=Mq ((pn col s c:Nat):Int):=by unfold pn; split<;>rfl
 rw [e]
 walk_at "mo"
 rw [layK ds col s c hl]
 rfl
theorem backK (ds:List Crd) (col:Int) (s:List Nat) (hl:ds.length≤100):zaD_ (mkK ds col s)=.ok ds:=by
 unfold zaD_ zb5_ mkK
 walk_at "mo"
 rw [zer_ (n:=2) (fun q hq=>by obtain ⟨c,_,rfl⟩:=List.mem_map.mp hq; exact pn_lt _ _ _) (by rw [zjy_]; lia) (by decide)]
 show Mq ((kps ds col s).map Prod.fst)=Mq ds
 unfold kps
 rw [List.map_map,show (Prod.fst∘fun c:List Nat=>(c,pn col s c))=id from rfl,List.map_id]
theorem zjv_ (ds:List Crd) (col:Int) (s:List Nat) (m:Nat):((kps ds col s).filter fun q=>decide (q.2=m)).map Prod.fst=ds.filter fun c=>decide (pn col s c=m):=by
 unfold kps
 rw [List.filter_map,List.map_map]
 rw [show (Prod.fst∘fun c:List Nat=>(c,pn col s c))=id from rfl,List.map_id]
 rfl
def kept (ds:List Crd) (col:Int) (s:List Nat):List Crd:=ds.filter fun c=>decide ([sg c col]=s)
def rest (ds:List Crd) (col:Int) (s:List Nat):List Crd:=ds.filter fun c=>!decide ([sg c col]=s)
theorem pkts2 (ds:List Crd) (col:Int) (s:List Nat):pkts 2 (kps ds col s)=[kept ds col s,rest ds col s]:=by
 show [((kps ds col s).filter fun q=>decide (q.2=0)).map Prod.fst,((kps ds col s).filter fun q=>decide (q.2=1)).map Prod.fst]=_
 rw [zjv_,zjv_]
 unfold kept rest
 congr 1
 ·refine List.filter_congr fun c _=>?_
  unfold pn
  by_cases q:[sg c col]=s
  ·simp [q]
  ·simp [q]
 ·congr 1
  refine List.filter_congr fun c _=>?_
  unfold pn
  by_cases q:[sg c col]=s
  ·simp [q]
  ·simp [q]
theorem zf6_ (ds:List Crd) (col:Int) (s:List Nat):(kept ds col s).length≤ds.length:=List.length_filter_le _ _
theorem zhh_ (ds:List Crd) (col:Int) (s:List Nat):(rest ds col s).length≤ds.length:=List.length_filter_le _ _
theorem stayedK (ds:List Crd) (col:Int) (s:List Nat):zV_ (mkK ds col s)=.ok (kept ds col s):=by
 unfold zV_ zbg_ mkK
 walk_at "mo"
 rw [pkts2,show atI [kept ds col s,rest ds col s] 0=some (kept ds col s) from rfl]
 rfl
theorem asideK (ds:List Crd) (col:Int) (s:List Nat) (hl:ds.length≤100):zy_ (mkK ds col s)=.ok (rest ds col s):=by
 unfold zy_ zap_ mkK
 walk_at "mo"
 have e:cutG [kept ds col s,rest ds col s] (some 1) none=[rest ds col s]:=rfl
 rw [pkts2,e,zgf_ (by have:=zhh_ ds col s; simp; lia)]
 simp
theorem linesK (P:Pk):z4_ P=.ok []:=rfl
theorem finishK (P:Pk):zbe_ P=.ok ():=rfl
theorem toldD (ds:List Crd) (col:Int) (hl:ds.length≤100):zac_ (mkD ds col) (deal ds col) []=.ok true:=by
 unfold zac_ zbh_
 walk_at "mo"
 rw [stayedD _ _ hl,asideD,linesD]
 walk_at "mo"
 rw [zaZ_,zaZ_]
 walk_at "mo"
 rw [Mo.lim_ok (by simp)]
 walk_at "mo"
 rw [Mo.grd_ok (by simp [zhQ_]; lia)]
 rfl
theorem toldK (ds:List Crd) (col:Int) (s:List Nat) (hl:ds.length≤100):zav_ (mkK ds col s) (kept ds col s) (rest ds col s)=.ok true:=by
 have h1:=zf6_ ds col s
 have h2:=zhh_ ds col s
 unfold zav_ zbi_
 walk_at "mo"
 rw [stayedK,asideK _ _ _ hl,linesK]
 walk_at "mo"
 rw [zaZ_,zaZ_]
 walk_at "mo"
 rw [Mo.lim_ok (by simp)]
 walk_at "mo"
 rw [Mo.grd_ok (by simp; lia)]
 rfl
theorem fedD (ds:List Crd) {col:Int}{c:Crd}(hc:isC c) (hk:colOk col) (hl:ds.length≤99):zaP_ (mkD ds col) c ds=.ok (true,mkD (ds++[c]) col):=by
 unfold zaP_ zbv_
 walk_at "mo"
 rw [feedD ds hc hk (by lia)]
 walk_at "mo"
 rw [backD _ _ (by simp; lia)]
 walk_at "mo"
 rw [Mo.lim_ok (by simp; lia)]
 walk_at "mo"
 rw [zaZ_]
 walk_at "mo"
 rw [Mo.lim_ok (by simp; lia)]
 rfl
theorem fedK (ds:List Crd) {col:Int}(s:List Nat) {c:Crd}(hc:isC c) (hk:colOk col) (hl:ds.length≤99):zaS_ (mkK ds col s) c ds=.ok (true,mkK (ds++[c]) col s):=by
 unfold zaS_ zbF_
 walk_at "mo"
 rw [feedK ds s hc hk (by lia)]
 walk_at "mo"
 rw [backK _ _ _ (by simp; lia)]
 walk_at "mo"
 rw [Mo.lim_ok (by simp; lia)]
 walk_at "mo"
 rw [zaZ_]
 walk_at "mo"
 rw [Mo.lim_ok (by simp; lia)]
 rfl
theorem machineD (col:Int):zae_ ([100,101,97,108],[97],col) []=.ok (mkD [] col):=by
 unfold zae_ zaK_
 walk_at "mo"
 rw [initD]
 rfl
theorem machineK (col:Int) (s:List Nat) (t:List (List Nat×List (List Nat))):zad_ ([112,105,99,107],[98],col,s) t=.ok (mkK [] col s):=by
 unfold zad_ zaL_
 walk_at "mo"
 rw [initK]
 rfl
theorem zgQ_ (col:Int) (s:List Nat) (way:Int):zaQ_ col s way=.ok (mkD [] col,mkK [] col s):=by
 unfold zaQ_ zby_
 walk_at "mo"
 rw [initD,initK]
 walk_at "mo"
 by_cases q:way % 2=0
 ·rw [decide_eq_true q]
  rfl
 ·rw [decide_eq_false q]
  walk_at "mo"
  rw [machineD]
  walk_at "mo"
  rw [Mo.grd_ok (by simp)]
  walk_at "mo"
  rw [machineK]
  rfl
def gat (ds:List Crd) (col:Int) (l:List (List Nat)):List Crd:=l.flatMap fun t=>kept ds col t
theorem zi9_ (ds:List Crd) (col:Int):∀ l:List (List Nat),(gat ds col l).length≤l.length*ds.length
 | []=>Nat.zero_le _
 | t::l=>by
  have h1:=zi9_ ds col l
  have h2:=zf6_ ds col t
  show ((t::l).flatMap fun t=>kept ds col t).length≤_
  rw [List.flatMap_cons,List.length_append,List.length_cons,Nat.succ_mul]
  have h3:(l.flatMap fun t=>kept ds col t).length≤l.length*ds.length:=h1
  lia
theorem sg_ix:∀ x∈SG,∀ i∈List.range 37,decide ([x]=[SG.getD i 0])=decide (rk1 x=i):=by decide +kernel
theorem zlf_ {ds:List Crd}{col:Int}(hd:∀ c∈ds,isC c) (hk:colOk col):gat ds col (SG.map fun c=>[c])=deal ds col:=by
 have e:(SG.map fun c=>[c])=(List.range 37).map fun i=>[SG.getD i 0]:=by decide +kernel
 unfold gat deal dealR
 rw [e,List.flatMap_map]
 rw [List.flatMap_def,List.flatMap_def]
 congr 1
 refine List.map_congr_left fun i hi=>?_
 unfold kept
 refine List.filter_congr fun c hc=>?_
 exact sg_ix _ (zkQ_ (hd c hc) hk).2 i hi
theorem zml_ (c:Int):colOk (1+c % 36):=by
 have a0:0≤c % 36:=Int.emod_nonneg _ (by decide)
 have a1:c % 36<36:=Int.emod_lt_of_pos _ (by decide)
 unfold colOk
 lia
theorem zg7_ {α:Type}(b:Bool) (x:α):cond1 (Mq b) (Mq x)=.ok (if b then some x else none):=by cases b<;>rfl
theorem zku_ (ns:List Int) (hl:ns.length≤63):f_law ns=.ok true:=by
 obtain ⟨c0,e0⟩:=zij_ ns 0 (by lia)
 obtain ⟨c1,e1⟩:=zij_ ns 1 (by lia)
 obtain ⟨c2,e2⟩:=zij_ ns 2 (by lia)
 have hns:(cutG ns (some 3) (some 63)).length≤63:=Nat.le_trans (zkp_ _ _ _) hl
 obtain ⟨d,ed,hdl,hd⟩:=zlp_ (cells:=cutG ns (some 3) (some 63)) c0 (by lia)
 have hk:=zml_ c1
 unfold f_law zms_
 walk_at "mo"
 rw [e0,e1,e2]
 walk_at "mo"
 rw [ed,zig_]
 walk_at "mo"
 generalize 1+c1 % 36=col at hk ⊢
 obtain ⟨x,ex,_⟩:=zcY_ (xs:=SG) (k:=c2 / 3 % 37) (Int.emod_nonneg _ (by decide)) (Int.emod_lt_of_pos _ (by decide))
 rw [ex,Mo.lim_ok (by decide)]
 walk_at "mo"
 obtain ⟨sn,es⟩:∃ sn:List Nat,((if decide (0<c2 % 3)=true then Mq (!eqL (fun a b=>decide (a=b)) d []) else Mq false).bind fun c40 =>
      if c40=true then
       (((Mo.grd (0<(d.length:Int)) (Mq (c2 / 3 % (d.length:Int)))).bind fun b49=>Mo.opt (atI d b49)).bind
          fun a52=>Mo.lim a52.length (Mo.opt (Option.map (fun c=>[c]) (atI a52 (col-1))))).bind
        fun s42=>Mq (Out.nx s42)
      else Mq (Out.nx [x]))=(Mq (Out.nx sn):Mo (Out Bool Unit (List Nat))):=by
  by_cases q:0<c2 % 3
  ·rw [decide_eq_true q,if_pos rfl]
   cases d with
   | nil=>exact ⟨_,rfl⟩
   | cons c d' =>
    have h0:(0:Int)<((c::d').length:Int):=by rw [List.length_cons]; lia
    obtain ⟨y,ey,hy⟩:=zcY_ (xs:=c::d') (k:=c2 / 3 % ((c::d').length:Int)) (Int.emod_nonneg _ (by lia)) (Int.emod_lt_of_pos _ h0)
    show ∃ sn,(((Mo.grd (0<((c::d').length:Int)) (Mq (c2 / 3 % ((c::d').length:Int)))).bind fun b49=>Mo.opt (atI (c::d') b49)).bind
          fun a52=>Mo.lim a52.length (Mo.opt (Option.map (fun c=>[c]) (atI a52 (col-1))))).bind
        (fun s42=>Mq (Out.nx s42))=_
    rw [Mo.grd_ok h0]
    show ∃ sn,((Mo.opt (atI (c::d') (c2 / 3 % ((c::d').length:Int)))).bind
          fun a52=>Mo.lim a52.length (Mo.opt (Option.map (fun c=>[c]) (atI a52 (col-1))))).bind
        (fun s42=>Mq (Out.nx s42))=_
    rw [ey]
    show ∃ sn,(Mo.lim y.length (Mo.opt (Option.map (fun c=>[c]) (atI y (col-1))))).bind
        (fun s42=>Mq (Out.nx s42))=_
    rw [lim40 (hd y hy),(zkQ_ (hd y hy) hk).1]
    exact ⟨_,rfl⟩
  ·rw [decide_eq_false q]
   exact ⟨_,rfl⟩
 rw [es]
 walk_at "mo"
 rw [zgQ_]
 walk_at "mo"
 refine zb9_ (G:=fun z=>fnO (thenO z _)=.ok true) (fun dn s=>s=(mkD (d.take dn.length) col,mkK (d.take dn.length) col sn)) rfl ?_ ?_
 ·rintro dn y s ⟨r,hr⟩ rfl
  have h1:(enumL d)[dn.length]?=some y:=by rw [hr]; simp
  rw [zex_] at h1
  obtain ⟨c,h2,h3⟩:=Option.map_eq_some_iff.mp h1
  subst h3
  have hm:c∈d:=List.mem_of_getElem? h2
  have hlt:=(List.getElem?_eq_some_iff.mp h2).1
  have htk:d.take (dn.length+1)=d.take dn.length++[c]:=by rw [List.take_succ,h2]; rfl
  rw [zlz_ (by simp),Int.toNat_natCast,fedD _ (hd c hm) hk (by rw [List.length_take]; lia),← htk]
  walk_at "mo"
  rw [fedK _ _ (hd c hm) hk (by rw [List.length_take]; lia),← htk]
  exact ⟨_,rfl,by rw [List.length_append]; rfl⟩
 ·rintro s rfl
  rw [zdp_,List.take_length]
  walk_at "mo"
  rw [backD _ _ (by lia),backK _ _ _ (by lia)]
  walk_at "mo"
  rw [zaZ_,finishD,finishK]
  walk_at "mo"
  have ek:∀ t:List Nat,compM (fun x=>cond1 ((Mo.lim x.length (Mo.opt (Option.map (fun c=>[c]) (atI x (col-1))))).bind fun a=>Mq (decide (a=t))) (Mq x)) d []=.ok (kept d col t):=fun t=>by
   rw [zdL_ (g:=fun c=>decide ([sg c col]=t)) (fun c hc=>by rw [lim40 (hd c hc),(zkQ_ (hd c hc) hk).1]; exact zg7_ _ _) (by simp; lia)]
   rfl
  have er:compM (fun x=>cond1 ((Mo.lim x.length (Mo.opt (Option.map (fun c=>[c]) (atI x (col-1))))).bind fun a=>Mq (!decide (a=sn))) (Mq x)) d []=.ok (rest d col sn):=by
   rw [zdL_ (g:=fun c=>!decide ([sg c col]=sn)) (fun c hc=>by rw [lim40 (hd c hc),(zkQ_ (hd c hc) hk).1]; exact zg7_ _ _) (by simp; lia)]
   rfl
  rw [ek sn,er]
  walk_at "mo"
  refine zb9_ (G:=fun z=>fnO (thenO z _)=.ok true) (fun dn s=>s=gat d col dn) rfl ?_ ?_
  ·rintro dn t s ⟨r,hr⟩ rfl
   have hdn:dn.length<37:=by have:=congrArg List.length hr; rw [List.length_map,List.length_append,List.length_cons] at this; have e:SG.length=37:=rfl; lia
   have g1:=zi9_ d col dn
   have g2:dn.length*d.length≤37*63:=Nat.mul_le_mul (by lia) (by lia)
   have g3:=zf6_ d col t
   rw [ek t]
   walk_at "mo"
   rw [Mo.lim_ok (by lia)]
   refine ⟨_,rfl,?_⟩
   unfold gat
   rw [List.flatMap_append,List.flatMap_singleton]
  ·rintro s rfl
   rw [zlf_ hd hk]
   walk_at "mo"
   rw [toldD _ _ (by lia),toldK _ _ _ (by lia)]
   rfl
end K55
namespace K55
open PySem PySem.Spec PyProof.Rows L2
open Mo renaming bind→Mb,ok→Mq
open Sl renaming fz→Zf,dead→Zd,ow→Zo
theorem zmr_ {l:PySem.W.OpenLaw}{w:World}{K:Fgg}{mg:Str→Option Value}{base:Heap}{f:Addr}{fd:FuncData}(e:En K mg) (g2:zfw_ l.prog w K mg base) (g3:zc7_ l.prog w K mg base) (g0:zcS_ l.prog w K mg base) (g12:zcN_ l.prog w K mg base) (g33:zcE_ l.prog w K mg base) (g36:zcK_ l.prog w K mg base) (g19:zag_ l.prog w K mg base) (g26:zbT_ l.prog w K mg base) (g27:zb8_ l.prog w K mg base) (g13:zcl_ l.prog w K mg base) (g14:zcs_ l.prog w K mg base) (g20:zck_ l.prog w K mg base) (g24:zcq_ l.prog w K mg base) (F:Fun K "law" "law" zm9_ f fd):FnOk l.prog w K mg base CX0 6 f fd ["_law_script"] (spL K) :=
 okL (l:=l) (w:=w) (K:=K) (mg:=mg) (base:=base) (k:=5) (st:=zm9_) (x := "_law_script") (N:=["_law_script", "_law_deck_here", "_law_column", "_law_third", "_law_sign", "_law_dealer", "_law_picker", "_law_k", "_law_card_here", "_law_gathered", "_law_one", "_law_kept", "_law_rest"]) (t:=fun E=>t_law K) (g:=zms_) 12 (fun _ _ _ _ _ _ E nd hr=>(zd_ (pst 1 (zp_ g2 (hm hr) (zb_ (ze2_ sl_M (za_ 0) (po_M zB_) (po_M zB_)) (zb_ (zp_ g3 (hm hr) (zb_ (za_ 0) (zb_ zB_ zg_))) zg_)))) (zd_ (pst 2 (zca_ zcf_ zB_ (zca_ zbN_ (zp_ g3 (hm hr) (zb_ (za_ 0) (zb_ zB_ zg_))) zB_))) (zd_ (pst 3 (zp_ g3 (hm hr) (zb_ (za_ 0) (zb_ zB_ zg_)))) (zd_ (pst 4 (zdT_ ix_M (zeZ_ g0 (hm hr)) (zca_ zbN_ (zca_ zfx_ (za_ 3) zB_) zB_) (fun _ _=>rfl))) (zd_ (zak_ (PW.pt (zk6_ (zU_ zne_ (zca_ zbN_ (za_ 3) zB_) zB_) (zk8_ (zU_ (ziV_ hr.u60) (za_ 1) (zaC_ zg_))))) (ze_ (pst 4 (zdT_ ix_M (zdT_ ix_M (za_ 1) (zca_ zbN_ (zca_ zfx_ (za_ 3) zB_) (zgS_ zbE_ (e.m.gb e.b1) (zb_ (za_ 1) zg_))) (fun _ _=>rfl)) (zca_ ze6_ (za_ 2) zB_) (fun _ _=>rfl)))) zE_) (zd_ (zkV_ (zp_ g12 (hm hr) (zb_ (za_ 2) (zb_ (za_ 4) (zb_ (zca_ zfx_ (za_ 3) zB_) zg_)))) (zk7_ rfl (za9_ (pgn 5) (za9_ (pgn 6) zeY_)))) (zd_ (zak_ (PW.pt (zd9_ (zbD_ (zan_ (zgS_ zgg_ (e.m.gb e.b4) (zb_ (za_ 5) (zb_ (zlw_ (e.m.gkc e.k1)) zg_))))) (zdW_ (zbD_ (zan_ (zgS_ zgg_ (e.m.gb e.b4) (zb_ (za_ 6) (zb_ (zlw_ (e.m.gkc e.k1)) zg_)))))))) (ze_ (zJ_ zfa_)) zE_) (zd_ (zeW_ PassesOwn.never rfl (zjH_ (e.m.gb e.b2) (zb_ (za_ 1) zg_)) (zg1_ (n:=2) rfl (za9_ (pgn 7) (za9_ (pgn 8) zeY_))) (ze_ (zak_ (PW.pt (zd9_ (zbD_ (zan_ (zp_ g33 (hm hr) (zb_ (za_ 5) (zb_ (za_ 8) (zb_ (ze2_ sl_M (za_ 1) zim_ (po_M (za_ 7))) zg_)))))) (zdW_ (zbD_ (zan_ (zp_ g36 (hm hr) (zb_ (za_ 6) (zb_ (za_ 8) (zb_ (ze2_ sl_M (za_ 1) zim_ (po_M (za_ 7))) zg_))))))))) (ze_ (zJ_ zfa_)) zE_))) (zd_ (zak_ (PW.pt (zd9_ (zbD_ (zan_ (zp_ g19 (hm hr) (zb_ (zu_ g26 (hm hr) (za_ 5)) (zb_ (za_ 1) zg_))))) (zdW_ (zbD_ (zan_ (zp_ g19 (hm hr) (zb_ (zu_ g27 (hm hr) (za_ 6)) (zb_ (za_ 1) zg_)))))))) (ze_ (zJ_ zfa_)) zE_) (zd_ (zak_ (PW.pt (zd9_ (zU_ zdn_ (zu_ g13 (hm hr) (za_ 5)) zi0_) (zdW_ (zU_ zdn_ (zu_ g14 (hm hr) (za_ 6)) zi0_)))) (ze_ (zJ_ zfa_)) zE_) (zd_ (pst 9 (zaC_ zg_)) (zd_ (zeW_ PassesOwn.never rfl (zeO_ (zeZ_ g0 (hm hr))) (pgn 10) (ze_ (pst 9 (zca_ zcf_ (za_ 9) (zg6_ (cl:=_) (lv:=["_law_card_here"]) (fr:=[("_law_one",10),("_law_column",2)]) rfl (csm rfl (frc (frc fr0))) (zeO_ (za_ 1)) (fun _ _ _ _=>(pgc 0)) (fun _ _ _ _=>(zhU_ (zU_ (zbK_ hr.u60) (zdT_ ix_M (za_ 0) (zca_ ze6_ (za_ 2) zB_) (fun _ _=>rfl)) (za_ 1)))) (fun _ _ _ _=>(za_ 0))))))) (zd_ (zdv_ (cl:=_) (lv:=["_law_card_here"]) (fr:=[("_law_sign",4),("_law_column",2)]) rfl (csm rfl (frc (frc fr0))) (zeO_ (za_ 1)) (fun _ _ _ _=>(pgc 0)) (fun _ _ _ _=>(zhU_ (zU_ (zbK_ hr.u60) (zdT_ ix_M (za_ 0) (zca_ ze6_ (za_ 2) zB_) (fun _ _=>rfl)) (za_ 1)))) (fun _ _ _ _=>(za_ 0)) (pgn 11)) (zd_ (zdv_ (cl:=_) (lv:=["_law_card_here"]) (fr:=[("_law_sign",4),("_law_column",2)]) rfl (csm rfl (frc (frc fr0))) (zeO_ (za_ 1)) (fun _ _ _ _=>(pgc 0)) (fun _ _ _ _=>(zhU_ (zU_ (ziV_ hr.u60) (zdT_ ix_M (za_ 0) (zca_ ze6_ (za_ 2) zB_) (fun _ _=>rfl)) (za_ 1)))) (fun _ _ _ _=>(za_ 0)) (pgn 12)) (ze_ (zJ_ (zfc_ (zp_ g20 (hm hr) (zb_ (za_ 5) (zb_ (za_ 9) (zb_ (zaC_ zg_) zg_)))) (zfc_ (zp_ g24 (hm hr) (zb_ (za_ 6) (zb_ (za_ 11) (zb_ (za_ 12) zg_)))) (ziA_ (zp_ g20 (hm hr) (zb_ (za_ 5) (zb_ (za_ 9) (zb_ (zaC_ zg_) zg_)))))))))))))))))))))))) (fun ns hl hb=>zku_ ns hl) (fun c E=>at_ [(Zf (tySc K) c),Zd,Zd,Zd,Zd,Zd,Zd,Zd,Zd,Zd,Zd,Zd,Zd]
 (zcW_ (i:=1) rfl (zq_ zf_) (zbB_ (zk_ (EvO.fr (zly_ (zc_ 0 rfl) (zlW_ (zI_ 3)) (zlW_ (zI_ 63)))) (zh_ (zo_ (zk_ (zc_ 0 rfl) (zh_ (zI_ 0))))))) fun w1'=>zkP_ (i:=1) rfl (at_ [(Zf (tySc K) c),(Zf (tyL tyStr) w1'),Zd,Zd,Zd,Zd,Zd,Zd,Zd,Zd,Zd,Zd,Zd] (zgM_ (i:=2) rfl zi_ (zZ_ zfl_ (zI_ 1) (zZ_ zbW_ (zo_ (zk_ (zc_ 0 rfl) (zh_ (zI_ 1)))) (zI_ 36))) fun v13=>(at_ [(Zf (tySc K) c),(Zf (tyL tyStr) w1'),(Zf tyInt v13),Zd,Zd,Zd,Zd,Zd,Zd,Zd,Zd,Zd,Zd] (zgM_ (i:=3) rfl zi_ (zo_ (zk_ (zc_ 0 rfl) (zh_ (zI_ 2)))) fun t21=>(at_ [(Zf (tySc K) c),(Zf (tyL tyStr) w1'),(Zf tyInt v13),(Zf tyInt t21),Zd,Zd,Zd,Zd,Zd,Zd,Zd,Zd,Zd] (zgM_ (i:=4) rfl zf_ (zZ_ zfY_ (zo_ zhx_) (zZ_ zbW_ (zZ_ zdJ_ (zc_ 3 rfl) (zI_ 3)) (zI_ 37))) fun s25=>(at_ [(Zf (tySc K) c),(Zf (tyL tyStr) w1'),(Zf tyInt v13),(Zf tyInt t21),(Zf tyStr s25),Zd,Zd,Zd,Zd,Zd,Zd,Zd,Zd] (zbL_ (LS:=(fun s41:(List Nat)=>[(Zf (tySc K) c),(Zf (tyL tyStr) w1'),(Zf tyInt v13),(Zf tyInt t21),(Zf tyStr s41),Zd,Zd,Zd,Zd,Zd,Zd,Zd,Zd])) (s_if (zmE_ (zG_ (zZ_ znh_ (zZ_ zbW_ (zc_ 3 rfl) (zI_ 3)) (zI_ 0))) (zG_ (zZ_ (zmy_ (zmn_ zif_)) (zc_ 1 rfl) (EvO.fr (zax_ tyStr))))) (ze5_ (zgM_ (i:=4) rfl zf_ (zZ_ zfY_ (zZ_ zf5_ (zc_ 1 rfl) (zZ_ zbW_ (zZ_ zdJ_ (zc_ 3 rfl) (zI_ 3)) (zjx_ zie_ (zh_ (zc_ 1 rfl))))) (zZ_ zft_ (zc_ 2 rfl) (zI_ 1))) fun s42=>(at_ [(Zf (tySc K) c),(Zf (tyL tyStr) w1'),(Zf tyInt v13),(Zf tyInt t21),(Zf tyStr s42),Zd,Zd,Zd,Zd,Zd,Zd,Zd,Zd] (zm_ (S4 (S4 (S4 (.same .nil)))))))) (zm_ (S4 (S4 (S4 (.same .nil)))))) fun s41=>(at_ [(Zf (tySc K) c),(Zf (tyL tyStr) w1'),(Zf tyInt v13),(Zf tyInt t21),(Zf tyStr s41),Zd,Zd,Zd,Zd,Zd,Zd,Zd,Zd] (zk3_ (i:=5) (j:=6) rfl rfl (by decide) (zbJ_ (zt_ (z7_ (zq_ zf_)) (zt_ (zq_ zi_) (zt_ (zA_ zi_) zY_)))) (zbJ_ (zt_ (z7_ (zq_ zf_)) (zt_ (zq_ zi_) (zt_ (zA_ zi_) (zt_ (zA_ zf_) zY_))))) (zbB_ (zk_ (zc_ 2 rfl) (zk_ (zc_ 4 rfl) (zh_ (zZ_ zdJ_ (zc_ 3 rfl) (zI_ 111)))))) fun a61=>(at_ [(Zf (tySc K) c),(Zf (tyL tyStr) w1'),(Zf tyInt v13),(Zf tyInt t21),(Zf tyStr s41),(Zo (Qq1 K) a61.1),(Zo (Qq0 K) a61.2),Zd,Zd,Zd,Zd,Zd,Zd] (zbL_ (LS:=(fun _:Unit=>[(Zf (tySc K) c),(Zf (tyL tyStr) w1'),(Zf tyInt v13),(Zf tyInt t21),(Zf tyStr s41),(Zo (Qq1 K) a61.1),(Zo (Qq0 K) a61.2),Zd,Zd,Zd,Zd,Zd,Zd])) (s_if (zio_ (zbA_ (zG_ (zjp_ e.fx.isi_Dealer_Machine (zcI_ (P:=Qq10) 5 rfl)))) (zbA_ (zG_ (zjp_ e.fx.isi_Picker_Machine (zcI_ (P:=Qq11) 6 rfl))))) (zb1_ (zA_ zaU_) (EvF.ow (ze4_ false))) (zm_ (S4 (S4 (S4 (.same .nil)))))) fun _=>(at_ [(Zf (tySc K) c),(Zf (tyL tyStr) w1'),(Zf tyInt v13),(Zf tyInt t21),(Zf tyStr s41),(Zo (Qq1 K) a61.1),(Zo (Qq0 K) a61.2),Zd,Zd,Zd,Zd,Zd,Zd] (zbL_ (LS:=(fun s70:(Qq5×Qq3)=>[(Zf (tySc K) c),(Zf (tyL tyStr) w1'),(Zf tyInt v13),(Zf tyInt t21),(Zf tyStr s41),(Zo (Qq1 K) s70.1),(Zo (Qq0 K) s70.2),Zd,Zd,Zd,Zd,Zd,Zd])) (zfH_ (L':=[(Zf (tySc K) c),(Zf (tyL tyStr) w1'),(Zf tyInt v13),(Zf tyInt t21),(Zf tyStr s41),(Zo (Qq1 K) a61.1),(Zo (Qq0 K) a61.2),Zd,Zd,Zd,Zd,Zd,Zd]) (S4 (S4 (S4 (.same .nil)))) (zj9_ (LS:=(fun s70:(Qq5×Qq3)=>[(Zf (tySc K) c),(Zf (tyL tyStr) w1'),(Zf tyInt v13),(Zf tyInt t21),(Zf tyStr s41),(Zo (Qq1 K) s70.1),(Zo (Qq0 K) s70.2),Zd,Zd,Zd,Zd,Zd,Zd])) (s0:=(a61.1,a61.2)) (zjf_ (zh_ (zc_ 1 rfl))) (zkn_ (zaa_ zao_) (zhw_ 7 (zg8_ (zbq_ 8)))) fun s70 x72=>at_ [(Zf (tySc K) c),(Zf (tyL tyStr) w1'),(Zf tyInt v13),(Zf tyInt t21),(Zf tyStr s41),(Zo (Qq1 K) s70.1),(Zo (Qq0 K) s70.2),(Zf tyInt x72.1),(Zf tyStr x72.2),Zd,Zd,Zd,Zd] (by refine zlL_ (tc:=(tCall (zbj_ K) [] E0 (tCons (mVar 5) (tCons (mVar 8) (tCons (tSl (mSl K) (mVar 1) tNoPart (mPart (mVar 7))) tNil))))) (c2:=(tNot (mTest (mVar 13)))) (zhH_ rfl (zbJ_ (zt_ (z7_ (zq_ zf_)) (zt_ (zq_ zi_) (zt_ (zA_ zi_) zY_)))) (zA_ zaU_) .zero (zk_ (zc_ 8 rfl) (zh_ (EvO.fr (zjQ_ (zc_ 1 rfl) znf_ (zlW_ (zc_ 7 rfl))))))) (fun q73=>atT [(Zf (tySc K) c),(Zf (tyL tyStr) w1'),(Zf tyInt v13),(Zf tyInt t21),(Zf tyStr s41),(Zo (Qq1 K) q73.2),(Zo (Qq0 K) s70.2),(Zf tyInt x72.1),(Zf tyStr x72.2),Zd,Zd,Zd,Zd,(Zf tyBl q73.1)] (zbA_ (zG_ (zc_ 13 rfl)))) ?_ (fun q73=>at_ [(Zf (tySc K) c),(Zf (tyL tyStr) w1'),(Zf tyInt v13),(Zf tyInt t21),(Zf tyStr s41),(Zo (Qq1 K) q73.2),(Zo (Qq0 K) s70.2),(Zf tyInt x72.1),(Zf tyStr x72.2),Zd,Zd,Zd,Zd] (zb1_ (zA_ zaU_) (EvF.ow (ze4_ false)))) (fun q73=>at_ [(Zf (tySc K) c),(Zf (tyL tyStr) w1'),(Zf tyInt v13),(Zf tyInt t21),(Zf tyStr s41),(Zo (Qq1 K) q73.2),(Zo (Qq0 K) s70.2),(Zf tyInt x72.1),(Zf tyStr x72.2),Zd,Zd,Zd,Zd] (by refine zmW_ (tc:=(tCall (zbb_ K) [] E0 (tCons (mVar 6) (tCons (mVar 8) (tCons (tSl (mSl K) (mVar 1) tNoPart (mPart (mVar 7))) tNil))))) (c2:=(tNot (mTest (mVar 13)))) (zhH_ rfl (zbJ_ (zt_ (z7_ (zq_ zf_)) (zt_ (zq_ zi_) (zt_ (zA_ zi_) (zt_ (zA_ zf_) zY_))))) (zA_ zaU_) .zero (zk_ (zc_ 8 rfl) (zh_ (EvO.fr (zjQ_ (zc_ 1 rfl) znf_ (zlW_ (zc_ 7 rfl))))))) (fun q85=>atT [(Zf (tySc K) c),(Zf (tyL tyStr) w1'),(Zf tyInt v13),(Zf tyInt t21),(Zf tyStr s41),(Zo (Qq1 K) q73.2),(Zo (Qq0 K) q85.2),(Zf tyInt x72.1),(Zf tyStr x72.2),Zd,Zd,Zd,Zd,(Zf tyBl q85.1)] (zbA_ (zG_ (zc_ 13 rfl)))) ?_ (fun q85=>at_ [(Zf (tySc K) c),(Zf (tyL tyStr) w1'),(Zf tyInt v13),(Zf tyInt t21),(Zf tyStr s41),(Zo (Qq1 K) q73.2),(Zo (Qq0 K) q85.2),(Zf tyInt x72.1),(Zf tyStr x72.2),Zd,Zd,Zd,Zd] (zb1_ (zA_ zaU_) (EvF.ow (ze4_ false)))) (fun q85=>at_ [(Zf (tySc K) c),(Zf (tyL tyStr) w1'),(Zf tyInt v13),(Zf tyInt t21),(Zf tyStr s41),(Zo (Qq1 K) q73.2),(Zo (Qq0 K) q85.2),(Zf tyInt x72.1),(Zf tyStr x72.2),Zd,Zd,Zd,Zd] (zm_ (S4 (.same (.same (.same (.dead (.dead (S4 .nil))))))))); intro σ hσ H Q z; exact match σ,hσ,z with | [o0,o1,o2,o3,o4,o5,o6,o7,o8,o9,o10,o11,o12],_,z=>z)); intro σ hσ H Q z; exact match σ,hσ,z with | [o0,o1,o2,o3,o4,o5,o6,o7,o8,o9,o10,o11,o12],_,z=>z))) fun s70=>(at_ [(Zf (tySc K) c),(Zf (tyL tyStr) w1'),(Zf tyInt v13),(Zf tyInt t21),(Zf tyStr s41),(Zo (Qq1 K) s70.1),(Zo (Qq0 K) s70.2),Zd,Zd,Zd,Zd,Zd,Zd] (zbL_ (LS:=(fun _:Unit=>[(Zf (tySc K) c),(Zf (tyL tyStr) w1'),(Zf tyInt v13),(Zf tyInt t21),(Zf tyStr s41),(Zo (Qq1 K) s70.1),(Zo (Qq0 K) s70.2),Zd,Zd,Zd,Zd,Zd,Zd])) (s_if (zio_ (zbA_ (zG_ (zo_ (zk_ (EvO.fr (zz_ (m := "back") (ns:=Qn1) (by decide +kernel) (zcI_ (P:=Qq10) 5 rfl))) (zh_ (zc_ 1 rfl)))))) (zbA_ (zG_ (zo_ (zk_ (EvO.fr (zz_ (m := "back") (ns:=Qn0) (by decide +kernel) (zcI_ (P:=Qq11) 6 rfl))) (zh_ (zc_ 1 rfl))))))) (zb1_ (zA_ zaU_) (EvF.ow (ze4_ false))) (zm_ (S4 (S4 (S4 (.same .nil)))))) fun _=>(at_ [(Zf (tySc K) c),(Zf (tyL tyStr) w1'),(Zf tyInt v13),(Zf tyInt t21),(Zf tyStr s41),(Zo (Qq1 K) s70.1),(Zo (Qq0 K) s70.2),Zd,Zd,Zd,Zd,Zd,Zd] (zbL_ (LS:=(fun _:Unit=>[(Zf (tySc K) c),(Zf (tyL tyStr) w1'),(Zf tyInt v13),(Zf tyInt t21),(Zf tyStr s41),(Zo (Qq1 K) s70.1),(Zo (Qq0 K) s70.2),Zd,Zd,Zd,Zd,Zd,Zd])) (s_if (zio_ (zG_ (zZ_ zdq_ (zgt_ (m := "finish") (ns:=Qn1) (by decide +kernel) (zcI_ (P:=Qq10) 5 rfl)) zhN_)) (zG_ (zZ_ zdq_ (zgt_ (m := "finish") (ns:=Qn0) (by decide +kernel) (zcI_ (P:=Qq11) 6 rfl)) zhN_))) (zb1_ (zA_ zaU_) (EvF.ow (ze4_ false))) (zm_ (S4 (S4 (S4 (.same .nil)))))) fun _=>(at_ [(Zf (tySc K) c),(Zf (tyL tyStr) w1'),(Zf tyInt v13),(Zf tyInt t21),(Zf tyStr s41),(Zo (Qq1 K) s70.1),(Zo (Qq0 K) s70.2),Zd,Zd,Zd,Zd,Zd,Zd] (zcW_ (i:=9) rfl (zq_ zf_) (zax_ tyStr) fun g122=>zkP_ (i:=9) rfl (at_ [(Zf (tySc K) c),(Zf (tyL tyStr) w1'),(Zf tyInt v13),(Zf tyInt t21),(Zf tyStr s41),(Zo (Qq1 K) s70.1),(Zo (Qq0 K) s70.2),Zd,Zd,(Zf (tyL tyStr) g122),Zd,Zd,Zd] (zbL_ (LS:=(fun s123:(List (List Nat))=>[(Zf (tySc K) c),(Zf (tyL tyStr) w1'),(Zf tyInt v13),(Zf tyInt t21),(Zf tyStr s41),(Zo (Qq1 K) s70.1),(Zo (Qq0 K) s70.2),Zd,Zd,(Zf (tyL tyStr) s123),Zd,Zd,Zd])) (zfH_ (L':=[(Zf (tySc K) c),(Zf (tyL tyStr) w1'),(Zf tyInt v13),(Zf tyInt t21),(Zf tyStr s41),(Zo (Qq1 K) s70.1),(Zo (Qq0 K) s70.2),Zd,Zd,(Zf (tyL tyStr) g122),Zd,Zd,Zd]) (S4 (S4 (S4 (.same .nil)))) (zj9_ (LS:=(fun s123:(List (List Nat))=>[(Zf (tySc K) c),(Zf (tyL tyStr) w1'),(Zf tyInt v13),(Zf tyInt t21),(Zf tyStr s41),(Zo (Qq1 K) s70.1),(Zo (Qq0 K) s70.2),Zd,Zd,(Zf (tyL tyStr) s123),Zd,Zd,Zd])) (s0:=g122) (zm5_ (zo_ zhx_)) (zbq_ 10) fun s123 x126=>at_ [(Zf (tySc K) c),(Zf (tyL tyStr) w1'),(Zf tyInt v13),(Zf tyInt t21),(Zf tyStr s41),(Zo (Qq1 K) s70.1),(Zo (Qq0 K) s70.2),Zd,Zd,(Zf (tyL tyStr) s123),(Zf tyStr x126),Zd,Zd] (ze5_ (zcW_ (i:=9) rfl (zq_ zf_) (zkD_ zih_ (zc_ 9 rfl) (EvO.fr (O:=(owL tyStr)) (zeL_ (ei_l (zc_ 1 rfl)) (zbq_ 0) (fun _=>dead1) (fun x128=>(zG_ (zZ_ zcZ_ (zZ_ zfY_ (zc_ 0 rfl) (zZ_ zft_ (zc_ 2 rfl) (zI_ 1))) (zc_ 1 rfl)))) (fun x128=>(zc_ 0 rfl))))) fun g127=>zkP_ (i:=9) rfl (at_ [(Zf (tySc K) c),(Zf (tyL tyStr) w1'),(Zf tyInt v13),(Zf tyInt t21),(Zf tyStr s41),(Zo (Qq1 K) s70.1),(Zo (Qq0 K) s70.2),Zd,Zd,(Zf (tyL tyStr) g127),(Zf tyStr x126),Zd,Zd] (zm_ (S4 (S4 (.same (.same (.dead (.same (.same .nil))))))))))))) fun s123=>(at_ [(Zf (tySc K) c),(Zf (tyL tyStr) w1'),(Zf tyInt v13),(Zf tyInt t21),(Zf tyStr s41),(Zo (Qq1 K) s70.1),(Zo (Qq0 K) s70.2),Zd,Zd,(Zf (tyL tyStr) s123),Zd,Zd,Zd] (zcW_ (i:=11) rfl (zq_ zf_) (zeL_ (ei_l (zc_ 1 rfl)) (zbq_ 0) (fun _=>dead1) (fun x140=>(zG_ (zZ_ zcZ_ (zZ_ zfY_ (zc_ 0 rfl) (zZ_ zft_ (zc_ 2 rfl) (zI_ 1))) (zc_ 1 rfl)))) (fun x140=>(zc_ 0 rfl))) fun k139=>zkP_ (i:=11) rfl (at_ [(Zf (tySc K) c),(Zf (tyL tyStr) w1'),(Zf tyInt v13),(Zf tyInt t21),(Zf tyStr s41),(Zo (Qq1 K) s70.1),(Zo (Qq0 K) s70.2),Zd,Zd,(Zf (tyL tyStr) s123),Zd,(Zf (tyL tyStr) k139),Zd] (zcW_ (i:=12) rfl (zq_ zf_) (zeL_ (ei_l (zc_ 1 rfl)) (zbq_ 0) (fun _=>dead1) (fun x149=>(zG_ (zZ_ zlu_ (zZ_ zfY_ (zc_ 0 rfl) (zZ_ zft_ (zc_ 2 rfl) (zI_ 1))) (zc_ 1 rfl)))) (fun x149=>(zc_ 0 rfl))) fun r148=>zkP_ (i:=12) rfl (at_ [(Zf (tySc K) c),(Zf (tyL tyStr) w1'),(Zf tyInt v13),(Zf tyInt t21),(Zf tyStr s41),(Zo (Qq1 K) s70.1),(Zo (Qq0 K) s70.2),Zd,Zd,(Zf (tyL tyStr) s123),Zd,(Zf (tyL tyStr) k139),(Zf (tyL tyStr) r148)] (zb1_ (zA_ zaU_) (EvF.ow (zhS_ (zo_ (zk_ (zcI_ (P:=Qq10) 5 rfl) (zk_ (zc_ 9 rfl) (zh_ (EvO.fr (zax_ tyStr)))))) (zhS_ (zo_ (zk_ (zcI_ (P:=Qq11) 6 rfl) (zk_ (zc_ 11 rfl) (zh_ (zc_ 12 rfl))))) (zo_ (zk_ (zcI_ (P:=Qq10) 5 rfl) (zk_ (zc_ 9 rfl) (zh_ (EvO.fr (zax_ tyStr))))))))))))))))))))))))))))))))))))))) f fd F
theorem all_mk {l:PySem.W.OpenLaw}{w:World}{K:Fgg}{h:Heap}{mg:Str→Option Value}{fa:Addr}(X:K.In h) (G:h.Ns mainGlobals mg) (hfa:mg "law" = some (.ref fa)) (k:Ek K) :
  ∃ fd:FuncData,(∀ (s:Shared) (v:Value),BindsTo s fd ⟨[v],[]⟩ [("_law_script",v)])∧∀ base:Heap,K.In base→base.Ns mainGlobals mg→FnOk l.prog w K mg base CX0 6 fa fd ["_law_script"] (spL K):=by
 have e:En K mg:=⟨k,_,X,G⟩
 refine okLaw e.m e.f37 hfa (fun _ _ _ _ _ _ _ _=>rfl) fun base f fd F=>?_
 have g0:=zfJ_ (P:=l.prog) (w:=w) (base:=base) e
 have g1:=zgL_ (P:=l.prog) (w:=w) (base:=base) e
 have g2:=zgV_ (P:=l.prog) (w:=w) (base:=base) e g0 g1
 have g3:=zeG_ (P:=l.prog) (w:=w) (base:=base) e
 have g4:=zaR_ (P:=l.prog) (w:=w) (base:=base) e
 have g5:=zbV_ (P:=l.prog) (w:=w) (base:=base) e
 have g6:=zcP_ (P:=l.prog) (w:=w) (base:=base) e g4 g5
 have g7:=zaO_ (P:=l.prog) (w:=w) (base:=base) e
 have g8:=zb7_ (P:=l.prog) (w:=w) (base:=base) e
 have g9:=zc0_ (P:=l.prog) (w:=w) (base:=base) e g7 g8
 have g10:=zc4_ (P:=l.prog) (w:=w) (base:=base) e g6
 have g11:=zcV_ (P:=l.prog) (w:=w) (base:=base) e g9
 have g12:=zee_ (P:=l.prog) (w:=w) (base:=base) e g9 g6 g11 g10
 have g13:=zdC_ (P:=l.prog) (w:=w) (base:=base) e
 have g14:=zdu_ (P:=l.prog) (w:=w) (base:=base) e
 have g15:=zcH_ (P:=l.prog) (w:=w) (base:=base) e
 have g16:=ziY_ (P:=l.prog) (w:=w) (base:=base) e
 have g17:=zdx_ (P:=l.prog) (w:=w) (base:=base) e g16
 have g18:=zcv_ (P:=l.prog) (w:=w) (base:=base) e
 have g19:=zev_ (P:=l.prog) (w:=w) (base:=base) e
 have g20:=zdI_ (P:=l.prog) (w:=w) (base:=base) e g19 g17 g18 g15
 have g21:=zcx_ (P:=l.prog) (w:=w) (base:=base) e
 have g22:=zdN_ (P:=l.prog) (w:=w) (base:=base) e
 have g23:=zcu_ (P:=l.prog) (w:=w) (base:=base) e g16
 have g24:=zdO_ (P:=l.prog) (w:=w) (base:=base) e g19 g22 g23 g21
 have g25:=zgN_ (P:=l.prog) (w:=w) (base:=base) e
 have g26:=zeC_ (P:=l.prog) (w:=w) (base:=base) e g25
 have g27:=ze1_ (P:=l.prog) (w:=w) (base:=base) e g25
 have g28:=zdM_ (P:=l.prog) (w:=w) (base:=base) e
 have g29:=zii_ (P:=l.prog) (w:=w) (base:=base) e
 have g30:=zhB_ (P:=l.prog) (w:=w) (base:=base) e g29
 have g31:=zhR_ (P:=l.prog) (w:=w) (base:=base) e
 have g32:=zeD_ (P:=l.prog) (w:=w) (base:=base) e g28 g30 g31
 have g33:=zd0_ (P:=l.prog) (w:=w) (base:=base) e g32 g26 g19
 have g34:=zdE_ (P:=l.prog) (w:=w) (base:=base) e
 have g35:=zeT_ (P:=l.prog) (w:=w) (base:=base) e g34 g31
 have g36:=zec_ (P:=l.prog) (w:=w) (base:=base) e g35 g27 g19
 exact zmr_ (l:=l) (w:=w) (base:=base) e g2 g3 g0 g12 g33 g36 g19 g26 g27 g13 g14 g20 g24 F
theorem walk {l:PySem.W.OpenLaw}{q:Program}{loose:List Str}{XP:(Str→Option Value)→Heap→Prop}{YP:World→Heap→Prop}{d:DefRec}{K:Params→Fgg}(hn:l.most=some 63) (hdf:d.params.defaults=[])
  (hY:∀ (w:World) (h:Heap),YP w h→(K w.params).In h)
  (F:∀ (w:World) (mg:Str→Option Value) (fa:Addr) (h:Heap),(K w.params).In h→h.Ns mainGlobals mg→mg d.name=some (.ref fa) →
   ∃ fd:FuncData,(∀ (s:Shared) (u:Value),BindsTo s fd ⟨[u],[]⟩ [("_law_script",u)])∧∀ base:Heap,(K w.params).In base→base.Ns mainGlobals mg→FnOk l.prog w (K w.params) mg base CX0 6 fa fd ["_law_script"] (spL (K w.params))) :
  PySem.W.WalkO q loose XP YP l.row.toRowW d [] (fun f vs=>PySem.call f vs) :=
 L2.zka_ (n:=63) (k:=6) (x := "_law_script") (CX:=fun _=>CX0) (sp:=fun w=>spL (K w.params)) hn (by decide) hdf ⟨rfl,by decide,by decide⟩ hY F (fun _ _ a ns hl hb _ hS=>⟨a,ns,rfl,hS,hl,hb,fun _=>rfl⟩) fun _ _ _ _ _ z=>z
end K55
open PySem PySem.W PyProof.Rows
set_option maxRecDepth 100000 in
set_option maxHeartbeats 0 in
theorem PySem.Challenge.cw_cardshop_k55_dealer_and_picker_holds : PySem.Challenge.rw_cardshop_k55_dealer_and_picker.Holds := by
 w_on; o_law; k_head; (case hw=>w_witness2)
 k_fill
 refine K55.walk (l:=PySem.Challenge.rw_cardshop_k55_dealer_and_picker) rfl rfl (fun w h Y=>PySem.W.kIn_of Y) ?F
 case F =>
  intro w mg fa h KX G hmg
  refine K55.all_mk KX G hmg ?_
  constructor
  all_goals first | (refine' L2.Fg.mk_ ?x0 ?x1 ?x2 ?x3; (case x0=>k_is); (case x1=>k_is); (case x2=>k_is); (case x3=>k_is)) | (refine' L2.Fm.mk_ ?x0 ?x1 ?x2 ?x3 ?x4 ?x5; (case x0=>k_is); (case x1=>k_is); (case x2=>k_is); (case x3=>k_is); (case x4=>k_is); (case x5=>k_is)) | (refine' L2.Fs.mk_ ?x0 ?x1 ?x2 ?x3 ?x4 ?x5 ?x6; (case x0=>k_is); (case x1=>k_is); (case x2=>k_is); (case x3=>k_is); (case x4=>k_is); (case x5=>k_is); (case x6=>k_is)) | (refine' L2.Fc.mk_ ?x0 ?x1 ?x2 ?x3 ?x4 ?x5 ?x6; (case x0=>k_is); (case x1=>k_is); (case x2=>k_is); (case x3=>k_is); (case x4=>k_is); (case x5=>k_is); (case x6=>k_is)) | (refine' L2.Fa.mk_ ?x0 ?x1; (case x0=>k_is); (case x1=>k_is)) | (delta L2.Fb; k_is) | (refine' L2.Fv.mk_ ?x0 ?x1; (case x0=>k_is); (case x1=>exact ⟨_,rfl⟩)) | (refine' L2.Fk.mk_ ?x0; (case x0=>k_is)) | (refine' L2.Fe1.mk_ ?x0 ?x1; (case x0=>k_is); (case x1=>(show _=_; kernel_rfl!))) | (refine' L2.Fe2.mk_ ?x0 ?x1 ?x2; (case x0=>k_is); (case x1=>k_is); (case x2=>(show _=_; kernel_rfl!)))
#print axioms PySem.Challenge.cw_cardshop_k55_dealer_and_picker_holds
