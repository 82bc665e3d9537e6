import PyProof.Rows.All
import Wide.All
import OpenK.AllK
import Wide.FinOn
import Lean
import PyProof.EqAt
import PyProof.EqKinds
import PyProof.TupleCall
import PyProof.StrLawsRepr
import PyProof.NeKinds
import KE.KEqDict
import KE.KDictOf
import KE.KPairComp
import PySem.Challenge.RW_cardshop_k34_totals_at_breaks
set_option Elab.async false
set_option compiler.extract_closed false
set_option linter.all false
set_option maxRecDepth 100000
set_option maxHeartbeats 4000000
def PySem.W.Fast.tw12737782949178362197:Unit:=()
def PySem.W.Fast.tw17039633774546026278:Unit:=()
def PySem.W.Fast.tw17193758279867594939:Unit:=()
def PySem.W.Fast.tw14057786642952569967:Unit:=()
def PySem.W.Fast.tw16674365351480987766:Unit:=()
def PySem.W.Fast.tw4930729411983676843:Unit:=()
def PySem.W.Fast.tw7323243981685161333:Unit:=()
def PySem.W.Fast.tw14729261137328420199:Unit:=()
def PySem.W.Fast.tw6939283209639893275:Unit:=()
def PySem.W.Fast.tw3206761933465527223:Unit:=()
def PySem.W.Fast.tw4200431159178616669:Unit:=()
def PySem.W.Fast.tw7225708702413209912:Unit:=()
def PySem.W.Fast.tw9734234886746200346:Unit:=()
def PySem.W.Fast.tw1065258514773098855:Unit:=()
def PySem.W.Fast.tw11250009519676037493:Unit:=()
def PySem.W.Fast.tw7350327592354862617:Unit:=()
def PySem.W.Fast.tw6307677658609392034:Unit:=()
def PySem.W.Fast.tw676701168228538535:Unit:=()
def PySem.W.Fast.tw16458175720359972816:Unit:=()
def PySem.W.Fast.tw1222291332483007495:Unit:=()
def PySem.W.Fast.tw9292297436419221398:Unit:=()
def PySem.W.Fast.tw13209738994482831091:Unit:=()
def PySem.W.Fast.tw12025036796239496341:Unit:=()
def PySem.W.Fast.tw9264233293031876788:Unit:=()
def PySem.W.Fast.tw5404081130573110689:Unit:=()
def PySem.W.Fast.tw9238902062424675813:Unit:=()
def PySem.W.Fast.tw15599088465852284964:Unit:=()
def PySem.W.Fast.tw240016979525196295:Unit:=()
def PySem.W.Fast.tw11347302582488258560:Unit:=()
def PySem.W.Fast.tw1774284313298066154:Unit:=()
def PySem.W.Fast.tw14041280757599042241:Unit:=()
def PySem.W.Fast.tw14071664685740154125:Unit:=()
def PySem.W.Fast.tw16621258180037900610:Unit:=()
def PySem.W.Fast.tw16392638824759935906:Unit:=()
def PySem.W.Fast.tw295420250464030669:Unit:=()
def PySem.W.Fast.tw12722395756389969295:Unit:=()
def PySem.W.Fast.tw14174965703287819434:Unit:=()
def PySem.W.Fast.tw11662882489074974002:Unit:=()
def PySem.W.Fast.tw11097091254152980467:Unit:=()
def PySem.W.Fast.tw7631420670100984571:Unit:=()
def PySem.W.Fast.tw1070917794866121034:Unit:=()
def PySem.W.Fast.tw2996773511680136051:Unit:=()
def PySem.W.Fast.tw16757940987657029575:Unit:=()
def PySem.W.Fast.tw14789925781103581098:Unit:=()
def PySem.W.Fast.tw8505252147213915591:Unit:=()
def PySem.W.Fast.tw11384574250723532773:Unit:=()
def PySem.W.Fast.tw15651658758223769032:Unit:=()
def PySem.W.Fast.tw18147631683264395377:Unit:=()
def PySem.W.Fast.tw4630407498050678408:Unit:=()
def PySem.W.Fast.tw1122500684513980583:Unit:=()
def PySem.W.Fast.tw13526899616982221583:Unit:=()
def PySem.W.Fast.tw5003397481259650698:Unit:=()
def PySem.W.Fast.tw17965133176226127901:Unit:=()
def PySem.W.Fast.tw13333200498484897260:Unit:=()
def PySem.W.Fast.tw6961796078118320229:Unit:=()
def PySem.W.Fast.tw3980834174454187078:Unit:=()
def PySem.W.Fast.tw15209526143344332185:Unit:=()
def PySem.W.Fast.tw11626082275867637744:Unit:=()
def PySem.W.Fast.tw6266804222343033604:Unit:=()
def PySem.W.Fast.tw10396810227390986599:Unit:=()
def PySem.W.Fast.tw15709423593096393710:Unit:=()
def PySem.W.Fast.tw8597890475833320795:Unit:=()
def PySem.W.Fast.tw7466408017804157286:Unit:=()
def PySem.W.Fast.tw4494537892619779262:Unit:=()
def PySem.W.Fast.tw16150087792997283770:Unit:=()
def PySem.W.Fast.tw13694134410371514011:Unit:=()
def PySem.W.Fast.tw16859944149791373933:Unit:=()
def PySem.W.Fast.tw7580764855156421416:Unit:=()
def PySem.W.Fast.tw4735205972558499145:Unit:=()
def PySem.W.Fast.tw51341557291046501:Unit:=()
def PySem.W.Fast.tw13268534508928482458:Unit:=()
noncomputable section
namespace L2
open PySem PySem.Spec PyProof.Rows
abbrev Fgg:=PySem.W.Frag
abbrev Pnn:=List (Addr×Obj)
abbrev Key:=Sum Int Str
def keyIs:Key→Value→Bool
 | .inl k,v=>Value.isInt k v
 | .inr x,v=>Value.isStrOf x v
def keyH (w:World):Key→Int
 | .inl k=>hashInt k
 | .inr x=>hashStr w x
theorem zai_:∀ {k:Key}{v:Value},keyIs k v=true→(∃ i t,k=Sum.inl i∧v=Value.int i t)∨(∃ x t,k=Sum.inr x∧v=Value.str x t)
 | .inl i,v,h=>by
  obtain ⟨t,e⟩:=Value.isInt_shape (k:=i) (v:=v) h
  exact .inl ⟨i,t,rfl,e⟩
 | .inr x,v,h=>by
  obtain ⟨t,e⟩:=Value.isStrOf_shape (x:=x) (v:=v) h
  exact .inr ⟨x,t,rfl,e⟩
theorem zjL_ (i:Int) (t:Tok):keyIs (.inl i) (.int i t)=true:=by simp [keyIs,Value.isInt]
theorem zjC_ (x:Str) (t:Tok):keyIs (.inr x) (.str x t)=true:=by simp [keyIs,Value.isStrOf]
theorem zo2_ (a b:Int):decide ((Sum.inl a:Key)=Sum.inl b)=(a == b):=by
 by_cases e:a=b
 ·subst e; simp
 ·have h:¬ (Sum.inl a:Key)=Sum.inl b:=fun q=>e (Sum.inl.inj q)
  rw [decide_eq_false h]
  exact (beq_eq_false_iff_ne.mpr e).symm
theorem zo0_ (a b:Str):decide ((Sum.inr a:Key)=Sum.inr b)=decide (a=b):=by
 by_cases e:a=b
 ·subst e; simp
 ·have h:¬ (Sum.inr a:Key)=Sum.inr b:=fun q=>e (Sum.inr.inj q)
  rw [decide_eq_false h,decide_eq_false e]
theorem zo4_ (a:Int) (b:Str):decide ((Sum.inl a:Key)=Sum.inr b)=false:=decide_eq_false (fun q=>nomatch q)
theorem zpq_ (a:Str) (b:Int):decide ((Sum.inr a:Key)=Sum.inl b)=false:=decide_eq_false (fun q=>nomatch q)
def mixKind (prog:Program) (w:World):PySem.KeyKind prog w Key where
 is:=keyIs
 hash:=keyH w
 inj:=fun v a b ha hb=>by
  rcases zai_ ha with ⟨i,t,rfl,rfl⟩ | ⟨x,t,rfl,rfl⟩
  ·rcases zai_ hb with ⟨j,u,rfl,e⟩ | ⟨y,u,rfl,e⟩
   ·injection e with e1 _; rw [e1]
   ·exact nomatch e
  ·rcases zai_ hb with ⟨j,u,rfl,e⟩ | ⟨y,u,rfl,e⟩
   ·exact nomatch e
   ·injection e with e1 _; rw [e1]
 byValue:=fun k v h=>by
  rcases zai_ h with ⟨i,t,rfl,rfl⟩ | ⟨x,t,rfl,rfl⟩<;>rfl
 pyHash:=fun hv h=>by
  rcases zai_ hv with ⟨i,t,rfl,rfl⟩ | ⟨x,t,rfl,rfl⟩
  ·exact wpAny_pyHash_int h
  ·exact wpAny_pyHash_str h
 eqBool:=fun hu hv h=>by
  rcases zai_ hu with ⟨i,t,rfl,rfl⟩ | ⟨x,t,rfl,rfl⟩
  ·rcases zai_ hv with ⟨j,u,rfl,rfl⟩ | ⟨y,u,rfl,rfl⟩
   ·rw [zo2_] at h; exact wpAny_eqBool_int h
   ·rw [zo4_] at h; exact SeqAt.EqAt.int_str i t y u _ _ _ _ h
  ·rcases zai_ hv with ⟨j,u,rfl,rfl⟩ | ⟨y,u,rfl,rfl⟩
   ·rw [zpq_] at h; exact SeqAt.EqAt.str_int x t j u _ _ _ _ h
   ·rw [zo0_] at h; exact wpAny_eqBool_str h
 «strs»:=fun k x t v h=>by
  rcases zai_ h with ⟨i,u,rfl,e⟩ | ⟨y,u,rfl,e⟩
  ·exact nomatch e
  ·injection e with e1 _
   subst e1
   cases v<;>rfl
theorem zhi_ (prog:Program) (w:World) (i:Int) (t:Tok):(mixKind prog w).is (.inl i) (.int i t)=true:=zjL_ i t
theorem zhk_ (prog:Program) (w:World) (x:Str) (t:Tok):(mixKind prog w).is (.inr x) (.str x t)=true:=zjC_ x t
end L2
namespace L2
open PySem PySem.Spec PyProof.Rows
inductive V where
 | non | bl (b:Bool) | int (i:Int) | str (x:Str) | byt (b:Array UInt8) | flt (b:UInt64) | ref (a:Addr) | ty (n:String)
 deriving DecidableEq
def RelV:V→Value→Prop
 | .non,u=>u=Value.none
 | .bl b,u=>u=Value.bool b
 | .int i,u=>∃ t,u=Value.int i t
 | .str x,u=>∃ t,u=Value.str x t
 | .byt b,u=>∃ t,u=Value.bytes b t
 | .flt b,u=>∃ t,u=Value.float b t
 | .ref a,u=>u=Value.ref a
 | .ty n,u=>u=Value.type n
abbrev Vals:List V→List Value→Prop:=Paired RelV
theorem Vals.length {xs:List V}{us:List Value}(r:Vals xs us):xs.length=us.length:=Paired.length r
theorem Vals.get:∀ {xs:List V}{us:List Value}{i:Nat}{x:V},Vals xs us→xs[i]?=some x→∃ u,us[i]?=some u∧RelV x u
 | _,_,_,_,.nil,e=>by simp at e
 | _,_,0,_,.cons r _,e=>by simp at e; subst e; exact ⟨_,rfl,r⟩
 | _,_,i+1,x,.cons _ t,e=>by
  obtain ⟨u,h1,h2⟩:=Vals.get (i:=i) (x:=x) t (by simpa using e)
  exact ⟨u,by simpa using h1,h2⟩
theorem Vals.set {x:V}{u:Value}(r:RelV x u):∀ {xs:List V}{us:List Value}(i:Nat),Vals xs us→Vals (xs.set i x) (us.set i u)
 | _,_,_,.nil=>.nil
 | _,_,0,.cons _ t=>.cons r t
 | _,_,i+1,.cons q t=>.cons q (Vals.set r i t)
theorem Vals.append:∀ {xs ys:List V}{us ws:List Value},Vals xs us→Vals ys ws→Vals (xs++ys) (us++ws)
 | _,_,_,_,.nil,s=>s
 | _,_,_,_,.cons r t,s=>.cons r (Vals.append t s)
theorem Vals.take:∀ {xs:List V}{us:List Value}(n:Nat),Vals xs us→Vals (xs.take n) (us.take n)
 | _,_,0,_=>.nil
 | _,_,_+1,.nil=>.nil
 | _,_,n+1,.cons r t=>.cons r (Vals.take n t)
theorem Vals.drop:∀ {xs:List V}{us:List Value}(n:Nat),Vals xs us→Vals (xs.drop n) (us.drop n)
 | _,_,0,r=>r
 | _,_,_+1,.nil=>.nil
 | _,_,n+1,.cons _ t=>Vals.drop n t
def RelO:Option V→Option Value→Prop
 | some v,some u=>RelV v u
 | none,none=>True
 | _,_=>False
def KV {κ:Type}:List (κ×V)→List (κ×Value)→Prop:=Paired fun (p:κ×V) (q:κ×Value)=>p.1=q.1∧RelV p.2 q.2
def kV:Key→V
 | .inl i=>.int i
 | .inr x=>.str x
inductive HO where
 | lst (xs:List V)
 | tup (xs:List V)
 | dK (kvs:List (Key×V)) | dT (kvs:List (List Key×V))
 | set (S:Int→Bool) (n:Nat)
 | ins (C dx:Addr) (fs:List (Str×V))
 | own (x:Addr)
 | xd (fs:List (Str×V))
 | met (f x:Addr)
 | rng (lo hi:Int)
 | frz (o:Obj) (u:HO)
 | tbl (ps:Array Value)
 | ext (φ:Heap→Prop)
abbrev Hp:=Addr→Option HO
def upd (H:Hp) (a:Addr) (o:HO):Hp:=fun b=>if b=a then some o else H b
theorem zat_ {H:Hp}{a:Addr}{o:HO}:upd H a o a=some o:=by unfold upd; rw [if_pos rfl]
theorem zah_ {H:Hp}{a b:Addr}{o:HO}(h:b≠a):upd H a o b=H b:=by unfold upd; rw [if_neg h]
theorem ne_of {H:Hp}{a b:Addr}{o u:HO}(h:H a=some o) (h':H b=some u) (d:o≠u):a≠b:=by
 intro e; subst e; rw [h] at h'; exact d (Option.some.inj h')
theorem zbl_ {H:Hp}{a b:Addr}{o:HO}(h:H a=some o) (h':H b=none):a≠b:=by
 intro e; subst e; rw [h] at h'; cases h'
section
variable (P:Program) (w:World)
def ObjOk (H:Hp) (h:Heap) (a:Addr):HO→Prop
 | .lst xs=>xs.length≤sizeLine∧∃ (its:List Value) (n:Nat),Vals xs its∧h.get? a=some { cls:=.type "list",data:=.seq its.toArray n }
 | .tup xs=>xs.length≤sizeLine∧∃ its:List Value,Vals xs its∧IsTup h a its.toArray
 | .dK kvs=>kvs.length≤sizeLine∧(a == sysModules)=false∧∃ vs,KV kvs vs∧h.DictOf (mixKind P w) a vs
 | .dT kvs=>kvs.length≤sizeLine∧(a == sysModules)=false∧∃ xs:List (List Key×Addr×Value),
   Paired (fun (p:List Key×V) (q:List Key×Addr×Value)=>p.1=q.1∧H q.2.1=some (.tup (p.1.map kV))∧RelV p.2 q.2.2) kvs xs ∧
   ∃ o es ep,h.get? a=some o∧o.ExactDict∧o.data=.dict es ep∧es.toList=xs.map (entryOfKey (tupleKind (mixKind P w)))∧(xs.map (·.1)).Nodup
 | .set S n=>h.SetOf (intKind P w) a S n
 | .ins C dx fs=>H dx=some (.own a)∧fs.length≤1000∧dx≠a∧h.get? a=some (PySem.W.instObj C dx) ∧
   ∃ mA,h.Ns1 dx mA∧(∀ f,RelO (fs.lookup f) (mA f))∧PySem.Within mA (fs.map (·.1))
 | .own _=>∃ o,h.get? a=some o
 | .xd fs=>∃ mA,h.Ns1 a mA∧∀ f,RelO (fs.lookup f) (mA f)
 | .rng lo hi=>∃ t u v,h.get? a=some { cls:=.type "range",data:=.fields #[.int lo t,.int hi u,.int 1 v] }
 | .frz o u=>h.get? a=some o∧ObjOk H h a u
 | .tbl ps=>h.get? a=some { cls:=.none,data:=.fields ps }
 | .met f x=>h.get? a=some (PySem.W.methodObj (.ref f) (.ref x))
 | .ext φ=>φ h∧(∃ o,h.get? a=some o)∧∀ h1 h2:Heap,φ h1→(∀ o,h1.get? a=some o→h2.get? a=some o)→φ h2
def HOk (H:Hp) (h:Heap):Prop:=∀ a o,H a=some o→ObjOk P w H h a o
end
section
variable {P:Program}{w:World}{H H':Hp}{h h':Heap}{a:Addr}{o:HO}
theorem ObjOk.lt (x:ObjOk P w H h a o):a<h.objs.size:=by
 cases o with
 | lst xs=>obtain ⟨_,_,_,_,e⟩:=x; exact Heap.lt_size e
 | tup xs=>obtain ⟨_,_,_,p⟩:=x; exact p.lt
 | dK kvs=>obtain ⟨_,_,_,_,o,_,_,e,_⟩:=x; exact Heap.lt_size e
 | dT kvs=>obtain ⟨_,_,_,_,o,_,_,e,_⟩:=x; exact Heap.lt_size e
 | set S n=>obtain ⟨o,_,_,_,e,_⟩:=x; exact Heap.lt_size e
 | ins C dx fs=>obtain ⟨_,_,_,e,_⟩:=x; exact Heap.lt_size e
 | own y=>obtain ⟨_,e⟩:=x; exact Heap.lt_size e
 | xd fs=>obtain ⟨_,⟨_,_,_,e,_⟩,_⟩:=x; exact Heap.lt_size e
 | rng lo hi=>obtain ⟨_,_,_,e⟩:=x; exact Heap.lt_size e
 | frz ob u=>obtain ⟨e,_⟩:=x; exact Heap.lt_size e
 | tbl ps=>exact Heap.lt_size (show h.get? a=some _ from x)
 | met f y=>exact Heap.lt_size (show h.get? a=some _ from x)
 | ext φ=>obtain ⟨_,⟨_,e⟩,_⟩:=x; exact Heap.lt_size e
theorem Paired.mapP {α β:Type}{F G:α→β→Prop}:∀ {l₁:List α}{l₂:List β},Paired F l₁ l₂→(∀ a b,F a b→G a b)→Paired G l₁ l₂
 | _,_,.nil,_=>.nil
 | _,_,.cons r t,f=>.cons (f _ _ r) (Paired.mapP t f)
theorem ObjOk.stay (x:ObjOk P w H h a o) (k:∀ b u,(b=a∨H b=some (.own a))→h.get? b=some u→h'.get? b=some u)
  (ho:∀ b,H b=some (.own a)→H' b=some (.own a)) (ht:∀ b xs,H b=some (.tup xs)→H' b=some (.tup xs)):ObjOk P w H' h' a o:=by
 induction o with
 | lst xs=>obtain ⟨z,its,n,r,e⟩:=x; exact ⟨z,its,n,r,k _ _ (.inl rfl) e⟩
 | tup xs=>obtain ⟨z,its,r,ob,e,c⟩:=x; exact ⟨z,its,r,ob,k _ _ (.inl rfl) e,c⟩
 | dK kvs=>obtain ⟨z,y,vs,r,ob,es,ep,e,c⟩:=x; exact ⟨z,y,vs,r,ob,es,ep,k _ _ (.inl rfl) e,c⟩
 | dT kvs =>
  obtain ⟨z,y,xs,r,ob,es,ep,e,c⟩:=x
  exact ⟨z,y,xs,Paired.mapP r fun p q z=>⟨z.1,ht _ _ z.2.1,z.2.2⟩,ob,es,ep,k _ _ (.inl rfl) e,c⟩
 | set S n=>obtain ⟨ob,es,ep,t,e,c⟩:=x; exact ⟨ob,es,ep,t,k _ _ (.inl rfl) e,c⟩
 | ins C dx fs =>
  obtain ⟨d,z,ne,e,mA,⟨od,es,ep,e2,c⟩,r⟩:=x
  exact ⟨ho _ d,z,ne,k _ _ (.inl rfl) e,mA,⟨od,es,ep,k _ _ (.inr d) e2,c⟩,r⟩
 | own y=>obtain ⟨ob,e⟩:=x; exact ⟨ob,k _ _ (.inl rfl) e⟩
 | xd fs=>obtain ⟨mA,⟨od,es,ep,e,c⟩,r⟩:=x; exact ⟨mA,⟨od,es,ep,k _ _ (.inl rfl) e,c⟩,r⟩
 | rng lo hi=>obtain ⟨t,u,v,e⟩:=x; exact ⟨t,u,v,k _ _ (.inl rfl) e⟩
 | frz ob u ih=>obtain ⟨e,q⟩:=x; exact ⟨k _ _ (.inl rfl) e,ih q⟩
 | tbl ps =>
  have e:h.get? a=some { cls:=.none,data:=.fields ps }:=x
  show h'.get? a=some { cls:=.none,data:=.fields ps }
  exact k a _ (.inl rfl) e
 | met f y =>
  have e:h.get? a=some (PySem.W.methodObj (.ref f) (.ref y)):=x
  show h'.get? a=some (PySem.W.methodObj (.ref f) (.ref y))
  exact k a _ (.inl rfl) e
 | ext φ=>obtain ⟨p,⟨o,e⟩,st⟩:=x; exact ⟨st _ _ p fun o q=>k _ _ (.inl rfl) q,⟨o,k _ _ (.inl rfl) e⟩,st⟩
theorem HOk.lt (x:HOk P w H h) (e:H a=some o):a<h.objs.size:=(x a o e).lt
theorem HOk.fresh (x:HOk P w H h) (e:h.objs.size≤a):H a=none:=by
 cases q:H a with
 | none=>rfl
 | some u=>exact absurd (Nat.lt_of_lt_of_le (x.lt q) e) (Nat.lt_irrefl _)
theorem HOk.kept (x:HOk P w H h) (k:∀ b u,h.get? b=some u→h'.get? b=some u):HOk P w H h':=fun a o e =>
 (x a o e).stay (fun b u _ q=>k b u q) (fun _ q=>q) fun _ _ q=>q
theorem HOk.laid (x:HOk P w H h) (k:∀ b u,h.get? b=some u→h'.get? b=some u) (hp:h.objs.size≤a) (new:ObjOk P w (upd H a o) h' a o):HOk P w (upd H a o) h':=fun b u e=>by
 have hn:=x.fresh hp
 by_cases hb:b=a
 ·subst hb; rw [zat_] at e; cases e; exact new
 ·rw [zah_ hb] at e
  exact (x b u e).stay (fun c v _ q=>k c v q) (fun c q=>by rw [zah_ (zbl_ q hn)]; exact q) fun c xs q=>by rw [zah_ (zbl_ q hn)]; exact q
end
def Rd (H:Hp) (a:Addr) (u:HO):Prop:=H a=some u∨∃ o,H a=some (.frz o u)
theorem Rd.ok {P:Program}{w:World}{H:Hp}{h:Heap}{a:Addr}{u:HO}(r:Rd H a u) (x:HOk P w H h):ObjOk P w H h a u:=by
 rcases r with r | ⟨o,r⟩
 ·exact x a u r
 ·obtain ⟨_,q⟩:=x a _ r
  exact q
def Mut:Option HO→Prop
 | some (.lst _)=>True
 | some (.dK _)=>True
 | some (.dT _)=>True
 | some (.set _ _)=>True
 | some (.ins _ _ _)=>True
 | some (.ext _)=>True
 | _=>False
section
variable {P:Program}{w:World}{H:Hp}{h h':Heap}{x e:Addr}{o':HO}
theorem HOk.write (ok:HOk P w H h) (mu:Mut (H x)) (he:e=x∨H e=some (.own x)) (k:∀ b u,b≠e→h.get? b=some u→h'.get? b=some u) (heo:∃ u,h'.get? e=some u)
  (new:ObjOk P w (upd H x o') h' x o'):HOk P w (upd H x o') h':=fun b u q=>by
 have nown:∀ c y,H c=some (.own y)→c≠x:=fun c y r z=>by subst z; rw [r] at mu; exact mu
 have ntup:∀ c xs,H c=some (.tup xs)→c≠x:=fun c xs r z=>by subst z; rw [r] at mu; exact mu
 by_cases hb:b=x
 ·subst hb; rw [zat_] at q; cases q; exact new
 ·rw [zah_ hb] at q
  by_cases hbe:b=e
  ·have q':H b=some (.own x):=by
    rcases he with z | z
    ·exact absurd (hbe.trans z) hb
    ·rw [hbe]; exact z
   rw [q] at q'; cases q'
   obtain ⟨v,hv⟩:=heo
   exact ⟨v,by rw [hbe]; exact hv⟩
  ·refine (ok b u q).stay (fun c v hc r=>k c v ?_ r) (fun c r=>by rw [zah_ (nown c b r)]; exact r) fun c xs r=>by rw [zah_ (ntup c xs r)]; exact r
   rcases hc with rfl | hc
   ·exact hbe
   ·rintro rfl
    rcases he with z | z
    ·exact nown c b hc z
    ·rw [hc] at z; cases z; exact hb rfl
end
structure Un (fs ex:List Addr) (H H':Hp) (h h':Heap):Prop where
 keep:∀ b o,h.get? b=some o→H b=none→b∉fs→b∉ex→h'.get? b=some o
 slot:∀ b o,h.get? b=some o→H b=none→b∈fs→b∉ex→∃ sl,h'.get? b=some { o with slots:=sl }
 free:∀ b o,h.get? b=some o→H b=none→b∉ex→H' b=none
 there:∀ b o,h.get? b=some o→b∉ex→∃ o',h'.get? b=some o'
 tups:∀ b xs,H b=some (.tup xs)→H' b=some (.tup xs)
 frzs:∀ b o u,H b=some (.frz o u)→H' b=some (.frz o u)
 tbls:∀ b ps,H b=some (.tbl ps)→∃ more,H' b=some (.tbl (ps++more))
section
variable {fs fs' ex ex':List Addr}{H H1 H2:Hp}{h h1 h2 h':Heap}{a x e:Addr}{o:HO}
theorem Un.any (u:Un fs ex H H1 h h1) {b:Addr}{ob:Obj}(q:h.get? b=some ob) (n:H b=none) (hx:b∉ex):∃ sl,h1.get? b=some { ob with slots:=sl }:=by
 by_cases hb:b∈fs
 ·exact u.slot b ob q n hb hx
 ·exact ⟨ob.slots,u.keep b ob q n hb hx⟩
theorem Un.kept (k:∀ b u,h.get? b=some u→h'.get? b=some u):Un fs ex H H h h' :=
 ⟨fun b ob q _ _ _=>k b ob q,fun b ob q _ _ _=>⟨ob.slots,k b ob q⟩,fun _ _ _ n _=>n,fun b ob q _=>⟨ob,k b ob q⟩,fun _ _ q=>q,fun _ _ _ q=>q,fun _ ps q=>⟨#[],by rw [q]; simp⟩⟩
theorem Un.refl:Un fs ex H H h h:=Un.kept fun _ _ q=>q
theorem Un.laid (k:∀ b u,h.get? b=some u→h'.get? b=some u) (hp:h.objs.size≤a) (hn:H a=none):Un fs ex H (upd H a o) h h' where
 keep:=fun b u q _ _ _=>k b u q
 slot:=fun b u q _ _ _=>⟨u.slots,k b u q⟩
 free:=fun b u q n _=>by rw [zah_ (Nat.ne_of_lt (Nat.lt_of_lt_of_le (Heap.lt_size q) hp))]; exact n
 there:=fun b u q _=>⟨u,k b u q⟩
 tups:=fun b xs q=>by rw [zah_ (zbl_ q hn)]; exact q
 frzs:=fun b u xs q=>by rw [zah_ (zbl_ q hn)]; exact q
 tbls:=fun b ps q=>⟨#[],by rw [zah_ (zbl_ q hn),q]; simp⟩
theorem Un.write (mu:Mut (H x)) (he:e=x∨H e=some (.own x)) (k:∀ b u,b≠e→h.get? b=some u→h'.get? b=some u) (heo:∃ u,h'.get? e=some u):Un fs ex H (upd H x o) h h':=by
 have hx:∀ b,H b=none→b≠x:=fun b n z=>by subst z; rw [n] at mu; exact mu
 have hb:∀ b,H b=none→b≠e:=fun b n z=>by
  subst z
  rcases he with r | r
  ·exact hx b n r
  ·rw [n] at r; cases r
 have hm:∀ b u,H b=some u→¬ Mut (some u)→b≠x:=fun b u q nm z=>by subst z; rw [q] at mu; exact nm mu
 refine ⟨fun b u q n _ _=>k b u (hb b n) q,fun b u q n _ _=>⟨u.slots,k b u (hb b n) q⟩,fun b u q n _=>by rw [zah_ (hx b n)]; exact n,fun b u q _=>?_,
  fun b xs q=>by rw [zah_ (hm b _ q fun z=>z)]; exact q,fun b u xs q=>by rw [zah_ (hm b _ q fun z=>z)]; exact q,fun b ps q=>⟨#[],by rw [zah_ (hm b _ q fun z=>z),q]; simp⟩⟩
 by_cases hbe:b=e
 ·subst hbe; exact heo
 ·exact ⟨u,k b u hbe q⟩
end
def trk (h:Heap) (H:Hp):List Addr:=(List.range h.objs.size).filter fun a=>(H a).isSome
def hidT (h:Heap) (H:Hp):Heap:=PySem.W.hideAll h (trk h H)
theorem zj9_ (h:Heap) (H:Hp):(hidT h H).objs.size=h.objs.size:=PySem.W.hideAll_size _ _
theorem zlB_ {h:Heap}{H:Hp}{b:Addr}{o:Obj}(e:h.get? b=some o) (n:H b=none):(hidT h H).get? b=some o :=
 PySem.W.hideAll_get _ e fun hm=>by
  have q:(H b).isSome=true:=(List.mem_filter.mp hm).2
  rw [n] at q; simp at q
theorem zmM_ {h:Heap}{H:Hp}{b:Addr}{o:Obj}(e:(hidT h H).get? b=some o):h.get? b=some o∧H b=none:=by
 have e':h.get? b=some o:=PySem.W.of_hideAll (trk h H) e
 refine ⟨e',?_⟩
 cases q:H b with
 | none=>rfl
 | some x =>
  have hm:b∈trk h H:=List.mem_filter.mpr ⟨List.mem_range.mpr (Heap.lt_size e'),by simp [q]⟩
  have z:(hidT h H).get? b=none:=PySem.W.hideAll_none (trk h H) hm
  rw [z] at e; cases e
def allNews (g h:Heap) (L:Addr):Pnn:=(List.range h.objs.size).filterMap fun a=>if a=L∨(g.get? a).isSome=true then none else (h.get? a).map fun o=>(a,o)
def rest (g h:Heap) (L d:Addr):Pnn:=(allNews g h L).filter fun p=>decide (p.1≠d)
end L2
namespace L2
open PySem PySem.Spec PyProof.Rows
structure Mod (K:Fgg) (mg:Str→Option Value) (base:Heap):Prop where
 kin:K.In base
 glob:base.Ns mainGlobals mg
 blt:∃ mb,base.Ns builtinsNs mb∧∀ x:Str,x ≠ "__name__" → mb x=bootBuiltins x
 nolimit:base.NoLimit
structure Cx where
 prog:Program
 w:World
 K:Fgg
 mg:Str→Option Value
 base:Heap
 A:Around
 N:List Str
 s₀:Shared
 H₀:Hp
 env:Env
 outer:List Env
 stack:List Env
 ex:List Addr
 fn:Str→Bool
 calm:Bool
 pn:Pnn
 xe:Value→Shared→Prop
def frs (l:List Env):List Addr:=l.filterMap (·.frame)
abbrev Cx.fs (X:Cx):List Addr:=frs X.outer
def Vis (sc:Scope) (x:Str):Prop:=sc.names.lookup x=some .local∨sc.names.lookup x=some .cell∨sc.names.lookup x=some .free
def Loc (sc:Scope) (x:Str):Prop:=sc.names.lookup x=some .local∨sc.names.lookup x=some .cell
def Look (env:Env) (h:Heap) (m:Str→Option Value) (x:Str) (u:Value):Prop :=
 (env.kindOf x=some .local∧m x=some u)∨((env.kindOf x=some .cell∨env.kindOf x=some .free)∧∃ c,env.cells.lookup x=some c∧h.IsCell c (some u))
structure Cx.Ok (X:Cx):Prop where
 mod:Mod X.K X.mg X.base
 kind:X.env.scope.kind=.function
 glob:X.env.globals=mainGlobals
 blt:X.env.builtins=builtinsNs
 above:X.s₀.heap.objs.size≤X.env.locals
 inj:∀ x y c,X.env.cells.lookup x=some c→X.env.cells.lookup y=some c→x=y
 has:∀ x,(X.env.kindOf x=some .cell∨X.env.kindOf x=some .free)→∃ c,X.env.cells.lookup x=some c
 cab:∀ x c,X.fn x=true→X.env.cells.lookup x=some c→X.s₀.heap.objs.size≤c
 hd:X.calm=true→X.A.handled=none
 frames:X.A.frames=some X.stack
 stk:X.stack=X.outer∨(X.stack=X.env::X.outer∧X.env.frame=some X.env.locals)
 exf:∀ b∈X.ex,b≠X.env.locals∧∀ x c,X.env.cells.lookup x=some c→c≠b
 bs:∀ b o,X.base.get? b=some o→X.s₀.heap.get? b=some o∧X.H₀ b=none
 bsz:X.base.objs.size≤X.s₀.heap.objs.size
 noex:∀ b o,X.base.get? b=some o→b∉X.ex
 exfs:∀ b∈X.ex,b∉X.fs
 funs:X.s₀.heap.FunFrames X.base X.outer
 frf:∀ b∈X.fs,X.H₀ b=none
structure Inv (X:Cx) (pins:Pnn) (σ:List (Option V)) (H:Hp) (s:Shared):Prop where
 ok:X.Ok
 os:s.os=X.s₀.os
 bare:AllBare s.gens
 base:Un X.fs X.ex X.H₀ H X.s₀.heap s.heap
 loc:∃ m,s.heap.Ns X.env.locals m∧∀ (i:Nat) (x:Str) (v:V),X.N[i]?=some x→σ[i]?=some (some v)→Vis X.env.scope x→∃ u,RelV v u∧Look X.env s.heap m x u
 cell:∀ x c,X.env.cells.lookup x=some c→∃ v,s.heap.IsCell c v
 free:H X.env.locals=none
 freeC:∀ x c,X.env.cells.lookup x=some c→H c=none
 pin:∀ p∈X.pn++pins,s.heap.get? p.1=some p.2∧H p.1=none∧p.1≠X.env.locals∧p.1∉X.fs∧∀ v,p.2.data≠.cell v
 hok:HOk X.prog X.w H s.heap
 len:σ.length=X.N.length
section
variable {X:Cx}{pins:Pnn}{σ:List (Option V)}{H H':Hp}{s:Shared}{h':Heap}
theorem Cx.Ok.nofr (ok:X.Ok) {b:Addr}{o:Obj}(e:X.base.get? b=some o):b∉X.fs:=fun hb=>by
 have:=(ok.funs.mem hb).1
 rw [e] at this; cases this
theorem Inv.bs (I:Inv X pins σ H s):∀ b o,X.base.get? b=some o→s.heap.get? b=some o∧H b=none:=fun b o e =>
 ⟨I.base.keep b o (I.ok.bs b o e).1 (I.ok.bs b o e).2 (I.ok.nofr e) (I.ok.noex b o e),I.base.free b o (I.ok.bs b o e).1 (I.ok.bs b o e).2 (I.ok.noex b o e)⟩
theorem Inv.bk (I:Inv X pins σ H s):∀ b o,X.base.get? b=some o→s.heap.get? b=some o:=fun b o e=>(I.bs b o e).1
theorem Inv.mod (I:Inv X pins σ H s):Mod X.K X.mg X.base:=I.ok.mod
theorem Inv.kIn (I:Inv X pins σ H s):X.K.In s.heap:=I.ok.mod.kin.keeps I.bk
theorem Inv.lt (I:Inv X pins σ H s):X.env.locals<s.heap.objs.size:=let ⟨_,hn,_⟩:=I.loc; hn.lt
theorem Inv.sz (I:Inv X pins σ H s):X.s₀.heap.objs.size≤s.heap.objs.size:=Nat.le_trans I.ok.above (Nat.le_of_lt I.lt)
theorem Inv.nofs (I:Inv X pins σ H s) {a:Addr}(h:s.heap.objs.size≤a):a∉X.fs:=fun hb=>by
 obtain ⟨_,o,ho,_⟩:=I.ok.funs.mem hb
 exact absurd (Nat.lt_of_lt_of_le (Heap.lt_size ho) (Nat.le_trans I.sz h)) (Nat.lt_irrefl _)
theorem Inv.cne (I:Inv X pins σ H s):∀ x c,X.env.cells.lookup x=some c→c≠X.env.locals:=fun x c e z=>by
 obtain ⟨v,o,ho,hd⟩:=I.cell x c e
 obtain ⟨m,⟨o',es,ep,ho',hd',_⟩,_⟩:=I.loc
 rw [z,ho'] at ho; cases ho; rw [hd'] at hd; cases hd
theorem Inv.funs (I:Inv X pins σ H s):s.heap.FunFrames X.base X.outer:=by
 have all:∀ (l:List Env),(∀ b∈frs l,b∈X.fs)→X.s₀.heap.FunFrames X.base l→s.heap.FunFrames X.base l:=by
  intro l
  induction l with
  | nil=>intro _ _; trivial
  | cons env r ih =>
   intro hs hl
   obtain ⟨hk,⟨L,o,hf,hn,ho,hd⟩,hr⟩:=hl
   have hL:L∈X.fs:=hs L (by unfold frs; rw [List.filterMap_cons,hf]; exact List.mem_cons_self)
   obtain ⟨sl,e⟩:=I.base.slot L o ho (I.ok.frf L hL) hL fun z=>I.ok.exfs L z hL
   exact ⟨hk,⟨L,_,hf,hn,e,hd⟩,ih (fun b hb=>hs b (by unfold frs; rw [List.filterMap_cons,hf]; exact List.mem_cons_of_mem _ hb)) hr⟩
 exact all X.outer (fun _ hb=>hb) I.ok.funs
theorem Inv.stack (I:Inv X pins σ H s):s.heap.FunFrames X.base X.stack:=by
 rcases I.ok.stk with e | ⟨e,hf⟩
 ·rw [e]; exact I.funs
 ·rw [e]
  obtain ⟨m,hn,_⟩:=I.loc
  refine .cons (by rw [I.ok.kind]; decide) hf hn ?_ I.funs
  exact Heap.get?_none_of_le (Nat.le_trans I.ok.bsz I.ok.above)
theorem Inv.stkSub (I:Inv X pins σ H s):∀ b∈frs X.stack,b∈X.env.locals::X.fs:=fun b hb=>by
 rcases I.ok.stk with e | ⟨e,hf⟩
 ·rw [e] at hb; exact List.mem_cons_of_mem _ hb
 ·rw [e] at hb
  unfold frs at hb
  rw [List.filterMap_cons,hf] at hb
  exact hb
theorem Inv.stkFree (I:Inv X pins σ H s):∀ b∈frs X.stack,H b=none:=fun b hb=>by
 rcases List.mem_cons.mp (I.stkSub b hb) with e | hb
 ·rw [e]; exact I.free
 ·obtain ⟨_,o,ho,_⟩:=I.ok.funs.mem hb
  exact I.base.free b o ho (I.ok.frf b hb) fun z=>I.ok.exfs b z hb
theorem Inv.step {g':Array GenState}{t':Nat}{d':Drawn}{ch:List Addr}(I:Inv X pins σ H s)
  (hch:∀ b∈ch,(b∈X.ex∨X.s₀.heap.objs.size≤b)∧b≠X.env.locals∧(∀ x c,X.env.cells.lookup x=some c→c≠b)∧∀ p∈X.pn++pins,p.1≠b)
  (keep:∀ b o,b≠X.env.locals→b∉X.fs→b∉ch→s.heap.get? b=some o→H b=none→h'.get? b=some o)
  (slot:∀ b o,b≠X.env.locals→b∈X.fs→b∉ch→s.heap.get? b=some o→H b=none→∃ sl,h'.get? b=some { o with slots:=sl }) (free:∀ b o,b∉ch→s.heap.get? b=some o→H b=none→H' b=none)
  (there:∀ b o,b∉ch→s.heap.get? b=some o→∃ o',h'.get? b=some o')
  (tups:∀ b xs,H b=some (.tup xs)→H' b=some (.tup xs)) (frzs:∀ b o u,H b=some (.frz o u)→H' b=some (.frz o u)) (tbls:∀ b ps,H b=some (.tbl ps)→∃ more,H' b=some (.tbl (ps++more)))
  (ns:∀ m,s.heap.Ns X.env.locals m→h'.Ns X.env.locals m) (hok:HOk X.prog X.w H' h') (hg:AllBare g') :
  Inv X pins σ H' { s with heap:=h',gens:=g',drawn:=d',toks:=t' }:=by
 have neL:∀ b o,X.s₀.heap.get? b=some o→b≠X.env.locals:=fun b o e=>Nat.ne_of_lt (Nat.lt_of_lt_of_le (Heap.lt_size e) I.ok.above)
 have neC:∀ b o,X.s₀.heap.get? b=some o→b∉X.ex→b∉ch:=fun b o e hx hb=>by
  rcases (hch b hb).1 with z | z
  ·exact hx z
  ·exact absurd (Nat.lt_of_lt_of_le (Heap.lt_size e) z) (Nat.lt_irrefl _)
 have cellK:∀ x c,X.env.cells.lookup x=some c→∀ v,s.heap.IsCell c v→h'.IsCell c v:=fun x c e v ⟨o,ho,hd⟩=>by
  have nch:c∉ch:=fun z=>(hch c z).2.2.1 x c e rfl
  by_cases hc:c∈X.fs
  ·obtain ⟨sl,q⟩:=slot c o (I.cne x c e) hc nch ho (I.freeC x c e)
   exact ⟨_,q,hd⟩
  ·exact ⟨o,keep c o (I.cne x c e) hc nch ho (I.freeC x c e),hd⟩
 refine ⟨I.ok,I.os,hg,⟨fun b o e n hb hx=>?_,fun b o e n hb hx=>?_,fun b o e n hx=>?_,fun b o e hx=>?_,fun b xs e=>tups b xs (I.base.tups b xs e),fun b o xs e=>frzs b o xs (I.base.frzs b o xs e),fun b ps e=>?_⟩,?_,fun x c e=>?_,?_,fun x c e=>?_,fun p hp=>?_,hok,I.len⟩
 ·exact keep b o (neL b o e) hb (neC b o e hx) (I.base.keep b o e n hb hx) (I.base.free b o e n hx)
 ·obtain ⟨sl,e1⟩:=I.base.slot b o e n hb hx
  obtain ⟨sl',e2⟩:=slot b _ (neL b o e) hb (neC b o e hx) e1 (I.base.free b o e n hx)
  exact ⟨sl',e2⟩
 ·obtain ⟨o',e1⟩:=I.base.there b o e hx
  exact free b o' (neC b o e hx) e1 (I.base.free b o e n hx)
 ·obtain ⟨o',e1⟩:=I.base.there b o e hx
  exact there b o' (neC b o e hx) e1
 ·obtain ⟨m1,e1⟩:=I.base.tbls b ps e
  obtain ⟨m2,e2⟩:=tbls b _ e1
  exact ⟨m1++m2,by rw [e2,Array.append_assoc]⟩
 ·obtain ⟨m,hn,hl⟩:=I.loc
  refine ⟨m,ns m hn,fun i x v e1 e2 e3=>?_⟩
  obtain ⟨u,r,l⟩:=hl i x v e1 e2 e3
  refine ⟨u,r,?_⟩
  rcases l with l | ⟨k,c,e,z⟩
  ·exact .inl l
  ·exact .inr ⟨k,c,e,cellK x c e _ z⟩
 ·obtain ⟨v,z⟩:=I.cell x c e
  exact ⟨v,cellK x c e v z⟩
 ·obtain ⟨m,⟨o,_,_,ho,_⟩,_⟩:=I.loc
  exact free _ o (fun z=>(hch _ z).2.1 rfl) ho I.free
 ·obtain ⟨v,o,ho,hd⟩:=I.cell x c e
  exact free c o (fun z=>(hch c z).2.2.1 x c e rfl) ho (I.freeC x c e)
 ·obtain ⟨e,n,ne,nf,d⟩:=I.pin p hp
  have nch:p.1∉ch:=fun z=>(hch p.1 z).2.2.2 p hp rfl
  exact ⟨keep p.1 p.2 ne nf nch e n,free p.1 p.2 nch e n,ne,nf,d⟩
theorem Inv.un {t':Nat}(I:Inv X pins σ H s) (u:Un X.fs [] H H' s.heap h') (hok:HOk X.prog X.w H' h'):Inv X pins σ H' { s with heap:=h',toks:=t' }:=by
 obtain ⟨m,⟨o,es,ep,ho,r⟩,_⟩:=id I.loc
 obtain ⟨sl,hL⟩:=u.any ho I.free (by simp)
 exact I.step (g':=s.gens) (d':=s.drawn) (ch:=[]) (fun _ z=>nomatch z) (fun b o _ hb _ e n=>u.keep b o e n hb (by simp)) (fun b o _ hb _ e n=>u.slot b o e n hb (by simp)) (fun b o _ e n=>u.free b o e n (by simp)) (fun b o _ e=>u.there b o e (by simp)) u.tups u.frzs u.tbls (fun m' hm=>by
  obtain ⟨o',es',ep',ho',r'⟩:=hm
  rw [ho] at ho'; cases ho'
  exact ⟨_,es',ep',hL,r'⟩) hok I.bare
theorem Inv.call {g':Array GenState}{t':Nat}{d':Drawn}{ch:List Addr}(I:Inv X pins σ H s) (u:Un (frs X.stack) ch H H' s.heap h') (hok:HOk X.prog X.w H' h') (hg:AllBare g')
  (hch:∀ b∈ch,(b∈X.ex∨X.s₀.heap.objs.size≤b)∧b≠X.env.locals∧(∀ x c,X.env.cells.lookup x=some c→c≠b)∧∀ p∈X.pn++pins,p.1≠b) :
  Inv X pins σ H' { s with heap:=h',gens:=g',drawn:=d',toks:=t' }:=by
 obtain ⟨m,⟨o,es,ep,ho,r⟩,_⟩:=id I.loc
 obtain ⟨sl,hL⟩:=u.any ho I.free fun z=>(hch _ z).2.1 rfl
 exact I.step (ch:=ch) hch (fun b o hL hb hc e n=>u.keep b o e n (fun z=>(List.mem_cons.mp (I.stkSub b z)).elim hL hb) hc) (fun b o _ _ hc e n=>u.any e n hc) (fun b o hc e n=>u.free b o e n hc) (fun b o hc e=>u.there b o e hc) u.tups u.frzs u.tbls (fun m' hm=>by
  obtain ⟨o',es',ep',ho',r'⟩:=hm
  rw [ho] at ho'; cases ho'
  exact ⟨_,es',ep',hL,r'⟩) hok hg
theorem Inv.turned {t':Nat}{it:Addr}(I:Inv X pins σ H s) (k:∀ b o,b≠it→s.heap.get? b=some o→h'.get? b=some o) (hn:H it=none) (hL:it≠X.env.locals)
  (h1:it∈X.ex∨X.s₀.heap.objs.size≤it) (h2:∀ x c,X.env.cells.lookup x=some c→c≠it) (h3:∀ p∈X.pn++pins,p.1≠it):Inv X pins σ H { s with heap:=h',toks:=t' }:=by
 have nit:∀ b u,H b=some u→b≠it:=fun b u e z=>by rw [z,hn] at e; cases e
 refine I.step (g':=s.gens) (d':=s.drawn) (ch:=[it]) (fun b hb=>?_) (fun b o _ _ hc e _=>k b o (fun z=>hc (by simp [z])) e) (fun b o _ _ hc e _=>⟨o.slots,k b o (fun z=>hc (by simp [z])) e⟩) (fun _ _ _ _ n=>n)
  (fun b o hc e=>⟨o,k b o (fun z=>hc (by simp [z])) e⟩) (fun _ _ e=>e) (fun _ _ _ e=>e) (fun b ps e=>⟨#[],by rw [e]; simp⟩) (fun m hm=>?_) (fun b u e=>?_) I.bare
 ·have e:b=it:=by simpa using hb
  subst e
  exact ⟨h1,hL,h2,h3⟩
 ·obtain ⟨o,es,ep,ho,r⟩:=hm
  exact ⟨o,es,ep,k _ o (Ne.symm hL) ho,r⟩
 ·refine (I.hok b u e).stay (fun c v hc q=>k c v ?_ q) (fun _ q=>q) fun _ _ q=>q
  rcases hc with z | z
  ·rw [z]; exact nit b u e
  ·exact nit c _ z
theorem Inv.tok (I:Inv X pins σ H s) (t:Nat):Inv X pins σ H { s with toks:=t }:=I.un (h':=s.heap) (t':=t) Un.refl I.hok
theorem Inv.kept {t':Nat}(I:Inv X pins σ H s) (k:∀ b u,s.heap.get? b=some u→h'.get? b=some u):Inv X pins σ H { s with heap:=h',toks:=t' }:=I.un (Un.kept k) (I.hok.kept k)
theorem Inv.laid {a:Addr}{o:HO}{t':Nat}(I:Inv X pins σ H s) (k:∀ b u,s.heap.get? b=some u→h'.get? b=some u) (hp:s.heap.objs.size≤a) (new:ObjOk X.prog X.w (upd H a o) h' a o) :
  Inv X pins σ (upd H a o) { s with heap:=h',toks:=t' }:=I.un (Un.laid k hp (I.hok.fresh hp)) (I.hok.laid k hp new)
theorem Inv.write {x e:Addr}{o:HO}{t':Nat}(I:Inv X pins σ H s) (mu:Mut (H x)) (he:e=x∨H e=some (.own x)) (k:∀ b u,b≠e→s.heap.get? b=some u→h'.get? b=some u) (heo:∃ u,h'.get? e=some u)
  (new:ObjOk X.prog X.w (upd H x o) h' x o):Inv X pins σ (upd H x o) { s with heap:=h',toks:=t' }:=I.un (Un.write mu he k heo) (I.hok.write mu he k heo new)
theorem Inv.pins_of {pins':Pnn}(I:Inv X pins σ H s) (h:∀ p∈pins',s.heap.get? p.1=some p.2∧H p.1=none∧p.1≠X.env.locals∧p.1∉X.fs∧∀ v,p.2.data≠.cell v):Inv X pins' σ H s :=
 ⟨I.ok,I.os,I.bare,I.base,I.loc,I.cell,I.free,I.freeC,fun p hp=>(List.mem_append.mp hp).elim (fun z=>I.pin p (List.mem_append_left _ z)) (h p),I.hok,I.len⟩
theorem zhP_ {N:List Str}(hN:N.Nodup) {i j:Nat}{x:Str}(a:N[i]?=some x) (b:N[j]?=some x):i=j:=by
 obtain ⟨h1,e1⟩:=List.getElem?_eq_some_iff.mp a
 obtain ⟨h2,e2⟩:=List.getElem?_eq_some_iff.mp b
 exact (List.getElem_inj hN).mp (e1.trans e2.symm)
theorem zjK_ {M:Model}{A:Around}{E:Value→Shared→Prop}{i:Nat}{x:Str}{v:V}{u:Value}{Q:Unit→Shared→Prop}(I:Inv X pins σ H s) (hN:X.N.Nodup) (hi:X.N[i]?=some x) (hx:Loc X.env.scope x) (r:RelV v u)
  (h:∀ s',Inv X pins (σ.set i (some v)) H s'→(∃ a,Heap.SameBut a s.heap s'.heap∧(a=X.env.locals∨X.env.cells.lookup x=some a))→Q () s') (hf:X.fn x=true∨X.env.scope.names.lookup x=some .local:=by first | exact .inl rfl | exact .inr rfl | assumption):wpAny M A (storeName X.env x u) Q E s:=by
 obtain ⟨m,hn,hl⟩:=id I.loc
 have hcls:(X.env.scope.kind == .class || (X.env.scope.kind == .module && X.env.locals != X.env.globals))=false:=by rw [I.ok.kind]; rfl
 have hiσ:i<σ.length:=by rw [I.len]; exact (List.getElem?_eq_some_iff.mp hi).1
 have cne:=I.cne
 have tracked:∀ {a:Addr}{h':Heap},(∃ o,s.heap.get? a=some o∧H a=none)→Heap.SameBut a s.heap h'→HOk X.prog X.w H h':=fun {a h'} ha hs b ob e=>by
  obtain ⟨_,_,hfree⟩:=ha
  refine (I.hok b ob e).stay (fun c w' hc q=>(hs.2 c ?_).trans q) (fun _ q=>q) fun _ _ q=>q
  rintro rfl
  rcases hc with rfl | hc
  ·rw [hfree] at e; cases e
  ·rw [hfree] at hc; cases hc
 rcases hx with hk | hk
 ·refine wpAny_storeName_local hk hn (fun h' hn' hs=>?_) hcls
  obtain ⟨oL,_,_,hoL,_⟩:=id hn
  refine h _ ⟨I.ok,I.os,I.bare,⟨fun b o e n hb hx=>?_,fun b o e n hb hx=>?_,I.base.free,fun b o e hx=>?_,I.base.tups,I.base.frzs,I.base.tbls⟩,⟨_,hn',fun j y v' e1 e2 e3=>?_⟩,fun y c e=>?_,I.free,I.freeC,fun p hp=>?_,tracked ⟨oL,hoL,I.free⟩ hs,by simpa using I.len⟩ ⟨_,hs,.inl rfl⟩
  ·exact (hs.2 b (Nat.ne_of_lt (Nat.lt_of_lt_of_le (Heap.lt_size e) I.ok.above))).trans (I.base.keep b o e n hb hx)
  ·obtain ⟨sl,e1⟩:=I.base.slot b o e n hb hx
   exact ⟨sl,(hs.2 b (Nat.ne_of_lt (Nat.lt_of_lt_of_le (Heap.lt_size e) I.ok.above))).trans e1⟩
  ·obtain ⟨o',e1⟩:=I.base.there b o e hx
   exact ⟨o',(hs.2 b (Nat.ne_of_lt (Nat.lt_of_lt_of_le (Heap.lt_size e) I.ok.above))).trans e1⟩
  ·by_cases hj:j=i
   ·subst hj
    rw [hi] at e1; cases e1
    rw [List.getElem?_set_self hiσ] at e2
    cases e2
    exact ⟨u,r,.inl ⟨hk,by simp⟩⟩
   ·rw [List.getElem?_set_ne (Ne.symm hj)] at e2
    obtain ⟨u',r',q⟩:=hl j y v' e1 e2 e3
    refine ⟨u',r',?_⟩
    rcases q with ⟨k,e⟩ | ⟨k,c,e,z⟩
    ·refine .inl ⟨k,?_⟩
     have:y≠x:=fun e=>hj (zhP_ hN e1 (e ▸ hi))
     simp [this,e]
    ·exact .inr ⟨k,c,e,z.sameBut hs (cne y c e)⟩
  ·obtain ⟨w',z⟩:=I.cell y c e
   exact ⟨w',z.sameBut hs (cne y c e)⟩
  ·obtain ⟨e,n,ne,nf,d⟩:=I.pin p hp
   exact ⟨(hs.2 p.1 ne).trans e,n,ne,nf,d⟩
 ·have hfn:X.fn x=true:=by
   rcases hf with z | z
   ·exact z
   ·rw [z] at hk; cases hk
  obtain ⟨c,hc⟩:=I.ok.has x (.inl hk)
  obtain ⟨w',z⟩:=I.cell x c hc
  refine wpAny_storeName_cell I.ok.kind hk hc z (fun h' hc' hs=>?_)
  obtain ⟨oc,hoc,hocd⟩:=id z
  refine h { s with heap:=h' } ⟨I.ok,I.os,I.bare,⟨fun b o e n hb hx=>?_,fun b o e n hb hx=>?_,I.base.free,fun b o e hx=>?_,I.base.tups,I.base.frzs,I.base.tbls⟩,⟨m,hn.sameBut hs (Ne.symm (cne x c hc)),fun j y v' e1 e2 e3=>?_⟩,fun y c' e=>?_,I.free,I.freeC,fun p hp=>?_,tracked ⟨oc,hoc,I.freeC x c hc⟩ hs,by simpa using I.len⟩ ⟨c,hs,.inr hc⟩
  ·exact (hs.2 b (Nat.ne_of_lt (Nat.lt_of_lt_of_le (Heap.lt_size e) (I.ok.cab x c hfn hc)))).trans (I.base.keep b o e n hb hx)
  ·obtain ⟨sl,e1⟩:=I.base.slot b o e n hb hx
   exact ⟨sl,(hs.2 b (Nat.ne_of_lt (Nat.lt_of_lt_of_le (Heap.lt_size e) (I.ok.cab x c hfn hc)))).trans e1⟩
  ·obtain ⟨o',e1⟩:=I.base.there b o e hx
   exact ⟨o',(hs.2 b (Nat.ne_of_lt (Nat.lt_of_lt_of_le (Heap.lt_size e) (I.ok.cab x c hfn hc)))).trans e1⟩
  ·by_cases hj:j=i
   ·subst hj
    rw [hi] at e1; cases e1
    rw [List.getElem?_set_self hiσ] at e2
    cases e2
    exact ⟨u,r,.inr ⟨.inl hk,c,hc,hc'⟩⟩
   ·rw [List.getElem?_set_ne (Ne.symm hj)] at e2
    obtain ⟨u',r',q⟩:=hl j y v' e1 e2 e3
    refine ⟨u',r',?_⟩
    rcases q with q | ⟨k,c',e,z'⟩
    ·exact .inl q
    ·refine .inr ⟨k,c',e,z'.sameBut hs ?_⟩
     rintro rfl
     exact hj (zhP_ hN e1 (I.ok.inj _ _ _ e hc ▸ hi))
  ·by_cases hcc:c'=c
   ·subst hcc; exact ⟨_,hc'⟩
   ·obtain ⟨w2,z2⟩:=I.cell y c' e
    exact ⟨w2,z2.sameBut hs hcc⟩
  ·obtain ⟨e,n,ne,nf,d⟩:=I.pin p hp
   refine ⟨(hs.2 p.1 ?_).trans e,n,ne,nf,d⟩
   intro q
   rw [q,hoc] at e
   have q':oc=p.2:=Option.some.inj e
   exact d w' (by rw [← q']; exact hocd)
theorem zjk_ {M:Model}{A:Around}{E:Value→Shared→Prop}{i:Nat}{x:Str}{v:V}{u:Value}{Q:Unit→Shared→Prop}(I:Inv X pins σ H s) (hN:X.N.Nodup) (hi:X.N[i]?=some x) (hx:Loc X.env.scope x) (r:RelV v u)
  (h:∀ s',Inv X pins (σ.set i (some v)) H s'→Q () s') (hf:X.fn x=true∨X.env.scope.names.lookup x=some .local:=by first | exact .inl rfl | exact .inr rfl | assumption):wpAny M A (storeName X.env x u) Q E s :=
 zjK_ I hN hi hx r (fun s' I' _=>h s' I') hf
theorem Inv.call' {s':Shared}{ch:List Addr}(I:Inv X pins σ H s) (ho:s'.os=s.os) (u:Un (frs X.stack) ch H H' s.heap s'.heap) (hok:HOk X.prog X.w H' s'.heap) (hg:AllBare s'.gens)
  (hch:∀ b∈ch,(b∈X.ex∨X.s₀.heap.objs.size≤b)∧b≠X.env.locals∧(∀ x c,X.env.cells.lookup x=some c→c≠b)∧∀ p∈X.pn++pins,p.1≠b):Inv X pins σ H' s':=by
 obtain ⟨h',g',d',t',o'⟩:=s'
 have e:o'=s.os:=ho
 subst e
 exact I.call (g':=g') (t':=t') (d':=d') u hok hg hch
end
abbrev XK:=Value→Option Addr→Hp→Prop
abbrev St:=List (Option V)
abbrev VK:=V→Hp→Prop
abbrev TE:=St→Hp→VK→Prop
abbrev TT:=St→Hp→(Bool→Hp→Prop)→Prop
abbrev TA:=St→Hp→(List V→Hp→Prop)→Prop
structure Ends where
 nx:St→Hp→Prop
 rt:VK
 bk:St→Hp→Prop:=fun _ _=>False
 ct:St→Hp→Prop:=fun _ _=>False
abbrev TS:=Ends→St→Hp→Prop
def EP (X:Cx) (pins:Pnn) (σ:St) (Q:VK) (u:Value) (s':Shared):Prop:=∃ v H',Inv X pins σ H' s'∧RelV v u∧Q v H'
def TP (X:Cx) (pins:Pnn) (σ:St) (Q:Bool→Hp→Prop) (b:Bool) (s':Shared):Prop:=∃ H',Inv X pins σ H' s'∧Q b H'
def AP (X:Cx) (pins:Pnn) (σ:St) (Q:List V→Hp→Prop) (us:List Value) (s':Shared):Prop:=∃ vs H',Inv X pins σ H' s'∧Vals vs us∧Q vs H'
def SP (X:Cx) (pins:Pnn) (D:Ends) (f:Flow) (s':Shared):Prop :=
 match f with
 | .next=>∃ σ' H',Inv X pins σ' H' s'∧D.nx σ' H'
 | .brk=>∃ σ' H',Inv X pins σ' H' s'∧D.bk σ' H'
 | .cont=>∃ σ' H',Inv X pins σ' H' s'∧D.ct σ' H'
 | .ret u=>∃ v σ' H',Inv X pins σ' H' s'∧RelV v u∧D.rt v H'
def PE (X:Cx) (e:Expr) (t:TE):Prop :=
 ∀ (pins:Pnn) (s:Shared) (σ:St) (H:Hp) (Q:VK),Inv X pins σ H s→t σ H Q→wpAny (model X.prog X.w) X.A (eval e X.env) (EP X pins σ Q) X.xe s
def PT (X:Cx) (e:Expr) (t:TT):Prop :=
 ∀ (pins:Pnn) (s:Shared) (σ:St) (H:Hp) (Q:Bool→Hp→Prop),Inv X pins σ H s→t σ H Q→wpAny (model X.prog X.w) X.A (isTrue e X.env (eval e X.env)) (TP X pins σ Q) X.xe s
def PW (X:Cx) (e:Expr) (t:TT):Prop :=
 ∀ (whole:Sem Value) (pins:Pnn) (s:Shared) (σ:St) (H:Hp) (Q:Bool→Hp→Prop),Inv X pins σ H s→t σ H Q→wpAny (model X.prog X.w) X.A (isTrue e X.env whole) (TP X pins σ Q) X.xe s
theorem PW.pt {X:Cx}{e:Expr}{t:TT}(h:PW X e t):PT X e t:=h _
def PA (X:Cx) (es:List Expr) (t:TA):Prop :=
 ∀ (pos:Pos) (pins:Pnn) (s:Shared) (σ:St) (H:Hp) (Q:List V→Hp→Prop),Inv X pins σ H s→t σ H Q→wpAny (model X.prog X.w) X.A (spliced (backTo pos (starEach es X.env))) (AP X pins σ Q) X.xe s
def PS (X:Cx) (st:Stmt) (t:TS):Prop :=
 ∀ (pins:Pnn) (s:Shared) (σ:St) (H:Hp) (D:Ends),Inv X pins σ H s→t D σ H→wpAny (model X.prog X.w) X.A (exec st X.env) (SP X pins D) X.xe s
def PSs (X:Cx) (st:List Stmt) (t:TS):Prop :=
 ∀ (pins:Pnn) (s:Shared) (σ:St) (H:Hp) (D:Ends),Inv X pins σ H s→t D σ H→wpAny (model X.prog X.w) X.A (execs st X.env) (SP X pins D) X.xe s
theorem thn {α:Type}{t:Sem α}{Q Q':α→Shared→Prop}{M:Model}{A:Around}{E:Value→Shared→Prop}{s:Shared}(h:wpAny M A t Q E s) (hQ:∀ a s,Q a s→Q' a s):wpAny M A t Q' E s:=wpAny_mono h hQ fun _ _ x=>x
end L2
namespace L2
open PySem PySem.Spec PyProof.Rows
section
variable {X:Cx}
theorem bin {a b:Expr}{ta tb:TE}(ha:PE X a ta) (hb:PE X b tb) {pins:Pnn}{s:Shared}{σ:St}{H:Hp}{R:V→V→Hp→Prop}(I:Inv X pins σ H s) (h:ta σ H fun x H1=>tb σ H1 fun y H2=>R x y H2)
  {α:Type}{Q:α→Shared→Prop}{f:Value→Value→Sem α}
  (hf:∀ v u s2 x y H2,Inv X pins σ H2 s2→RelV x v→RelV y u→R x y H2→wpAny (model X.prog X.w) X.A (f v u) Q X.xe s2) :
  wpAny (model X.prog X.w) X.A (eval a X.env) (fun v s₁=>wpAny (model X.prog X.w) X.A (eval b X.env) (fun u s₂=>wpAny (model X.prog X.w) X.A (f v u) Q X.xe s₂) X.xe s₁) X.xe s:=by
 refine thn (ha pins s σ H _ I h) fun v s1 hq_=>?_
 obtain ⟨x,H1,I1,r1,q1⟩:=hq_
 refine thn (hb pins s1 σ H1 _ I1 q1) fun u s2 hq_=>?_
 obtain ⟨y,H2,I2,r2,q2⟩:=hq_
 exact hf v u s2 x y H2 I2 r1 r2 q2
def tVar (i:Nat):TE:=fun σ H Q=>∃ v,σ[i]?=some (some v)∧Q v H
def tC (v:V):TE:=fun _ H Q=>Q v H
theorem zoN_ {i:Nat}{x:Str}{pos:Pos}(hN:X.N[i]?=some x) (hv:Vis X.env.scope x) (hd:(x == ("__debug__" : Str))=false:=by decide) (hcd:(x == ("__classdict__" : Str))=false:=by decide):PE X (.Name x pos) (tVar i):=by
 intro pins s σ H Q I h
 obtain ⟨v,e,h⟩:=h
 obtain ⟨m,hn,hl⟩:=I.loc
 obtain ⟨u,r,l⟩:=hl i x v hN e hv
 have fin:EP X pins σ Q u s:=⟨v,H,I,r,h⟩
 rcases l with ⟨hk,hm⟩ | ⟨hk,c,hc,hcell⟩
 ·exact wpAny_Name (wpAny_loadName_local I.ok.kind hk hn hm fin) hd
 ·rcases hk with hk | hk
  ·exact wpAny_Name (wpAny_loadName_cell I.ok.kind hk hc hcell fin) hd
  ·exact wpAny_Name (wpAny_loadName_free I.ok.kind hk hc hcell fin hcd) hd
theorem zi_ {i j pos}:PE X (.Constant (.int i) j pos) (tC (.int i)):=fun _ _ _ H _ I h=>wpAny_Constant_int ⟨.int i,H,I.tok _,⟨_,rfl⟩,h⟩
theorem zkL_ {b j pos}:PE X (.Constant (.bool b) j pos) (tC (.bl b)):=fun _ _ _ H _ I h=>Constant_bool ⟨.bl b,H,I,rfl,h⟩
theorem zlr_ {j pos}:PE X (.Constant .none j pos) (tC .non):=fun _ _ _ H _ I h=>Constant_none ⟨.non,H,I,rfl,h⟩
theorem zo9_ {x j pos}:PE X (.Constant (.str x) j pos) (tC (.str x)):=fun _ _ _ H _ I h=>Calls.Constant_str ⟨.str x,H,I.tok _,⟨_,rfl⟩,h⟩
def Gl (X:Cx) (x:Str):Prop:=X.env.kindOf x=some .globalImplicit
theorem ziz_ {E:Value→Shared→Prop}{pins:Pnn}{s:Shared}{σ:St}{H:Hp}{x:Str}{u:Value}{pos:Pos}{Q:Value→Shared→Prop}(I:Inv X pins σ H s) (hg:Gl X x) (hm:X.mg x=some u) (h:Q u s)
  (hd:(x == ("__debug__" : Str))=false:=by decide):wpAny (model X.prog X.w) X.A (eval (.Name x pos) X.env) Q E s :=
 Calls.Name_function_global I.ok.kind hg (Calls.loadGlobal_global (by rw [I.ok.glob]; exact I.mod.glob.keeps I.bk) hm h) hd
theorem zfK_ {E:Value→Shared→Prop}{pins:Pnn}{s:Shared}{σ:St}{H:Hp}{x:Str}{u:Value}{pos:Pos}{Q:Value→Shared→Prop}(I:Inv X pins σ H s) (hg:Gl X x) (hm:X.mg x=none) (hv:bootBuiltins x=some u) (h:Q u s)
  (hn:x ≠ "__name__" := by decide) (hd:(x == ("__debug__" : Str))=false:=by decide):wpAny (model X.prog X.w) X.A (eval (.Name x pos) X.env) Q E s:=by
 obtain ⟨mb,h1,h2⟩:=I.mod.blt
 exact Calls.Name_function_global I.ok.kind hg (Calls.loadGlobal_builtin (by rw [I.ok.glob]; exact I.mod.glob.keeps I.bk) hm (by rw [I.ok.blt]; exact h1.keeps I.bk) ((h2 x hn).trans hv) h) hd
theorem zmB_ {x:Str}{v:V}{u:Value}{pos:Pos}(hg:Gl X x) (hm:X.mg x=some u) (r:RelV v u) (hd:(x == ("__debug__" : Str))=false:=by decide):PE X (.Name x pos) (tC v) :=
 fun _ _ _ H _ I h=>ziz_ I hg hm ⟨v,H,I,r,h⟩ hd
theorem zm1_ {x:Str}{v:V}{u:Value}{pos:Pos}(hg:Gl X x) (hm:X.mg x=none) (hv:bootBuiltins x=some u) (r:RelV v u) (hn:x ≠ "__name__" := by decide) (hd:(x == ("__debug__" : Str))=false:=by decide):PE X (.Name x pos) (tC v) :=
 fun _ _ _ H _ I h=>zfK_ I hg hm hv ⟨v,H,I,r,h⟩ hn hd
variable {a b:Expr}{ta tb:TE}{pos:Pos}
def PC (X:Cx) (op:CmpOp) (a b:Expr) (t:TE):Prop :=
 ∀ (pins:Pnn) (s:Shared) (σ:St) (H:Hp) (Q:VK),Inv X pins σ H s→t σ H Q →
  wpAny (model X.prog X.w) X.A (eval a X.env) (fun v s₁=>wpAny (model X.prog X.w) X.A (eval b X.env) (fun u s₂=>wpAny (model X.prog X.w) X.A (compareOp op v u) (EP X pins σ Q) X.xe s₂) X.xe s₁) X.xe s
theorem nobehind (b:Expr) {op:CmpOp}(h:op≠.In) (h2:op≠.NotIn):behindInMarks op b=false:=by
 have e1:(op == CmpOp.In)=false:=by cases op<;>first | rfl | exact absurd rfl h
 have e2:(op == CmpOp.NotIn)=false:=by cases op<;>first | rfl | exact absurd rfl h2
 cases b<;>simp [behindInMarks,e1,e2]
variable {tA tB':TT}{rest:List Expr}
def tNot (t:TT):TT:=fun σ H Q=>t σ H fun c H1=>Q (!c) H1
theorem zmO_ (ha:PT X a tA):PW X (.BoolOp .And [a] pos) tA:=by
 intro wh pins s σ H Q I h
 refine isTrue_and (thn (ha pins s σ H Q I h) fun c s1 e=>?_)
 cases c with
 | true=>exact isTrue_and_nil e
 | false=>exact e
theorem znJ_ (ha:PT X a tA):PW X (.BoolOp .Or [a] pos) tA:=by
 intro wh pins s σ H Q I h
 refine isTrue_or (thn (ha pins s σ H Q I h) fun c s1 e=>?_)
 cases c with
 | false=>exact isTrue_or_nil e
 | true=>exact e
theorem zlv_ (ha:PT X a tA):PT X (.UnaryOp .Not a pos) (tNot tA):=by
 intro pins s σ H Q I h
 exact isTrue_not (ha pins s σ H (fun c H1=>Q (!c) H1) I h)
theorem zoL_ {op} {t:TE}(h:PE X a t):PE X (.BoolOp op [a] pos) t:=fun pins s σ H Q I hw=>BoolOp_one (h pins s σ H Q I hw)
end
end L2
namespace L2
open PySem PySem.Spec PyProof.Rows
def SqL (K:Fgg) (H:Hp) (a:Addr) (xs:List V):Prop :=
 Rd H a (.lst xs) ∨
  ∃ (o:Obj) (its:Array Value) (n:Nat),K.lookup a=some o∧o.cls=.type "list" ∧ o.dict=none∧o.data=.seq its n∧its.size≤sizeLine∧Vals xs its.toList
def SqT (K:Fgg) (H:Hp) (a:Addr) (xs:List V):Prop :=
 Rd H a (.tup xs) ∨
  ∃ (o:Obj) (its:Array Value) (n:Nat),K.lookup a=some o∧o.cls=.type "tuple" ∧ o.data=.seq its n∧its.size≤sizeLine∧Vals xs its.toList
def absV:Value→Option V
 | .none=>some .non
 | .bool b=>some (.bl b)
 | .int i _=>some (.int i)
 | .str x _=>some (.str x)
 | .bytes b _=>some (.byt b)
 | .float b _=>some (.flt b)
 | .ref a=>some (.ref a)
 | .type n=>some (.ty n)
 | _=>none
theorem RelV.abs {x:V}{u:Value}(r:RelV x u):absV u=some x:=by
 cases x with
 | non=>cases r; rfl
 | bl _=>cases r; rfl
 | int _=>obtain ⟨t,rfl⟩:=r; rfl
 | str _=>obtain ⟨t,rfl⟩:=r; rfl
 | byt _=>obtain ⟨t,rfl⟩:=r; rfl
 | flt _=>obtain ⟨t,rfl⟩:=r; rfl
 | ref _=>cases r; rfl
 | ty _=>cases r; rfl
theorem RelV.inj {x y:V}{u:Value}(r:RelV x u) (q:RelV y u):x=y:=Option.some.inj (r.abs.symm.trans q.abs)
theorem Vals.inj:∀ {xs ys:List V}{us:List Value},Vals xs us→Vals ys us→xs=ys
 | _,_,_,.nil,.nil=>rfl
 | _,_,_,.cons r t,.cons r' t'=>by rw [r.inj r',Vals.inj t t']
section
variable {X:Cx}{pins:Pnn}{σ:St}{H:Hp}{s:Shared}{a:Addr}{xs ys:List V}
theorem SqL.of {K:Fgg}(h:H a=some (.lst xs)):SqL K H a xs:=.inl (.inl h)
theorem SqT.of {K:Fgg}(h:H a=some (.tup xs)):SqT K H a xs:=.inl (.inl h)
theorem Inv.list (I:Inv X pins σ H s) (h:SqL X.K H a xs):∃ its:List Value,Vals xs its∧PlainL s.heap a its.toArray∧xs.length≤sizeLine:=by
 rcases h with h | ⟨o,its,n,hk,hc,hd,hs,hz,r⟩
 ·obtain ⟨z,its,n,r,e⟩:=h.ok I.hok
  exact ⟨its,r,⟨_,n,e,rfl,rfl,rfl⟩,z⟩
 ·refine ⟨its.toList,r,⟨o,n,I.kIn a o hk,hc,hd,by simpa using hs⟩,?_⟩
  have e:=r.length
  simp only [Array.length_toList] at e
  lia
theorem Inv.tuple (I:Inv X pins σ H s) (h:SqT X.K H a xs):∃ its:List Value,Vals xs its∧IsTup s.heap a its.toArray∧xs.length≤sizeLine:=by
 rcases h with h | ⟨o,its,n,hk,hc,hs,hz,r⟩
 ·obtain ⟨z,its,r,p⟩:=h.ok I.hok
  exact ⟨its,r,p,z⟩
 ·refine ⟨its.toList,r,⟨o,I.kIn a o hk,hc,n,by simpa using hs⟩,?_⟩
  have e:=r.length
  simp only [Array.length_toList] at e
  lia
theorem Inv.list_inj (I:Inv X pins σ H s) (h:SqL X.K H a xs) (h':SqL X.K H a ys):xs=ys:=by
 obtain ⟨its,r,⟨o,n,e,_,_,d⟩,_⟩:=I.list h
 obtain ⟨its',r',⟨o',n',e',_,_,d'⟩,_⟩:=I.list h'
 rw [e] at e'; cases e'
 rw [d] at d'
 injection d' with d1 _
 have:its=its':=by simpa using congrArg Array.toList d1
 subst this
 exact r.inj r'
theorem Inv.tuple_inj (I:Inv X pins σ H s) (h:SqT X.K H a xs) (h':SqT X.K H a ys):xs=ys:=by
 obtain ⟨its,r,⟨o,e,_,n,d⟩,_⟩:=I.tuple h
 obtain ⟨its',r',⟨o',e',_,n',d'⟩,_⟩:=I.tuple h'
 rw [e] at e'; cases e'
 rw [d] at d'
 injection d' with d1 _
 have:its=its':=by simpa using congrArg Array.toList d1
 subst this
 exact r.inj r'
end
abbrev Cx.wish (X:Cx) (E:Value→Shared→Prop):Cx:={ X with xe:=E }
abbrev Cx.nox (X:Cx):Cx:=X.wish fun _ _=>False
theorem Cx.Ok.wish {X:Cx}(ok:X.Ok) (E:Value→Shared→Prop):(X.wish E).Ok :=
 ⟨ok.mod,ok.kind,ok.glob,ok.blt,ok.above,ok.inj,ok.has,ok.cab,ok.hd,ok.frames,ok.stk,ok.exf,ok.bs,ok.bsz,ok.noex,ok.exfs,ok.funs,ok.frf⟩
theorem Cx.Ok.unwish {X:Cx}{E:Value→Shared→Prop}(ok:(X.wish E).Ok):X.Ok :=
 ⟨ok.mod,ok.kind,ok.glob,ok.blt,ok.above,ok.inj,ok.has,ok.cab,ok.hd,ok.frames,ok.stk,ok.exf,ok.bs,ok.bsz,ok.noex,ok.exfs,ok.funs,ok.frf⟩
section
variable {X:Cx}{pins:Pnn}{σ:St}{H:Hp}{s:Shared}{E:Value→Shared→Prop}
theorem Inv.wish (I:Inv X pins σ H s) (E:Value→Shared→Prop):Inv (X.wish E) pins σ H s:=⟨I.ok.wish E,I.os,I.bare,I.base,I.loc,I.cell,I.free,I.freeC,I.pin,I.hok,I.len⟩
theorem Inv.unwish (I:Inv (X.wish E) pins σ H s):Inv X pins σ H s:=⟨I.ok.unwish,I.os,I.bare,I.base,I.loc,I.cell,I.free,I.freeC,I.pin,I.hok,I.len⟩
theorem SP.unwish {D:Ends}{f:Flow}{s':Shared}(h:SP (X.wish E) pins D f s'):SP X pins D f s':=by
 cases f with
 | next=>obtain ⟨σ',H',I,q⟩:=h; exact ⟨σ',H',I.unwish,q⟩
 | brk=>obtain ⟨σ',H',I,q⟩:=h; exact ⟨σ',H',I.unwish,q⟩
 | cont=>obtain ⟨σ',H',I,q⟩:=h; exact ⟨σ',H',I.unwish,q⟩
 | ret u=>obtain ⟨v,σ',H',I,r,q⟩:=h; exact ⟨v,σ',H',I.unwish,r,q⟩
theorem PSs.nox {st:List Stmt}{t:TS}(h:PSs X.nox st t):PSs X st t:=fun pins s σ H D I hw =>
 wpAny_mono (h pins s σ H D (I.wish _) hw) (fun _ _ q=>q.unwish) fun _ _ z=>False.elim z
end
section
variable {X:Cx}{st:Stmt}{rest:List Stmt}{t u:TS}{e:Expr}{te:TE}{pos:Pos}
def tNext:TS:=fun D σ H=>D.nx σ H
def tSeq (t u:TS):TS:=fun D σ H=>t { D with nx:=u D } σ H
theorem zaO_:PSs X [] tNext:=fun _ _ σ H _ I h=>wpAny_execs_nil ⟨σ,H,I,h⟩
theorem ze_ (h1:PS X st t) (h2:PSs X rest u):PSs X (st::rest) (tSeq t u):=by
 intro pins s σ H D I h
 refine wpAny_execs_cons (thn (h1 pins s σ H { D with nx:=u D } I h) fun f s1 q=>?_)
 cases f with
 | next =>
  obtain ⟨σ',H',I',q⟩:=q
  exact h2 pins s1 σ' H' D I' q
 | ret v=>exact q
 | brk=>exact q
 | cont=>exact q
theorem zn_ (h1:PS X st t):PSs X [st] t:=by
 intro pins s σ H D I h
 refine wpAny_execs_cons (thn (h1 pins s σ H D I h) fun f s1 q=>?_)
 cases f with
 | next=>exact wpAny_execs_nil q
 | ret v=>exact q
 | brk=>exact q
 | cont=>exact q
theorem Inv.quiet {pins:Pnn}{σ:St}{H:Hp}{s:Shared}(I:Inv X pins σ H s):interactive X.env=false:=by simp [interactive,I.ok.kind]
def tDrop (te:TE):TS:=fun D σ H=>te σ H fun _ H1=>D.nx σ H1
theorem zaJ_ (he:PE X e te) (hs:swapsWith e none pos.line X.env=pure false:=by rfl):PS X (.Expr e pos) (tDrop te):=by
 intro pins s σ H D I h
 exact wpAny_Expr_any (thn (he pins s σ H _ I h) fun v s1 ⟨x,H1,I1,r1,q1⟩=>⟨σ,H1,I1,q1⟩) I.quiet hs
def tRet (te:TE):TS:=fun D σ H=>te σ H D.rt
theorem zV_ (he:PE X e te):PS X (.Return (some e) pos) (tRet te):=by
 intro pins s σ H D I h
 exact wpAny_Return_some (thn (he pins s σ H _ I h) fun v s1 ⟨x,H1,I1,r1,q1⟩=>⟨x,σ,H1,I1,r1,q1⟩)
end
abbrev TG:=V→St→Hp→(St→Hp→Prop)→Prop
abbrev TGs:=List V→St→Hp→(St→Hp→Prop)→Prop
def PG (X:Cx) (target:Expr) (t:TG):Prop :=
 ∀ (pins:Pnn) (s:Shared) (σ:St) (H:Hp) (v:V) (u:Value) (Q:St→Hp→Prop),Inv X pins σ H s→RelV v u→t v σ H Q →
  wpAny (model X.prog X.w) X.A (assign target X.env u) (fun _ s'=>∃ σ' H',Inv X pins σ' H' s'∧Q σ' H') X.xe s
def PGs (X:Cx) (ts:List Expr) (t:TGs):Prop :=
 ∀ (pins:Pnn) (s:Shared) (σ:St) (H:Hp) (vs:List V) (us:List Value) (Q:St→Hp→Prop),Inv X pins σ H s→Vals vs us→t vs σ H Q →
  wpAny (model X.prog X.w) X.A (assignInOrder ((assignEach ts X.env).map (·.2)) us) (fun _ s'=>∃ σ' H',Inv X pins σ' H' s'∧Q σ' H') X.xe s
abbrev TSet:=V→V→V→Hp→(Hp→Prop)→Prop
def PSet (X:Cx) (t:TSet):Prop :=
 ∀ (pins:Pnn) (s:Shared) (σ:St) (H:Hp) (o i v:V) (ov iv u:Value) (Q:Hp→Prop),Inv X pins σ H s→RelV o ov→RelV i iv→RelV v u→t o i v H Q →
  wpAny (model X.prog X.w) X.A (setItem ov iv u) (fun _ s'=>∃ H',Inv X pins σ H' s'∧Q H') X.xe s
section
variable {X:Cx}{pos:Pos}
def gName (i:Nat):TG:=fun v σ H Q=>Q (σ.set i (some v)) H
theorem zkq_ {i:Nat}{x:Str}(hN:X.N.Nodup) (hi:X.N[i]?=some x) (hx:Loc X.env.scope x) (hf:X.fn x=true∨X.env.scope.names.lookup x=some .local:=by first | exact .inl rfl | exact .inr rfl | assumption):PG X (.Name x pos) (gName i):=by
 intro pins s σ H v u Q I r h
 exact wpAny_assign_Name (zjk_ I hN hi hx r (fun s' I'=>⟨_,H,I',h⟩) hf)
def gNil:TGs:=fun vs σ H Q=>vs=[]∧Q σ H
def gCons (t:TG) (u:TGs):TGs:=fun vs σ H Q=>∃ v r,vs=v::r∧t v σ H fun σ' H'=>u r σ' H' Q
theorem zmW_:PGs X [] gNil:=by
 intro pins s σ H vs us Q I r h
 obtain ⟨e,h⟩:=h
 subst e
 cases r
 exact assignInOrder_nil ⟨σ,H,I,h⟩
theorem zll_ {e:Expr}{es:List Expr}{t:TG}{u:TGs}(h1:PG X e t) (h2:PGs X es u)
  (hs:(assignEach (e::es) X.env).map (·.2)=assign e X.env::(assignEach es X.env).map (·.2):=by rfl):PGs X (e::es) (gCons t u):=by
 intro pins s σ H vs us Q I r h
 obtain ⟨v,vr,e1,h⟩:=h
 subst e1
 cases r with
 | cons r rr =>
  rw [hs]
  refine assignInOrder_cons (thn (h1 pins s σ H _ _ _ I r h) fun _ s1 hq_=>?_)
  obtain ⟨σ1,H1,I1,q1⟩:=hq_
  exact h2 pins s1 σ1 H1 _ _ Q I1 rr q1
def gTup (K:Fgg) (n:Nat) (t:TGs):TG:=fun v σ H Q=>∃ a xs,v=.ref a∧SqT K H a xs∧xs.length=n∧t xs σ H Q
theorem zow_ {es:List Expr}{k:Nat}{t:TGs}{n:Nat}(hc:X.calm=true) (h:PGs X es t)
  (hn:(assignEach es X.env).length=n:=by rfl) (hst:(assignEach es X.env).findIdx? (·.1)=none:=by rfl):PG X (.Tuple es k pos) (gTup X.K n t):=by
 intro pins s σ H v u Q I r hw
 obtain ⟨a,xs,e1,hq,hl,hw⟩:=hw
 subst e1
 cases r
 obtain ⟨its,rv,ht,hz⟩:=I.tuple hq
 refine assign_Tuple_tuple (I.ok.hd hc) ht (by simp [hn,← hl,rv.length]) hst fun h' hx=>?_
 have I1:Inv X pins σ H { s with heap:=h' }:=I.kept (t':=s.toks) fun b o e=>hx b o (Nat.ne_of_lt (Heap.lt_size e)) e
 exact h pins _ σ H xs _ Q I1 (by simpa using rv) hw
def gSub (to ti:TE) (t:TSet):TG:=fun v σ H Q=>to σ H fun o H1=>ti σ H1 fun i H2=>t o i v H2 fun H3=>Q σ H3
theorem zlP_ {o i:Expr}{to ti:TE}{t:TSet}(ho:PE X o to) (hi:PE X i ti) (hs:PSet X t)
  (ha:∀ v,assign (.Subscript o i pos) X.env v=(do
   let ov ← holding [v] (eval o X.env)
   let iv ← holding [v,ov] (eval i X.env)
   standAt pos
   holding [v,ov,iv] (setItem ov iv v)
   release [v,ov,iv] []):=by intro _; rfl):PG X (.Subscript o i pos) (gSub to ti t):=by
 intro pins s σ H v u Q I r h
 rw [ha]
 refine wpAny_bind (wpAny_holding (thn (ho pins s σ H _ I h) fun ov s1 hq_=>?_))
 obtain ⟨x,H1,I1,r1,q1⟩:=hq_
 refine wpAny_bind (wpAny_holding (thn (hi pins s1 σ H1 _ I1 q1) fun iv s2 hq_=>?_))
 obtain ⟨y,H2,I2,r2,q2⟩:=hq_
 refine wpAny_bind (wpAny_standAt (wpAny_bind (wpAny_holding (thn (hs pins s2 σ H2 x y v ov iv u _ I2 r1 r2 r q2) fun _ s3 hq_=>?_))))
 obtain ⟨H3,I3,q3⟩:=hq_
 exact wpAny_release ⟨σ,H3,I3,q3⟩
def tAsg (te:TE) (g:TG):TS:=fun D σ H=>te σ H fun x H1=>g x σ H1 D.nx
theorem zmf_ {tg e:Expr}{te:TE}{g:TG}(he:PE X e te) (hg:PG X tg g) (hs:swapsWithSole [tg] e pos.line X.env=pure false:=by rfl) (hw:swappedStores [tg] e X.env=pure none:=by rfl)
  (h1:(assignEach [tg] X.env).map (·.2)=[assign tg X.env]:=by rfl):PS X (.Assign [tg] e pos) (tAsg te g):=by
 intro pins s σ H D I h
 refine wpAny_Assign_stores (thn (he pins s σ H _ I h) fun v s1 hq_=>?_) hs hw
 obtain ⟨x,H1,I1,r1,q1⟩:=hq_
 rw [h1]
 exact thn (hg pins s1 σ H1 x v _ I1 r1 q1) fun _ s2 q=>q
theorem zo8_ {i:Nat}{x:Str}{e:Expr}{te:TE}{pos':Pos}(hN:X.N.Nodup) (hi:X.N[i]?=some x) (hx:Loc X.env.scope x) (he:PE X e te) (hs:swapsWith e (some (.Name x pos')) pos.line X.env=pure false:=by rfl) (hf:X.fn x=true∨X.env.scope.names.lookup x=some .local:=by first | exact .inl rfl | exact .inr rfl | assumption) :
  PS X (.Assign [.Name x pos'] e pos) (tAsg te (gName i)):=by
 intro pins s σ H D I h
 refine wpAny_Assign_Name (thn (he pins s σ H _ I h) fun v s1 hq_=>?_) hs
 obtain ⟨y,H1,I1,r1,q1⟩:=hq_
 exact zjk_ I1 hN hi hx r1 (fun s2 I2=>⟨_,H1,I2,q1⟩) hf
end
section
variable {X:Cx}{pos:Pos}
end
structure It where
 go:Nat→Hp→Prop
 yld:Nat→Hp→V→Hp→Prop
 stop:Nat→Hp→Prop
def FpOk (X:Cx) (pins:Pnn) (H:Hp) (b:Addr):Prop :=
 H b=none∧b≠X.env.locals∧b∉X.fs∧(b∈X.ex∨X.s₀.heap.objs.size≤b)∧(∀ x c,X.env.cells.lookup x=some c→c≠b)∧∀ p∈X.pn++pins,p.1≠b
theorem Inv.fpOk {X:Cx}{pins:Pnn}{σ:St}{H H':Hp}{s:Shared}{b:Addr}(I:Inv X pins σ H s) (hb:s.heap.objs.size≤b) (hn:H' b=none):FpOk X pins H' b:=by
 refine ⟨hn,Nat.ne_of_gt (Nat.lt_of_lt_of_le I.lt hb),I.nofs hb,.inr (Nat.le_trans I.sz hb),fun x c e z=>?_,fun p hp z=>?_⟩
 ·obtain ⟨v,q⟩:=I.cell x c e
  exact absurd (Nat.lt_of_lt_of_le q.lt (by rw [z]; exact hb)) (Nat.lt_irrefl _)
 ·exact absurd (Nat.lt_of_lt_of_le (Heap.lt_size (I.pin p hp).1) (by rw [z]; exact hb)) (Nat.lt_irrefl _)
structure Turn (P:Program) (w:World) (K:Fgg) (tg:Expr) (J:It) (fp:List Addr) (it:Addr) (tn:Nat→Heap→Prop):Prop where
 mem:it∈fp
 obj:∀ i h,tn i h→∀ b∈fp,∃ o,h.get? b=some o∧∀ v,o.data≠.cell v
 keep:∀ i h h',tn i h→(∀ b∈fp,∀ o,h.get? b=some o→h'.get? b=some o)→tn i h'
 item:∀ (X:Cx),X.prog=P→X.w=w→X.K=K→X.calm=true→∀ (i:Nat) (pins:Pnn) (s:Shared) (σ:St) (H:Hp) (E:Value→Shared→Prop),Inv X pins σ H s→(∀ b∈fp,FpOk X pins H b)→tn i s.heap→J.go i H →
  wpAny (model P w) X.A (pyNext (.ref it)) (fun r s1=>∃ u,r=some u ∧
   wpAny (model P w) X.A (letOwnedTupleGo tg (.ref it) u) (fun _ s2=>∃ x H',Inv X pins σ H' s2∧RelV x u∧J.yld i H x H'∧tn (i+1) s2.heap∧∀ b∈fp,H' b=none) E s1) E s
 done:∀ (X:Cx),X.prog=P→X.w=w→X.K=K→X.calm=true→∀ (i:Nat) (pins:Pnn) (s:Shared) (σ:St) (H:Hp) (E:Value→Shared→Prop),Inv X pins σ H s→(∀ b∈fp,FpOk X pins H b)→tn i s.heap→J.stop i H →
  wpAny (model P w) X.A (pyNext (.ref it)) (fun r s1=>r=none∧Inv X pins σ H s1) E s
 self:∀ (A:Around) (i:Nat) (s:Shared) (Q:Value→Shared→Prop) (E:Value→Shared→Prop),tn i s.heap→Q (.ref it) s→wpAny (model P w) A (pyIter (.ref it)) Q E s
abbrev TI:=St→Hp→(It→Hp→Prop)→Prop
def PIE (X:Cx) (pins:Pnn) (σ:St) (tg:Expr) (R:It→Hp→Prop) (itv:Value) (s2:Shared):Prop :=
 ∃ (it:Addr) (fp:List Addr) (tn:Nat→Heap→Prop) (J:It) (H':Hp),itv=.ref it∧Inv X pins σ H' s2∧Turn X.prog X.w X.K tg J fp it tn∧tn 0 s2.heap∧(∀ b∈fp,FpOk X pins H' b)∧R J H'
def PI (X:Cx) (tg iter:Expr) (wi:TI):Prop :=
 ∀ (pins:Pnn) (s:Shared) (σ:St) (H:Hp) (R:It→Hp→Prop),Inv X pins σ H s→wi σ H R →
  wpAny (model X.prog X.w) X.A (eval iter X.env) (fun v s1=>wpAny (model X.prog X.w) X.A (pyIter v) (PIE X pins σ tg R) X.xe s1) X.xe s
theorem zoa_ {M:Model}{A:Around}{E:Value→Shared→Prop}{s:Shared}{tg:Expr}{it:Addr}{u:Value}{o:Obj}{n:String}{vs:Array Value}{Q:Unit→Shared→Prop}(ho:s.heap.get? it=some o) (hc:o.cls=.type n) (hd:o.data=.fields vs)
  (hn:["enumerate", "zip", "dict_itemiterator", "dict_reverseitemiterator", "odict_iterator", "itertools.zip_longest", "itertools.pairwise"].contains n=false) (hQ:Q () s):wpAny M A (letOwnedTupleGo tg (.ref it) u) Q E s:=by
 unfold letOwnedTupleGo
 cases tg<;>first
  | exact wpAny_pure hQ
  | (cases u<;>first
    | exact wpAny_pure hQ
    | (refine wpAny_bind (wpAny_load ho ?_)
       rw [hc,hd]
       show wpAny M A (if (["enumerate", "zip", "dict_itemiterator", "dict_reverseitemiterator", "odict_iterator", "itertools.zip_longest", "itertools.pairwise"].contains n && vs[0]? == some (rawInt _))=true then _ else _) Q E s
       rw [if_neg (by intro h; rw [hn,Bool.false_and] at h; cases h)]
       exact wpAny_pure hQ))
def Itl (K:Fgg) (a:Addr):It :=
 ⟨fun i H=>∃ xs x,SqL K H a xs∧xs[i]?=some x,fun i H x H'=>H'=H∧∀ xs,SqL K H a xs→xs[i]?=some x,fun i H=>∃ xs,SqL K H a xs∧xs.length≤i⟩
def Itt (K:Fgg) (a:Addr):It :=
 ⟨fun i H=>∃ xs x,SqT K H a xs∧xs[i]?=some x,fun i H x H'=>H'=H∧∀ xs,SqT K H a xs→xs[i]?=some x,fun i H=>∃ xs,SqT K H a xs∧xs.length≤i⟩
def Itr (lo:Int) (n:Nat):It:=⟨fun i _=>i<n,fun i H x H'=>H'=H∧x=.int (lo+i),fun i _=>n≤i⟩
theorem zjx_ {P:Program}{w:World}{K:Fgg}{tg:Expr}(a it:Addr):Turn P w K tg (Itl K a) [it] it (fun i h=>h.IsListIter it a i) where
 mem:=by simp
 obj:=fun i h st b hb=>by
  have e:b=it:=by simpa using hb
  subst e
  obtain ⟨o,e,c,d⟩:=st
  exact ⟨o,e,fun v z=>by rw [d] at z; cases z⟩
 keep:=fun i h h' st k=>st.at fun o e=>k it (by simp) o e
 item:=by
  intro X hP hw hK hc i pins s σ H E I hf st hg
  subst hP hw hK
  obtain ⟨xs,x,hq,hx⟩:=hg
  obtain ⟨its,rv,p,hz⟩:=I.list hq
  obtain ⟨u,hu,ru⟩:=rv.get hx
  obtain ⟨f0,f1,f2,f3,f4,f5⟩:=hf it (by simp)
  refine wpAny_pyNext_list_item st p.isList (x:=u) (by simpa using hu) fun h' st' sb=>?_
  have I1:Inv X pins σ H { s with heap:=h' }:=I.turned (t':=s.toks) (fun b o hb e=>(sb.2 b hb).trans e) f0 f1 f3 f4 f5
  obtain ⟨o,e,c,d⟩:=id st'
  exact ⟨u,rfl,zoa_ (s:={ s with heap:=h' }) e c d (by decide) ⟨x,H,I1,ru,⟨rfl,fun ys hy=>by rw [I.list_inj hy hq]; exact hx⟩,st',fun b hb=>(hf b hb).1⟩⟩
 done:=by
  intro X hP hw hK hc i pins s σ H E I hf st hg
  subst hP hw hK
  obtain ⟨xs,hq,hx⟩:=hg
  obtain ⟨its,rv,p,hz⟩:=I.list hq
  obtain ⟨f0,f1,f2,f3,f4,f5⟩:=hf it (by simp)
  have hl:=rv.length
  exact wpAny_pyNext_list_end (I.ok.hd hc) st p.isList (by simp; lia) fun h' eb=>⟨rfl,I.turned (t':=s.toks) (fun b o hb e=>eb b o hb e) f0 f1 f3 f4 f5⟩
 self:=fun _ _ _ _ _ st h=>wpAny_pyIter_listiter st h
theorem ziM_ {P:Program}{w:World}{K:Fgg}{tg:Expr}(a it:Addr):Turn P w K tg (Itt K a) [it] it (fun i h=>h.IsTupleIter it a i) where
 mem:=by simp
 obj:=fun i h st b hb=>by
  have e:b=it:=by simpa using hb
  subst e
  obtain ⟨o,e,c,d⟩:=st
  exact ⟨o,e,fun v z=>by rw [d] at z; cases z⟩
 keep:=fun i h h' st k=>st.at fun o e=>k it (by simp) o e
 item:=by
  intro X hP hw hK hc i pins s σ H E I hf st hg
  subst hP hw hK
  obtain ⟨xs,x,hq,hx⟩:=hg
  obtain ⟨its,rv,p,hz⟩:=I.tuple hq
  obtain ⟨u,hu,ru⟩:=rv.get hx
  obtain ⟨f0,f1,f2,f3,f4,f5⟩:=hf it (by simp)
  refine wpAny_pyNext_tuple_item st (show s.heap.IsTuple a its.toArray from p) (x:=u) (by simpa using hu) fun h' st' sb=>?_
  have I1:Inv X pins σ H { s with heap:=h' }:=I.turned (t':=s.toks) (fun b o hb e=>(sb.2 b hb).trans e) f0 f1 f3 f4 f5
  obtain ⟨o,e,c,d⟩:=id st'
  exact ⟨u,rfl,zoa_ (s:={ s with heap:=h' }) e c d (by decide) ⟨x,H,I1,ru,⟨rfl,fun ys hy=>by rw [I.tuple_inj hy hq]; exact hx⟩,st',fun b hb=>(hf b hb).1⟩⟩
 done:=by
  intro X hP hw hK hc i pins s σ H E I hf st hg
  subst hP hw hK
  obtain ⟨xs,hq,hx⟩:=hg
  obtain ⟨its,rv,p,hz⟩:=I.tuple hq
  obtain ⟨f0,f1,f2,f3,f4,f5⟩:=hf it (by simp)
  have hl:=rv.length
  exact wpAny_pyNext_tuple_end (I.ok.hd hc) st (show s.heap.IsTuple a its.toArray from p) (by simp; lia) fun h' eb=>⟨rfl,I.turned (t':=s.toks) (fun b o hb e=>eb b o hb e) f0 f1 f3 f4 f5⟩
 self:=fun _ _ _ _ _ st h=>wpAny_pyIter_tupleiter st h
theorem zjm_ {P:Program}{w:World}{K:Fgg}{tg:Expr}(it:Addr) (lo:Int) (n:Nat):Turn P w K tg (Itr lo n) [it] it (fun i h=>IsRangeIter h it (lo+(i:Nat)*1) ((n:Int)-(i:Nat)) 1) where
 mem:=by simp
 obj:=fun i h st b hb=>by
  have e:b=it:=by simpa using hb
  subst e
  exact ⟨_,st,fun v z=>by
   have z':Data.fields _=Data.cell v:=z
   cases z'⟩
 keep:=fun i h h' st k=>k it (by simp) _ st
 item:=by
  intro X hP hw hK hc i pins s σ H E I hf st hg
  subst hP hw hK
  obtain ⟨f0,f1,f2,f3,f4,f5⟩:=hf it (by simp)
  have W:=Walks.range (prog:=X.prog) (w:=X.w) (I.ok.hd hc) it lo 1 n
  refine W.item i s _ _ hg st fun v h' tk hv st' kk=>?_
  obtain ⟨t,rfl⟩:=hv
  have I1:Inv X pins σ H { s with heap:=h',toks:=tk }:=I.turned (fun b o hb e=>kk b o (by simpa using hb) e) f0 f1 f3 f4 f5
  refine ⟨_,rfl,zoa_ (s:={ s with heap:=h',toks:=tk }) (n := "range_iterator") st' rfl rfl (by decide) ⟨.int (lo+i),H,I1,⟨t,?_⟩,⟨rfl,rfl⟩,st',fun b hb=>(hf b hb).1⟩⟩
  rw [Int.mul_one]
 done:=by
  intro X hP hw hK hc i pins s σ H E I hf st hg
  subst hP hw hK
  obtain ⟨f0,f1,f2,f3,f4,f5⟩:=hf it (by simp)
  exact wpAny_pyNext_range_end (I.ok.hd hc) st (by have:n≤i:=hg; lia) fun h' eb=>⟨rfl,I.turned (t':=s.toks) (fun b o hb e=>eb b o hb e) f0 f1 f3 f4 f5⟩
 self:=fun _ _ _ _ _ st h=>wpAny_pyIter_rangeiter st h
end L2
namespace L2
open PySem PySem.Spec PyProof.Rows
section
variable {X:Cx}{tg:Expr}
theorem ziP_ {pins:Pnn}{σ:St}{H:Hp}{s:Shared}{R:It→Hp→Prop}{E:Value→Shared→Prop}{lo hi:Int}{t u v:Tok}{tk:Nat}(I:Inv X pins σ H s) (h1 : -(2 ^ 62)≤lo) (h2:lo<2 ^ 62) (h3 : -(2 ^ 62)≤hi) (h4:hi<2 ^ 62)
  (q:R (Itr lo (hi-lo).toNat) H):wpAny (model X.prog X.w) X.A (pyIter (.ref s.heap.objs.size)) (PIE X pins σ tg R) E { s with heap:=s.heap.push { cls:=.type "range",data:=.fields #[.int lo t,.int hi u,.int 1 v] },toks:=tk }:=by
 refine wpAny_pyIter_range (IsRange.new ..) (small_one h1 h2 h3 h4) ?_
 have I1:Inv X pins σ H { s with heap:=s.heap.push { cls:=.type "range",data:=.fields #[.int lo t,.int hi u,.int 1 v] },toks:=tk }:=I.kept fun b o e=>Heap.get?_push_of_some _ e
 refine ⟨(s.heap.push { cls:=.type "range",data:=.fields #[.int lo t,.int hi u,.int 1 v] }).objs.size,[(s.heap.push { cls:=.type "range",data:=.fields #[.int lo t,.int hi u,.int 1 v] }).objs.size],_,_,H,rfl,
  I1.kept (t':=tk) fun b o e=>Heap.get?_push_of_some _ e,zjm_ _ lo (hi-lo).toNat,?_,fun b hb=>?_,q⟩
 ·have e1:lo+((0:Nat):Int)*1=lo:=by simp
  have e2:(((hi-lo).toNat:Nat):Int)-((0:Nat):Int)=Builtin.Range.rangeSize lo hi 1:=by rw [rangeSize_one]; split<;>omega
  show IsRangeIter _ _ (lo+((0:Nat):Int)*1) ((((hi-lo).toNat:Nat):Int)-((0:Nat):Int)) 1
  rw [e1,e2]
  exact Heap.get?_push_size _ rfl
 ·have e:b=(s.heap.push { cls:=.type "range",data:=.fields #[.int lo t,.int hi u,.int 1 v] }).objs.size:=by simpa using hb
  subst e
  exact I1.fpOk (Nat.le_refl _) (I1.hok.fresh (Nat.le_refl _))
def tFor (wi:TI) (g:TG) (tb:TS):TS:=fun D σ H=>wi σ H fun J H1=>∃ W:Nat→Nat→St→Hp→Prop,(∃ m,W 0 m σ H1)∧∀ i m σ H,W i m σ H →
 (J.stop i H∧D.nx σ H)∨(J.go i H∧∃ N:St→Hp→Prop,(∀ σ' H',N σ' H'→∃ m',m'<m∧W (i+1) m' σ' H')∧∀ x H',J.yld i H x H'→g x σ H' fun σ2 H2=>tb { D with nx:=N,ct:=N,bk:=D.nx } σ2 H2)
def pinsAt (fp:List Addr) (h:Heap):Pnn:=fp.filterMap fun b=>(h.get? b).map fun o=>(b,o)
theorem zcP_ {fp:List Addr}{h:Heap}{b:Addr}{o:Obj}(hb:b∈fp) (e:h.get? b=some o):(b,o)∈pinsAt fp h:=List.mem_filterMap.mpr ⟨b,hb,by rw [e]; rfl⟩
theorem zki_ {fp:List Addr}{h:Heap}{p:Addr×Obj}(hp:p∈pinsAt fp h):p.1∈fp∧h.get? p.1=some p.2:=by
 obtain ⟨b,hb,e⟩:=List.mem_filterMap.mp hp
 cases q:h.get? b with
 | none=>rw [q] at e; cases e
 | some o =>
  rw [q] at e
  have e':(b,o)=p:=Option.some.inj e
  subst e'
  exact ⟨hb,q⟩
theorem Inv.pinned {pins:Pnn}{σ:St}{H:Hp}{s:Shared}{fp:List Addr}(I:Inv X pins σ H s) (hf:∀ b∈fp,FpOk X pins H b) (ho:∀ b∈fp,∃ o,s.heap.get? b=some o∧∀ v,o.data≠.cell v):Inv X (pins++pinsAt fp s.heap) σ H s :=
 I.pins_of fun p hp=>(List.mem_append.mp hp).elim (fun z=>I.pin p (List.mem_append_right _ z)) fun z=>by
  obtain ⟨hb,e⟩:=zki_ z
  obtain ⟨f0,f1,f2,_⟩:=hf p.1 hb
  obtain ⟨o,e',d⟩:=ho p.1 hb
  rw [e] at e'; cases e'
  exact ⟨e,f0,f1,f2,d⟩
theorem Inv.unpinned {pins pl:Pnn}{σ:St}{H:Hp}{s:Shared}(I:Inv X (pins++pl) σ H s):Inv X pins σ H s:=I.pins_of fun p hp=>I.pin p (List.mem_append_right _ (List.mem_append_left _ hp))
theorem za7_ {iter:Expr}{body:List Stmt}{wi:TI}{g:TG}{tb:TS}{pos:Pos}(hp:PassesOwn (model X.prog X.w) X.A X.env X.xe) (hc:X.calm=true) (hi:PI X tg iter wi) (hg:PG X tg g) (hb:PSs X body tb)
  (hs:∀ x,foldedSetIterable iter X.env x=pure x:=by intro _; rfl):PS X (.For tg iter body [] pos) (tFor wi g tb):=by
 intro pins s σ H D I h
 refine wpAny_For (thn (hi pins s σ H _ I h) fun v s1 h1=>thn h1 fun itv s2 h2=>?_) hs
 obtain ⟨it,fp,tn,J,H2,e,I2,T,st2,f2,W,⟨m0,w0⟩,turn⟩:=h2
 subst e
 have stat:∀ {H':Hp},(∀ b∈fp,H' b=none)→∀ b∈fp,FpOk X pins H' b:=fun hn b hb=>⟨hn b hb,(f2 b hb).2⟩
 refine codeAny_forLoop_any (fun n s'=>∃ i σ' H',Inv X pins σ' H' s'∧tn i s'.heap∧(∀ b∈fp,H' b=none)∧W i n σ' H') ?_ m0 ⟨0,σ,H2,I2,st2,fun b hb=>(f2 b hb).1,w0⟩
 rintro n s3 ⟨i,σ3,H3,I3,st3,fr3,w3⟩
 rcases turn i n σ3 H3 w3 with ⟨stop,qn⟩ | ⟨go,N,hN,step⟩
 ·refine wpAny_passesOwn hp (thn (T.done X rfl rfl rfl hc i pins s3 σ3 H3 X.xe I3 (stat fr3) st3 stop) fun r s4 hq_=>?_)
  obtain ⟨hr,I4⟩:=hq_
  subst hr
  exact wpAny_execs_nil ⟨σ3,H3,I4,qn⟩
 ·refine wpAny_passesOwn hp (thn (T.item X rfl rfl rfl hc i pins s3 σ3 H3 X.xe I3 (stat fr3) st3 go) fun r s4 hq_=>?_)
  obtain ⟨u,hr,h4⟩:=hq_
  subst hr
  refine wpAny_passesOwn hp (thn h4 fun _ s5 hq_=>?_)
  obtain ⟨x,H5,I5,r5,y5,st5,fr5⟩:=hq_
  have I5':=I5.pinned (stat fr5) (T.obj _ _ st5)
  refine wpAny_passesOwn hp (thn (hg _ s5 σ3 H5 x u _ I5' r5 (step x H5 y5)) fun _ s6 hq_=>?_)
  obtain ⟨σ6,H6,I6,q6⟩:=hq_
  refine wpAny_passesOwn hp (thn (hb _ s6 σ6 H6 _ I6 q6) fun f s7 q7=>?_)
  have again:∀ {σ7:St}{H7:Hp},Inv X (pins++pinsAt fp s5.heap) σ7 H7 s7→N σ7 H7→∃ m,m<n∧∃ i σ' H',Inv X pins σ' H' s7∧tn i s7.heap∧(∀ b∈fp,H' b=none)∧W i m σ' H':=fun {σ7 H7} I7 n7=>by
   obtain ⟨m',hm,w7⟩:=hN σ7 H7 n7
   refine ⟨m',hm,i+1,σ7,H7,I7.unpinned,T.keep _ _ _ st5 fun b hb o e=>(I7.pin (b,o) (List.mem_append_right _ (List.mem_append_right _ (zcP_ hb e)))).1,fun b hb=>?_,w7⟩
   obtain ⟨o,e,d⟩:=T.obj _ _ st5 b hb
   exact (I7.pin (b,o) (List.mem_append_right _ (List.mem_append_right _ (zcP_ hb e)))).2.1
  cases f with
  | next=>obtain ⟨σ7,H7,I7,n7⟩:=q7; exact again I7 n7
  | cont=>obtain ⟨σ7,H7,I7,n7⟩:=q7; exact again I7 n7
  | brk=>obtain ⟨σ7,H7,I7,q7⟩:=q7; exact ⟨σ7,H7,I7.unpinned,q7⟩
  | ret v=>obtain ⟨x7,σ7,H7,I7,r7,q7⟩:=q7; exact ⟨x7,σ7,H7,I7.unpinned,r7,q7⟩
end
end L2
namespace L2
open PySem PySem.Spec PyProof.Rows
abbrev R2:=V→V→Hp→VK→Prop
def OpR (X:Cx) (f:Value→Value→Sem Value) (r:R2):Prop :=
 ∀ (pins:Pnn) (s:Shared) (σ:St) (H:Hp) (x y:V) (v u:Value) (Q:VK),Inv X pins σ H s→RelV x v→RelV y u→r x y H Q →
  wpAny (model X.prog X.w) X.A (f v u) (EP X pins σ Q) X.xe s
def UnR (X:Cx) (f:Value→Sem Value) (r:V→Hp→VK→Prop):Prop :=
 ∀ (pins:Pnn) (s:Shared) (σ:St) (H:Hp) (x:V) (v:Value) (Q:VK),Inv X pins σ H s→RelV x v→r x H Q →
  wpAny (model X.prog X.w) X.A (f v) (EP X pins σ Q) X.xe s
def CallR (X:Cx) (f:Value) (r:List V→Hp→VK→Prop):Prop :=
 ∀ (pins:Pnn) (s:Shared) (σ:St) (H:Hp) (xs:List V) (us:List Value) (Q:VK),Inv X pins σ H s→Vals xs us→r xs H Q →
  wpAny (model X.prog X.w) X.A (call f us) (EP X pins σ Q) X.xe s
def tOp (r:R2) (ta tb:TE):TE:=fun σ H Q=>ta σ H fun x H1=>tb σ H1 fun y H2=>r x y H2 Q
def tUn (r:V→Hp→VK→Prop) (ta:TE):TE:=fun σ H Q=>ta σ H fun x H1=>r x H1 Q
def rI (C:Int→Int→Prop) (g:Int→Int→V):R2:=fun x y H Q=>∃ i j,x=.int i∧y=.int j∧C i j∧Q (g i j) H
def rI0 (g:Int→Int→V):R2:=fun x y H Q=>∃ i j,x=.int i∧y=.int j∧Q (g i j) H
def rU (g:Int→V):V→Hp→VK→Prop:=fun x H Q=>∃ i,x=.int i∧Q (g i) H
section
variable {X:Cx}{a b c:Expr}{ta tb tc:TE}{pos:Pos}
theorem binT (ha:PE X a ta) (hb:PE X b tb) {pins:Pnn}{s:Shared}{σ:St}{H:Hp}{R:V→V→Hp→Prop}(I:Inv X pins σ H s)
  (h:ta σ H fun x H1=>tb σ H1 fun y H2=>R x y H2) {Q:Value→Shared→Prop}{f:Value→Value→Sem Value}
  (hf:∀ v u s2 x y H2,Inv X pins σ H2 s2→RelV x v→RelV y u→R x y H2→wpAny (model X.prog X.w) X.A (f v u) Q X.xe s2) :
  wpAny (model X.prog X.w) X.A (eval a X.env) (fun v s₁=>wpAny (model X.prog X.w) X.A (eval b X.env) (fun u s₂=>wpAny (model X.prog X.w) X.A (f v u) Q X.xe s₂) X.xe s₁) X.xe s:=by
 refine thn (ha pins s σ H _ I h) fun v s1 hq_=>?_
 obtain ⟨x,H1,I1,r1,q1⟩:=hq_
 refine thn (hb pins s1 σ H1 _ I1 q1) fun u s2 hq_=>?_
 obtain ⟨y,H2,I2,r2,q2⟩:=hq_
 exact hf v u s2 x y H2 I2 r1 r2 q2
theorem zP_ {op:Operator}{r:R2}(ho:OpR X (binaryOp op) r) (ha:PE X a ta) (hb:PE X b tb):PE X (.BinOp a op b pos) (tOp r ta tb):=by
 intro pins s σ H Q I h
 exact wpAny_BinOp (binT ha hb I h fun v u s2 x y H2 I2 rx ry q=>ho pins s2 σ H2 x y v u Q I2 rx ry q)
theorem opI {f:Value→Value→Sem Value}{C:Int→Int→Prop}{g:Int→Int→Int}
  (rule:∀ (i j:Int) (t u:Tok) (s:Shared) (Q:Value→Shared→Prop) (E:Value→Shared→Prop),C i j→Q (.int (g i j) s.toks) { s with toks:=s.toks+1 }→wpAny (model X.prog X.w) X.A (f (.int i t) (.int j u)) Q E s) :
  OpR X f (rI C fun i j=>.int (g i j)):=by
 intro pins s σ H x y v u Q I rx ry h
 obtain ⟨i,j,rfl,rfl,hc,q⟩:=h
 obtain ⟨t,rfl⟩:=rx
 obtain ⟨t',rfl⟩:=ry
 exact rule i j t t' s _ _ hc ⟨.int (g i j),H,I.tok _,⟨_,rfl⟩,q⟩
theorem opI0 {f:Value→Value→Sem Value}{g:Int→Int→Int}
  (rule:∀ (i j:Int) (t u:Tok) (s:Shared) (Q:Value→Shared→Prop) (E:Value→Shared→Prop),Q (.int (g i j) s.toks) { s with toks:=s.toks+1 }→wpAny (model X.prog X.w) X.A (f (.int i t) (.int j u)) Q E s) :
  OpR X f (rI0 fun i j=>.int (g i j)):=by
 intro pins s σ H x y v u Q I rx ry h
 obtain ⟨i,j,rfl,rfl,q⟩:=h
 obtain ⟨t,rfl⟩:=rx
 obtain ⟨t',rfl⟩:=ry
 exact rule i j t t' s _ _ ⟨.int (g i j),H,I.tok _,⟨_,rfl⟩,q⟩
theorem opB0 {f:Value→Value→Sem Value}{g:Int→Int→Bool}
  (rule:∀ (i j:Int) (t u:Tok) (s:Shared) (Q:Value→Shared→Prop) (E:Value→Shared→Prop),Q (.bool (g i j)) s→wpAny (model X.prog X.w) X.A (f (.int i t) (.int j u)) Q E s) :
  OpR X f (rI0 fun i j=>.bl (g i j)):=by
 intro pins s σ H x y v u Q I rx ry h
 obtain ⟨i,j,rfl,rfl,q⟩:=h
 obtain ⟨t,rfl⟩:=rx
 obtain ⟨t',rfl⟩:=ry
 exact rule i j t t' s _ _ ⟨.bl (g i j),H,I,rfl,q⟩
def CDiv (i j:Int):Prop:=0<j∧j<1073741824
def CPow (i j:Int):Prop:=0≤j∧j≤1000000∧i.natAbs<2 ^ 64
def CMul (i j:Int):Prop:=(-(2 ^ 64)<i∧i<2 ^ 64)∨(-(2 ^ 64)<j∧j<2 ^ 64)
theorem CMul.ok {i j:Int}(h:CMul i j):IntMulOk i j:=by
 rcases h with ⟨h1,h2⟩ | ⟨h1,h2⟩
 ·exact .of_left (intBits_le_64 h1 h2)
 ·exact .of_right (intBits_le_64 h1 h2)
theorem zo7_:OpR X (binaryOp .Add) (rI0 fun i j=>.int (i+j)):=opI0 fun _ _ _ _ _ _ _ q=>add_int q
theorem zoC_:OpR X (binaryOp .Sub) (rI0 fun i j=>.int (i-j)):=opI0 fun _ _ _ _ _ _ _ q=>sub_int q
theorem zoI_:OpR X (binaryOp .Mod) (rI (fun _ j=>0<j) fun i j=>.int (i % j)):=opI fun i j _ _ _ _ _ hc q=>by
 have h1:(0:Int)<j:=hc
 exact mod_int' (by lia) (by rw [Int.fmod_eq_emod_of_nonneg i (by lia)]; exact q)
theorem unI {f:Value→Sem Value}{g:Int→Int}
  (rule:∀ (i:Int) (t:Tok) (s:Shared) (Q:Value→Shared→Prop) (E:Value→Shared→Prop),Q (.int (g i) s.toks) { s with toks:=s.toks+1 }→wpAny (model X.prog X.w) X.A (f (.int i t)) Q E s) :
  UnR X f (rU fun i=>.int (g i)):=by
 intro pins s σ H x v Q I rx h
 obtain ⟨i,rfl,q⟩:=h
 obtain ⟨t,rfl⟩:=rx
 exact rule i t s _ _ ⟨.int (g i),H,I.tok _,⟨_,rfl⟩,q⟩
theorem zoj_:UnR X (unaryOp .USub) (rU fun i=>.int (-i)):=unI fun _ _ _ _ _ q=>neg_int q
end
def scal:V→V→Bool
 | .non,.non=>true | .non,.int _=>true | .int _,.non=>true | .non,.bl _=>true | .bl _,.non=>true | .non,.str _=>true | .str _,.non=>true
 | .int _,.int _=>true | .bl _,.bl _=>true | .str _,.str _=>true | .byt _,.byt _=>true
 | .int _,.str _=>true | .str _,.int _=>true | .bl _,.str _=>true | .str _,.bl _=>true
 | _,_=>false
def rEq:R2:=fun x y H Q=>scal x y=true∧Q (.bl (decide (x=y))) H
def rNe:R2:=fun x y H Q=>scal x y=true∧Q (.bl (!decide (x=y))) H
theorem zkK_ {i j:Int}:decide (V.int i=V.int j)=(i == j):=by
 rw [Bool.eq_iff_iff]
 simp
theorem zmD_ {i j:Bool}:decide (V.bl i=V.bl j)=(i == j):=by
 rw [Bool.eq_iff_iff]
 simp
theorem zkz_ {i j:Str}:decide (V.str i=V.str j)=(i == j):=by
 rw [Bool.eq_iff_iff]
 simp
theorem zkX_ {i j:Array UInt8}:decide (V.byt i=V.byt j)=(i.toList == j.toList):=by
 rw [Bool.eq_iff_iff]
 cases i
 cases j
 simp
section
variable {X:Cx}{a b c:Expr}{ta tb tc:TE}{pos:Pos}
theorem zan_ {pins:Pnn}{σ:St}{H:Hp}{s:Shared}{Q:VK}{k k':Bool}(I:Inv X pins σ H s) (q:Q (.bl k) H) (e:k=k'):EP X pins σ Q (.bool k') s:=by
 subst e
 exact ⟨.bl k,H,I,rfl,q⟩
theorem op_eq:OpR X (compareOp .Eq) rEq:=by
 intro pins s σ H x y v u Q I rx ry h
 obtain ⟨hs,q⟩:=h
 cases x with
 | non =>
  cases rx
  cases y with
  | non=>cases ry; exact PySem.EqNone.eq_none_none (zan_ I q (by simp))
  | bl j=>cases ry; exact PySem.EqNone.eq_none_bool (zan_ I q (by simp))
  | int j=>obtain ⟨t',rfl⟩:=ry; exact PySem.EqNone.eq_none_int (zan_ I q (by simp))
  | str j=>obtain ⟨t',rfl⟩:=ry; exact PySem.EqNone.eq_none_str (zan_ I q (by simp))
  | _=>exact absurd (show false=true from hs) Bool.false_ne_true
 | bl i =>
  cases rx
  cases y with
  | non=>cases ry; exact PySem.EqNone.eq_bool_none (zan_ I q (by simp))
  | bl j=>cases ry; exact eq_bool (zan_ I q zmD_)
  | str j=>obtain ⟨t',rfl⟩:=ry; exact PySem.EqMixed.eq_bool_str (zan_ I q (by simp))
  | _=>exact absurd (show false=true from hs) Bool.false_ne_true
 | int i =>
  obtain ⟨t,rfl⟩:=rx
  cases y with
  | non=>cases ry; exact PySem.EqNone.eq_int_none (zan_ I q (by simp))
  | int j=>obtain ⟨t',rfl⟩:=ry; exact eq_int (zan_ I q zkK_)
  | str j=>obtain ⟨t',rfl⟩:=ry; exact PySem.EqMixed.eq_int_str (zan_ I q (by simp))
  | _=>exact absurd (show false=true from hs) Bool.false_ne_true
 | str i =>
  obtain ⟨t,rfl⟩:=rx
  cases y with
  | non=>cases ry; exact PySem.EqNone.eq_str_none (zan_ I q (by simp))
  | bl j=>cases ry; exact PySem.EqMixed.eq_str_bool (zan_ I q (by simp))
  | int j=>obtain ⟨t',rfl⟩:=ry; exact PySem.EqMixed.eq_str_int (zan_ I q (by simp))
  | str j=>obtain ⟨t',rfl⟩:=ry; exact eq_str (zan_ I q zkz_)
  | _=>exact absurd (show false=true from hs) Bool.false_ne_true
 | byt i =>
  obtain ⟨t,rfl⟩:=rx
  cases y with
  | byt j=>obtain ⟨t',rfl⟩:=ry; exact PySem.W.eq_bytes (zan_ I q zkX_)
  | _=>exact absurd (show false=true from hs) Bool.false_ne_true
 | _=>cases y<;>exact absurd (show false=true from hs) Bool.false_ne_true
theorem op_ne:OpR X (compareOp .NotEq) rNe:=by
 intro pins s σ H x y v u Q I rx ry h
 obtain ⟨hs,q⟩:=h
 cases x with
 | non =>
  cases rx
  cases y with
  | non=>cases ry; exact PySem.EqNone.ne_none_none (zan_ I q (by simp))
  | bl j=>cases ry; exact PySem.EqNone.ne_none_bool (zan_ I q (by simp))
  | int j=>obtain ⟨t',rfl⟩:=ry; exact PySem.EqNone.ne_none_int (zan_ I q (by simp))
  | str j=>obtain ⟨t',rfl⟩:=ry; exact PySem.EqNone.ne_none_str (zan_ I q (by simp))
  | _=>exact absurd (show false=true from hs) Bool.false_ne_true
 | bl i =>
  cases rx
  cases y with
  | non=>cases ry; exact PySem.EqNone.ne_bool_none (zan_ I q (by simp))
  | bl j=>cases ry; exact ne_bool (zan_ I q (congrArg not zmD_))
  | str j=>obtain ⟨t',rfl⟩:=ry; exact PySem.EqMixed.ne_bool_str (zan_ I q (by simp))
  | _=>exact absurd (show false=true from hs) Bool.false_ne_true
 | int i =>
  obtain ⟨t,rfl⟩:=rx
  cases y with
  | non=>cases ry; exact PySem.EqNone.ne_int_none (zan_ I q (by simp))
  | int j=>obtain ⟨t',rfl⟩:=ry; exact ne_int (zan_ I q (congrArg not zkK_))
  | str j=>obtain ⟨t',rfl⟩:=ry; exact PySem.EqMixed.ne_int_str (zan_ I q (by simp))
  | _=>exact absurd (show false=true from hs) Bool.false_ne_true
 | str i =>
  obtain ⟨t,rfl⟩:=rx
  cases y with
  | non=>cases ry; exact PySem.EqNone.ne_str_none (zan_ I q (by simp))
  | bl j=>cases ry; exact PySem.EqMixed.ne_str_bool (zan_ I q (by simp))
  | int j=>obtain ⟨t',rfl⟩:=ry; exact PySem.EqMixed.ne_str_int (zan_ I q (by simp))
  | str j=>obtain ⟨t',rfl⟩:=ry; exact ne_str (zan_ I q (congrArg not zkz_))
  | _=>exact absurd (show false=true from hs) Bool.false_ne_true
 | byt i =>
  obtain ⟨t,rfl⟩:=rx
  cases y with
  | byt j=>obtain ⟨t',rfl⟩:=ry; exact PySem.W.ne_bytes (zan_ I q (congrArg not zkX_))
  | _=>exact absurd (show false=true from hs) Bool.false_ne_true
 | _=>cases y<;>exact absurd (show false=true from hs) Bool.false_ne_true
theorem op_lt:OpR X (compareOp .Lt) (rI0 fun i j=>.bl (decide (i<j))):=opB0 fun _ _ _ _ _ _ _ q=>lt_int q
theorem op_gt:OpR X (compareOp .Gt) (rI0 fun i j=>.bl (decide (j<i))):=opB0 fun _ _ _ _ _ _ _ q=>gt_int q
theorem op_ge:OpR X (compareOp .GtE) (rI0 fun i j=>.bl (decide (j≤i))):=opB0 fun _ _ _ _ _ _ _ q=>ge_int q
theorem zjw_:OpR X (compareOp .In) (fun x y H Q=>∃ i j,x=.str i∧y=.str j∧Q (.bl (!(Builtin.Str.occurrences j i 0 j.length 1).isEmpty)) H):=by
 intro pins s σ H x y v u Q I rx ry h
 obtain ⟨i,j,rfl,rfl,q⟩:=h
 obtain ⟨t,rfl⟩:=rx
 obtain ⟨t',rfl⟩:=ry
 exact in_str (zan_ I q rfl)
theorem zok_:OpR X (compareOp .Is) (fun x y H Q=>y=.non∧Q (.bl (decide (x=.non))) H):=by
 intro pins s σ H x y v u Q I rx ry h
 obtain ⟨rfl,q⟩:=h
 cases ry
 refine is_none_gen (zan_ I q ?_)
 cases x<;>first
  | (cases rx; rfl)
  | (obtain ⟨t,rfl⟩:=rx; rfl)
theorem zmz_:OpR X (compareOp .IsNot) (fun x y H Q=>y=.non∧Q (.bl (!decide (x=.non))) H):=by
 intro pins s σ H x y v u Q I rx ry h
 obtain ⟨rfl,q⟩:=h
 cases ry
 refine isnot_none_gen (zan_ I q ?_)
 cases x<;>first
  | (cases rx; rfl)
  | (obtain ⟨t,rfl⟩:=rx; rfl)
theorem zmH_ {op:CmpOp}{r:R2}(ho:OpR X (compareOp op) r) (ha:PE X a ta) (hb:PE X b tb) (hm:behindInMarks op b=false):PE X (.Compare a [op] [b] pos) (tOp r ta tb):=by
 intro pins s σ H Q I h
 exact wpAny_Compare1 (binT ha hb I h fun v u s2 x y H2 I2 rx ry q=>ho pins s2 σ H2 x y v u Q I2 rx ry q) hm
theorem line63:(sizeLine:Nat)<2 ^ 63:=by rw [sizeLine_eq]; decide
theorem ziY_:OpR X (binaryOp .Add) (fun x y H Q=>∃ i j,x=.str i∧y=.str j∧i.length+j.length≤sizeLine∧Q (.str (i++j)) H):=by
 intro pins s σ H x y v u Q I rx ry h
 obtain ⟨i,j,rfl,rfl,hz,q⟩:=h
 obtain ⟨t,rfl⟩:=rx
 obtain ⟨t',rfl⟩:=ry
 exact add_str (fun t' tk=>⟨.str (i++j),H,I.tok _,⟨_,rfl⟩,q⟩) hz
theorem vals1 {x:V}{us:List Value}(r:Vals [x] us):∃ u,us=[u]∧RelV x u:=by
 cases r with
 | cons r1 r2=>cases r2; exact ⟨_,rfl,r1⟩
theorem vals2 {x y:V}{us:List Value}(r:Vals [x,y] us):∃ u w',us=[u,w']∧RelV x u∧RelV y w':=by
 cases r with
 | cons r1 r2 =>
  cases r2 with
  | cons r3 r4=>cases r4; exact ⟨_,_,rfl,r1,r3⟩
theorem zjW_ (hc:X.calm=true):CallR X (.builtin "max") (fun xs H Q=>∃ i j,xs=[.int i,.int j]∧Q (.int (if j > i then j else i)) H):=by
 intro pins s σ H xs us Q I r h
 obtain ⟨i,j,rfl,q⟩:=h
 obtain ⟨u,w',rfl,⟨t,rfl⟩,⟨t',rfl⟩⟩:=vals2 r
 refine max_two_ints (I.ok.hd hc) fun h' tk k=>⟨_,H,I.kept k,?_,q⟩
 by_cases hj:j > i
 ·rw [if_pos hj,if_pos hj]; exact ⟨_,rfl⟩
 ·rw [if_neg hj,if_neg hj]; exact ⟨_,rfl⟩
theorem zkj_ (hc:X.calm=true):CallR X (.builtin "min") (fun xs H Q=>∃ i j,xs=[.int i,.int j]∧Q (.int (if j<i then j else i)) H):=by
 intro pins s σ H xs us Q I r h
 obtain ⟨i,j,rfl,q⟩:=h
 obtain ⟨u,w',rfl,⟨t,rfl⟩,⟨t',rfl⟩⟩:=vals2 r
 refine min_two_ints (I.ok.hd hc) fun h' tk k=>⟨_,H,I.kept k,?_,q⟩
 by_cases hj:j<i
 ·rw [if_pos hj,if_pos hj]; exact ⟨_,rfl⟩
 ·rw [if_neg hj,if_neg hj]; exact ⟨_,rfl⟩
theorem zfJ_:CallR X (.type "str") (fun xs H Q=>∃ i,xs=[.int i]∧i.natAbs.log2<1920∧Q (.str (toString i)) H):=by
 intro pins s σ H xs us Q I r h
 obtain ⟨i,rfl,hz,q⟩:=h
 obtain ⟨u,rfl,t,rfl⟩:=vals1 r
 exact PySem.P.str_of_int hz ⟨.str _,H,I.tok _,⟨_,rfl⟩,q⟩
end
end L2
namespace L2
open PySem PySem.Spec PyProof.Rows
structure ObjM (h:Heap) (x dx C:Addr) (mA:Str→Option Value):Prop where
 obj:h.get? x=some (PySem.W.instObj C dx)
 ns:h.Ns1 dx mA
 ne:dx≠x
theorem zkm_ {h:Heap}{dx:Addr}{mA:Str→Option Value}(n:h.Ns1 dx mA):∃ od,h.get? dx=some od∧∀ name,PySem.W.lookIn name od=some (mA name):=by
 obtain ⟨o,es,ep,ho,hd,hk,_,hm⟩:=n
 refine ⟨o,ho,fun name=>?_⟩
 have e:=hm name
 unfold nsFind findBy at e
 rw [← Array.find?_toList] at e
 unfold PySem.W.lookIn
 rw [hd]
 dsimp only
 split
 ·rename_i y q
  rw [q] at e
  exact congrArg some e
 ·rename_i q
  rw [q] at e
  have a:es.toList.any (·.refKey)=false:=by
   rw [List.any_eq_false]
   intro y hy
   obtain ⟨z,t,hkey⟩:=hk y (Array.mem_toList_iff.mp hy)
   simp [DictEntry.refKey,hkey]
  have a':¬ es.toList.any (·.refKey)=true:=by rw [a]; exact Bool.false_ne_true
  rw [if_neg a']
  exact congrArg some e
theorem ObjM.look {h:Heap}{x dx C:Addr}{mA:Str→Option Value}(I:ObjM h x dx C mA):∃ od,PySem.W.InstAt h x (PySem.W.instObj C dx) C (some od)∧∀ name,PySem.W.lookIn name od=some (mA name) :=
 let ⟨od,ho,hl⟩:=zkm_ I.ns
 ⟨od,⟨I.obj,rfl,rfl,ho⟩,hl⟩
section
variable {prog:Program}{w:World}{A:Around}{E:Value→Shared→Prop}{s:Shared}{K:Fgg}{x dx C f:Addr}{mA:Str→Option Value}{name:Str}{v:Value}
theorem znp_ {expr:Bool}{Q:Value→Shared→Prop}(X:K.In s.heap) (I:ObjM s.heap x dx C mA) (hg:PySem.W.plainGet K C name=true) (hh:PySem.W.hasDictIn K C=true)
  (ha:PySem.W.findIn K (.ref C) name=some none) (hv:mA name=some v) (hv':PySem.W.handedIn v=true) (h:Q v { s with toks:=s.toks+1 }) :
  wpAny (model prog w) A (getAttr (.ref x) name expr) Q E s:=by
 obtain ⟨od,J,hl⟩:=I.look
 exact PySem.W.get_value X J (PySem.W.plainGet_of hg).1 (PySem.W.findObj_own hh ha rfl (by rw [hl,hv])) hv' h
theorem zmm_ {pl:Sem Bool}{Q:Value×List Value→Shared→Prop}(X:K.In s.heap) (I:ObjM s.heap x dx C mA) (hg:PySem.W.plainGet K C name=true)
  (hf:PySem.W.findIn K (.ref C) name=some (some (.ref f))) (ht:PySem.W.isFn K (.ref f)=true) (hv:mA name=none) (h:Q (.ref f,[.ref x]) s) :
  wpAny (model prog w) A (getMethod (.ref x) name pl) Q E s:=by
 obtain ⟨od,J,hl⟩:=I.look
 exact PySem.W.method_fn X J (PySem.W.plainGet_of hg).1 (PySem.W.plainGet_of hg).2 hf (beq_iff_eq.mp ht) (by show (PySem.W.lookIn name od).map (·.isSome)=some false; rw [hl,hv]; rfl) h
theorem znY_ {ns:List Str}{Q:Unit→Shared→Prop}(X:K.In s.heap) (I:ObjM s.heap x dx C mA)
  (hs:PySem.W.findIn K (.ref C) "__setattr__" = some (some (.builtin "object.__setattr__"))) (hp:PySem.W.plainOver K C=true) (ht:PySem.W.takerIn K C name=some none) (hh:PySem.W.hasDictIn K C=true)
  (hw:PySem.Within mA ns) (hsz:ns.length≤sizeLine)
  (h:∀ h',ObjM h' x dx C (fun y=>if y=name then some v else mA y)→Heap.SameBut dx s.heap h'→Q () { s with heap:=h',toks:=s.toks+2 }) :
  wpAny (model prog w) A (setAttr (.ref x) name v) Q E s:=by
 obtain ⟨od,J,hl⟩:=I.look
 refine PySem.W.set_plain X J hs (PySem.W.osa_open (s:={ s with toks:=s.toks+1 }) (r:=none) X J hp ht fun b=>?_)
 obtain ⟨cd,hc,hd'⟩:=PySem.W.any_some hh
 have hx:s.heap.get? x=some ⟨.ref C,some dx,.plain,#[]⟩:=I.obj
 refine wpAny_bind (wpAny_pure (wpAny_bind (wpAny_bind (wpAny_loadPart hx (wpAny_bind (PySem.W.Looks.here (s:={ s with toks:=s.toks+1 }) (PySem.W.looks_clsIn X hc) ?_))))))
 rw [hd']
 refine wpAny_pure (a:=some dx) (wpAny_bind (wpAny_pure (wpAny_bind ?_)))
 refine wpAny_nsSet1 (s:={ s with toks:=s.toks+1 }) I.ns fun h' hn2 hs2=>?_
 obtain ⟨oD,esD,epD,hoD,hdD,hcD⟩:=hn2.count (PySem.Within.cons name v hw)
 refine wpAny_bind (wpAny_lookBehind hoD (by rw [hdD]; exact pastItsLine_dict (Nat.le_trans hcD (by rw [List.length_cons]; lia))) ?_)
 exact wpAny_pure (h _ ⟨(hs2.2 _ (Ne.symm I.ne)).trans I.obj,hn2,I.ne⟩ hs2)
theorem zl3_ {R:Result→Shared→Prop}{vs:List Value}{kw:List (Str×Value)}(X:K.In s.heap) (hm:PySem.W.makesIn K C=true)
  (hi:PySem.W.findIn K (.ref C) "__init__" = some (some (.ref f))) (hf:PySem.W.typeIn K (.ref f)=some (.type "function"))
  (h:codeAny (model prog w) (A.under (.builtin "type.__call__" ⟨.ref C::vs,kw⟩)) (.call (.ref f) ⟨.ref (s.heap.objs.size+1)::vs,kw⟩) (PySem.W.InitBack (s.heap.objs.size+1) R)
   { s with heap:=(s.heap.push PySem.W.emptyDict).push (PySem.W.instObj C s.heap.objs.size) }) :
  codeAny (model prog w) A (.call (.ref C) ⟨vs,kw⟩) R s:=by
 obtain ⟨hh,g,d,t,os⟩:=s
 exact PySem.W.make_core (PySem.W.makes_of X hm) (PySem.W.looks_findIn X hi) (fun self=>PySem.W.bind_fn X self hf) (.inl rfl) h
end
def putF (f:Str) (v:V):List (Str×V)→List (Str×V)
 | []=>[(f,v)]
 | (g,x)::r=>if g=f then (g,v)::r else (g,x)::putF f v r
theorem zel_ (f g:Str) (v:V):∀ fs:List (Str×V),(putF f v fs).lookup g=if g=f then some v else fs.lookup g
 | []=>by
  show List.lookup g [(f,v)]=_
  by_cases h:g=f
  ·have hb:(g == f)=true:=beq_iff_eq.mpr h
   simp only [List.lookup,hb,if_pos h]
  ·have hb:(g == f)=false:=beq_eq_false_iff_ne.mpr h
   simp only [List.lookup,hb,if_neg h]
 | (k,x)::r=>by
  have ih:=zel_ f g v r
  rw [show putF f v ((k,x)::r)=(if k=f then (k,v)::r else (k,x)::putF f v r) from rfl]
  by_cases hk:k=f
  ·rw [if_pos hk]
   by_cases h:g=k
   ·have hb:(g == k)=true:=beq_iff_eq.mpr h
    simp only [List.lookup,hb,if_pos (h.trans hk)]
   ·have hb:(g == k)=false:=beq_eq_false_iff_ne.mpr h
    simp only [List.lookup,hb,if_neg (fun e:g=f=>h (e.trans hk.symm))]
  ·rw [if_neg hk]
   by_cases h:g=k
   ·have hb:(g == k)=true:=beq_iff_eq.mpr h
    simp only [List.lookup,hb,if_neg (fun e:g=f=>hk (h.symm.trans e))]
   ·have hb:(g == k)=false:=beq_eq_false_iff_ne.mpr h
    simp only [List.lookup,hb]
    exact ih
theorem zeG_ (f:Str) (v:V):∀ fs:List (Str×V),f∈(putF f v fs).map (·.1)∧∀ g,g∈fs.map (·.1)→g∈(putF f v fs).map (·.1)
 | []=>⟨by simp [putF],fun g h=>by simp at h⟩
 | (k,x)::r=>by
  obtain ⟨i1,i2⟩:=zeG_ f v r
  rw [show putF f v ((k,x)::r)=(if k=f then (k,v)::r else (k,x)::putF f v r) from rfl]
  by_cases hk:k=f
  ·rw [if_pos hk]
   subst hk
   exact ⟨by simp,fun g h=>by simpa using h⟩
  ·rw [if_neg hk]
   refine ⟨?_,fun g h=>?_⟩
   ·rw [List.map_cons]
    exact List.mem_cons_of_mem _ i1
   ·rw [List.map_cons] at h ⊢
    rcases List.mem_cons.mp h with e | e
    ·exact List.mem_cons.mpr (.inl e)
    ·exact List.mem_cons_of_mem _ (i2 g e)
theorem zex_ (f:Str) (v:V):∀ fs:List (Str×V),(putF f v fs).length≤fs.length+1
 | []=>by simp [putF]
 | (k,x)::r=>by
  have ih:=zex_ f v r
  rw [show putF f v ((k,x)::r)=(if k=f then (k,v)::r else (k,x)::putF f v r) from rfl]
  by_cases hk:k=f
  ·rw [if_pos hk,List.length_cons,List.length_cons]; lia
  ·rw [if_neg hk,List.length_cons,List.length_cons]; lia
theorem RelO.some_of {v:V}{o:Option Value}(r:RelO (some v) o):∃ u,o=some u∧RelV v u:=by
 cases o with
 | none=>exact (show False from r).elim
 | some u=>exact ⟨u,rfl,r⟩
theorem RelO.none_of {o:Option Value}(r:RelO none o):o=none:=by
 cases o with
 | none=>rfl
 | some u=>exact (show False from r).elim
theorem zjD_ {v:V}{u:Value}(r:RelV v u):PySem.W.handedIn u=true:=by
 cases v with
 | non=>cases (show u=Value.none from r); rfl
 | bl b=>cases (show u=Value.bool b from r); rfl
 | int i=>obtain ⟨t,e⟩:=(show ∃ t,u=Value.int i t from r); cases e; rfl
 | str x=>obtain ⟨t,e⟩:=(show ∃ t,u=Value.str x t from r); cases e; rfl
 | byt b=>obtain ⟨t,e⟩:=(show ∃ t,u=Value.bytes b t from r); cases e; rfl
 | flt b=>obtain ⟨t,e⟩:=(show ∃ t,u=Value.float b t from r); cases e; rfl
 | ref a=>cases (show u=Value.ref a from r); rfl
 | ty n=>cases (show u=Value.type n from r); rfl
section
variable {P:Program}{w:World}{H H':Hp}{h h':Heap}{a C dx:Addr}{fs fs':List (Str×V)}
theorem zgY_ (hok:HOk P w H h) (e:H a=some (.ins C dx fs)):∃ mA,ObjM h a dx C mA∧(∀ f,RelO (fs.lookup f) (mA f))∧PySem.Within mA (fs.map (·.1))∧fs.length≤1000∧H dx=some (.own a):=by
 obtain ⟨d,z,ne,ob,mA,n,r,q⟩:=(show ObjOk P w H h a (.ins C dx fs) from hok a _ e)
 exact ⟨mA,⟨ob,n,ne⟩,r,q,z,d⟩
end
structure Cls (K:Fgg) (C:Addr):Prop where
 pg:PySem.W.plainGet K C Str.empty=true
 hd:PySem.W.hasDictIn K C=true
 po:PySem.W.plainOver K C=true
 sa:PySem.W.findIn K (.ref C) "__setattr__" = some (some (.builtin "object.__setattr__"))
theorem Cls.get {K:Fgg}{C:Addr}(c:Cls K C) (f:Str):PySem.W.plainGet K C f=true:=c.pg
def NoAttr (K:Fgg) (C:Addr) (f:Str):Prop:=PySem.W.findIn K (.ref C) f=some none
theorem NoAttr.taker {K:Fgg}{C:Addr}{f:Str}(n:NoAttr K C f):PySem.W.takerIn K C f=some none:=by
 unfold PySem.W.takerIn
 rw [show PySem.W.findIn K (.ref C) f=some none from n]
 rfl
structure Meth (K:Fgg) (C:Addr) (m:Str) (f:Addr):Prop where
 at_:PySem.W.findIn K (.ref C) m=some (some (.ref f))
 fn:PySem.W.isFn K (.ref f)=true
 kp:PySem.W.keepIn K (.ref f)=true
section
variable {X:Cx}{pins:Pnn}{σ:St}{H:Hp}{s:Shared}{a C dx:Addr}{fs:List (Str×V)}{f:Str}{v:V}{A:Around}{E:Value→Shared→Prop}
theorem zhK_ {b:Bool}{Q:Value→Shared→Prop}(I:Inv X pins σ H s) (e:H a=some (.ins C dx fs)) (c:Cls X.K C) (n:NoAttr X.K C f) (l:fs.lookup f=some v)
  (h:∀ u s',Inv X pins σ H s'→RelV v u→Q u s'):wpAny (model X.prog X.w) A (getAttr (.ref a) f b) Q E s:=by
 obtain ⟨mA,O,r,_,_,_⟩:=zgY_ I.hok e
 obtain ⟨u,hu,ru⟩:=RelO.some_of (v:=v) (o:=mA f) (by rw [← l]; exact r f)
 exact znp_ I.kIn O (c.get f) c.hd n hu (zjD_ ru) (h u _ (I.tok _) ru)
theorem zdW_ {m:Str}{g:Addr}{pl:Sem Bool}{Q:Value×List Value→Shared→Prop}(I:Inv X pins σ H s) (e:H a=some (.ins C dx fs)) (c:Cls X.K C) (k:Meth X.K C m g) (l:fs.lookup m=none)
  (h:Q (.ref g,[.ref a]) s):wpAny (model X.prog X.w) A (getMethod (.ref a) m pl) Q E s:=by
 obtain ⟨mA,O,r,_,_,_⟩:=zgY_ I.hok e
 have hn:mA m=none:=RelO.none_of (by rw [← l]; exact r m)
 exact zmm_ I.kIn O (c.get m) k.at_ k.fn hn h
theorem zi2_ {y:V}{u:Value}{Q:Unit→Shared→Prop}(I:Inv X pins σ H s) (e:H a=some (.ins C dx fs)) (c:Cls X.K C) (n:NoAttr X.K C f) (hl:fs.length<1000) (ry:RelV y u)
  (h:∀ s',Inv X pins σ (upd H a (.ins C dx (putF f y fs))) s'→Q () s'):wpAny (model X.prog X.w) A (setAttr (.ref a) f u) Q E s:=by
 obtain ⟨mA,O,r,wi,_,ho⟩:=zgY_ I.hok e
 have hz:(fs.map (·.1)).length≤sizeLine:=by rw [List.length_map,sizeLine_eq]; lia
 refine znY_ I.kIn O c.sa c.po n.taker c.hd wi hz fun h' O' sb=>h _ ?_
 have hd:∃ o,h'.get? dx=some o:=let ⟨o,_,_,e',_⟩:=O'.ns; ⟨o,e'⟩
 refine I.write (x:=a) (e:=dx) (by rw [e]; exact True.intro) (.inr ho) (fun b q hb z=>(sb.2 b hb).trans z) hd ?_
 refine ⟨by rw [zah_ O.ne]; exact ho,?_,O.ne,O'.obj,_,O'.ns,fun g=>?_,fun g hg=>?_⟩
 ·have:=zex_ f y fs; lia
 ·show RelO ((putF f y fs).lookup g) (if g=f then some u else mA g)
  rw [zel_]
  by_cases q:g=f
  ·rw [if_pos q,if_pos q]; exact ry
  ·rw [if_neg q,if_neg q]; exact r g
 ·by_cases q:g=f
  ·rw [q]; exact (zeG_ f y fs).1
  ·refine (zeG_ f y fs).2 g (wi g fun z=>hg ?_)
   show (if g=f then some u else mA g)=none
   rw [if_neg q]; exact z
theorem Inv.made (I:Inv X pins σ H s):Inv X pins σ (upd (upd H s.heap.objs.size (.own (s.heap.objs.size+1))) (s.heap.objs.size+1) (.ins C s.heap.objs.size []))
  { s with heap:=(s.heap.push PySem.W.emptyDict).push (PySem.W.instObj C s.heap.objs.size) }:=by
 have e1:(s.heap.push PySem.W.emptyDict).get? s.heap.objs.size=some PySem.W.emptyDict:=Heap.get?_push_size s.heap rfl
 have e2:((s.heap.push PySem.W.emptyDict).push (PySem.W.instObj C s.heap.objs.size)).get? (s.heap.objs.size+1)=some (PySem.W.instObj C s.heap.objs.size):=by
  have:=Heap.get?_push_size (s.heap.push PySem.W.emptyDict) (o:=PySem.W.instObj C s.heap.objs.size) rfl
  rwa [Heap.size_push] at this
 have e3:(s.heap.push PySem.W.emptyDict).Ns s.heap.objs.size (fun _=>none):=⟨PySem.W.emptyDict,#[],_,e1,rfl,(fun e he=>absurd he (by simp)),fun _=>rfl⟩
 have I1:=I.laid (a:=s.heap.objs.size) (o:=.own (s.heap.objs.size+1)) (h':=s.heap.push PySem.W.emptyDict) (t':=s.toks) (fun b u q=>Heap.get?_push_of_some _ q) (Nat.le_refl _) ⟨_,e1⟩
 refine I1.laid (a:=s.heap.objs.size+1) (o:=.ins C s.heap.objs.size []) (t':=s.toks) (fun b u q=>Heap.get?_push_of_some _ q) (Nat.le_of_eq (Heap.size_push _ _)) ?_
 have ne:s.heap.objs.size≠s.heap.objs.size+1:=Nat.ne_of_lt (Nat.lt_succ_self _)
 refine ⟨by rw [zah_ ne,zat_],Nat.zero_le _,ne,e2,fun _=>none,(Heap.Ns1.of_empty e3).at fun o q=>Heap.get?_push_of_some _ q,fun _=>True.intro,fun y hy=>absurd rfl hy⟩
theorem znG_ {prog:Program}{w:World}{env:Env}{e:Expr}{f:Str}{pos:Pos}{s:Shared}{Q:Value→Shared→Prop}(hb:attributeBase e f env (eval e env)=eval e env)
  (h:wpAny (model prog w) A (eval e env) (fun o s₁=>wpAny (model prog w) A (getAttr o f true) Q E s₁) E s):wpAny (model prog w) A (eval (.Attribute e f pos) env) Q E s :=
 Attribute_any_ h (by rw [arm_eval_Attribute,hb])
end
section
variable {X:Cx}{o e value:Expr}{f:Str}{pos pos' tpos:Pos}{ta tv:TE}
theorem zmq_ {pl:Sem Bool}{m:Str}{apos:Pos}{args:List Expr}{pins:Pnn}{s:Shared}{σ:St}{H:Hp}{Q:Value→Shared→Prop}{te:TE}(he:PE X e te) (I:Inv X pins σ H s)
  (h:te σ H fun x H1=>∃ a C dx fs g,x=.ref a∧H1 a=some (.ins C dx fs)∧Cls X.K C∧Meth X.K C m g∧fs.lookup m=none ∧
   ∀ s1,Inv X pins σ H1 s1→wpAny (model X.prog X.w) X.A (callWith pos (.ref g) [.ref a] (backTo pos (starEach args X.env)) (backToKw pos (keywordEach [] X.env))) Q X.xe s1)
  (ht:eval (.Call (.Attribute e m apos) args [] pos) X.env=(do
   let ov ← eval e X.env
   standAt apos.atName
   let (f,first) ← holding [ov] (getMethod ov m pl)
   callWith pos f first (backTo pos (starEach args X.env)) (backToKw pos (keywordEach [] X.env)))) :
  wpAny (model X.prog X.w) X.A (eval (.Call (.Attribute e m apos) args [] pos) X.env) Q X.xe s:=by
 refine PySem.W.methodCall_KW (pl:=pl) (thn (he pins s σ H _ I h) fun u s1 hq_=>?_) ht
 obtain ⟨x,H1,I1,rx,a,C,dx,fs,g,ex,ea,c,k,l,q⟩:=hq_
 subst ex
 obtain rfl:u=Value.ref a:=rx
 exact zdW_ I1 ea c k l (q s1 I1)
end
section
variable {X:Cx}{pins:Pnn}{σ:St}{H:Hp}{s:Shared}{A:Around}{E:Value→Shared→Prop}{Q:Value→Shared→Prop}{c:Value}{b:Bool}
inductive TyOf (K:Fgg) (H:Hp):V→Value→Prop where
 | non:TyOf K H .non (.type "NoneType")
 | bl (x:Bool):TyOf K H (.bl x) (.type "bool")
 | int (i:Int):TyOf K H (.int i) (.type "int")
 | str (x:Str):TyOf K H (.str x) (.type "str")
 | flt (x:UInt64):TyOf K H (.flt x) (.type "float")
 | lst {a:Addr}{xs:List V}(e:H a=some (.lst xs)):TyOf K H (.ref a) (.type "list")
 | frz {a:Addr}{o:Obj}{xs:List V}(e:H a=some (.frz o (.lst xs))):TyOf K H (.ref a) (.type "list")
 | tup {a:Addr}{xs:List V}(e:H a=some (.tup xs)):TyOf K H (.ref a) (.type "tuple")
 | dK {a:Addr}{kvs:List (Key×V)}(e:H a=some (.dK kvs)):TyOf K H (.ref a) (.type "dict")
 | dT {a:Addr}{kvs:List (List Key×V)}(e:H a=some (.dT kvs)):TyOf K H (.ref a) (.type "dict")
 | ins {a C dx:Addr}{fs:List (Str×V)}(e:H a=some (.ins C dx fs)) (cl:Cls K C) (ha:PySem.W.findIn K (.ref C) "__class__" = some (some (.builtin "object.__class__")))
   (hn:PySem.W.specialIn K (.builtin "object.__class__") "__get__" = some (some (.builtin "getset_descriptor.__get__"))) (htk:PySem.W.takesIn K (.builtin "object.__class__")=some true)
   (hm:PySem.W.mroIn K C (.type "object")=some true):TyOf K H (.ref a) (.ref C)
theorem zjJ_ {x:V}{u t:Value}(I:Inv X pins σ H s) (rx:RelV x u) (ty:TyOf X.K H x t) (e:PySem.W.kitOne X.K t c=some b) (h:∀ tk,Q (.bool b) { s with toks:=tk }) :
  wpAny (model X.prog X.w) A (call (.builtin "isinstance") [u,c]) Q E s:=by
 cases ty with
 | non=>cases (show u=Value.none from rx); exact PySem.W.kia_one PySem.W.kitx_none I.kIn True.intro e (fun z=>nomatch z) h
 | bl y=>cases (show u=Value.bool y from rx); exact PySem.W.kia_one PySem.W.kitx_bool I.kIn True.intro e (fun z=>nomatch z) h
 | int i=>obtain ⟨t,q⟩:=(show ∃ t,u=Value.int i t from rx); cases q; exact PySem.W.kia_one PySem.W.kitx_int I.kIn True.intro e (fun z=>nomatch z) h
 | str y=>obtain ⟨t,q⟩:=(show ∃ t,u=Value.str y t from rx); cases q; exact PySem.W.kia_one PySem.W.kitx_str I.kIn True.intro e (fun z=>nomatch z) h
 | flt y=>obtain ⟨t,q⟩:=(show ∃ t,u=Value.float y t from rx); cases q; exact PySem.W.kia_one PySem.W.kitx_float I.kIn True.intro e (fun z=>nomatch z) h
 | @lst a xs ea =>
  cases (show u=Value.ref a from rx)
  obtain ⟨_,_,n,_,h1⟩:=(show ObjOk X.prog X.w H s.heap a (.lst xs) from I.hok a _ ea)
  exact PySem.W.kia_one PySem.W.kitx_list I.kIn ⟨_,h1,rfl⟩ e (fun z=>nomatch z) h
 | @frz a ob xs ea =>
  cases (show u=Value.ref a from rx)
  obtain ⟨_,_,_,n,_,h1⟩:=(show ObjOk X.prog X.w H s.heap a (.frz ob (.lst xs)) from I.hok a _ ea)
  exact PySem.W.kia_one PySem.W.kitx_list I.kIn ⟨_,h1,rfl⟩ e (fun z=>nomatch z) h
 | @tup a xs ea =>
  cases (show u=Value.ref a from rx)
  obtain ⟨_,_,_,p⟩:=(show ObjOk X.prog X.w H s.heap a (.tup xs) from I.hok a _ ea)
  obtain ⟨o,h1,h2,_⟩:=p
  exact PySem.W.kia_one PySem.W.kitx_tuple I.kIn ⟨o,h1,h2⟩ e (fun z=>nomatch z) h
 | @dK a kvs ea =>
  cases (show u=Value.ref a from rx)
  obtain ⟨_,_,vs,_,p⟩:=(show ObjOk X.prog X.w H s.heap a (.dK kvs) from I.hok a _ ea)
  obtain ⟨o,es,ep,h1,h2,_⟩:=p
  exact PySem.W.kia_one PySem.W.kitx_dict I.kIn ⟨o,h1,h2.1⟩ e (fun z=>nomatch z) h
 | @dT a kvs ea =>
  cases (show u=Value.ref a from rx)
  obtain ⟨_,_,xs,_,o,es,ep,h1,h2,_⟩:=(show ObjOk X.prog X.w H s.heap a (.dT kvs) from I.hok a _ ea)
  exact PySem.W.kia_one PySem.W.kitx_dict I.kIn ⟨o,h1,h2.1⟩ e (fun z=>nomatch z) h
 | @ins a C dx fs ea cl ha hn htk hm =>
  cases (show u=Value.ref a from rx)
  obtain ⟨mA,O,_⟩:=zgY_ I.hok ea
  obtain ⟨od,J,_⟩:=O.look
  exact PySem.W.kia_one (PySem.W.kitx_own (cl.get _) cl.hd ha hn htk hm) I.kIn J e (fun z=>nomatch z) h
end
end L2
namespace L2
open PySem PySem.Spec PyProof.Rows
structure Room (k:Nat) (A:Around):Prop where
 hd:A.handled=none
 dp:A.depth+3*k+5<recursionLimit
 un:A.units+16*k+200<cLine
theorem Room.mono {j k:Nat}{A:Around}(r:Room k A) (h:j≤k):Room j A:=⟨r.hd,by have:=r.dp; lia,by have:=r.un; lia⟩
theorem Room.deeper {k:Nat}{A:Around}(r:Room (k+1) A) (env:Env):Room k (A.deeper env) :=
 ⟨r.hd,by have:=r.dp; show A.depth+1+3*k+5<_; lia,by have:=r.un; show A.units+3+16*k+200<_; lia⟩
theorem ziC_ {A:Around}{C:Addr}{us:List Value}{kw:List (Str×Value)}:(A.under (.builtin "type.__call__" ⟨.ref C::us,kw⟩)).depth=A.depth+1:=by
 first | rfl | simp [Around.under,Code.weight,Code.isCreation,Code.isGuard,Code.isCaller,Code.frames,Code.isFrame,guardIds]
theorem zhZ_ {A:Around}{C:Addr}{us:List Value}{kw:List (Str×Value)}:(A.under (.builtin "type.__call__" ⟨.ref C::us,kw⟩)).units=A.units+1:=by
 first | rfl | simp [Around.under,Code.cUnits,Code.frames,Code.isFrame]
theorem Room.make {k:Nat}{A:Around}(r:Room (k+1) A) (C:Addr) (us:List Value) (kw:List (Str×Value)):Room k (A.under (.builtin "type.__call__" ⟨.ref C::us,kw⟩)) :=
 ⟨r.hd,by have:=r.dp; rw [ziC_]; lia,by have:=r.un; rw [zhZ_]; lia⟩
theorem Room.depth {k:Nat}{A:Around}(r:Room k A):A.depth<recursionLimit:=by have:=r.dp; lia
theorem Room.units {k:Nat}{A:Around}(r:Room k A):A.units+64<cLine:=by have:=r.un; lia
def tNil:TA:=fun _ H Q=>Q [] H
def tCons (ta:TE) (tr:TA):TA:=fun σ H Q=>ta σ H fun x H1=>tr σ H1 fun xs H2=>Q (x::xs) H2
section
variable {X:Cx}{e:Expr}{es:List Expr}{te:TE}{t:TA}{pos:Pos}
theorem zg_:PA X [] tNil:=fun _ _ _ _ H Q I h=>Calls.spliced_nil ⟨[],H,I,.nil,h⟩
theorem zb_ (ha:PE X e te) (hr:PA X es t) (hs:starEach (e::es) X.env=(false,eval e X.env)::starEach es X.env:=by rfl):PA X (e::es) (tCons te t):=by
 intro pos pins s σ H Q I h
 rw [hs]
 show wpAny _ _ (spliced ((false,eval e X.env)::backTo pos (starEach es X.env))) _ _ s
 refine Calls.spliced_cons (thn (ha pins s σ H _ I h) fun u s1 hq_=>?_)
 obtain ⟨x,H1,I1,r1,q1⟩:=hq_
 exact thn (hr pos pins s1 σ H1 _ I1 q1) fun us s2 ⟨xs,H2,I2,r2,q2⟩=>⟨x::xs,H2,I2,.cons r1 r2,q2⟩
def tTup (t:TA):TE:=fun σ H Q=>t σ H fun xs H1=>xs.length≤sizeLine∧∀ p,H1 p=none→Q (.ref p) (upd H1 p (.tup xs))
def tLst (t:TA):TE:=fun σ H Q=>t σ H fun xs H1=>xs.length≤sizeLine∧∀ p,H1 p=none→Q (.ref p) (upd H1 p (.lst xs))
theorem zmK_ {x1} (h:PA X es t):PE X (.Tuple es x1 pos) (tTup t):=by
 intro pins s σ H Q I hq
 refine wpAny_Tuple_spliced (thn (h pos pins s σ H _ I hq) fun us s1 ⟨xs,H1,I1,r,z,q⟩=>⟨by rw [← r.length]; exact z,?_⟩)
 have hf:H1 s1.heap.objs.size=none:=I1.hok.fresh (Nat.le_refl _)
 refine ⟨.ref s1.heap.objs.size,upd H1 s1.heap.objs.size (.tup xs),I1.laid (t':=s1.toks) (fun b u e=>Heap.get?_push_of_some _ e) (Nat.le_refl _) ?_,rfl,q _ hf⟩
 exact ⟨z,us,r,⟨_,Heap.get?_push_size _ rfl,rfl,_,rfl⟩⟩
theorem za8_ (h:PA X es t):PE X (.List es pos) (tLst t):=by
 intro pins s σ H Q I hq
 refine wpAny_List_spliced (thn (h pos pins s σ H _ I hq) fun us s1 ⟨xs,H1,I1,r,z,q⟩=>⟨by rw [← r.length]; exact z,?_⟩)
 have hf:H1 s1.heap.objs.size=none:=I1.hok.fresh (Nat.le_refl _)
 refine ⟨.ref s1.heap.objs.size,upd H1 s1.heap.objs.size (.lst xs),I1.laid (t':=s1.toks) (fun b u e=>Heap.get?_push_of_some _ e) (Nat.le_refl _) ?_,rfl,q _ hf⟩
 exact ⟨z,us,0,r,Heap.get?_push_size _ rfl⟩
end
abbrev Sp:=List V→Hp→VK→XK→Prop
abbrev CXT:=List Env→Hp→Shared→XK→Value→Shared→Prop
structure Env0 (P:Program) (w:World) (K:Fgg) (mg:Str→Option Value) (base:Heap) (A:Around) (outer:List Env) (s:Shared) (H:Hp):Prop where
 frames:A.frames=some outer
 mod:Mod K mg base
 bs:∀ b o,base.get? b=some o→s.heap.get? b=some o∧H b=none
 bsz:base.objs.size≤s.heap.objs.size
 funs:s.heap.FunFrames base outer
 frf:∀ b∈frs outer,H b=none
 hok:HOk P w H s.heap
 bare:AllBare s.gens
def CE (outer:List Env) (P:Program) (w:World) (H:Hp) (s:Shared) (Q:VK) (u:Value) (s':Shared):Prop :=
 ∃ v H',s'.os=s.os∧AllBare s'.gens∧Un (frs outer) [] H H' s.heap s'.heap∧HOk P w H' s'.heap∧RelV v u∧Q v H'
def CR (CX:CXT) (outer:List Env) (P:Program) (w:World) (H:Hp) (s:Shared) (Q:VK) (E:XK) (r:Result) (s':Shared):Prop :=
 match r with
 | .ok (.ret u)=>CE outer P w H s Q u s'
 | .ok _=>False
 | .error e=>CX outer H s E e s'
structure FnOk (P:Program) (w:World) (K:Fgg) (mg:Str→Option Value) (base:Heap) (CX:CXT) (k:Nat) (f:Addr) (fd:FuncData) (ps:List Str) (sp:Sp):Prop where
 len:∀ vs H Q E,sp vs H Q E→vs.length=ps.length
 run:∀ (A:Around) (outer:List Env) (s:Shared) (H:Hp) (args:Args) (us:List Value) (vs:List V) (Q:VK) (E:XK),Room k A→Env0 P w K mg base A outer s H→BindsTo s fd args (ps.zip us)→Vals vs us→sp vs H Q E →
  codeAny (model P w) A (.call (.ref f) args) (CR CX outer P w H s Q E) s
theorem Env0.make {P:Program}{w:World}{K:Fgg}{mg:Str→Option Value}{base:Heap}{A:Around}{outer:List Env}{s:Shared}{H:Hp}(e:Env0 P w K mg base A outer s H) (C:Addr) (us:List Value) (kw:List (Str×Value)) :
  Env0 P w K mg base (A.under (.builtin "type.__call__" ⟨.ref C::us,kw⟩)) outer s H:=⟨by first | exact e.frames | (simpa [Around.under,Code.envs,Code.isFrame,pushEnvs] using e.frames),e.mod,e.bs,e.bsz,e.funs,e.frf,e.hok,e.bare⟩
section
variable {X:Cx}{pins:Pnn}{σ:St}{H:Hp}{s s':Shared}
theorem Inv.env0 (I:Inv X pins σ H s):Env0 X.prog X.w X.K X.mg X.base X.A X.stack s H :=
 ⟨I.ok.frames,I.ok.mod,I.bs,Nat.le_trans I.ok.bsz I.sz,I.stack,I.stkFree,I.hok,I.bare⟩
theorem Inv.after {Q:VK}{u:Value}(I:Inv X pins σ H s) (h:CE X.stack X.prog X.w H s Q u s'):EP X pins σ Q u s':=by
 obtain ⟨v,H',os,bare,un,hok,r,q⟩:=h
 obtain ⟨hh,g,d,t,os'⟩:=s'
 obtain rfl:os'=s.os:=os
 exact ⟨v,H',I.call (h':=hh) (g':=g) (d':=d) (t':=t) (ch:=[]) un hok bare (fun b z=>absurd z (by simp)),r,q⟩
end
def tCall (sp:Sp) (dvs:List V) (E:XK) (t:TA):TE:=fun σ H Q=>t σ H fun vs H1=>sp (vs++dvs) H1 Q E
def tMeth (C:Addr) (m:Str) (sp:Sp) (dvs:List V) (E:XK) (ta:TE) (t:TA):TE:=fun σ H Q=>ta σ H fun x H1=>∃ a dx fs,x=.ref a∧H1 a=some (.ins C dx fs)∧fs.lookup m=none ∧
 t σ H1 fun vs H2=>sp (x::(vs++dvs)) H2 Q E
def tMake (C:Addr) (sp:Sp) (dvs:List V) (E:XK) (t:TA):TE:=fun σ H Q=>t σ H fun vs H1=>∀ x dx,H1 x=none→H1 dx=none→dx≠x →
 sp (.ref x::(vs++dvs)) (upd (upd H1 dx (.own x)) x (.ins C dx [])) (fun v H2=>v=.non∧Q (.ref x) H2) E
def Binds (K:Fgg) (fd:FuncData) (ps:List Str) (ds:List Value):Prop :=
 ∀ (s:Shared) (us:List Value),K.In s.heap→(us++ds).length=ps.length→BindsTo s fd ⟨us,[]⟩ (ps.zip (us++ds))
theorem Binds.all {K:Fgg}{fd:FuncData}{ps:List Str}(h:∀ us:List Value,us.length=ps.length→bindArgs fd ⟨us,[]⟩=pure (ps.zip us)):Binds K fd ps []:=fun s us _ hl=>by
 rw [List.append_nil] at hl ⊢
 exact .of_eq (h us hl)
def Passes (CX:CXT) (X:Cx) (E:XK):Prop:=∀ (pins:Pnn) (σ:St) (H:Hp) (s:Shared) (e:Value) (s':Shared),Inv X pins σ H s→CX X.stack H s E e s'→X.xe e s'
section
variable {X:Cx}{CX:CXT}{k:Nat}{f C:Addr}{fd:FuncData}{ps:List Str}{sp:Sp}{dvs:List V}{ds:List Value}{E:XK}{x m:Str}{p pos apos:Pos}{e o:Expr}{es:List Expr}{ta:TE}{t:TA}
theorem zld_ {pins:Pnn}{σ:St}{H:Hp}{s:Shared}{Q:VK}{us:List Value}{vs:List V}(F:FnOk X.prog X.w X.K X.mg X.base CX k f fd ps sp) (hr:Room k X.A) (hb:Binds X.K fd ps ds) (hd:Vals dvs ds) (hx:Passes CX X E)
  (I:Inv X pins σ H s) (r:Vals vs us) (h:sp (vs++dvs) H Q E):wpAny (model X.prog X.w) X.A (call (.ref f) us) (EP X pins σ Q) X.xe s:=by
 have r2:Vals (vs++dvs) (us++ds):=r.append hd
 have hl:(us++ds).length=ps.length:=by rw [← r2.length]; exact F.len _ _ _ _ h
 refine wpAny_call (codeAny_mono (F.run X.A X.stack s H ⟨us,[]⟩ (us++ds) (vs++dvs) Q E hr I.env0 (hb s us I.kIn hl) r2 h) fun r s' hq=>?_)
 cases r with
 | error e=>exact hx pins σ H s e s' I hq
 | ok fl =>
  cases fl with
  | ret u=>exact I.after hq
  | next=>exact False.elim hq
  | brk=>exact False.elim hq
  | cont=>exact False.elim hq
theorem znA_ (F:FnOk X.prog X.w X.K X.mg X.base CX k f fd ps sp) (hr:Room k X.A) (hg:Gl X x) (hm:X.mg x=some (.ref f)) (hk:PySem.W.keepIn X.K (.ref f)=true) (hb:Binds X.K fd ps ds) (hd:Vals dvs ds) (hx:Passes CX X E)
  (ha:PA X (e::es) t) (hdb:(x == ("__debug__" : Str))=false:=by decide) (he:starEach (e::es) X.env=(false,eval e X.env)::starEach es X.env:=by rfl) (hpl:(backTo pos (starEach es X.env)).any (·.1)=false:=by rfl) :
  PE X (.Call (.Name x p) (e::es) [] pos) (tCall sp dvs E t):=by
 intro pins s σ H Q I h
 refine wpAny_Call_Name_kw (ziz_ I hg hm ?_ hdb)
 refine PySem.W.callWith_K (h₀:=X.base) I.ok.mod.kin hk (thn (ha pos pins s σ H _ I h) fun us s1 ⟨vs,H1,I1,r,q⟩=>⟨I1.kIn,?_⟩) he hpl
 exact zld_ F hr hb hd hx I1 r q
theorem znZ_ {pl:Sem Bool}(he:PE X o ta) (c:Cls X.K C) (hm:Meth X.K C m f) (F:FnOk X.prog X.w X.K X.mg X.base CX k f fd ps sp) (hr:Room k X.A) (hb:Binds X.K fd ps ds) (hd:Vals dvs ds) (hx:Passes CX X E) (ha:PA X (e::es) t)
  (hst:starEach (e::es) X.env=(false,eval e X.env)::starEach es X.env:=by rfl) (hpl:(backTo pos (starEach es X.env)).any (·.1)=false:=by rfl)
  (ht:eval (.Call (.Attribute o m apos) (e::es) [] pos) X.env=(do
   let ov ← eval o X.env
   standAt apos.atName
   let (f,first) ← holding [ov] (getMethod ov m pl)
   callWith pos f first (backTo pos (starEach (e::es) X.env)) (backToKw pos (keywordEach [] X.env))):=by rfl) :
  PE X (.Call (.Attribute o m apos) (e::es) [] pos) (tMeth C m sp dvs E ta t):=by
 intro pins s σ H Q I h
 refine PySem.W.methodCall_KW (pl:=pl) (thn (he pins s σ H _ I h) fun u s1 hq_=>?_) ht
 obtain ⟨x,H1,I1,rx,a,dx,fs,ex,ea,l,q⟩:=hq_
 subst ex
 obtain rfl:u=Value.ref a:=rx
 refine zdW_ I1 ea c hm l ?_
 refine PySem.W.callWith_K (first:=[.ref a]) (h₀:=X.base) I.ok.mod.kin hm.kp (thn (ha pos pins s1 σ H1 _ I1 q) fun us s2 ⟨vs,H2,I2,r,q2⟩=>⟨I2.kIn,?_⟩) hst hpl
 exact zld_ (us:=.ref a::us) (vs:=.ref a::vs) F hr hb hd hx I2 (.cons rfl r) q2
theorem zl9_ {pl:Sem Bool}(he:PE X o ta) (c:Cls X.K C) (hm:Meth X.K C m f) (F:FnOk X.prog X.w X.K X.mg X.base CX k f fd ps sp) (hr:Room k X.A) (hb:Binds X.K fd ps ds) (hd:Vals dvs ds) (hx:Passes CX X E)
  (ht:eval (.Call (.Attribute o m apos) [] [] pos) X.env=(do
   let ov ← eval o X.env
   standAt apos.atName
   let (f,first) ← holding [ov] (getMethod ov m pl)
   callWith pos f first (backTo pos (starEach [] X.env)) (backToKw pos (keywordEach [] X.env))):=by rfl) :
  PE X (.Call (.Attribute o m apos) [] [] pos) (tMeth C m sp dvs E ta tNil):=by
 intro pins s σ H Q I h
 refine PySem.W.methodCall_KW (pl:=pl) (thn (he pins s σ H _ I h) fun u s1 hq_=>?_) ht
 obtain ⟨x,H1,I1,rx,a,dx,fs,ex,ea,l,q⟩:=hq_
 subst ex
 obtain rfl:u=Value.ref a:=rx
 refine zdW_ I1 ea c hm l ?_
 exact PySem.W.callWith_K0 (first:=[.ref a]) I1.kIn hm.kp (zld_ (us:=[.ref a]) (vs:=[.ref a]) F hr hb hd hx I1 (.cons rfl .nil) q)
structure Mk (K:Fgg) (C f:Addr):Prop where
 makes:PySem.W.makesIn K C=true
 init:PySem.W.findIn K (.ref C) "__init__" = some (some (.ref f))
 fn:PySem.W.isFn K (.ref f)=true
 kp:PySem.W.keepIn K (.ref C)=true
theorem zlL_ {pins:Pnn}{σ:St}{H:Hp}{s:Shared}{Q:VK}{us:List Value}{vs:List V}(M:Mk X.K C f) (F:FnOk X.prog X.w X.K X.mg X.base CX k f fd ps sp) (hr:Room (k+1) X.A) (hb:Binds X.K fd ps ds) (hd:Vals dvs ds)
  (hx:Passes CX X E) (I:Inv X pins σ H s) (r:Vals vs us)
  (h:∀ x dx,H x=none→H dx=none→dx≠x→sp (.ref x::(vs++dvs)) (upd (upd H dx (.own x)) x (.ins C dx [])) (fun v H2=>v=.non∧Q (.ref x) H2) E) :
  wpAny (model X.prog X.w) X.A (call (.ref C) us) (EP X pins σ Q) X.xe s:=by
 have hq:=h (s.heap.objs.size+1) s.heap.objs.size (I.hok.fresh (Nat.le_succ _)) (I.hok.fresh (Nat.le_refl _)) (Nat.ne_of_lt (Nat.lt_succ_self _))
 have I2:=Inv.made (C:=C) I
 have r2:Vals (V.ref (s.heap.objs.size+1)::(vs++dvs)) (Value.ref (s.heap.objs.size+1)::(us++ds)):=.cons rfl (r.append hd)
 have hl:(Value.ref (s.heap.objs.size+1)::us++ds).length=ps.length:=by
  have e:=r2.length
  rw [F.len _ _ _ _ hq] at e
  exact e.symm
 refine wpAny_call (zl3_ (f:=f) I.kIn M.makes M.init (beq_iff_eq.mp M.fn) (codeAny_mono (F.run _ X.stack _ _ ⟨Value.ref (s.heap.objs.size+1)::us,[]⟩ (Value.ref (s.heap.objs.size+1)::(us++ds)) _ _ E (hr.make C us [])
  (I2.env0.make C us []) (hb _ (Value.ref (s.heap.objs.size+1)::us) I2.kIn hl) r2 hq) fun r s' hq'=>?_))
 cases r with
 | error e=>exact hx pins σ _ _ e s' I2 hq'
 | ok fl =>
  cases fl with
  | ret u =>
   obtain ⟨v,H',I3,rv,ev,q3⟩:=I2.after hq'
   subst ev
   exact ⟨rv,⟨V.ref (s.heap.objs.size+1),H',I3,rfl,q3⟩⟩
  | next=>exact False.elim hq'
  | brk=>exact False.elim hq'
  | cont=>exact False.elim hq'
theorem znl_ (M:Mk X.K C f) (F:FnOk X.prog X.w X.K X.mg X.base CX k f fd ps sp) (hr:Room (k+1) X.A) (hg:Gl X x) (hm:X.mg x=some (.ref C)) (hb:Binds X.K fd ps ds) (hd:Vals dvs ds) (hx:Passes CX X E)
  (ha:PA X (e::es) t) (hdb:(x == ("__debug__" : Str))=false:=by decide) (he:starEach (e::es) X.env=(false,eval e X.env)::starEach es X.env:=by rfl) (hpl:(backTo pos (starEach es X.env)).any (·.1)=false:=by rfl) :
  PE X (.Call (.Name x p) (e::es) [] pos) (tMake C sp dvs E t):=by
 intro pins s σ H Q I h
 refine wpAny_Call_Name_kw (ziz_ I hg hm ?_ hdb)
 refine PySem.W.callWith_K (h₀:=X.base) I.ok.mod.kin M.kp (thn (ha pos pins s σ H _ I h) fun us s1 ⟨vs,H1,I1,r,q⟩=>⟨I1.kIn,?_⟩) he hpl
 exact zlL_ M F hr hb hd hx I1 r q
end
section
variable {X:Cx}{CX:CXT}{k:Nat}{f C:Addr}{fd:FuncData}{ps ks:List Str}{sp:Sp}{E:XK}{x m:Str}{p pos apos kpos:Pos}{e o:Expr}{es:List Expr}{kws:List Keyword}{te ta:TE}{t tk:TA}{nm:Option Str}
variable {g:List Value→List Value→List Value}{gV:List V→List V→List V}
end
structure FnScope (N P:List Str) (sc:Scope):Prop where
 kind:sc.kind=.function
 co:sc.isCoroutine=false
 gen:sc.isGenerator=false
 nd:N.Nodup
 pre:N.take P.length=P
 par:∀ x∈P,sc.names.lookup x=some .local∨sc.names.lookup x=some .cell
 nofree:∀ y∈sc.names,y.2≠.free
theorem zgq_ {kindOf:Str→Option NameKind}{x:Str}:∀ {binds:List (Str×Value)}{m:Str→Option Value},(∀ v,(x,v)∉binds)→bindL kindOf binds m x=m x
 | [],_,_=>rfl
 | (n,v)::r,m,h=>by
  unfold bindL
  rw [zgq_ fun w hw=>h w (List.mem_cons_of_mem _ hw)]
  split
  ·have:x≠n:=by rintro rfl; exact h v List.mem_cons_self
   simp [this]
  ·rfl
theorem zgE_ {kindOf:Str→Option NameKind}{x:Str}:∀ {binds:List (Str×Value)}{m:Str→Option Value},(∀ v,(x,v)∉binds)→bindC kindOf binds m x=m x
 | [],_,_=>rfl
 | (n,v)::r,m,h=>by
  unfold bindC
  rw [zgE_ fun w hw=>h w (List.mem_cons_of_mem _ hw)]
  split
  ·rfl
  ·have:x≠n:=by rintro rfl; exact h v List.mem_cons_self
   simp [this]
theorem zgz_ {kindOf:Str→Option NameKind}{x:Str}{v:Value}:∀ {P:List Str}{vs:List Value}{i:Nat}{m:Str→Option Value},P.Nodup→P[i]?=some x→vs[i]?=some v→kindOf x=some .local →
  bindL kindOf (P.zip vs) m x=some v
 | [],_,_,_,_,h,_,_=>by simp at h
 | _::_,[],_,_,_,_,h,_=>by simp at h
 | p::P,w::vs,0,m,nd,h1,h2,hk=>by
  simp at h1 h2; subst h1; subst h2
  show bindL kindOf ((p,w)::P.zip vs) m p=_
  unfold bindL
  rw [zgq_ fun v hv=>(List.nodup_cons.mp nd).1 (List.of_mem_zip hv).1,if_pos hk]
  simp
 | p::P,w::vs,i+1,m,nd,h1,h2,hk=>by
  show bindL kindOf ((p,w)::P.zip vs) m x=_
  unfold bindL
  exact zgz_ (i:=i) (List.nodup_cons.mp nd).2 (by simpa using h1) (by simpa using h2) hk
theorem zgP_ {kindOf:Str→Option NameKind}{x:Str}{v:Value}:∀ {P:List Str}{vs:List Value}{i:Nat}{m:Str→Option Value},P.Nodup→P[i]?=some x→vs[i]?=some v→kindOf x≠some .local →
  bindC kindOf (P.zip vs) m x=some v
 | [],_,_,_,_,h,_,_=>by simp at h
 | _::_,[],_,_,_,_,h,_=>by simp at h
 | p::P,w::vs,0,m,nd,h1,h2,hk=>by
  simp at h1 h2; subst h1; subst h2
  show bindC kindOf ((p,w)::P.zip vs) m p=_
  unfold bindC
  rw [zgE_ fun v hv=>(List.nodup_cons.mp nd).1 (List.of_mem_zip hv).1,if_neg hk]
  simp
 | p::P,w::vs,i+1,m,nd,h1,h2,hk=>by
  show bindC kindOf ((p,w)::P.zip vs) m x=_
  unfold bindC
  exact zgP_ (i:=i) (List.nodup_cons.mp nd).2 (by simpa using h1) (by simpa using h2) hk
def start (N:List Str) (vs:List V):St:=vs.map some++List.replicate (N.length-vs.length) none
def cxOf (CX:CXT) (P:Program) (w:World) (K:Fgg) (mg:Str→Option Value) (base:Heap) (N:List Str) (qual:Str) (scope:Scope) (f:Addr) (cd:Value) (A:Around) (outer:List Env) (s:Shared) (H:Hp) (E:XK):Cx where
 prog:=P
 w:=w
 K:=K
 mg:=mg
 base:=base
 A:=A.deeper (envOfC qual scope s.heap.objs.size f cd)
 N:=N
 s₀:=s
 H₀:=H
 env:=envOfC qual scope s.heap.objs.size f cd
 outer:=outer
 stack:=envOfC qual scope s.heap.objs.size f cd::outer
 ex:=[]
 calm:=true
 fn:=fun _=>true
 pn:=[]
 xe:=fun e s'=>wpAny (model P w) (A.deeper (envOfC qual scope s.heap.objs.size f cd)) (leaving (envOfC qual scope s.heap.objs.size f cd) e) (fun _ s''=>CX outer H s E e s'') (fun e' s''=>CX outer H s E e' s'') s'
theorem zh8_ {sc:Scope}{n:Nat}{x:Str}(h:sc.names.lookup x=some .cell):∃ c,(cellsFrom n sc.names []).lookup x=some c:=by
 have q:=PySem.W.cellsFrom_some sc.names n [] (.inl h)
 exact Option.isSome_iff_exists.mp q
theorem zjM_ {CX:CXT}{P:Program}{w:World}{K:Fgg}{mg:Str→Option Value}{base:Heap}{N ps:List Str}{qual:Str}{scope:Scope}{f:Addr}{cd:Value}{A:Around}{outer:List Env}{s s1:Shared}{H:Hp}{E:XK}{us:List Value}{vs:List V}
  (S:FnScope N ps scope) (hd:A.handled=none) (e0:Env0 P w K mg base A outer s H) (hl:vs.length=ps.length) (r:Vals vs us)
  (x:InCallC s s.heap.objs.size (bindL (envOfC qual scope s.heap.objs.size f cd).kindOf (ps.zip us) fun _=>none) (cellsFrom (s.heap.objs.size+1) scope.names []) (bindC (envOfC qual scope s.heap.objs.size f cd).kindOf (ps.zip us) fun _=>none) s1) :
  Inv (cxOf CX P w K mg base N qual scope f cd A outer s H E) [] (start N vs) H s1:=by
 have hpl:ps.length≤N.length:=by have:=congrArg List.length S.pre; rw [List.length_take] at this; lia
 obtain ⟨h1,tk,rfl,hk⟩:=x.done
 have noA:∀ b:Addr,b∉(cxOf CX P w K mg base N qual scope f cd A outer s H E).ex:=fun b z=>absurd (show b∈([]:List Addr) from z) (by simp)
 refine ⟨⟨e0.mod,S.kind,rfl,rfl,Nat.le_refl _,fun y z c h1 h2=>?_,fun y hy=>?_,fun y c _ h=>?_,fun _=>hd,Around.frames_deeper e0.frames,.inr ⟨rfl,rfl⟩,fun b z=>absurd z (noA b),e0.bs,e0.bsz,fun b _ _=>noA b,fun b z=>absurd z (noA b),e0.funs,e0.frf⟩,
  rfl,e0.bare,Un.kept hk,⟨_,x.toInCall.ns,fun i y v h1 h2 h3=>?_⟩,fun y c h=>⟨_,x.cell y c h⟩,e0.hok.fresh (Nat.le_refl _),fun y c h=>?_,fun p hp=>absurd (show p∈([]:Pnn) from hp) (by simp),e0.hok.kept hk,?_⟩
 ·exact name_of_addr x.apart (PySem.mem_of_lookup h1) (PySem.mem_of_lookup h2)
 ·have hy:scope.names.lookup y=some .cell∨scope.names.lookup y=some .free:=hy
  rcases hy with hy | hy
  ·exact zh8_ hy
  ·exact absurd rfl (S.nofree _ (PySem.mem_of_lookup hy))
 ·exact Nat.le_of_lt (x.above y c (PySem.mem_of_lookup h))
 ·have hi:i<vs.length:=by
   unfold start at h2
   by_cases hi:i<vs.length
   ·exact hi
   ·rw [List.getElem?_append_right (by simpa using hi)] at h2
    rw [List.getElem?_replicate] at h2
    split at h2<;>cases h2
  have ha:vs[i]?=some v:=by
   unfold start at h2
   rw [List.getElem?_append_left (by simpa using hi),List.getElem?_map] at h2
   cases e:vs[i]? with
   | none=>rw [e] at h2; cases h2
   | some a=>rw [e] at h2; cases h2; rfl
  obtain ⟨u,hu,rv⟩:=r.get ha
  have hp:ps[i]?=some y:=by
   rw [← S.pre,List.getElem?_take_of_lt (by lia)]; exact h1
  have ndP:ps.Nodup:=by rw [← S.pre]; exact S.nd.sublist (List.take_sublist _ _)
  refine ⟨u,rv,?_⟩
  rcases S.par y (List.mem_of_getElem? hp) with k | k
  ·exact .inl ⟨k,zgz_ ndP hp hu k⟩
  ·obtain ⟨c,e⟩:=zh8_ (n:=s.heap.objs.size+1) k
   refine .inr ⟨.inl k,c,e,?_⟩
   have q:=x.cell y c e
   rw [zgP_ ndP hp hu (by show scope.names.lookup y≠_; rw [k]; decide)] at q
   exact q
 ·exact e0.hok.fresh (Nat.le_of_lt (x.above y c (PySem.mem_of_lookup h)))
 ·unfold start
  show _=N.length
  rw [List.length_append,List.length_map,List.length_replicate]
  lia
theorem fn_of {CX:CXT}{P:Program}{w:World}{K:Fgg}{mg:Str→Option Value}{base:Heap}{k:Nat}{f:Addr}{name qual:Str}{params:Arguments}{body:List Stmt}{scope:Scope}{dV kV doc pm cdv ct oc:Value}{an od:Option Addr}
  {osl:Array (Option Value)}{N ps:List Str}{sp:Sp}(lk:K.lookup f=some ⟨oc,od,.func (PySem.W.fnOf name qual params body scope dV kV doc pm an cdv ct),osl⟩) (hcd:PySem.W.codeIn K cdv qual=true) (S:FnScope N ps scope)
  (len:∀ vs H Q E,sp vs H Q E→vs.length=ps.length)
  (hbody:∀ (A:Around) (outer:List Env) (s:Shared) (H:Hp) (vs:List V) (Q:VK) (E:XK),Room k (A.deeper (envOfC qual scope s.heap.objs.size f cdv))→sp vs H Q E →
   ∃ t,PSs (cxOf CX P w K mg base N qual scope f cdv A outer s H E) body t∧t { nx:=fun _ H'=>Q .non H',rt:=Q } (start N vs) H) :
  FnOk P w K mg base CX (k+1) f (PySem.W.fnOf name qual params body scope dV kV doc pm an cdv ct) ps sp:=by
 refine ⟨len,fun A outer s H args us vs Q E hr e0 hb r hsp=>?_⟩
 have hl:=len _ _ _ _ hsp
 have KX:K.In s.heap:=e0.mod.kin.keeps fun b o e=>(e0.bs b o e).1
 have lim:s.heap.NoLimit:=e0.mod.nolimit.keeps fun b o e=>(e0.bs b o e).1
 have hkind:∀ y∈ps.zip us,scope.names.lookup y.1=some .local∨(scope.names.lookup y.1=some .cell∧((cellsFrom (s.heap.objs.size+1) scope.names []).lookup y.1).isSome=true):=fun ⟨n,v⟩ hy=>by
  rcases S.par n (List.of_mem_zip hy).1 with q | q
  ·exact .inl q
  ·exact .inr ⟨q,PySem.W.cellsFrom_some _ _ _ (.inl q)⟩
 refine codeAny_call_function hr.depth (KX _ _ lk) rfl S.co S.gen rfl (PySem.W.codeRec_of KX hcd) (hb _ _ _ _ ?_)
 refine wpAny_newFunctionEnv_cells S.kind hkind fun env he s1 x=>?_
 subst he
 refine ⟨lim.keeps x.toInCall.keep,codeAny_func ?_⟩
 obtain ⟨t,ht,hq⟩:=hbody A outer s H vs Q E (hr.deeper _) hsp
 have I:Inv (cxOf CX P w K mg base N qual scope f cdv A outer s H E) [] (start N vs) H s1:=zjM_ S hr.hd e0 hl r x
 refine wpAny_mono (ht [] s1 (start N vs) H _ I hq) (fun fl s' hs=>?_) fun e s' hs=>hs
 have fin:∀ {σ':St}{H':Hp}{v:V}{u:Value},Inv (cxOf CX P w K mg base N qual scope f cdv A outer s H E) [] σ' H' s'→RelV v u→Q v H'→CE outer P w H s Q u s' :=
  fun {σ' H' v u} J rv q=>⟨v,H',J.os,J.bare,J.base,J.hok,rv,q⟩
 cases fl with
 | ret u =>
  obtain ⟨v,σ',H',J,rv,q⟩:=hs
  exact fin J rv q
 | next =>
  obtain ⟨σ',H',J,q⟩:=hs
  exact fin (v:=V.non) (u:=Value.none) J rfl q
 | brk =>
  obtain ⟨_,_,_,q⟩:=hs
  exact False.elim q
 | cont =>
  obtain ⟨_,_,_,q⟩:=hs
  exact False.elim q
end L2
namespace L2
open PySem PySem.Spec PyProof.Rows
section
variable {X:Cx}{x:Str}{p pos:Pos}{e:Expr}{es:List Expr}{t:TA}{id T:String}{r:List V→Hp→VK→Prop}
def tCB (r:List V→Hp→VK→Prop) (t:TA):TE:=fun σ H Q=>t σ H fun vs H1=>r vs H1 Q
theorem zle_ (hc:CallR X (.builtin id) r) (hg:Gl X x) (hm:X.mg x=none) (hv:bootBuiltins x=some (.builtin id)) (ha:PA X (e::es) t) (hn:x ≠ "__name__" := by decide) (hdb:(x == ("__debug__" : Str))=false:=by decide)
  (he:starEach (e::es) X.env=(false,eval e X.env)::starEach es X.env:=by rfl) (hpl:(backTo pos (starEach es X.env)).any (·.1)=false:=by rfl):PE X (.Call (.Name x p) (e::es) [] pos) (tCB r t):=by
 intro pins s σ H Q I h
 refine wpAny_Call_Name_kw (zfK_ I hg hm hv ?_ hn hdb)
 exact PyProof.Rows.callWith_builtin1 (thn (ha pos pins s σ H _ I h) fun us s1 ⟨vs,H1,I1,r1,q1⟩=>hc pins s1 σ H1 vs us Q I1 r1 q1) he hpl
theorem zj0_ (hc:CallR X (.type T) r) (hg:Gl X x) (hm:X.mg x=none) (hv:bootBuiltins x=some (.type T)) (ha:PA X (e::es) t) (hn:x ≠ "__name__" := by decide) (hdb:(x == ("__debug__" : Str))=false:=by decide)
  (he:starEach (e::es) X.env=(false,eval e X.env)::starEach es X.env:=by rfl) (hpl:(backTo pos (starEach es X.env)).any (·.1)=false:=by rfl):PE X (.Call (.Name x p) (e::es) [] pos) (tCB r t):=by
 intro pins s σ H Q I h
 refine wpAny_Call_Name_kw (zfK_ I hg hm hv ?_ hn hdb)
 exact PyProof.Rows.callWith_type1 (thn (ha pos pins s σ H _ I h) fun us s1 ⟨vs,H1,I1,r1,q1⟩=>hc pins s1 σ H1 vs us Q I1 r1 q1) he hpl
end
end L2
namespace HT
open PySem PyProof.Rows
section
open PySem.SeqAt
open PySem.AutoSeq1 (wpAny_loadPart')
open PySem.MeetsSeq PySem.MeetsSeq2 PySem.MeetsSeq3
end
section
variable {prog:Program}{w:World}{A:Around}{E:Value→Shared→Prop}{s:Shared}
def sIx (n d:Nat):Option Int→Nat
 | none=>d
 | some v=>if v<0 then (v+(n:Int)).toNat else min v.toNat n
theorem sIx_le (n d:Nat) (hd:d≤n) (o:Option Int):sIx n d o≤n:=by
 cases o with
 | none=>exact hd
 | some v =>
  show (if v<0 then (v+(n:Int)).toNat else min v.toNat n)≤n
  by_cases hv:v<0
  ·rw [if_pos hv]; lia
  ·rw [if_neg hv]; exact Nat.min_le_right _ _
end
end HT
namespace L2
open PySem PySem.Spec PyProof.Rows
abbrev TO:=St→Hp→(Option Int→Hp→Prop)→Prop
def PO (X:Cx) (e:Option Expr) (t:TO):Prop :=
 ∀ (pins:Pnn) (s:Shared) (σ:St) (H:Hp) (Q:Option Int→Hp→Prop),Inv X pins σ H s→t σ H Q →
  wpAny (model X.prog X.w) X.A (evalPart e X.env) (fun u s'=>∃ o H',Inv X pins σ H' s'∧IsPart u o∧Q o H') X.xe s
def tNoPart:TO:=fun _ H Q=>Q none H
section
variable {X:Cx}{e:Expr}{te:TE}{lo hi:Option Expr}{tl th:TO}{pos p2:Pos}
theorem zgw_:PO X none tNoPart:=by
 intro pins s σ H Q I h
 rw [evalPart_none]
 exact wpAny_pure ⟨none,H,I,.none,h⟩
def SlR (X:Cx) (r:V→Option Int→Option Int→Hp→VK→Prop):Prop :=
 ∀ (pins:Pnn) (s:Shared) (σ:St) (H:Hp) (x:V) (v vl vu:Value) (lo hi:Option Int) (sl:Addr) (Q:VK),Inv X pins σ H s→RelV x v→s.heap.IsSliceOf sl vl vu .none→IsPart vl lo→IsPart vu hi→r x lo hi H Q →
  ∃ T id,typeLookup (.type T) "__getitem__" = pure (some (.builtin id))∧s.TypeIs v T∧wpAny (model X.prog X.w) X.A (getItem v (.ref sl)) (EP X pins σ Q) X.xe s
def tSl (r:V→Option Int→Option Int→Hp→VK→Prop) (te:TE) (tl th:TO):TE:=fun σ H Q=>te σ H fun x H1=>tl σ H1 fun l H2=>th σ H2 fun u H3=>r x l u H3 Q
theorem zbe_ {r:V→Option Int→Option Int→Hp→VK→Prop}(hr:SlR X r) (he:PE X e te) (hl:PO X lo tl) (hu:PO X hi th):PE X (.Subscript e (.Slice lo hi none p2) pos) (tSl r te tl th):=by
 intro pins s σ H Q I h
 refine Subscript_ (thn (he pins s σ H _ I h) fun v s1 hq_=>?_)
 obtain ⟨x,H1,I1,r1,q1⟩:=hq_
 refine wpAny_Slice (thn (hl pins s1 σ H1 _ I1 q1) fun vl s2 ⟨l,H2,I2,pl,q2⟩=>thn (hu pins s2 σ H2 _ I2 q2) fun vu s3 hq_=>?_)
 obtain ⟨u,H3,I3,pu,q3⟩:=hq_
 rw [evalPart_none]
 refine wpAny_pure ?_
 have I4:Inv X pins σ H3 { s3 with heap:=s3.heap.push { cls:=.type "slice",data:=.fields #[vl,vu,.none] } }:=I3.kept (t':=s3.toks) fun b ob q=>Heap.get?_push_of_some _ q
 obtain ⟨T,id,hT,ht,hg⟩:=hr pins { s3 with heap:=s3.heap.push { cls:=.type "slice",data:=.fields #[vl,vu,.none] } } σ H3 x v vl vu l u s3.heap.objs.size Q I4 r1 (Heap.IsSliceOf.new ..) pl pu q3
 show wpAny (model X.prog X.w) X.A (subscriptTail e (.Slice lo hi none p2) v (.ref s3.heap.objs.size)) (EP X pins σ Q) X.xe { s3 with heap:=s3.heap.push { cls:=.type "slice",data:=.fields #[vl,vu,.none] } }
 exact tail_any (ops:=[.ref s3.heap.objs.size,v]) ht hT hg (by with_unfolding_all rfl)
def cutV (xs:List V) (lo hi:Option Int):List V:=(xs.drop (HT.sIx xs.length 0 lo)).take (HT.sIx xs.length xs.length hi-HT.sIx xs.length 0 lo)
theorem zhq_ (xs:List V) (lo hi:Option Int):(cutV xs lo hi).length≤xs.length:=by
 unfold cutV
 rw [List.length_take,List.length_drop]
 lia
end
end L2
namespace L2
open PySem PySem.Spec PyProof.Rows
def ixN (n:Nat) (i:Int):Option Nat:=if 0≤i then (if i<n then some i.toNat else none) else if -(n:Int)≤i then some (i+n).toNat else none
def atI {α:Type}(xs:List α) (i:Int):Option α:=(ixN xs.length i).bind fun j=>xs[j]?
theorem zkS_ {n:Nat}{i:Int}{j:Nat}(h:ixN n i=some j):seqIndex? i n=some j∧j<n ∧ -(n:Int)≤i∧i<n:=by
 unfold ixN at h
 by_cases h0:0≤i
 ·rw [if_pos h0] at h
  by_cases h1:i<n
  ·rw [if_pos h1] at h
   have e:i.toNat=j:=Option.some.inj h
   exact ⟨by rw [seqIndex_of h0 h1,e],by lia,by lia,h1⟩
  ·rw [if_neg h1] at h; cases h
 ·rw [if_neg h0] at h
  by_cases h1 : -(n:Int)≤i
  ·rw [if_pos h1] at h
   have e:(i+n).toNat=j:=Option.some.inj h
   exact ⟨by rw [seqIndex_neg (by lia) h1,e],by lia,h1,by lia⟩
  ·rw [if_neg h1] at h; cases h
theorem zh5_ {α:Type}{xs:List α}{i:Int}{v:α}(h:atI xs i=some v):∃ j,seqIndex? i xs.length=some j∧xs[j]?=some v∧j<xs.length ∧ -(xs.length:Int)≤i∧i<xs.length:=by
 unfold atI at h
 cases e:ixN xs.length i with
 | none=>rw [e] at h; cases h
 | some j =>
  rw [e] at h
  obtain ⟨h1,h2,h3,h4⟩:=zkS_ e
  exact ⟨j,h1,h,h2,h3,h4⟩
theorem zig_ {α:Type}(xs:List α) (v:α):atI (xs++[v]) (-1)=some v:=by
 have hl:(xs++[v]).length=xs.length+1:=by simp
 have e:ixN (xs++[v]).length (-1)=some xs.length:=by
  unfold ixN
  rw [hl,if_neg (by decide),if_pos (by lia)]
  congr 1
  lia
 unfold atI
 rw [e]
 show (xs++[v])[xs.length]?=some v
 simp
def PlainIx (b:Expr):Prop:=∀ o i,subscripted b false o i=operate [o,i] (getItem o i)
def IxR (X:Cx) (r:R2):Prop :=
 ∀ (value slice:Expr) (pins:Pnn) (s:Shared) (σ:St) (H:Hp) (x y:V) (v u:Value) (Q:VK),Inv X pins σ H s→RelV x v→RelV y u→r x y H Q →
  subscripted slice false v u=operate [v,u] (getItem v u)→wpAny (model X.prog X.w) X.A (subscriptTail value slice v u) (EP X pins σ Q) X.xe s
def MtR (X:Cx) (id:String) (r:V→List V→Hp→VK→Prop):Prop :=
 ∀ (pins:Pnn) (s:Shared) (σ:St) (H:Hp) (x:V) (xs:List V) (v:Value) (us:List Value) (Q:VK),Inv X pins σ H s→RelV x v→Vals xs us→r x xs H Q →
  wpAny (model X.prog X.w) X.A (call (.builtin id) (v::us)) (EP X pins σ Q) X.xe s
section
variable {X:Cx}{a b:Expr}{ta tb:TE}{pos:Pos}
theorem zaT_ {r:R2}(hr:IxR X r) (ha:PE X a ta) (hb:PE X b tb) (hs:PlainIx b):PE X (.Subscript a b pos) (tOp r ta tb):=by
 intro pins s σ H Q I h
 exact Subscript_ (binT ha hb I h fun v u s2 x y H2 I2 rx ry q=>hr a b pins s2 σ H2 x y v u Q I2 rx ry q (hs _ _))
def rIxL (K:Fgg):R2:=fun x y H Q=>∃ p xs i v,x=.ref p∧y=.int i∧SqL K H p xs∧atI xs i=some v∧Q v H
def rIxT (K:Fgg):R2:=fun x y H Q=>∃ p xs i v,x=.ref p∧y=.int i∧SqT K H p xs∧atI xs i=some v∧Q v H
def rIxS:R2:=fun x y H Q=>∃ z i c,x=.str z∧y=.int i∧z.length≤sizeLine∧atI z.cps.toList i=some c∧Q (.str ⟨#[c]⟩) H
theorem znz_:IxR X (rIxL X.K):=by
 intro value slice pins s σ H x y v u Q I rx ry h hs
 obtain ⟨p,xs,i,z,rfl,rfl,hq,he,q⟩:=h
 cases rx
 obtain ⟨t,rfl⟩:=ry
 obtain ⟨its,r,pl,hz⟩:=I.list hq
 obtain ⟨j,h1,h2,h3,h4,h5⟩:=zh5_ he
 obtain ⟨w,ew,rw'⟩:=r.get h2
 have hl:=r.length
 have hn:=line63
 have fin:EP X pins σ Q w s:=⟨z,H,I,rw',q⟩
 by_cases h0:0≤i
 ·have hj:i.toNat=j:=by
   rw [seqIndex_of h0 h5] at h1
   exact Option.some.inj h1
  exact item_listR pl.isList h0 (by lia) (by rw [hj]; simpa using ew) fin hs
 ·have hj:(i+(its.toArray.size:Int)).toNat=j:=by
   rw [seqIndex_neg (by lia) h4] at h1
   rw [List.size_toArray,← hl]
   exact Option.some.inj h1
  exact subscriptTail_builtinR (x:=w) pl.isList.typeIs slot_list_getitem.lookup
   (wpAny_getItem_list_neg (Q:=fun r s'=>r=w∧EP X pins σ Q r s') pl.isList (by lia) (by rw [List.size_toArray]<;>lia) (by lia) (by rw [hj]; simpa using ew) ⟨rfl,fin⟩) hs
theorem zoW_:IxR X (rIxT X.K):=by
 intro value slice pins s σ H x y v u Q I rx ry h hs
 obtain ⟨p,xs,i,z,rfl,rfl,hq,he,q⟩:=h
 cases rx
 obtain ⟨t,rfl⟩:=ry
 obtain ⟨its,r,pl,hz⟩:=I.tuple hq
 obtain ⟨j,h1,h2,h3,h4,h5⟩:=zh5_ he
 obtain ⟨w,ew,rw'⟩:=r.get h2
 have hl:=r.length
 have hn:=line63
 have fin:EP X pins σ Q w s:=⟨z,H,I,rw',q⟩
 exact subscriptTail_builtinR (x:=w) pl.typeIs slot_tuple_getitem.lookup
  (getItem_tuple (j:=j) (Q:=fun r s'=>r=w∧EP X pins σ Q r s') pl (by lia) (by lia) (by rw [List.size_toArray,← hl]; exact h1) (by simpa using ew) ⟨rfl,fin⟩) hs
theorem zox_:IxR X rIxS:=by
 intro value slice pins s σ H x y v u Q I rx ry h hs
 obtain ⟨z,i,c,rfl,rfl,hz,he,q⟩:=h
 obtain ⟨t,rfl⟩:=rx
 obtain ⟨t',rfl⟩:=ry
 obtain ⟨j,h1,h2,h3,h4,h5⟩:=zh5_ he
 have hl:z.cps.toList.length=z.length:=by simp [Str.length]
 rw [hl] at h1 h4 h5
 have hn:=line63
 exact tail_any (typeIs_str s z t) slot_str_getitem.lookup (getItem_str (c:=c) (by
  have e1:decide (i < -(2 ^ 63:Int))=false:=decide_eq_false (by lia)
  have e2:decide (i ≥ 2 ^ 63)=false:=decide_eq_false (by lia)
  rw [e1,e2,Bool.or_false]) (by rw [h1]; simpa using h2) ⟨.str ⟨#[c]⟩,H,I.tok _,⟨_,rfl⟩,q⟩) hs
theorem ziQ_ (its:List Value) (n j:Nat) (u:Value):Obj.mapSeq (·.setIfInBounds j u) { cls:=.type "list",data:=.seq its.toArray n }={ cls:=.type "list",data:=.seq (its.set j u).toArray n }:=by
 simp [Obj.mapSeq]
theorem Inv.lst {pins:Pnn}{σ:St}{H:Hp}{s:Shared}{p:Addr}{xs:List V}(I:Inv X pins σ H s) (h:H p=some (.lst xs)) :
  ∃ (its:List Value) (n:Nat),Vals xs its∧s.heap.get? p=some { cls:=.type "list",data:=.seq its.toArray n }∧xs.length≤sizeLine:=by
 obtain ⟨z,its,n,r,e⟩:=I.hok p _ h
 exact ⟨its,n,r,e,z⟩
theorem Inv.lstUpd {pins:Pnn}{σ:St}{H:Hp}{s:Shared}{p:Addr}{xs ys:List V}{its its':List Value}{n n':Nat}{f:Obj→Obj}(I:Inv X pins σ H s) (h:H p=some (.lst xs))
  (ho:s.heap.get? p=some { cls:=.type "list",data:=.seq its.toArray n }) (hf:f { cls:=.type "list",data:=.seq its.toArray n }={ cls:=.type "list",data:=.seq its'.toArray n' }) (r:Vals ys its') (hz:ys.length≤sizeLine) (t:Nat) :
  Inv X pins σ (upd H p (.lst ys)) { s with heap:=s.heap.update p f,toks:=t }:=by
 have e:(s.heap.update p f).get? p=some { cls:=.type "list",data:=.seq its'.toArray n' }:=by
  rw [Heap.get?_update_self f ho (by rw [hf]<;>rfl),hf]
 refine I.write (x:=p) (e:=p) (by rw [h]; trivial) (.inl rfl) (fun b u hb q=>(Heap.get?_update_other _ _ (Ne.symm hb)).trans q) ⟨_,e⟩ ?_
 exact ⟨hz,its',n',r,e⟩
def rSetL:V→V→V→Hp→(Hp→Prop)→Prop:=fun o i v H Q=>∃ p xs k j,o=.ref p∧i=.int k∧H p=some (.lst xs)∧ixN xs.length k=some j∧Q (upd H p (.lst (xs.set j v)))
theorem zlk_:PSet X rSetL:=by
 intro pins s σ H o i v ov iv u Q I ro ri rv h
 obtain ⟨p,xs,k,j,rfl,rfl,hp,hj,q⟩:=h
 cases ro
 obtain ⟨t,rfl⟩:=ri
 obtain ⟨its,n,r,ho,hz⟩:=I.lst hp
 obtain ⟨h1,h2,h3,h4⟩:=zkS_ hj
 have hl:=r.length
 have hn:=line63
 have I':Inv X pins σ (upd H p (.lst (xs.set j v))) { s with heap:=s.heap.update p (Obj.mapSeq (·.setIfInBounds j u)) } :=
  I.lstUpd hp ho (ziQ_ its n j u) (r.set rv j) (by rw [List.length_set]; exact hz) s.toks
 by_cases h0:0≤k
 ·have hk:k.toNat=j:=by
   rw [seqIndex_of h0 h4] at h1
   exact Option.some.inj h1
  exact PySem.W.ki_setAt ho h0 (by lia) (by rw [List.size_toArray,← hl]; exact h4) (by rw [hk]; exact ⟨_,I',q⟩)
 ·have hk:(k+(its.toArray.size:Int)).toNat=j:=by
   rw [seqIndex_neg (by lia) h3] at h1
   rw [List.size_toArray,← hl]
   exact Option.some.inj h1
  exact PySem.W.ki_setBack ho (by lia) (by rw [List.size_toArray,← hl]; exact h3) (by lia) (by rw [hk]; exact ⟨_,I',q⟩)
theorem zfI_ (lo hi:Option Int) (n:Nat):(sliceBounds lo hi none n).1=((HT.sIx n 0 lo:Nat):Int)∧(sliceBounds lo hi none n).2.1=((HT.sIx n n hi:Nat):Int)∧(sliceBounds lo hi none n).2.2=1:=by
 refine ⟨?_,?_,rfl⟩
 ·cases lo with
  | none=>simp [sliceBounds,HT.sIx]
  | some i =>
   simp only [sliceBounds,HT.sIx,Option.getD_none,show (1:Int) > 0 by decide,if_true]
   by_cases h:i<0
   ·simp only [h,if_true]<;>lia
   ·simp only [h,if_false]<;>lia
 ·cases hi with
  | none=>simp [sliceBounds,HT.sIx]
  | some i =>
   simp only [sliceBounds,HT.sIx,Option.getD_none,show (1:Int) > 0 by decide,if_true]
   by_cases h:i<0
   ·simp only [h,if_true]<;>lia
   ·simp only [h,if_false]<;>lia
theorem zfq_ (its:List Value) (lo hi:Option Int):slicePick its.toArray lo hi none=((its.drop (HT.sIx its.length 0 lo)).take (HT.sIx its.length its.length hi-HT.sIx its.length 0 lo)).toArray:=by
 obtain ⟨h1,h2,h3⟩:=zfI_ lo hi its.toArray.size
 unfold slicePick
 rw [h1,h2,h3]
 simp only [sliceRange_one,pick_run,List.size_toArray]<;>rfl
def rSlL (K:Fgg):V→Option Int→Option Int→Hp→VK→Prop:=fun x lo hi H Q=>∃ a xs,x=.ref a∧SqL K H a xs∧∀ p,H p=none→Q (.ref p) (upd H p (.lst (cutV xs lo hi)))
theorem zmN_:SlR X (rSlL X.K):=by
 intro pins s σ H x v vl vu lo hi sl Q I rx hs pl pu h
 obtain ⟨a,xs,rfl,hx,q⟩:=h
 cases rx
 obtain ⟨its,r,ht,hz⟩:=I.list hx
 have hlen:=r.length
 refine ⟨"list",_,slot_list_getitem.lookup,ht.isList.typeIs,?_⟩
 refine wpAny_getItem_list_slice ht.isList hs pl pu .none (by simp) ?_ (by rw [List.size_toArray]<;>lia)
 rw [zfq_,← hlen]
 refine ⟨.ref s.heap.objs.size,_,I.laid (t':=s.toks) (o:=.lst (cutV xs lo hi)) (fun b ob q=>Heap.get?_push_of_some _ q) (Nat.le_refl _) ?_,rfl,q _ (I.hok.fresh (Nat.le_refl _))⟩
 exact ⟨Nat.le_trans (zhq_ xs lo hi) hz,_,0,(r.drop (HT.sIx xs.length 0 lo)).take (HT.sIx xs.length xs.length hi-HT.sIx xs.length 0 lo),Heap.get?_push_size _ rfl⟩
def flatV:V→Bool
 | .non=>true
 | .bl _=>true
 | .int _=>true
 | .str _=>true
 | _=>false
def eqV:V→V→Bool
 | .non,.non=>true
 | .bl a,.bl b=>a == b
 | .bl a,.int b=>(if a then 1 else 0) == b
 | .int a,.bl b=>a == (if b then 1 else 0)
 | .int a,.int b=>a == b
 | .str a,.str b=>a == b
 | _,_=>false
theorem znx_ {A:Around}{s:Shared}{y x:V}{u v:Value}(ry:RelV y u) (rx:RelV x v) (fy:flatV y=true) (fx:flatV x=true):SeqAt.EqAt A s u v (eqV y x):=by
 cases y with
 | non =>
  cases ry
  cases x with
  | non=>cases rx; exact SeqAt.EqAt.same _
  | bl b=>cases rx; exact SeqAt.EqAt.none_bool b
  | int b=>obtain ⟨t,rfl⟩:=rx; exact SeqAt.EqAt.none_int b t
  | str b=>obtain ⟨t,rfl⟩:=rx; exact SeqAt.EqAt.none_str b t
  | _=>exact absurd (show false=true from fx) Bool.false_ne_true
 | bl a =>
  cases ry
  cases x with
  | non=>cases rx; exact SeqAt.EqAt.bool_none a
  | bl b=>cases rx; exact SeqAt.EqAt.bool_bool a b
  | int b=>obtain ⟨t,rfl⟩:=rx; exact SeqAt.EqAt.bool_int a b t
  | str b=>obtain ⟨t,rfl⟩:=rx; exact SeqAt.EqAt.bool_str a b t
  | _=>exact absurd (show false=true from fx) Bool.false_ne_true
 | int a =>
  obtain ⟨t',rfl⟩:=ry
  cases x with
  | non=>cases rx; exact SeqAt.EqAt.int_none a t'
  | bl b=>cases rx; exact SeqAt.EqAt.int_bool a t' b
  | int b=>obtain ⟨t,rfl⟩:=rx; exact SeqAt.EqAt.int_int a t' b t
  | str b=>obtain ⟨t,rfl⟩:=rx; exact SeqAt.EqAt.int_str a t' b t
  | _=>exact absurd (show false=true from fx) Bool.false_ne_true
 | str a =>
  obtain ⟨t',rfl⟩:=ry
  cases x with
  | non=>cases rx; exact SeqAt.EqAt.str_none a t'
  | bl b=>cases rx; exact SeqAt.EqAt.str_bool a t' b
  | int b=>obtain ⟨t,rfl⟩:=rx; exact SeqAt.EqAt.str_int a t' b t
  | str b=>obtain ⟨t,rfl⟩:=rx; exact SeqAt.EqAt.str_str a t' b t
  | _=>exact absurd (show false=true from fx) Bool.false_ne_true
 | _=>exact absurd (show false=true from fy) Bool.false_ne_true
def eqU (x:V) (u:Value):Bool:=match u with
 | .none=>eqV .non x
 | .bool b=>eqV (.bl b) x
 | .int i _=>eqV (.int i) x
 | .str z _=>eqV (.str z) x
 | _=>false
theorem znu_ {x y:V}{u:Value}(r:RelV y u) (f:flatV y=true):eqU x u=eqV y x:=by
 cases y with
 | non=>cases r; rfl
 | bl b=>cases r; rfl
 | int i=>obtain ⟨t,rfl⟩:=r; rfl
 | str z=>obtain ⟨t,rfl⟩:=r; rfl
 | _=>exact absurd (show false=true from f) Bool.false_ne_true
theorem zjl_ {x:V}:∀ {xs:List V}{us:List Value},Vals xs us→xs.all flatV=true→us.any (eqU x)=xs.any fun y=>eqV y x
 | _,_,.nil,_=>rfl
 | y::xs,u::us,.cons r t,f=>by
  rw [List.all_cons,Bool.and_eq_true] at f
  rw [List.any_cons,List.any_cons,znu_ r f.1,zjl_ t f.2]
theorem zgo_ {A:Around}{s:Shared}{x:V}{v:Value}(rx:RelV x v) (fx:flatV x=true):∀ {xs:List V}{us:List Value},Vals xs us→xs.all flatV=true→∀ u∈us,SeqAt.EqAt A s u v (eqU x u)
 | _,_,.nil,_=>fun u hu=>by cases hu
 | y::xs,u::us,.cons r t,f=>fun u' hu=>by
  rw [List.all_cons,Bool.and_eq_true] at f
  rcases List.mem_cons.mp hu with rfl | hu
  ·rw [znu_ r f.1]; exact znx_ r rx f.1 fx
  ·exact zgo_ rx fx t f.2 u' hu
def inV (x:V) (xs:List V):Bool:=xs.any fun y=>eqV y x
def rIn (K:Fgg) (neg:Bool):R2:=fun x y H Q=>∃ p xs,y=.ref p∧(SqL K H p xs∨SqT K H p xs)∧flatV x=true∧xs.all flatV=true∧Q (.bl (if neg then !inV x xs else inV x xs)) H
theorem zkl_:OpR X (compareOp .In) (rIn X.K false):=by
 intro pins s σ H x y v u Q I rx ry h
 obtain ⟨p,xs,rfl,hq,fx,fs,q⟩:=h
 cases ry
 rcases hq with hq | hq
 ·obtain ⟨its,r,pl,hz⟩:=I.list hq
  refine SeqAt.in_listAt (eqU x) pl.isList (fun w hw=>zgo_ rx fx r fs w (by simpa using hw)) ⟨.bl _,H,I,rfl,?_⟩
  rw [show its.toArray.any (eqU x)=its.any (eqU x) by simp,zjl_ r fs]
  exact q
 ·obtain ⟨its,r,pl,hz⟩:=I.tuple hq
  refine SeqAt.in_tupleAt (eqU x) pl (fun w hw=>zgo_ rx fx r fs w (by simpa using hw)) ⟨.bl _,H,I,rfl,?_⟩
  rw [show its.toArray.any (eqU x)=its.any (eqU x) by simp,zjl_ r fs]
  exact q
theorem zgb_:CallR X (.builtin "len") (fun xs H Q=>∃ p ys,xs=[.ref p]∧(SqL X.K H p ys∨SqT X.K H p ys)∧Q (.int ys.length) H):=by
 intro pins s σ H xs us Q I r h
 obtain ⟨p,ys,rfl,hq,q⟩:=h
 obtain ⟨u,rfl,rx⟩:=vals1 r
 cases rx
 have hn:=line63
 rcases hq with hq | hq
 ·obtain ⟨its,r',pl,hz⟩:=I.list hq
  have hlen:=r'.length
  exact Calls.call_len_list pl.isList (by simp only [List.size_toArray]<;>lia) ⟨.int ys.length,H,I.tok _,⟨s.toks+1,by rw [List.size_toArray,hlen]⟩,q⟩
 ·obtain ⟨its,r',pl,hz⟩:=I.tuple hq
  have hlen:=r'.length
  exact len_tuple pl (by simp only [List.size_toArray]<;>lia) ⟨.int ys.length,H,I.tok _,⟨s.toks+1,by rw [List.size_toArray,hlen]⟩,q⟩
theorem zge_:CallR X (.builtin "len") (fun xs H Q=>∃ z,xs=[.str z]∧z.length≤sizeLine∧Q (.int z.length) H):=by
 intro pins s σ H xs us Q I r h
 obtain ⟨z,rfl,hz,q⟩:=h
 obtain ⟨u,rfl,t,rfl⟩:=vals1 r
 have hn:=line63
 exact len_str (by lia) ⟨.int z.length,H,I.tok _,⟨_,rfl⟩,q⟩
theorem zgf_:CallR X (.type "list") (fun xs H Q=>∃ p ys,xs=[.ref p]∧(SqL X.K H p ys∨SqT X.K H p ys)∧∀ l,H l=none→Q (.ref l) (upd H l (.lst ys))):=by
 intro pins s σ H xs us Q I r h
 obtain ⟨p,ys,rfl,hq,q⟩:=h
 obtain ⟨u,rfl,rx⟩:=vals1 r
 cases rx
 have fin:∀ (its:List Value),Vals ys its→ys.length≤sizeLine→∀ (h':Heap) (c':Nat),(∀ b o',s.heap.get? b=some o'→h'.get? b=some o') →
   h'.get? s.heap.objs.size=some { cls:=.type "list",dict:=none,data:=.seq its.toArray c',slots:=#[] }→EP X pins σ Q (.ref s.heap.objs.size) { s with heap:=h' }:=fun its r' hz h' c' kp e =>
  ⟨.ref s.heap.objs.size,_,I.laid (t':=s.toks) kp (Nat.le_refl _) (show ObjOk X.prog X.w _ h' _ (.lst ys) from ⟨hz,its,c',r',e⟩),rfl,q _ (I.hok.fresh (Nat.le_refl _))⟩
 rcases hq with hq | hq
 ·obtain ⟨its,r',pl,hz⟩:=I.list hq
  have hlen:=r'.length
  obtain ⟨o,ho,hc,n,hd⟩:=pl.isList
  exact call_list_seq p (.inl rfl) ho hc hd (fun h' c' kp e=>fin its r' hz h' c' kp e) (by simp only [List.size_toArray]<;>lia)
 ·obtain ⟨its,r',pl,hz⟩:=I.tuple hq
  have hlen:=r'.length
  obtain ⟨o,ho,hc,n,hd⟩:=pl
  exact call_list_seq p (.inr rfl) ho hc hd (fun h' c' kp e=>fin its r' hz h' c' kp e) (by simp only [List.size_toArray]<;>lia)
def tyV (K:Fgg) (T:String) (x:V) (H:Hp):Prop:=match x with
 | .str _=>T = "str"
 | .int _=>T = "int"
 | .ref p=>(T = "list" ∧ ∃ xs,SqL K H p xs)∨(T = "tuple" ∧ ∃ o,K.lookup p=some o∧o.cls=.type "tuple" ∧ o.dict=none) ∨
   (T = "dict" ∧ ((∃ kvs,H p=some (.dK kvs))∨∃ kvs,H p=some (.dT kvs)))∨(T = "set" ∧ ∃ S n,H p=some (.set S n))
 | _=>False
theorem zmS_ {pins:Pnn}{σ:St}{H:Hp}{s:Shared}{T:String}{x:V}{v:Value}(I:Inv X pins σ H s) (r:RelV x v) (ty:tyV X.K T x H) :
  s.TypeIs v T∧∀ a,v=.ref a→∃ ob,s.heap.get? a=some ob∧ob.dict=none:=by
 cases x with
 | str z =>
  obtain ⟨t,rfl⟩:=r
  cases (show T = "str" from ty)
  exact ⟨typeIs_str s z t,fun _ e=>nomatch e⟩
 | int i =>
  obtain ⟨t,rfl⟩:=r
  cases (show T = "int" from ty)
  exact ⟨typeIs_int s i t,fun _ e=>nomatch e⟩
 | ref p =>
  cases r
  rcases ty with ⟨rfl,xs,hq⟩ | ⟨rfl,o,hk,hc,hd⟩ | ⟨rfl,hk⟩ | ⟨rfl,S,n,hk⟩
  ·obtain ⟨its,_,pl,_⟩:=I.list hq
   refine ⟨pl.isList.typeIs,fun a e=>?_⟩
   cases e
   obtain ⟨o,n,e,c,hd,_⟩:=pl
   exact ⟨o,e,hd⟩
  ·refine ⟨⟨o,I.kIn p o hk,hc⟩,fun a e=>?_⟩
   cases e
   exact ⟨o,I.kIn _ o hk,hd⟩
  ·have z:∃ o,s.heap.get? p=some o∧o.ExactDict:=by
    rcases hk with ⟨kvs,hk⟩ | ⟨kvs,hk⟩
    ·obtain ⟨_,_,_,_,o,_,_,e,ex,_⟩:=I.hok p _ hk
     exact ⟨o,e,ex⟩
    ·obtain ⟨_,_,_,_,o,_,_,e,ex,_⟩:=I.hok p _ hk
     exact ⟨o,e,ex⟩
   obtain ⟨o,e,ex⟩:=z
   refine ⟨⟨o,e,ex.1⟩,fun a e2=>?_⟩
   cases e2
   exact ⟨o,e,ex.2.1⟩
  ·obtain ⟨o,_,_,_,e,ex,_⟩:=I.hok p _ hk
   refine ⟨⟨o,e,ex.1⟩,fun a e2=>?_⟩
   cases e2
   exact ⟨o,e,ex.2.1⟩
 | _=>exact False.elim ty
def tBM0 (K:Fgg) (T:String) (r:V→List V→Hp→VK→Prop) (to:TE):TE:=fun σ H Q=>to σ H fun x H1=>tyV K T x H1∧r x [] H1 Q
def tBM (K:Fgg) (T:String) (r:V→List V→Hp→VK→Prop) (to:TE) (t:TA):TE:=fun σ H Q=>to σ H fun x H1=>tyV K T x H1∧t σ H1 fun xs H2=>r x xs H2 Q
variable {o e:Expr}{es:List Expr}{to:TE}{t:TA}{name:Str}{apos cpos:Pos}{T id:String}{r:V→List V→Hp→VK→Prop}
theorem zph_ (pa:PlainAttrs T) (slot:Slot T name id) (hty:typeOf (.builtin id)=pure (.type "method_descriptor")) (hm:MtR X id r) (ho:PE X o to)
  (hbase:attributeBase o name X.env (eval o X.env)=eval o X.env:=by rfl) (hline:(apos.endLine == cpos.line)=true:=by rfl):PE X (.Call (.Attribute o name apos) [] [] cpos) (tBM0 X.K T r to):=by
 intro pins s σ H Q I h
 refine wpAny_Call_method0_late hbase hline (thn (ho pins s σ H _ I h) fun v s1 hq_=>?_)
 obtain ⟨x,H1,I1,r1,ty,q1⟩:=hq_
 obtain ⟨h1,h2⟩:=zmS_ I1 r1 ty
 exact ⟨T,id,pa,slot,hty,h1,h2,Calls.callWith_builtin rfl (PySem.evalArgs_none (hm pins s1 σ H1 x [] v [] Q I1 r1 .nil q1))⟩
theorem zhv_ (pa:PlainAttrs T) (slot:Slot T name id) (hty:typeOf (.builtin id)=pure (.type "method_descriptor")) (hm:MtR X id r) (ho:PE X o to) (ha:PA X (e::es) t)
  (hbase:attributeBase o name X.env (eval o X.env)=eval o X.env:=by rfl)
  (hfew:((backTo cpos (starEach (e::es) X.env)).all (fun x=>!x.1) && (backToKw cpos (keywordEach [] X.env)).all (fun x=>x.1.isSome)
   && decide ((e::es).length+([]:List Keyword).length+(if ([]:List Keyword).isEmpty then 0 else 1)<30))=true:=by rfl)
  (hline:(apos.endLine == cpos.line)=true:=by rfl) (hs:starEach (e::es) X.env=(false,eval e X.env)::starEach es X.env:=by rfl) (hplain:(backTo cpos (starEach es X.env)).any (·.1)=false:=by rfl) :
  PE X (.Call (.Attribute o name apos) (e::es) [] cpos) (tBM X.K T r to t):=by
 intro pins s σ H Q I h
 refine wpAny_Call_method_late hbase hfew hline rfl (thn (ho pins s σ H _ I h) fun v s1 hq_=>?_)
 obtain ⟨x,H1,I1,r1,ty,q1⟩:=hq_
 obtain ⟨h1,h2⟩:=zmS_ I1 r1 ty
 refine ⟨T,id,pa,slot,hty,h1,h2,?_⟩
 have hA:=ha cpos pins s1 σ H1 _ I1 q1
 rw [hs] at hA ⊢
 refine Calls.callWith_builtin (by show (false || (backTo cpos (starEach es X.env)).any (·.1))=false; rw [hplain]<;>rfl) (Calls.evalArgs_plain ?_)
 exact thn hA fun us s2 ⟨vs,H2,I2,r2,q2⟩=>hm pins s2 σ H2 x vs v us Q I2 r1 r2 q2
end
end L2
namespace L2
open PySem PySem.Spec PyProof.Rows
def MtM (X:Cx) (id:String) (r:V→List V→Hp→VK→Prop):Prop :=
 ∀ (pins:Pnn) (s:Shared) (σ:St) (H:Hp) (x:V) (xs:List V) (v:Value) (us:List Value) (Q:VK),Inv X pins σ H s→RelV x v→Vals xs us→r x xs H Q →
  wpAny (model X.prog X.w) X.A (call (.builtin id) (v::us)) (EP X pins σ Q) X.xe s
theorem Vals.one:∀ {x:V}{us:List Value},Vals [x] us→∃ u,us=[u]∧RelV x u
 | _,_,.cons r .nil=>⟨_,rfl,r⟩
theorem Vals.zero:∀ {us:List Value},Vals [] us→us=[]
 | _,.nil=>rfl
theorem Vals.dropLast {xs:List V}{us:List Value}(h:Vals xs us):Vals xs.dropLast us.dropLast:=by
 induction h with
 | nil=>exact .nil
 | cons r t ih =>
  cases t with
  | nil=>exact .nil
  | cons q t'=>exact .cons r ih
theorem Vals.rep {xs:List V}{us:List Value}(h:Vals xs us):∀ k:Nat,Vals (List.replicate k xs).flatten (List.replicate k us).flatten
 | 0=>.nil
 | k+1=>by
  rw [List.replicate_succ,List.replicate_succ,List.flatten_cons,List.flatten_cons]
  exact Vals.append h (Vals.rep h k)
theorem zjf_ {α:Type}(l:List α):l.eraseIdx (l.length-1)=l.dropLast:=by
 induction l with
 | nil=>rfl
 | cons a r ih =>
  cases r with
  | nil=>rfl
  | cons b r =>
   have e:(a::b::r).length-1=((b::r).length-1)+1:=by
    have h1:(a::b::r).length=r.length+2:=rfl
    have h2:(b::r).length=r.length+1:=rfl
    lia
   rw [e,List.eraseIdx_cons_succ,ih]
   all_goals rfl
theorem zgN_ (its:List Value):∀ (k:Nat) (acc:List Value),
  List.foldl (fun x1 x2=>x1++x2) acc.toArray (List.replicate k its.toArray)=(acc++(List.replicate k its).flatten).toArray
 | 0,acc=>by simp
 | k+1,acc=>by
  have e:acc.toArray++its.toArray=(acc++its).toArray:=by simp
  have e2:(acc++its)++(List.replicate k its).flatten=acc++(List.replicate (k+1) its).flatten:=by
   rw [List.replicate_succ,List.flatten_cons,List.append_assoc]
  rw [← e2,← zgN_ its k (acc++its),← e,List.replicate_succ,List.foldl_cons]
section
variable {X:Cx}{pins:Pnn}{σ:St}{H:Hp}{s:Shared}{l b:Addr}{xs ys zs:List V}
theorem Inv.lset {its its':List Value}{n:Nat}{f:Array Value→Array Value}{t':Nat}(I:Inv X pins σ H s) (hH:H l=some (.lst xs))
  (e:s.heap.get? l=some { cls:=.type "list",data:=.seq its.toArray n }) (hf:f its.toArray=its'.toArray) (hv:Vals ys its') (hz:ys.length≤sizeLine) :
  Inv X pins σ (upd H l (.lst ys)) { s with heap:=s.heap.update l (Obj.mapSeq f),toks:=t' }:=by
 have q:=PySem.IsL.update e f
 rw [hf] at q
 refine I.write (x:=l) (e:=l) (by rw [hH]; exact trivial) (.inl rfl) (fun b' u hb hu=>(Heap.get?_update_other s.heap (Obj.mapSeq f) (Ne.symm hb)).trans hu) ⟨_,q⟩ ?_
 exact ⟨hz,its',_,hv,q⟩
theorem Inv.lnew {its:List Value}{t':Nat}(I:Inv X pins σ H s) (hv:Vals ys its) (hz:ys.length≤sizeLine) :
  Inv X pins σ (upd H s.heap.objs.size (.lst ys)) { s with heap:=s.heap.push { cls:=.type "list",data:=.seq its.toArray },toks:=t' } :=
 I.laid (fun _ _ q=>Heap.get?_push_of_some _ q) (Nat.le_refl _) ⟨hz,its,0,hv,Heap.get?_push_size _ rfl⟩
theorem Inv.fresh (I:Inv X pins σ H s):H s.heap.objs.size=none:=I.hok.fresh (Nat.le_refl _)
theorem Inv.lstM (I:Inv X pins σ H s) (hH:H l=some (.lst xs)):xs.length≤sizeLine∧∃ (its:List Value) (n:Nat),Vals xs its∧xs.length=its.length∧s.heap.get? l=some { cls:=.type "list",data:=.seq its.toArray n }:=by
 obtain ⟨z,its,n,r,e⟩:=I.hok l _ hH
 exact ⟨z,its,n,r,r.length,e⟩
theorem notLongL {n:Nat}(h:n≤sizeLine):Builtin.List.listTooLong n=false:=by
 unfold Builtin.List.listTooLong
 exact decide_eq_false (by lia)
end
section
variable {X:Cx}
def rAppend:V→List V→Hp→VK→Prop:=fun x vs H Q=>∃ l xs y,x=.ref l∧vs=[y]∧H l=some (.lst xs)∧xs.length<sizeLine∧Q .non (upd H l (.lst (xs++[y])))
theorem zay_:MtM X "list.append" rAppend:=by
 intro pins s σ H x vs v us Q I rx rv h
 obtain ⟨l,xs,y,rfl,rfl,hH,hz,q⟩:=h
 cases rx
 obtain ⟨u,rfl,ru⟩:=rv.one
 obtain ⟨z,its,n,r,hl,e⟩:=I.lstM hH
 refine call_meets F.slot_list_append ⟨_,e,rfl⟩ F.entry_list_append (F.args_list_append_2 _ _) (PySem.list_append l its.toArray n u (by rw [List.size_toArray]; lia)) ⟨e,?_⟩
 refine ⟨.non,_,I.lset (its':=its++[u]) hH e (by simp) (r.append (.cons ru .nil)) ?_,rfl,q⟩
 rw [List.length_append,List.length_singleton]
 lia
def rExtend:V→List V→Hp→VK→Prop:=fun x vs H Q=>∃ l b xs zs,x=.ref l∧vs=[.ref b]∧H l=some (.lst xs)∧H b=some (.lst zs)∧xs.length+zs.length≤sizeLine∧Q .non (upd H l (.lst (xs++zs)))
theorem zgQ_:MtM X "list.extend" rExtend:=by
 intro pins s σ H x vs v us Q I rx rv h
 obtain ⟨l,b,xs,zs,rfl,rfl,hH,hB,hz,q⟩:=h
 cases rx
 obtain ⟨u,rfl,ru⟩:=rv.one
 cases ru
 obtain ⟨z,its,n,r,hl,e⟩:=I.lstM hH
 obtain ⟨z2,its2,n2,r2,hl2,e2⟩:=I.lstM hB
 have hsz:its.toArray.size+its2.toArray.size≤sizeLine:=by rw [List.size_toArray,List.size_toArray]; lia
 have hlong:¬ (!its.toArray.isEmpty && Builtin.List.listTooLong (its.toArray.size+its2.toArray.size))=true:=by
  rw [notLongL hsz,Bool.and_false]
  exact Bool.false_ne_true
 refine call_meets F.slot_list_extend ⟨_,e,rfl⟩ F.entry_list_extend (F.args_list_extend_2 _ _)
  (AutoSeq1.list_extend_list_list_0 l its.toArray n b its2.toArray n2 hlong (by rw [List.size_toArray]; lia) (by lia)) ⟨e,e2,?_⟩
 refine ⟨.non,_,I.lset (its':=its++its2) hH e (by simp) (r.append r2) ?_,rfl,q⟩
 rw [List.length_append]
 lia
def rPop:V→List V→Hp→VK→Prop:=fun x vs H Q=>∃ l xs y,x=.ref l∧vs=[]∧H l=some (.lst xs)∧xs[xs.length-1]?=some y∧Q y (upd H l (.lst xs.dropLast))
theorem mt_pop:MtM X "list.pop" rPop:=by
 intro pins s σ H x vs v us Q I rx rv h
 obtain ⟨l,xs,y,rfl,rfl,hH,hy,q⟩:=h
 cases rx
 have hus:=rv.zero
 subst hus
 obtain ⟨z,its,n,r,hl,e⟩:=I.lstM hH
 obtain ⟨u,hu,ru⟩:=r.get hy
 have hy':its.toArray[its.toArray.size-1]?=some u:=by
  show its.toArray[its.length-1]?=some u
  rw [← Array.getElem?_toList,← hl]
  exact hu
 refine call_meets F.slot_list_pop ⟨_,e,rfl⟩ F.entry_list_pop (F.args_list_pop_1 _) (MeetsSeq.list_pop_last l its.toArray n u hy' (by rw [List.size_toArray]; lia)) ⟨e,?_⟩
 refine ⟨y,_,I.lset (its':=its.dropLast) hH e ?_ r.dropLast ?_,ru,q⟩
 ·show its.toArray.eraseIdxIfInBounds (its.toArray.size-1)=its.dropLast.toArray
  rw [List.size_toArray,List.eraseIdxIfInBounds_toArray,zjf_]
 ·rw [List.length_dropLast]
  lia
def rClear:V→List V→Hp→VK→Prop:=fun x vs H Q=>∃ l xs,x=.ref l∧vs=[]∧H l=some (.lst xs)∧Q .non (upd H l (.lst []))
theorem zlM_:MtM X "list.clear" rClear:=by
 intro pins s σ H x vs v us Q I rx rv h
 obtain ⟨l,xs,rfl,rfl,hH,q⟩:=h
 cases rx
 have hus:=rv.zero
 subst hus
 obtain ⟨z,its,n,r,hl,e⟩:=I.lstM hH
 refine call_meets F.slot_list_clear ⟨_,e,rfl⟩ F.entry_list_clear (F.args_list_clear_1 _) (AutoSeq1.list_clear_list_0 l its.toArray n (by rw [List.size_toArray]; lia)) ⟨e,?_⟩
 exact ⟨.non,_,I.lset (its':=[]) (ys:=[]) hH e rfl .nil (Nat.zero_le _),rfl,q⟩
def rCat:R2:=fun x y H Q=>∃ l b xs zs,x=.ref l∧y=.ref b∧H l=some (.lst xs)∧H b=some (.lst zs)∧xs.length+zs.length≤sizeLine∧∀ p,H p=none→Q (.ref p) (upd H p (.lst (xs++zs)))
theorem zpo_:OpR X (binaryOp .Add) rCat:=by
 intro pins s σ H x y v u Q I rx ry h
 obtain ⟨l,b,xs,zs,rfl,rfl,hH,hB,hz,q⟩:=h
 cases rx
 cases ry
 obtain ⟨z,its,n,r,hl,e⟩:=I.lstM hH
 obtain ⟨z2,its2,n2,r2,hl2,e2⟩:=I.lstM hB
 refine PySem.P.add_list e e2 ?_ (by rw [List.size_toArray,List.size_toArray]; lia)
 have ea:its.toArray++its2.toArray=(its++its2).toArray:=by simp
 rw [ea]
 exact ⟨.ref _,_,I.lnew (t':=s.toks) (r.append r2) (by rw [List.length_append]; lia),rfl,q _ I.fresh⟩
def rRep:R2:=fun x y H Q=>∃ l k xs,x=.ref l∧y=.int k∧H l=some (.lst xs) ∧ -(2 ^ 63)≤k∧k<2 ^ 63∧xs.length*k.toNat≤sizeLine ∧
 ∀ p,H p=none→Q (.ref p) (upd H p (.lst (List.replicate k.toNat xs).flatten))
theorem zk1_ {α:Type}(xs:List α) (k:Nat):(List.replicate k xs).flatten.length=k*xs.length:=by
 induction k with
 | zero=>simp
 | succ k ih=>rw [List.replicate_succ,List.flatten_cons,List.length_append,ih,Nat.succ_mul,Nat.add_comm]
theorem zpp_:OpR X (binaryOp .Mult) rRep:=by
 intro pins s σ H x y v u Q I rx ry h
 obtain ⟨l,k,xs,rfl,rfl,hH,h1,h2,hz,q⟩:=h
 cases rx
 obtain ⟨t,rfl⟩:=ry
 obtain ⟨z,its,n,r,hl,e⟩:=I.lstM hH
 have hlen:its.toArray.size*k.toNat≤sizeLine:=by rw [List.size_toArray,← hl]; exact hz
 have hcap:¬ its.toArray.size*k.toNat > (2 ^ 63-1) / 8:=by
  have:(sizeLine:Nat)≤(2 ^ 63-1) / 8:=by decide
  lia
 have hfit:¬ (!Builtin.List.listFitsIndex k)=true:=by
  rw [fitsIndex_both h1 h2]
  exact Bool.false_ne_true
 have hlong:¬ Builtin.List.listTooLong (its.toArray.size*k.toNat)=true:=by
  rw [notLongL hlen]
  exact Bool.false_ne_true
 have hnew:List.foldl (fun x1 x2=>x1++x2) #[] (List.replicate (if its.toArray.isEmpty=true then 0 else k.toNat) its.toArray)=(List.replicate k.toNat its).flatten.toArray:=by
  have f0:∀ m:Nat,List.foldl (fun x1 x2=>x1++x2) #[] (List.replicate m its.toArray)=(List.replicate m its).flatten.toArray:=fun m=>by
   have:=zgN_ its m []
   rw [List.nil_append] at this
   exact this
  rw [f0]
  cases its with
  | nil=>simp
  | cons a r'=>rw [if_neg (by simp)]
 refine wpAny_binaryOp_repeat_ref (T := "list") (U := "int") (by decide) ⟨_,e,rfl⟩ (fun s'=>typeIs_int s' k t) noFill_list_mul F.fills_int_mul F.slot_int_rmul repeat_list F.slot_int_index.lookup
  (call_meets F.slot_int_rmul (typeIs_int s k t) F.entry_int_rmul (F.args_int_rmul_2 _ _) (int___rmul___int_list k t l its.toArray n)
   ⟨e,rfl,⟨_,e,rfl⟩,call_meets F.slot_list_mul ⟨_,e,rfl⟩ F.entry_list_mul (F.args_list_mul_2 _ _) (AutoListH.list___mul___list_int_3 l its.toArray n k t hfit hcap hlong) ⟨e,?_⟩⟩)
 rw [hnew]
 exact ⟨.ref _,_,I.lnew (t':=s.toks) (r.rep k.toNat) (by rw [zk1_,Nat.mul_comm]; exact hz),rfl,q _ I.fresh⟩
end
section
variable {prog:Program}{w:World}{A:Around}{E:Value→Shared→Prop}{s:Shared}
end
section
variable {X:Cx}
end
end L2
namespace Att
open PySem PySem.W PySem.Calls PyProof.Rows
theorem zeh_ {P:Params}{h:Heap}:∀ (ns:List Int) (vs:List Value),WellAll P h vs (ns.map WData.int)→IntsAre vs ns:=by
 intro ns
 induction ns with
 | nil =>
  intro vs w
  rw [List.map_nil] at w
  cases w
  exact .nil
 | cons n ns ih =>
  intro vs w
  rw [List.map_cons] at w
  cases w with
  | cons a b =>
   cases a
   exact .cons _ _ (ih _ b)
theorem zka_ {l:OpenLaw}{n:Nat}(hn:l.most=some n) {P:Params}{h:Heap}{args:List WData}{vals:List Value}
  (hpre:l.row.toRowW.claim.pre args=true) (hwl:WellAll P h vals args) :
  ∃ a vs ns,vals=[Value.ref a]∧args=[WData.list (ns.map WData.int)]∧h.get? a=some { cls:=.type "list",data:=.seq vs.toArray }∧IntsAre vs ns∧ns.length≤n:=by
 have hsh:WShape.hasAll [] args [.list .int]=true:=(pre_splitW hpre).1
 have hc:l.pre.holds [] { args:=args }=true:=(pre_splitW hpre).2
 obtain ⟨d,r,rfl,h1,h2⟩:=hasAllW_cons hsh
 obtain rfl:=hasAllW_nil h2
 obtain ⟨xs,rfl,h3⟩:=hasW_list h1
 obtain ⟨ns,rfl⟩:=items_int h3
 have hlen:ns.length≤n:=by
  unfold OpenLaw.pre at hc
  have h4:(WTm.not (.lt (.lit (.int (n:Int))) (.len (.arg 0)))).holds [] { args:=[.list (ns.map .int)] }=true:=by
   have h4:=(holds_andW hc).1
   rw [hn] at h4
   exact h4
  have h5:=condW_of h4 (w_not (w_lt w_lit (w_len_list (w_arg rfl))))
  rw [List.length_map] at h5
  refine Nat.le_of_not_lt fun q=>?_
  have q':(n:Int)<((ns.length:Nat):Int):=by lia
  first
   | (rw [decide_eq_true q'] at h5; exact absurd h5 (by decide))
   | (simp at h5; lia)
 cases hwl with
 | cons w1 w2 =>
  cases w2
  cases w1 with
  | list ho hall=>exact ⟨_,_,ns,rfl,rfl,ho,zeh_ ns _ hall,hlen⟩
theorem zjI_ (l:OpenLaw) (args:List WData):l.row.toRowW.claim.post args (.bool true) args=true :=
 postW_of (r:=l.row.toRowW) (X:=(true == true))
  (show WShape.has [] (.bool true) .bool=true by first | rfl | decide | simp [WShape.has,WShape.arms,WShape.armsAll])
  (show (WTm.eq .res (.lit (.bool true))).value [] { args:=args,res:=some (.bool true),after:=args }=some (.bool (true == true)) from w_eq_bool (w_res rfl) w_lit) rfl
section
variable {prog:Program}{w:World}{A:Around}{E:Value→Shared→Prop}{s:Shared}{K:Frag}
end
end Att
namespace L2
open PySem PySem.Spec PyProof.Rows
theorem zg3_:∀ {vs:List Value}{ns:List Int},IntsAre vs ns→Vals (ns.map V.int) vs
 | _,_,.nil=>.nil
 | _,_,.cons n t h=>.cons ⟨t,rfl⟩ (zg3_ h)
def Only (H:Hp):Prop:=∀ b,H b=none∨∃ o xs,H b=some (.frz o (.lst xs))
theorem zlw_ {P:Program}{w:World}{K:Fgg}{mg mb:Str→Option Value}{CX:CXT}{k:Nat}{fa a:Addr}{fd:FuncData}{x:Str}{sp:Sp}{s₁:Shared}{vs:List Value}{ns:List Int}
  (KX:K.In s₁.heap) (hns:s₁.heap.Ns mainGlobals mg) (hb:s₁.heap.Ns builtinsNs mb) (hbb:∀ x:Str,x ≠ "__name__" → mb x=bootBuiltins x) (hlim:s₁.heap.NoLimit) (hg:s₁.gens=#[])
  (ha:s₁.heap.get? a=some { cls:=.type "list",data:=.seq vs.toArray }) (hi:IntsAre vs ns) (hl:ns.length≤sizeLine) (hr:Room k callerA)
  (F:∀ base:Heap,K.In base→base.Ns mainGlobals mg→FnOk P w K mg base CX k fa fd [x] sp) (hbind:∀ (s:Shared) (u:Value),BindsTo s fd ⟨[u],[]⟩ [(x,u)])
  (hsp:∀ H:Hp,Only H→SqL K H a (ns.map V.int)→sp [.ref a] H (fun v _=>v=.bl true) fun _ _ _=>False)
  (hCX:∀ H e s',CX [] H s₁ (fun _ _ _=>False) e s'→False) :
  codeAny (model P w) callerA (.call (.ref fa) ⟨[.ref a],[]⟩) (fun r s'=>r=.ok (.ret (.bool true))∧OldK s₁.heap s'.heap∧s'.os=s₁.os∧AllBare s'.gens) s₁:=by
 have rv:=zg3_ hi
 have lenV:=hi.length
 have core:∀ H:Hp,Only H→SqL K H a (ns.map V.int)→HOk P w H s₁.heap→(∀ b,H b≠none→b=a)→(H a≠none→K.lookup a=none) →
   codeAny (model P w) callerA (.call (.ref fa) ⟨[.ref a],[]⟩) (fun r s'=>r=.ok (.ret (.bool true))∧OldK s₁.heap s'.heap∧s'.os=s₁.os∧AllBare s'.gens) s₁:=by
  intro H hO hS hok hA hK
  have base_of:∀ {b:Addr}{o:Obj},s₁.heap.get? b=some o→H b=none→(hidT s₁.heap H).get? b=some o:=fun e n=>zlB_ e n
  have noA:∀ {b:Addr}{o:Obj}{es:Array DictEntry}{ep:Nat},s₁.heap.get? b=some o→o.data=.dict es ep→H b=none:=fun {b o es ep} e d=>by
   cases q:H b with
   | none=>rfl
   | some u =>
    have e':b=a:=hA b (by rw [q]; simp)
    subst e'
    rw [ha] at e; cases e
    have d':Data.seq vs.toArray _=Data.dict es ep:=d
    cases d'
  have nsK:∀ {b:Addr}{m:Str→Option Value},s₁.heap.Ns b m→(hidT s₁.heap H).Ns b m:=fun {b m} ⟨o,es,ep,e,d,r⟩=>⟨o,es,ep,base_of e (noA e d),d,r⟩
  have hKb:K.In (hidT s₁.heap H):=fun b o e=>base_of (KX b o e) (by
   cases q:H b with
   | none=>rfl
   | some u =>
    have e':b=a:=hA b (by rw [q]; simp)
    subst e'
    rw [hK (by rw [q]; simp)] at e; cases e)
  have hM:Mod K mg (hidT s₁.heap H):=⟨hKb,nsK hns,⟨mb,nsK hb,hbb⟩,let ⟨mc,h1,h2⟩:=hlim; ⟨mc,nsK h1,h2⟩⟩
  have e0:Env0 P w K mg (hidT s₁.heap H) callerA [] s₁ H:=⟨rfl,hM,fun b o e=>zmM_ e,Nat.le_of_eq (zj9_ _ _),trivial,fun b hb=>absurd (show b∈([]:List Addr) from hb) (by simp),hok,.of_eq hg⟩
  refine codeAny_mono ((F _ hKb (nsK hns)).run callerA [] s₁ H ⟨[.ref a],[]⟩ [.ref a] [.ref a] _ _ hr e0 (hbind s₁ (.ref a)) (.cons rfl .nil) (hsp H hO hS)) fun r s' h=>?_
  cases r with
  | error e=>exact (hCX H e s' h).elim
  | ok fl =>
   cases fl with
   | next=>exact False.elim h
   | brk=>exact False.elim h
   | cont=>exact False.elim h
   | ret u =>
    obtain ⟨v,H',os,bare,un,hok',r',q⟩:=h
    have q':v=.bl true:=q
    subst q'
    obtain rfl:u=Value.bool true:=r'
    refine ⟨rfl,OldK.of_keep fun b o e=>?_,os,bare⟩
    cases q:H b with
    | none=>exact un.keep b o e q (by intro z; exact absurd (show b∈([]:List Addr) from z) (by simp)) (by simp)
    | some u =>
     rcases hO b with z | ⟨ob,xs,z⟩
     ·rw [q] at z; cases z
     ·have z2:=un.frzs b ob _ z
      obtain ⟨e1,_⟩:=hok b _ z
      obtain ⟨e2,_⟩:=hok' b _ z2
      rw [e] at e1; cases e1
      exact e2
 cases hk:K.lookup a with
 | some o =>
  have e:=KX a o hk
  rw [ha] at e
  cases e
  refine core (fun _=>none) (fun _=>.inl rfl) (.inr ⟨_,vs.toArray,_,hk,rfl,rfl,rfl,by rw [List.size_toArray,lenV]; exact hl,by simpa using rv⟩) (fun b u z=>by have z':(none:Option HO)=some u:=z; cases z') (fun b z=>absurd rfl z) fun z=>absurd rfl z
 | none =>
  refine core (fun b=>if b=a then some (.frz { cls:=.type "list",data:=.seq vs.toArray } (.lst (ns.map V.int))) else none) (fun b=>?_) (.inl (.inr ⟨{ cls:=.type "list",data:=.seq vs.toArray },if_pos rfl⟩)) (fun b u z=>?_) (fun b z=>?_) fun _=>hk
  ·by_cases hb:b=a
   ·exact .inr ⟨_,_,if_pos hb⟩
   ·exact .inl (if_neg hb)
  ·by_cases hb:b=a
   ·have z':=(if_pos hb).symm.trans z
    cases z'
    subst hb
    exact ⟨ha,by rw [List.length_map]; exact hl,vs,_,rv,ha⟩
   ·have z':=(if_neg hb).symm.trans z
    cases z'
  ·by_cases hb:b=a
   ·exact hb
   ·exact absurd (if_neg hb) z
end L2
namespace L2
open PySem PySem.Spec PyProof.Rows
end L2
namespace L2
open PySem PySem.Spec PyProof.Rows
def inClass (s:Stmt) (j:Nat):Stmt:=match s with
 | .ClassDef _ _ _ body _ _ _ _ _ _ _=>body.getD j (.Pass ⟨0,0,0,0⟩)
 | _=>.Pass ⟨0,0,0,0⟩
def defArgs (s:Stmt):Arguments:=match s with
 | .FunctionDef _ a _ _ _ _ _ _ _ _=>a
 | _=>{ posonlyargs:=[],args:=[],vararg:=none,kwonlyargs:=[],kw_defaults:=[],kwarg:=none,defaults:=[] }
def defBody (s:Stmt):List Stmt:=match s with
 | .FunctionDef _ _ b _ _ _ _ _ _ _=>b
 | _=>[]
def defScope (s:Stmt):Scope:=match s with
 | .FunctionDef _ _ _ _ _ _ sc _ _ _=>sc
 | _=>{ kind:=.function,names:=[],isGenerator:=false,isCoroutine:=false }
abbrev CX0:CXT:=fun _ _ _ _ _ _=>False
abbrev E0:XK:=fun _ _ _=>False
theorem pass0 {X:Cx}:Passes CX0 X E0:=fun _ _ _ _ _ _ _ h=>h.elim
structure Fun (K:Fgg) (x qual:Str) (st:Stmt) (f:Addr) (fd:FuncData):Prop where
 ex:∃ (oc:Value) (od:Option Addr) (kV doc pm:Value) (an:Option Addr) (cdv ct:Value) (osl:Array (Option Value)),
  fd=PySem.W.fnOf x qual (defArgs st) (defBody st) (defScope st) .none kV doc pm an cdv ct∧K.lookup f=some ⟨oc,od,.func fd,osl⟩∧PySem.W.codeIn K cdv qual=true
 kp:PySem.W.keepIn K (.ref f)=true
section
variable {P:Program}{w:World}{K:Fgg}{mg:Str→Option Value}{base:Heap}
theorem Fun.ok {x qual:Str}{st:Stmt}{f:Addr}{fd:FuncData}{N ps:List Str}{k:Nat}{sp:Sp}(F:Fun K x qual st f fd) (S:FnScope N ps (defScope st)) (len:∀ vs H Q E,sp vs H Q E→vs.length=ps.length)
  (hbody:∀ (cdv:Value) (A:Around) (outer:List Env) (s:Shared) (H:Hp) (vs:List V) (Q:VK) (E:XK),Room k (A.deeper (envOfC qual (defScope st) s.heap.objs.size f cdv))→sp vs H Q E →
   ∃ t,PSs (cxOf CX0 P w K mg base N qual (defScope st) f cdv A outer s H E).nox (defBody st) t∧t { nx:=fun _ H'=>Q .non H',rt:=Q } (start N vs) H):FnOk P w K mg base CX0 (k+1) f fd ps sp:=by
 obtain ⟨oc,od,kV,doc,pm,an,cdv,ct,osl,rfl,lk,hcd⟩:=F.ex
 refine fn_of lk hcd S len fun A outer s H vs Q E hr hsp=>?_
 obtain ⟨t,h,q⟩:=hbody cdv A outer s H vs Q E hr hsp
 exact ⟨t,h.nox,q⟩
theorem Fun.binds {x qual:Str}{st:Stmt}{f:Addr}{fd:FuncData}{ps:List Str}(F:Fun K x qual st f fd)
  (h:∀ (kV doc pm:Value) (an:Option Addr) (cdv ct:Value) (us:List Value),us.length=ps.length→bindArgs (PySem.W.fnOf x qual (defArgs st) (defBody st) (defScope st) .none kV doc pm an cdv ct) ⟨us,[]⟩=pure (ps.zip us)):Binds K fd ps []:=by
 obtain ⟨oc,od,kV,doc,pm,an,cdv,ct,osl,rfl,lk,hcd⟩:=F.ex
 exact .all (h kV doc pm an cdv ct)
theorem zmP_ {x qual:Str}{st:Stmt}{f:Addr}{oc:Value}{od an:Option Addr}{osl:Array (Option Value)}{kV doc pm cdv ct:Value}(l:K.lookup f=some ⟨oc,od,.func (PySem.W.fnOf x qual (defArgs st) (defBody st) (defScope st) .none kV doc pm an cdv ct),osl⟩)
  (c:PySem.W.codeIn K cdv qual=true) (k:PySem.W.keepIn K (.ref f)=true):Fun K x qual st f (PySem.W.fnOf x qual (defArgs st) (defBody st) (defScope st) .none kV doc pm an cdv ct):=⟨⟨oc,od,kV,doc,pm,an,cdv,ct,osl,rfl,l,c⟩,k⟩
end
section
variable {X:Cx}
end
def Same (H H':Hp):Prop:=∀ b o,H b=some o→H' b=some o
theorem Same.refl (H:Hp):Same H H:=fun _ _ h=>h
theorem Same.trans {H H1 H2:Hp}(a:Same H H1) (b:Same H1 H2):Same H H2:=fun c o h=>b c o (a c o h)
theorem Same.free {H H':Hp}(e:Same H H') {l:Addr}(h:H' l=Option.none):H l=Option.none:=by
 cases q:H l with
 | none=>rfl
 | some o =>
  rw [e l o q] at h
  cases h
theorem Same.seq {K:Fgg}{H H':Hp}{a:Addr}{xs:List V}(e:Same H H') (h:SqL K H a xs):SqL K H' a xs:=by
 rcases h with (h | ⟨o,h⟩) | h
 ·exact .inl (.inl (e _ _ h))
 ·exact .inl (.inr ⟨o,e _ _ h⟩)
 ·exact .inr h
end L2
namespace L2
open PySem PySem.Spec PyProof.Rows
def Itp (n:Nat) (f:Nat→V):It:=⟨fun i _=>i<n,fun i H x H'=>H'=H∧x=f i,fun i _=>n≤i⟩
def ownTups:List String:=["enumerate", "zip", "dict_itemiterator", "dict_reverseitemiterator", "odict_iterator", "itertools.zip_longest", "itertools.pairwise"]
theorem zgO_ {P:Program}{w:World}{K:Fgg}{tg:Expr}{it:Addr}{n:Nat}{f:Nat→V}{Pw:Nat→Value→Prop}{St:Nat→Heap→Prop}
  (W:∀ A:Around,A.handled=none→Walks P w A it [it] [it] n Pw St) (hv:∀ i v,i<n→Pw i v→RelV (f i) v)
  (ho:∀ i h,St i h→∃ o nm vs,h.get? it=some o∧o.cls=.type nm∧o.data=.fields vs∧ownTups.contains nm=false)
  (hself:∀ (A:Around) (i:Nat) (s:Shared) (Q:Value→Shared→Prop) (E:Value→Shared→Prop),St i s.heap→Q (.ref it) s→wpAny (model P w) A (pyIter (.ref it)) Q E s)
  (hkeep:∀ i h h',St i h→(∀ b∈[it],∀ o,h.get? b=some o→h'.get? b=some o)→St i h') :
  Turn P w K tg (Itp n f) [it] it (fun i h=>i≤n∧St i h) where
 mem:=by simp
 obj:=fun i h st b hb=>by
  have e:b=it:=by simpa using hb
  subst e
  obtain ⟨o,nm,vs,e,c,d,_⟩:=ho i h st.2
  exact ⟨o,e,fun v z=>by rw [d] at z; cases z⟩
 keep:=fun i h h' st k=>⟨st.1,hkeep i h h' st.2 k⟩
 item:=by
  intro X hP hw hK hc i pins s σ H E I hf st hg
  subst hP hw hK
  obtain ⟨f0,f1,f2,f3,f4,f5⟩:=hf it (by simp)
  have hi:i<n:=hg
  refine (W X.A (I.ok.hd hc)).item i s _ _ hi st.2 fun v h' tk hv' st' kk=>?_
  have I1:Inv X pins σ H { s with heap:=h',toks:=tk }:=I.turned (fun b o hb e=>kk b o (by simpa using hb) e) f0 f1 f3 f4 f5
  obtain ⟨o,nm,vs,e,c,d,hn⟩:=ho _ _ st'
  exact ⟨_,rfl,zoa_ (s:={ s with heap:=h',toks:=tk }) (n:=nm) e c d hn ⟨f i,H,I1,hv i v hi hv',⟨rfl,rfl⟩,⟨hi,st'⟩,fun b hb=>(hf b hb).1⟩⟩
 done:=by
  intro X hP hw hK hc i pins s σ H E I hf st hg
  subst hP hw hK
  obtain ⟨f0,f1,f2,f3,f4,f5⟩:=hf it (by simp)
  have hi:n≤i:=hg
  have e:i=n:=Nat.le_antisymm st.1 hi
  subst e
  exact (W X.A (I.ok.hd hc)).done s _ _ st.2 fun h' tk kk=>⟨rfl,I.turned (fun b o hb e=>kk b o (by simpa using hb) e) f0 f1 f3 f4 f5⟩
 self:=fun A i s Q E st h=>hself A i s Q E st.2 h
def sgn (x:Str) (i:Nat):V:=.str ⟨#[x.cps.getD i 0]⟩
theorem zkf_ {P:Program}{w:World}{it:Addr}{x:Str}{t:Tok}(A:Around) (hA:A.handled=none):Walks P w A it [it] [it] x.cps.size (SignAt x) (fun i h=>h.IsStrIter it (strIterType x) x t i):=by
 cases ha:x.cps.all (·<128)
 ·have e:strIterType x = "str_iterator" := by simp [strIterType,ha]
  rw [e]; exact Walks.strWide hA it x t
 ·have e:strIterType x = "str_ascii_iterator" := by simp [strIterType,ha]
  rw [e]; exact Walks.strAscii hA it x t
theorem ziW_ {x:Str}{i:Nat}{v:Value}(h:SignAt x i v):RelV (sgn x i) v:=by
 obtain ⟨c,u,e,rfl⟩:=h
 refine ⟨u,?_⟩
 have:x.cps.getD i 0=c:=by simp [Array.getD_eq_getD_getElem?,e]
 rw [this]
theorem zeO_ (x:Str):ownTups.contains (strIterType x)=false:=by
 unfold strIterType; split<;>decide
theorem zmd_ {P:Program}{w:World}{K:Fgg}{tg:Expr}(it:Addr) (x:Str) (t:Tok):Turn P w K tg (Itp x.cps.size (sgn x)) [it] it (fun i h=>i≤x.cps.size∧h.IsStrIter it (strIterType x) x t i):=by
 refine zgO_ (Pw:=SignAt x) (fun A hA=>zkf_ A hA) (fun i v _ h=>ziW_ h) (fun i h st=>?_) (fun A i s Q E st h=>?_) (fun i h h' st k=>?_)
 ·obtain ⟨o,e,c,d⟩:=st
  exact ⟨o,_,_,e,c,d,zeO_ x⟩
 ·cases ha:x.cps.all (·<128)
  ·have e:strIterType x = "str_iterator" := by simp [strIterType,ha]
   rw [e] at st; exact wpAny_pyIter_striter_wide st h
  ·have e:strIterType x = "str_ascii_iterator" := by simp [strIterType,ha]
   rw [e] at st; exact wpAny_pyIter_striter_ascii st h
 ·obtain ⟨o,e,r⟩:=st
  exact ⟨o,k it (by simp) o e,r⟩
section
variable {X:Cx}{tg:Expr}
end
end L2
namespace L2
open PySem PySem.Spec PyProof.Rows
theorem Inv.turnedL {X:Cx}{pins:Pnn}{σ:St}{H:Hp}{s:Shared}{h':Heap}{t':Nat}{ch:List Addr}(I:Inv X pins σ H s) (k:∀ b o,b∉ch→s.heap.get? b=some o→h'.get? b=some o)
  (hf:∀ b∈ch,FpOk X pins H b):Inv X pins σ H { s with heap:=h',toks:=t' }:=by
 have nit:∀ b u,H b=some u→b∉ch:=fun b u e z=>by rw [(hf b z).1] at e; cases e
 refine I.step (g':=s.gens) (d':=s.drawn) (ch:=ch) (fun b hb=>?_) (fun b o _ _ hc e _=>k b o hc e) (fun b o _ _ hc e _=>⟨o.slots,k b o hc e⟩) (fun _ _ _ _ n=>n)
  (fun b o hc e=>⟨o,k b o hc e⟩) (fun _ _ e=>e) (fun _ _ _ e=>e) (fun b ps e=>⟨#[],by rw [e]; simp⟩) (fun m hm=>?_) (fun b u e=>?_) I.bare
 ·obtain ⟨f0,f1,f2,f3,f4,f5⟩:=hf b hb
  exact ⟨f3,f1,f4,f5⟩
 ·obtain ⟨o,es,ep,ho,r⟩:=hm
  exact ⟨o,es,ep,k _ o (fun z=>(hf _ z).2.1 rfl) ho,r⟩
 ·refine (I.hok b u e).stay (fun c v hc q=>k c v ?_ q) (fun _ q=>q) fun _ _ q=>q
  rcases hc with z | z
  ·rw [z]; exact nit b u e
  ·exact nit c _ z
theorem zkp_ {X:Cx}{pins:Pnn}{σ:St}{H:Hp}{s:Shared}{h1:Heap}{tk:Nat}{tk':Tok}{e it:Addr}{i:Nat}{x:Value}{y:V}{St:Heap→Prop}{elts:List Expr}{kk:Nat}{pos:Pos}{E:Value→Shared→Prop}
  (I:Inv X pins σ H s) (hf:∀ b∈[e,it],FpOk X pins H b) (he:e<s.heap.objs.size) (hit:it<s.heap.objs.size) (hei:e≠it) (heo:IsEnumOut h1 e it ((i:Int)+1) x s.heap.objs.size) (ry:RelV y x)
  (ht:h1.get? s.heap.objs.size=some { cls:=.type "tuple",data:=.seq #[.int i tk',x] }) (hz:h1.objs.size=s.heap.objs.size+1) (hk:∀ b o,b≠e→b≠it→s.heap.get? b=some o→h1.get? b=some o)
  (hSt:∀ h2,Heap.SameBut e h1 h2→St h2) :
  wpAny (model X.prog X.w) X.A (letOwnedTupleGo (.Tuple elts kk pos) (.ref e) (.ref s.heap.objs.size)) (fun _ s2=>∃ z H',Inv X pins σ H' s2∧RelV z (.ref s.heap.objs.size) ∧
   (∃ p,H p=none∧z=.ref p∧H'=upd H p (.tup [.int i,y]))∧(IsEnum s2.heap e it ((i+1:Nat):Int) x∧St s2.heap)∧∀ b∈[e,it],H' b=none) E { s with heap:=h1,toks:=tk }:=by
 refine wpAny_letOwnedTupleGo_enum heo fun h2 he2 hs2=>?_
 replace hs2:Heap.SameBut e h1 h2:=hs2
 have hp:H s.heap.objs.size=none:=I.hok.fresh (Nat.le_refl _)
 have hne:s.heap.objs.size≠e:=Nat.ne_of_gt he
 have hni:s.heap.objs.size≠it:=Nat.ne_of_gt hit
 have I1:Inv X pins σ (upd H s.heap.objs.size (.tup [.int i,y])) { s with heap:=s.heap.push { cls:=.type "tuple",data:=.seq #[.int i tk',x] },toks:=tk }:=by
  refine I.laid (fun b u q=>Heap.get?_push_of_some _ q) (Nat.le_refl _) ⟨?_,[.int i tk',x],.cons ⟨_,rfl⟩ (.cons ry .nil),⟨_,Heap.get?_push_size _ rfl,rfl,_,rfl⟩⟩
  show 2≤sizeLine
  decide
 have hf1:∀ b∈[e,it],FpOk X pins (upd H s.heap.objs.size (.tup [.int i,y])) b:=fun b hb=>by
  obtain ⟨f0,r⟩:=hf b hb
  refine ⟨?_,r⟩
  rw [zah_ (by rcases List.mem_cons.mp hb with rfl | hb; exact hne.symm; rcases List.mem_cons.mp hb with rfl | hb; exact hni.symm; cases hb)]
  exact f0
 have I2:Inv X pins σ (upd H s.heap.objs.size (.tup [.int i,y])) { s with heap:=h2,toks:=tk }:=by
  refine Inv.turnedL (s:={ s with heap:=s.heap.push { cls:=.type "tuple",data:=.seq #[.int i tk',x] },toks:=tk }) (ch:=[e,it]) I1 (fun b o hb q=>?_) hf1
  have nbe:b≠e:=fun z=>hb (by simp [z])
  have nbi:b≠it:=fun z=>hb (by simp [z])
  refine (hs2.2 b nbe).trans ?_
  rcases Heap.get?_push_cases q with ⟨rfl,rfl⟩ | q'
  ·exact ht
  ·exact hk b o nbe nbi q'
 refine ⟨.ref s.heap.objs.size,_,I2,rfl,⟨s.heap.objs.size,hp,rfl,rfl⟩,⟨?_,hSt h2 hs2⟩,fun b hb=>(hf1 b hb).1⟩
 have:((i+1:Nat):Int)=(i:Int)+1:=by push_cast; rfl
 rw [this]; exact he2
def Ite (K:Fgg) (l:Addr):It :=
 ⟨fun i H=>∃ xs x,SqL K H l xs∧xs[i]?=some x,fun i H y H'=>∃ p x,(∀ xs,SqL K H l xs→xs[i]?=some x)∧H p=none∧y=.ref p∧H'=upd H p (.tup [.int i,x]),fun i H=>∃ xs,SqL K H l xs∧xs.length≤i⟩
theorem zh1_ {P:Program}{w:World}{K:Fgg}{elts:List Expr}{kk:Nat}{pos:Pos}(e it l:Addr) (hei:e≠it) :
  Turn P w K (.Tuple elts kk pos) (Ite K l) [e,it] e (fun i h=>(∃ old,IsEnum h e it (i:Nat) old)∧h.IsListIter it l i) where
 mem:=by simp
 obj:=fun i h st b hb=>by
  obtain ⟨⟨old,he⟩,o,ho,c,d⟩:=st
  rcases List.mem_cons.mp hb with rfl | hb
  ·exact ⟨_,he,fun v z=>by cases z⟩
  ·have e:b=it:=by simpa using hb
   subst e
   exact ⟨o,ho,fun v z=>by rw [d] at z; cases z⟩
 keep:=fun i h h' st k=>by
  obtain ⟨⟨old,he⟩,hit⟩:=st
  exact ⟨⟨old,k e (by simp) _ he⟩,hit.at fun o q=>k it (by simp) o q⟩
 item:=by
  intro X hP hw hK hc i pins s σ H E I hf st hg
  subst hP hw hK
  obtain ⟨xs,x,hq,hx⟩:=hg
  obtain ⟨its,rv,p,hz⟩:=I.list hq
  obtain ⟨u,hu,ru⟩:=rv.get hx
  obtain ⟨⟨old,he⟩,hit⟩:=st
  refine wpAny_pyNext_enum_item he hit p.isList (x:=u) (by simpa using hu) hei fun h1 heo hit1 ht1 hz1 hk1=>?_
  refine ⟨_,rfl,?_⟩
  have hel:e<s.heap.objs.size:=Heap.lt_size he
  have hil:it<s.heap.objs.size:=by obtain ⟨o,ho,_⟩:=id hit; exact Heap.lt_size ho
  refine thn (zkp_ (St:=fun h2=>h2.IsListIter it l (i+1)) I hf hel hil hei heo ru ht1 hz1 hk1 fun h2 hs=>hit1.extBut hs.extBut hei.symm) fun _ s2 q=>?_
  obtain ⟨z,H',I2,rz,⟨p,hp,rfl,rfl⟩,⟨he2,hit2⟩,fr⟩:=q
  exact ⟨.ref p,_,I2,rz,⟨p,x,fun ys hy=>by rw [I.list_inj hy hq]; exact hx,hp,rfl,rfl⟩,⟨⟨u,he2⟩,hit2⟩,fr⟩
 done:=by
  intro X hP hw hK hc i pins s σ H E I hf st hg
  subst hP hw hK
  obtain ⟨xs,hq,hx⟩:=hg
  obtain ⟨its,rv,p,hz⟩:=I.list hq
  obtain ⟨⟨old,he⟩,hit⟩:=st
  have hl:=rv.length
  obtain ⟨f0,f1,f2,f3,f4,f5⟩:=hf it (by simp)
  exact wpAny_pyNext_enum_end (I.ok.hd hc) he hit p.isList (by simp; lia) fun h' eb=>⟨rfl,I.turned (t':=s.toks) (fun b o hb e=>eb b o hb e) f0 f1 f3 f4 f5⟩
 self:=fun _ _ _ _ _ st h=>by
  obtain ⟨⟨old,he⟩,_⟩:=st
  exact wpAny_pyIter_enum he h
section
variable {X:Cx}{elts:List Expr}{kk:Nat}{tpos:Pos}
def iEnumL (K:Fgg) (ta:TA):TI:=fun σ H R=>ta σ H fun vs H1=>∃ a,vs=[.ref a]∧(∃ xs,SqL K H1 a xs)∧R (Ite K a) H1
theorem zfO_ {a:Expr}{ta:TA}{p pos:Pos}(hg:Gl X "enumerate") (hm:X.mg "enumerate" = none) (ha:PA X [a] ta) (hs:starEach [a] X.env=[(false,eval a X.env)]:=by rfl) :
  PI X (.Tuple elts kk tpos) (.Call (.Name "enumerate" p) [a] [] pos) (iEnumL X.K ta):=by
 intro pins s σ H R I h
 refine Call_ (zfK_ I hg hm (u:=.type "enumerate") (by rfl) (PyProof.Rows.callWith_type1 (thn (ha pos pins s σ H _ I h) fun us s1 hq_=>?_) hs rfl))
 obtain ⟨vs,H1,I1,r1,q1⟩:=hq_
 obtain ⟨l,e,⟨xs,hq⟩,q⟩:=q1
 subst e
 cases r1 with
 | cons r rr =>
  cases rr
  cases r
  obtain ⟨its,rv,p,hz⟩:=I1.list hq
  refine call_enumerate_list p.isList fun h' he hit hsz hk=>?_
  refine wpAny_pyIter_enum (s:={ s1 with heap:=h' }) he ?_
  have I2:Inv X pins σ H1 { s1 with heap:=h' }:=I1.kept (t':=s1.toks) hk
  refine ⟨s1.heap.objs.size+1,[s1.heap.objs.size+1,s1.heap.objs.size],_,_,H1,rfl,I2,zh1_ _ _ l (by simp),⟨⟨_,he⟩,hit⟩,fun b hb=>?_,q⟩
  have hb':s1.heap.objs.size≤b:=by
   rcases List.mem_cons.mp hb with rfl | hb
   ·exact Nat.le_succ _
   ·have e:b=s1.heap.objs.size:=by simpa using hb
    subst e; exact Nat.le_refl _
  exact I1.fpOk hb' (I1.hok.fresh hb')
end
end L2
namespace L2
open PySem PySem.Spec PyProof.Rows
section
variable {prog:Program}{w:World}{A:Around}{R:Result→Shared→Prop}{s:Shared}
theorem zhx_ {elt target iter:Expr}{ifs:List Expr}{scope:Scope}{pos:Pos}{it acc:Value}{env:Env}(I:Nat→Shared→Prop)
  (turn:∀ n s,I n s→wpAny (model prog w) A (pyNext it) (fun r s₁=>match r with
   | none=>R (.ok .next) s₁
   | some v=>wpAny (model prog w) A (letOwnedTupleGo target it v) (fun _ s₂=>wpAny (model prog w) A (assign target env v) (fun _ s₃ =>
     wpAny (model prog w) A (forIn ifs true fun c r=>if r=true then do let ok ← isTrue c env (eval c env); pure (ForInStep.yield ok) else pure (ForInStep.yield r)) (fun ok s₄ =>
      if ok=true then wpAny (model prog w) A (eval elt env) (fun x s₅ =>
       wpAny (model prog w) A (call (.builtin "list.append") [acc,x]) (fun _ s₆=>∃ m,m<n∧I m s₆) (fun _ _=>False) s₅) (fun _ _=>False) s₄
      else ∃ m,m<n∧I m s₄) (fun _ _=>False) s₃) (fun _ _=>False) s₂) (fun _ _=>False) s₁) (fun _ _=>False) s)
  (n:Nat) (h:I n s) :
  codeAny (model prog w) A (.compLoop (.ListComp elt [⟨target,iter,ifs,0⟩] scope pos) 0 it acc env) R s:=by
 refine codeAny_loop rfl I (fun n s hI=>?_) n h
 show wpAny _ A ((compTurn (.ListComp elt [⟨target,iter,ifs,0⟩] scope pos) 0 it acc env).onRaise (fun x=>do noteFrame x env; theTreesLotGoes x)) _ _ s
 refine wpAny_noted ?_
 rw [compTurn_list]
 refine wpAny_bind (wpAny_standAt (wpAny_bind (wpAny_mono (turn n s hI) (fun r s₁ h₁=>?_) fun _ _ h'=>h'.elim)))
 cases r with
 | none=>exact wpAny_pure h₁
 | some v =>
  refine wpAny_bind (wpAny_mono h₁ (fun _ s₂ h₂=>?_) fun _ _ h'=>h'.elim)
  refine wpAny_bind (wpAny_mono h₂ (fun _ s₃ h₃=>wpAny_bind (wpAny_mono h₃ (fun ok s₄ h₄=>?_) fun _ _ h'=>h'.elim)) fun _ _ h'=>h'.elim)
  cases ok with
  | false=>exact wpAny_pure ⟨rfl,h₄⟩
  | true =>
   exact wpAny_bind (wpAny_bind (wpAny_mono h₄ (fun x s₅ h₅=>wpAny_bind (wpAny_mono h₅ (fun _ s₆ h₆=>wpAny_pure (wpAny_pure ⟨rfl,h₆⟩)) fun _ _ h'=>h'.elim)) fun _ _ h'=>h'.elim))
end
def closeL (cells:List (Str×Addr)):List (Str×NameKind)→List (Str×Addr)→Option (List (Str×Addr))
 | [],acc=>some acc
 | (n,k)::r,acc=>if (k == .free)=true then (match cells.lookup n with | some c=>closeL cells r ((n,c)::acc) | none=>none) else closeL cells r acc
theorem zdT_ {env:Env}{f:Str×NameKind→List (Str×Addr)→Sem (ForInStep (List (Str×Addr)))}
  (hf:∀ n k cs,f (n,k) cs=if (k == NameKind.free)=true then (do let c ← cellOf env n; pure (ForInStep.yield ((n,c)::cs))) else pure (ForInStep.yield cs)) :
  ∀ (names:List (Str×NameKind)) (acc cl:List (Str×Addr)),closeL env.cells names acc=some cl→(forIn names acc f:Sem (List (Str×Addr)))=pure cl
 | [],acc,cl,h=>by cases h; rfl
 | (n,k)::r,acc,cl,h=>by
  rw [List.forIn_cons,hf]
  unfold closeL at h
  by_cases hk:(k == NameKind.free)=true
  ·rw [if_pos hk] at h
   rw [if_pos hk]
   cases hc:env.cells.lookup n with
   | none=>rw [hc] at h; cases h
   | some c =>
    rw [hc] at h
    have e:cellOf env n=pure c:=by unfold cellOf; rw [hc]
    rw [e]
    simp only [pure_bind]
    exact zdT_ hf r _ cl h
  ·rw [if_neg hk] at h
   rw [if_neg hk]
   simp only [pure_bind]
   exact zdT_ hf r _ cl h
theorem zgx_ {env:Env}{scope:Scope}{cl:List (Str×Addr)}(h:closeL env.cells scope.names []=some cl):closureFor scope env=pure cl:=by
 unfold closureFor
 dsimp only
 rw [zdT_ (env:=env) (fun n k cs=>rfl) scope.names [] cl h]
 rfl
theorem zcX_ {cells:List (Str×Addr)}:∀ (names:List (Str×NameKind)) (acc cl:List (Str×Addr)),closeL cells names acc=some cl→(∀ x c,acc.lookup x=some c→cells.lookup x=some c) →
  (∀ x c,cl.lookup x=some c→cells.lookup x=some c)
 | [],acc,cl,h,ha=>by cases h; exact ha
 | (n,k)::r,acc,cl,h,ha=>by
  unfold closeL at h
  by_cases hk:(k == NameKind.free)=true
  ·rw [if_pos hk] at h
   cases hc:cells.lookup n with
   | none=>rw [hc] at h; cases h
   | some c =>
    rw [hc] at h
    refine zcX_ r _ cl h fun x c' e=>?_
    rw [List.lookup_cons] at e
    cases hx:x == n with
    | true=>rw [hx] at e; cases e; rw [eq_of_beq hx]; exact hc
    | false=>rw [hx] at e; exact ha x c' e
  ·rw [if_neg hk] at h
   exact zcX_ r _ cl h ha
theorem zdU_ {cells:List (Str×Addr)}:∀ (names:List (Str×NameKind)) (acc cl:List (Str×Addr)),closeL cells names acc=some cl→∀ x,((x,NameKind.free)∈names∨∃ c,acc.lookup x=some c)→∃ c,cl.lookup x=some c
 | [],acc,cl,h,x,hx=>by
  cases h
  rcases hx with hx | hx
  ·cases hx
  ·exact hx
 | (n,k)::r,acc,cl,h,x,hx=>by
  unfold closeL at h
  by_cases hk:(k == NameKind.free)=true
  ·rw [if_pos hk] at h
   cases hc:cells.lookup n with
   | none=>rw [hc] at h; cases h
   | some c =>
    rw [hc] at h
    refine zdU_ r _ cl h x ?_
    rcases hx with hx | ⟨c',e⟩
    ·rcases List.mem_cons.mp hx with e | hx
     ·cases e; exact .inr ⟨c,by rw [List.lookup_cons,beq_self_eq_true]⟩
     ·exact .inl hx
    ·refine .inr ?_
     rw [List.lookup_cons]
     cases hxn:x == n with
     | true=>exact ⟨c,rfl⟩
     | false=>exact ⟨c',e⟩
  ·rw [if_neg hk] at h
   refine zdU_ r _ cl h x ?_
   rcases hx with hx | hx
   ·rcases List.mem_cons.mp hx with e | hx
    ·cases e; exact absurd rfl hk
    ·exact .inl hx
   ·exact .inr hx
theorem zew_ {scope:Scope}{env:Env}{x:Str}{k:NameKind}(h:(relabel scope env).names.lookup x=some k) (hk:k=.cell∨k=.free) (hcell:∀ y∈scope.names,y.2≠.cell):(x,NameKind.free)∈scope.names:=by
 have m:=PySem.mem_of_lookup h
 obtain ⟨⟨n,k0⟩,hm,e⟩:=List.mem_map.mp m
 dsimp only at e
 split at e
 ·rename_i hc
  cases e
  have:k0=.free:=by
   simp only [Bool.and_eq_true,beq_iff_eq] at hc
   exact hc.1.1
  subst this; exact hm
 ·cases e
  rcases hk with rfl | rfl
  ·exact absurd rfl (hcell _ hm)
  ·exact hm
def cxComp (X:Cx) (scope:Scope) (cl:List (Str×Addr)) (C:Addr) (N:List Str) (fp:List Addr) (s2:Shared) (H2:Hp):Cx where
 prog:=X.prog
 w:=X.w
 K:=X.K
 mg:=X.mg
 base:=X.base
 A:=X.A
 N:=N
 s₀:=s2
 H₀:=H2
 env:=compEnvC scope cl C X.env
 outer:=X.stack
 stack:=X.stack
 ex:=fp
 fn:=fun _=>false
 calm:=X.calm
 pn:=[]
 xe:=fun _ _=>False
structure CScope (X:Cx) (scope:Scope) (cl:List (Str×Addr)) (lv:List Str) (fr:List (Str×Nat)):Prop where
 clos:closeL X.env.cells scope.names []=some cl
 cell:∀ y∈scope.names,y.2≠.cell
 kind:scope.kind=.function
 names:∀ z∈scope.names,z.2=.local→scope.names.lookup z.1=some .local
 fr:∀ q∈fr,X.N[q.2]?=some q.1∧(q.1,NameKind.free)∈scope.names∧(X.env.kindOf q.1=some .cell∨X.env.kindOf q.1=some .free) ∧
  ((relabel scope X.env).names.lookup q.1=some .cell∨(relabel scope X.env).names.lookup q.1=some .free)
def cN (lv:List Str) (fr:List (Str×Nat)):List Str:=lv++fr.map (·.1)
def cS (lv:List Str) (fr:List (Str×Nat)) (σ:St):St:=lv.map (fun _=>none)++fr.map fun q=>(σ[q.2]?).join
theorem zlX_ {X:Cx}{pins:Pnn}{σ:St}{H2:Hp}{s2:Shared}{scope:Scope}{cl:List (Str×Addr)}{lv:List Str}{fr:List (Str×Nat)}{fp:List Addr}{h4:Heap}{tk:Nat}{m:Str→Option Value}{n:Nat}
  (I:Inv X pins σ H2 s2) (S:CScope X scope cl lv fr) (hf:∀ b∈fp,FpOk X pins H2 b) (hlt:∀ b∈fp,b<s2.heap.objs.size) (hC:h4.Ns (s2.heap.objs.size+1) m) (hD:h4.get? s2.heap.objs.size=some { cls:=.type "list",data:=.seq #[] n })
  (hk:∀ b o,s2.heap.get? b=some o→h4.get? b=some o) :
  Inv (cxComp X scope cl (s2.heap.objs.size+1) (cN lv fr) fp s2 H2) [] (cS lv fr σ) (upd H2 s2.heap.objs.size (.lst [])) { s2 with heap:=h4,toks:=tk }:=by
 have hcl:=zcX_ scope.names [] cl S.clos (fun x c e=>by cases e)
 have hhas:=zdU_ scope.names [] cl S.clos
 have hDn:H2 s2.heap.objs.size=none:=I.hok.fresh (Nat.le_refl _)
 have hCn:H2 (s2.heap.objs.size+1)=none:=I.hok.fresh (Nat.le_succ _)
 have hCD:s2.heap.objs.size+1≠s2.heap.objs.size:=Nat.ne_of_gt (Nat.lt_succ_self _)
 have fpC:∀ b∈fp,(b∈X.ex∨X.s₀.heap.objs.size≤b):=fun b hb=>(hf b hb).2.2.2.1
 have cellLt:∀ x c,cl.lookup x=some c→c<s2.heap.objs.size:=fun x c e=>by
  obtain ⟨v,o,ho,_⟩:=I.cell x c (hcl x c e)
  exact Heap.lt_size ho
 refine ⟨⟨I.ok.mod,S.kind,I.ok.glob,I.ok.blt,Nat.le_succ _,fun x y c h1 h2=>I.ok.inj x y c (hcl x c h1) (hcl y c h2),fun x hx=>?_,fun x c hfn=>(by cases hfn),I.ok.hd,I.ok.frames,.inl rfl,fun b hb=>?_,I.bs,Nat.le_trans I.ok.bsz I.sz,fun b o e hb=>?_,fun b hb z=>?_,I.stack,I.stkFree⟩,
  rfl,I.bare,?_,⟨m,hC,fun i x v h1 h2 h3=>?_⟩,fun x c e=>?_,?_,fun x c e=>?_,fun p hp=>absurd (show p∈([]:Pnn) from hp) (by simp),?_,?_⟩
 ·-- has
  have hx':(relabel scope X.env).names.lookup x=some .cell∨(relabel scope X.env).names.lookup x=some .free:=hx
  have hm:(x,NameKind.free)∈scope.names:=hx'.elim (fun z=>zew_ z (.inl rfl) S.cell) fun z=>zew_ z (.inr rfl) S.cell
  exact hhas x (.inl hm)
 ·-- exf
  obtain ⟨f0,f1,f2,f3,f4,f5⟩:=hf b hb
  refine ⟨fun z=>?_,fun x c e=>f4 x c (hcl x c e)⟩
  have z':b=s2.heap.objs.size+1:=z
  have:=hlt b hb
  rw [z'] at this
  exact absurd this (Nat.not_lt.mpr (Nat.le_succ _))
 ·rcases fpC b hb with z | z
  ·exact I.ok.noex b o e z
  ·exact absurd (Nat.lt_of_lt_of_le (Nat.lt_of_lt_of_le (Heap.lt_size e) I.ok.bsz) z) (Nat.lt_irrefl _)
 ·obtain ⟨f0,f1,f2,_⟩:=hf b hb
  rcases List.mem_cons.mp (I.stkSub b z) with q | q
  ·exact f1 q
  ·exact f2 q
 ·exact Un.laid hk (Nat.le_refl _) hDn
 ·-- loc
  have h1':(lv++fr.map (·.1))[i]?=some x:=h1
  have h2':(lv.map (fun _=>none)++fr.map fun q=>(σ[q.2]?).join:St)[i]?=some (some v):=h2
  by_cases hi:i<lv.length
  ·rw [List.getElem?_append_left (by simpa using hi),List.getElem?_map] at h2'
   cases hq:lv[i]? with
   | none=>rw [hq] at h2'; cases h2'
   | some z=>rw [hq] at h2'; cases h2'
  ·rw [List.getElem?_append_right (by simpa using hi),List.getElem?_map] at h2'
   rw [List.getElem?_append_right (by lia),List.getElem?_map] at h1'
   simp only [List.length_map] at h2'
   cases hq:fr[i-lv.length]? with
   | none=>rw [hq] at h1'; cases h1'
   | some q =>
    rw [hq] at h1' h2'
    have e1:q.1=x:=Option.some.inj h1'
    have e2:(σ[q.2]?).join=some v:=Option.some.inj h2'
    have e3:σ[q.2]?=some (some v):=by
     cases hz:σ[q.2]? with
     | none=>rw [hz] at e2; cases e2
     | some z=>rw [hz] at e2; exact congrArg some e2
    obtain ⟨g1,g2,g3,g4⟩:=S.fr q (List.mem_of_getElem? hq)
    obtain ⟨m0,hn0,hl0⟩:=I.loc
    have vis:Vis X.env.scope q.1:=by
     rcases g3 with g3 | g3
     ·exact .inr (.inl g3)
     ·exact .inr (.inr g3)
    obtain ⟨u,r,l⟩:=hl0 q.2 q.1 v g1 e3 vis
    refine ⟨u,r,.inr ⟨?_,?_⟩⟩
    ·rw [← e1]; exact g4
    ·rcases l with ⟨lk,_⟩ | ⟨_,c,ec,ic⟩
     ·rcases g3 with g3 | g3<;>(rw [lk] at g3; cases g3)
     ·obtain ⟨c',ec'⟩:=hhas q.1 (.inl g2)
      have:c'=c:=by
       have:=hcl q.1 c' ec'
       rw [ec] at this; exact (Option.some.inj this).symm
      subst this
      obtain ⟨o,ho,hd⟩:=ic
      exact ⟨c',by rw [← e1]; exact ec',o,hk _ _ ho,hd⟩
 ·obtain ⟨v,o,ho,hd⟩:=I.cell x c (hcl x c e)
  exact ⟨v,o,hk _ _ ho,hd⟩
 ·show upd H2 _ _ (s2.heap.objs.size+1)=none
  rw [zah_ hCD]; exact hCn
 ·have:=cellLt x c e
  rw [zah_ (Nat.ne_of_lt this)]
  exact I.freeC x c (hcl x c e)
 ·exact I.hok.laid hk (Nat.le_refl _) ⟨Nat.zero_le _,[],n,.nil,hD⟩
 ·show (cS lv fr σ).length=(cN lv fr).length
  simp [cS,cN]
end L2
namespace L2
open PySem PySem.Spec PyProof.Rows
def PIf (X:Cx) (ifs:List Expr) (t:TT):Prop :=
 ∀ (pins:Pnn) (s:Shared) (σ:St) (H:Hp) (Q:Bool→Hp→Prop),Inv X pins σ H s→t σ H Q →
  wpAny (model X.prog X.w) X.A (forIn ifs true fun c r=>if r=true then do let ok ← isTrue c X.env (eval c X.env); pure (ForInStep.yield ok) else pure (ForInStep.yield r)) (TP X pins σ Q) X.xe s
def tTrue:TT:=fun _ H Q=>Q true H
theorem zbK_ {X:Cx}:PIf X [] tTrue:=fun pins s σ H Q I h=>wpAny_tests_nil ⟨H,I,h⟩
def tCompR (J:It) (g:TG) (tt:TT) (te:TE) (σ0:St) (H1:Hp) (Q:VK):Prop :=
 ∀ D,H1 D=none→∃ W:Nat→Nat→List V→St→Hp→Prop,(∃ m,W 0 m [] σ0 (upd H1 D (.lst [])))∧∀ i m ys σ H,W i m ys σ H →
  (J.stop i H∧Q (.ref D) H)∨(J.go i H∧∃ N:List V→St→Hp→Prop,(∀ ys' σ' H',N ys' σ' H'→∃ m',m'<m∧W (i+1) m' ys' σ' H') ∧
   ∀ x H',J.yld i H x H'→g x σ H' fun σ2 H2=>tt σ2 H2 fun b H3=>if b=true then te σ2 H3 fun v H4=>H4 D=some (.lst ys)∧ys.length<sizeLine∧N (ys++[v]) σ2 (upd H4 D (.lst (ys++[v]))) else N ys σ2 H3)
section
variable {X:Cx}{scope:Scope}{cl:List (Str×Addr)}{lv:List Str}{fr:List (Str×Nat)}{elt tg iter:Expr}{ifs:List Expr}{pos:Pos}{g:TG}{tt:TT}{te:TE}
theorem zfa_ {pins:Pnn}{σ:St}{H2:Hp}{s2:Shared}{it:Addr}{fp:List Addr}{tn:Nat→Heap→Prop}{J:It}{Q:VK}{E:Value→Shared→Prop}{use:Option (Value→Sem Unit)}{Q':Value→Shared→Prop}
  (I:Inv X pins σ H2 s2) (S:CScope X scope cl lv fr) (T:Turn X.prog X.w X.K tg J fp it tn) (st:tn 0 s2.heap) (hf:∀ b∈fp,FpOk X pins H2 b) (hc:X.calm=true)
  (hg:∀ C fp s2 H2,PG (cxComp X scope cl C (cN lv fr) fp s2 H2) tg g) (ht:∀ C fp s2 H2,PIf (cxComp X scope cl C (cN lv fr) fp s2 H2) ifs tt) (he:∀ C fp s2 H2,PE (cxComp X scope cl C (cN lv fr) fp s2 H2) elt te)
  (hq:tCompR J g tt te (cS lv fr σ) H2 Q)
  (fin:∀ D C oC H' s',Inv X (pins++[(C,oC)]) σ H' s'→(∀ h:Heap,h.get? C=some oC→∃ m,h.Ns C m)→FpOk X pins H' C→Q (.ref D) H'→compPost (model X.prog X.w) X.A E use Q' (.ref D) C (.ok .next) s') :
  wpAny (model X.prog X.w) X.A (newList []) (fun acc s₃=>wpAny (model X.prog X.w) X.A (newFunctionEnv scope X.env.globals cl [] X.env.qual none .none (some X.env)) (fun cenv s₄ =>
   codeAny (model X.prog X.w) X.A (.compStart (.ListComp elt [⟨tg,iter,ifs,0⟩] scope pos) 0 (.ref it) acc { cenv with scope:=relabel scope X.env }) (compPost (model X.prog X.w) X.A E use Q' acc cenv.locals) s₄) E s₃) E s2:=by
 have hlt:∀ b∈fp,b<s2.heap.objs.size:=fun b hb=>by
  obtain ⟨o,ho,_⟩:=T.obj 0 _ st b hb
  exact Heap.lt_size ho
 refine wpAny_newList (wpAny_newFunctionEnv S.cell (by intro y hy; simp at hy) (fun h₁ hns₁ hsb₁=>?_) S.kind)
 dsimp only at hns₁ hsb₁ ⊢
 have hsz:(s2.heap.push { cls:=.type "list",data:=.seq ([]:List Value).toArray }).objs.size=s2.heap.objs.size+1:=Heap.size_push ..
 rw [hsz] at hns₁ hsb₁ ⊢
 have old:∀ b o,s2.heap.get? b=some o→h₁.get? b=some o:=fun b o e=>hsb₁.extBut b o (Nat.ne_of_lt (Nat.lt_succ_of_lt (Heap.lt_size e))) (Heap.get?_push_of_some _ (Heap.get?_push_of_some _ e))
 have hacc:h₁.get? s2.heap.objs.size=some { cls:=.type "list",data:=.seq #[] }:=hsb₁.extBut _ _ (Nat.ne_of_lt (Nat.lt_succ_self _)) (Heap.get?_push_of_some _ (Heap.get?_push_size _ rfl))
 have I4:Inv (cxComp X scope cl (s2.heap.objs.size+1) (cN lv fr) fp s2 H2) [] (cS lv fr σ) (upd H2 s2.heap.objs.size (.lst [])) { s2 with heap:=h₁,toks:=s2.toks+([]:List (Str×Value)).length } :=
  zlX_ I S hf hlt hns₁ hacc old
 generalize hX':cxComp X scope cl (s2.heap.objs.size+1) (cN lv fr) fp s2 H2=X' at I4
 have eP:X'.prog=X.prog:=by rw [← hX']; rfl
 have ew:X'.w=X.w:=by rw [← hX']; rfl
 have eK:X'.K=X.K:=by rw [← hX']; rfl
 have eA:X'.A=X.A:=by rw [← hX']; rfl
 have ec:X'.calm=true:=by rw [← hX']; exact hc
 have ex:X'.xe=fun _ _=>False:=by rw [← hX']; rfl
 have een:X'.env=compEnvC scope cl (s2.heap.objs.size+1) X.env:=by rw [← hX']; rfl
 have hg':PG X' tg g:=hX' ▸ hg _ _ _ _
 have ht':PIf X' ifs tt:=hX' ▸ ht _ _ _ _
 have he':PE X' elt te:=hX' ▸ he _ _ _ _
 obtain ⟨W,⟨m0,w0⟩,turn⟩:=hq s2.heap.objs.size (I.hok.fresh (Nat.le_refl _))
 have st1:tn 0 h₁:=T.keep _ _ _ st fun b _ o e=>old b o e
 have f4:∀ b∈fp,FpOk X' [] (upd H2 s2.heap.objs.size (.lst [])) b:=fun b hb=>by
  obtain ⟨f0,f1,f2,f3,f4,f5⟩:=hf b hb
  have:=hlt b hb
  refine ⟨?_,?_,?_,.inl ?_,?_,?_⟩
  ·rw [zah_ (Nat.ne_of_lt this)]; exact f0
  ·rw [een]; exact Nat.ne_of_lt (Nat.lt_succ_of_lt this)
  ·intro z
   have z':b∈frs X.stack:=by rw [← hX'] at z; exact z
   rcases List.mem_cons.mp (I.stkSub b z') with q | q
   ·exact f1 q
   ·exact f2 q
  ·rw [← hX']; exact hb
  ·intro x c e
   rw [een] at e
   exact f4 x c (zcX_ scope.names [] cl S.clos (fun x c e=>by cases e) x c e)
  ·intro p hp
   rw [← hX'] at hp
   exact absurd (show p∈([]:Pnn) from hp) (by simp)
 have stat:∀ {H':Hp},(∀ b∈fp,H' b=none)→∀ b∈fp,FpOk X' [] H' b:=fun hn b hb=>⟨hn b hb,(f4 b hb).2⟩
 have loop:∀ s₃:Shared,s₃={ s2 with heap:=h₁,toks:=s2.toks+([]:List (Str×Value)).length } →
   codeAny (model X.prog X.w) X.A (.compLoop (.ListComp elt [⟨tg,iter,ifs,0⟩] scope pos) 0 (.ref it) (.ref s2.heap.objs.size) (compEnvC scope cl (s2.heap.objs.size+1) X.env))
    (compPost (model X.prog X.w) X.A E use Q' (.ref s2.heap.objs.size) (s2.heap.objs.size+1)) s₃:=by
  rintro s₃ rfl
  refine zhx_ (fun n s'=>∃ i ys σ' H',Inv X' [] σ' H' s'∧tn i s'.heap∧(∀ b∈fp,H' b=none)∧W i n ys σ' H') ?_ m0 ⟨0,[],_,_,I4,st1,fun b hb=>(f4 b hb).1,w0⟩
  rintro n s3 ⟨i,ys,σ3,H3,I3,st3,fr3,w3⟩
  rcases turn i n ys σ3 H3 w3 with ⟨stop,qn⟩ | ⟨go,N,hN,step⟩
  ·have a0:=T.done X' eP ew eK ec i [] s3 σ3 H3 (fun _ _=>False) I3 (stat fr3) st3 stop
   rw [eA] at a0
   refine thn a0 fun r s4 hq_=>?_
   obtain ⟨hr,I4'⟩:=hq_
   subst hr
   have un:Un (frs X.stack) fp H2 H3 s2.heap s4.heap:=by
    have:=I4'.base
    rw [← hX'] at this
    exact this
   have os:s4.os=s2.os:=by
    have:=I4'.os
    rw [← hX'] at this
    exact this
   have hok:HOk X.prog X.w H3 s4.heap:=by
    have:=I4'.hok
    rw [← hX'] at this
    exact this
   have J1:Inv X pins σ H3 s4:=I.call' os un hok I4'.bare fun b hb=>by
    obtain ⟨f0,f1,f2,f3,f4,f5⟩:=hf b hb
    exact ⟨f3,f1,f4,f5⟩
   obtain ⟨m,hn,_⟩:=I4'.loc
   have hn':s4.heap.Ns (s2.heap.objs.size+1) m:=by rw [een] at hn; exact hn
   have hCn:H3 (s2.heap.objs.size+1)=none:=by
    have:=I4'.free
    rw [een] at this; exact this
   have fC:FpOk X pins H3 (s2.heap.objs.size+1):=I.fpOk (Nat.le_succ _) hCn
   obtain ⟨oC,es,ep,hoC,hdC,rC⟩:=id hn'
   have J2:Inv X (pins++[(s2.heap.objs.size+1,oC)]) σ H3 s4:=J1.pins_of fun p hp=>by
    rcases List.mem_append.mp hp with hp | hp
    ·exact J1.pin p (List.mem_append_right _ hp)
    ·have e:p=(s2.heap.objs.size+1,oC):=by simpa using hp
     subst e
     exact ⟨hoC,hCn,fC.2.1,fC.2.2.1,fun v z=>by rw [hdC] at z; cases z⟩
   exact fin _ _ oC H3 s4 J2 (fun h e=>⟨m,oC,es,ep,e,hdC,rC⟩) fC qn
  ·have a0:=T.item X' eP ew eK ec i [] s3 σ3 H3 (fun _ _=>False) I3 (stat fr3) st3 go
   rw [eA] at a0
   refine thn a0 fun r s4 hq_=>?_
   obtain ⟨u,hr,h4⟩:=hq_
   subst hr
   refine thn h4 fun _ s5 hq_=>?_
   obtain ⟨x,H5,I5,r5,y5,st5,fr5⟩:=hq_
   have I5':=I5.pinned (stat fr5) (T.obj _ _ st5)
   have a1:=hg' _ s5 σ3 H5 x u _ I5' r5 (step x H5 y5)
   rw [eP,ew,eA,een,ex] at a1
   refine thn a1 fun _ s6 hq_=>?_
   obtain ⟨σ6,H6,I6,q6⟩:=hq_
   have a2:=ht' _ s6 σ6 H6 _ I6 q6
   rw [eP,ew,eA,een,ex] at a2
   refine thn a2 fun ok s7 hq_=>?_
   obtain ⟨H7,I7,q7⟩:=hq_
   have again:∀ {ys7:List V}{H7:Hp}{s7:Shared},Inv X' ([]++pinsAt fp s5.heap) σ6 H7 s7→N ys7 σ6 H7→∃ m,m<n∧∃ i ys σ' H',Inv X' [] σ' H' s7∧tn i s7.heap∧(∀ b∈fp,H' b=none)∧W i m ys σ' H':=fun {ys7 H7 s7} I7 n7=>by
    obtain ⟨m',hm,w7⟩:=hN ys7 σ6 H7 n7
    refine ⟨m',hm,i+1,ys7,σ6,H7,I7.unpinned,T.keep _ _ _ st5 fun b hb o e=>(I7.pin (b,o) (List.mem_append_right _ (List.mem_append_right _ (zcP_ hb e)))).1,fun b hb=>?_,w7⟩
    obtain ⟨o,e,d⟩:=T.obj _ _ st5 b hb
    exact (I7.pin (b,o) (List.mem_append_right _ (List.mem_append_right _ (zcP_ hb e)))).2.1
   cases ok with
   | false=>exact again I7 q7
   | true =>
    have a3:=he' _ s7 σ6 H7 _ I7 q7
    rw [eP,ew,eA,een,ex] at a3
    refine thn a3 fun y s8 hq_=>?_
    obtain ⟨v,H8,I8,r8,hD8,hl8,n8⟩:=hq_
    have a4:=zay_ (X:=X') _ s8 σ6 H8 (.ref s2.heap.objs.size) [v] (.ref s2.heap.objs.size) [y] (fun _ H9=>N (ys++[v]) σ6 H9) I8 rfl (.cons r8 .nil) ⟨_,_,_,rfl,rfl,hD8,hl8,n8⟩
    rw [eP,ew,eA,ex] at a4
    refine thn a4 fun _ s9 hq_=>?_
    obtain ⟨v9,H9,I9,_,n9⟩:=hq_
    exact again I9 n9
 exact codeAny_compStart_list (loop _ rfl) (T.self _ 0 _ _ _ st1 (loop _ rfl))
def tComp (lv:List Str) (fr:List (Str×Nat)) (wi:TI) (g:TG) (tt:TT) (te:TE):TE:=fun σ H Q=>wi σ H fun J H1=>tCompR J g tt te (cS lv fr σ) H1 Q
theorem zdR_ {wi:TI}(hc:X.calm=true) (S:CScope X scope cl lv fr) (hi:PI X tg iter wi)
  (hg:∀ C fp s2 H2,PG (cxComp X scope cl C (cN lv fr) fp s2 H2) tg g) (ht:∀ C fp s2 H2,PIf (cxComp X scope cl C (cN lv fr) fp s2 H2) ifs tt) (he:∀ C fp s2 H2,PE (cxComp X scope cl C (cN lv fr) fp s2 H2) elt te)
  (hs:∀ x,foldedSetIterable iter X.env x=pure x:=by intro _; rfl):PE X (.ListComp elt [⟨tg,iter,ifs,0⟩] scope pos) (tComp lv fr wi g tt te):=by
 intro pins s σ H Q I h
 rw [eval_ListComp]
 refine wpAny_comprehension_free (use:=none) rfl hs (zgx_ S.clos) S.kind S.names ?_
 refine thn (hi pins s σ H _ I h) fun v s1 h1=>thn h1 fun itv s2 h2=>?_
 obtain ⟨it,fp,tn,J,H2,e,I2,T,st2,f2,q⟩:=h2
 subst e
 refine zfa_ I2 S T st2 f2 hc hg ht he q fun D C oC H' s' J1 hNs fC qD=>?_
 have hp:=J1.pin (C,oC) (List.mem_append_right _ (List.mem_append_right _ (List.mem_singleton.mpr rfl)))
 obtain ⟨m,hm⟩:=hNs s'.heap hp.1
 refine ⟨m,hm,fun h' hs'=>?_⟩
 exact ⟨.ref D,H',J1.unpinned.turned (t':=s'.toks) (fun b o hb e=>(hs'.2 b hb).trans e) fC.1 fC.2.1 fC.2.2.2.1 fC.2.2.2.2.1 fC.2.2.2.2.2,rfl,qD⟩
theorem zcG_ {wi:TI}{j:Nat}{y:Str}{py spos:Pos}(hc:X.calm=true) (S:CScope X scope cl lv fr) (hi:PI X tg iter wi)
  (hg:∀ C fp s2 H2,PG (cxComp X scope cl C (cN lv fr) fp s2 H2) tg g) (ht:∀ C fp s2 H2,PIf (cxComp X scope cl C (cN lv fr) fp s2 H2) ifs tt) (he:∀ C fp s2 H2,PE (cxComp X scope cl C (cN lv fr) fp s2 H2) elt te)
  (hy:PG X (.Name y py) (gName j))
  (hsw:swapsWith (.ListComp elt [⟨tg,iter,ifs,0⟩] scope pos) (some (.Name y py)) spos.line X.env=pure true:=by rfl)
  (hs:∀ x,foldedSetIterable iter X.env x=pure x:=by intro _; rfl):PS X (.Assign [.Name y py] (.ListComp elt [⟨tg,iter,ifs,0⟩] scope pos) spos) (tAsg (tComp lv fr wi g tt te) (gName j)):=by
 intro pins s σ H D I h
 rw [exec_Assign_Name_used _ _ _ _ hsw]
 refine wpAny_bind (wpAny_standAt (wpAny_bind ?_))
 show wpAny _ X.A (do let _ ← comprehension (.ListComp elt [⟨tg,iter,ifs,0⟩] scope pos) scope X.env _ (newList []) false (eval iter X.env) (some (assign (.Name y py) X.env))) _ _ s
 refine wpAny_bind (wpAny_mono (wpAny_comprehension_free (use:=some (assign (.Name y py) X.env)) (Q:=fun _ s'=>SP X pins D .next s') rfl hs (zgx_ S.clos) S.kind S.names ?_) (fun _ s' hq=>wpAny_pure (wpAny_pure hq)) fun _ _ e=>e)
 refine thn (hi pins s σ H _ I h) fun v s1 h1=>thn h1 fun itv s2 h2=>?_
 obtain ⟨it,fp,tn,J,H2,e,I2,T,st2,f2,q⟩:=h2
 subst e
 refine zfa_ I2 S T st2 f2 hc hg ht he q fun D' C oC H' s' J1 hNs fC qD=>?_
 show wpAny _ X.A (assign (.Name y py) X.env (.ref D')) _ _ _
 refine thn (hy _ s' σ H' (.ref D') (.ref D') _ J1 rfl qD) fun _ s3 hq_=>?_
 obtain ⟨σ3,H3,I3,q3⟩:=hq_
 have hp:=I3.pin (C,oC) (List.mem_append_right _ (List.mem_append_right _ (List.mem_singleton.mpr rfl)))
 obtain ⟨m,hm⟩:=hNs s3.heap hp.1
 refine ⟨m,hm,fun h' hs'=>?_⟩
 have fC':FpOk X pins H3 C:=⟨hp.2.1,fC.2⟩
 exact ⟨σ3,H3,I3.unpinned.turned (t':=s3.toks) (fun b o hb e=>(hs'.2 b hb).trans e) fC'.1 fC'.2.1 fC'.2.2.2.1 fC'.2.2.2.2.1 fC'.2.2.2.2.2,q3⟩
end
end L2
namespace L2
open PySem PySem.Spec PyProof.Rows
abbrev tx (l:List Nat):V:=.str ⟨l.toArray⟩
def br (b:Bool) (A B:Prop):Prop:=(b=true→A)∧(b=false→B)
theorem zij_ (a b:Str):a++b=⟨(a.cps.toList++b.cps.toList).toArray⟩:=by
 cases a; cases b
 show Str.mk (_++_)=_
 simp
theorem zaQ_ (a:Str):a=⟨a.cps.toList.toArray⟩:=by cases a; simp
def cutL (l:List Nat) (lo hi:Option Int):List Nat:=(l.drop (HT.sIx l.length 0 lo)).take (HT.sIx l.length l.length hi-HT.sIx l.length 0 lo)
theorem zdJ_ (lo hi:Option Int) (n:Nat):Builtin.Str.strSliceIndices lo hi 1 n=sliceRange ((HT.sIx n 0 lo:Nat):Int) ((HT.sIx n n hi:Nat):Int) 1:=by
 unfold Builtin.Str.strSliceIndices
 simp only [show (1:Int) > 0 by decide,if_true]
 congr 1
 ·cases lo with
  | none=>simp [HT.sIx]
  | some i =>
   simp only [HT.sIx]
   by_cases h:i<0
   ·simp only [h,if_true]<;>lia
   ·simp only [h,if_false]<;>lia
 ·cases hi with
  | none=>simp [HT.sIx]
  | some i =>
   simp only [HT.sIx]
   by_cases h:i<0
   ·simp only [h,if_true]<;>lia
   ·simp only [h,if_false]<;>lia
theorem zh7_ (x:Str) (lo hi:Option Int):(Builtin.Str.strSliceIndices lo hi 1 x.length).filterMap (x.cps[·]?)=cutL x.cps.toList lo hi:=by
 rw [zdJ_,sliceRange_one,pick_run]
 unfold cutL Str.length
 simp only [Array.length_toList]
theorem zeA_ (l:List Nat) (lo hi:Option Int):(cutL l lo hi).length≤l.length:=by
 unfold cutL
 rw [List.length_take,List.length_drop]
 lia
theorem zjH_ {l:List Nat}{lo hi:Option Int}(h:(cutL l lo hi).length=l.length):cutL l lo hi=l:=by
 unfold cutL at h ⊢
 rw [List.length_take,List.length_drop] at h
 have h1:HT.sIx l.length l.length hi≤l.length:=HT.sIx_le _ _ (Nat.le_refl _) _
 by_cases hl:l.length=0
 ·have:l=[]:=List.length_eq_zero_iff.mp hl
  subst this
  simp
 ·have h2:HT.sIx l.length 0 lo=0:=by lia
  rw [h2,List.drop_zero,List.take_of_length_le]
  lia
section
variable {X:Cx}
def rSlS:V→Option Int→Option Int→Hp→VK→Prop:=fun x lo hi H Q=>match x with | .str z=>z.length≤sizeLine∧Q (tx (cutL z.cps.toList lo hi)) H | _=>False
theorem zdB_ {v:Value}{o:Option Int}(p:IsPart v o):∃ l:Option (Int×Tok),v=partValue l∧l.map (·.1)=o:=by
 cases p with
 | none=>exact ⟨none,rfl,rfl⟩
 | int i t=>exact ⟨some (i,t),rfl,rfl⟩
theorem zoV_:SlR X rSlS:=by
 intro pins s σ H x v vl vu lo hi sl Q I rx hs pl pu h
 cases x with
 | str z =>
  obtain ⟨hz,q⟩:=h
  obtain ⟨t,rfl⟩:=rx
  obtain ⟨l,rfl,rfl⟩:=zdB_ pl
  obtain ⟨u,rfl,rfl⟩:=zdB_ pu
  refine ⟨"str",_,F.slot_str_getitem.lookup,typeIs_str _ _ _,?_⟩
  refine wpAny_getItem_str_slice (l:=l) (u:=u) (st:=none) hs rfl ?_
  unfold sliceMade
  have e:slicePicked z l u none=Builtin.Str.strSliceIndices (l.map (·.1)) (u.map (·.1)) 1 z.length:=rfl
  rw [e]
  have hlen:(Builtin.Str.strSliceIndices (l.map (·.1)) (u.map (·.1)) 1 z.length).length=(cutL z.cps.toList (l.map (·.1)) (u.map (·.1))).length:=by
   rw [zdJ_,sliceRange_one,List.length_map,List.length_range]
   unfold cutL
   rw [List.length_take,List.length_drop]
   have h1:HT.sIx z.length z.length (u.map (·.1))≤z.length:=HT.sIx_le _ _ (Nat.le_refl _) _
   have h2:z.cps.toList.length=z.length:=by simp [Str.length]
   rw [h2]
   lia
  split
  ·rename_i hc
   have hc':(cutL z.cps.toList (l.map (·.1)) (u.map (·.1))).length=z.cps.toList.length:=by
    rw [← hlen]
    simpa [Str.length] using hc
   rw [zjH_ hc'] at q
   have q':Q (.str z) H:=by rw [zaQ_ z]; exact q
   exact ⟨.str z,H,I,⟨_,rfl⟩,q'⟩
  ·rw [zh7_]
   have h3:=zeA_ z.cps.toList (l.map (·.1)) (u.map (·.1))
   have h2:z.cps.toList.length=z.length:=by simp [Str.length]
   refine ⟨?_,tx (cutL z.cps.toList (l.map (·.1)) (u.map (·.1))),H,I.tok _,⟨_,rfl⟩,q⟩
   show (cutL z.cps.toList (l.map (·.1)) (u.map (·.1))).toArray.size≤sizeLine
   rw [List.size_toArray]
   exact Nat.le_trans h3 (by rw [h2]; exact hz)
 | _=>exact h.elim
end
end L2
namespace L2
open PySem PySem.Spec PyProof.Rows
def mVar (i:Nat):TE:=fun σ H Q=>match σ[i]? with | some (some v)=>Q v H | _=>False
section
variable {X:Cx}{a b c:Expr}{ta tb tc:TE}{pos:Pos}
theorem za_ (i:Nat) {x:Str}{pos:Pos}(hN:X.N[i]?=some x:=by rfl) (hv:Vis X.env.scope x:=by first | exact Or.inl rfl | exact Or.inr (Or.inl rfl) | exact Or.inr (Or.inr rfl)) (hd:(x == ("__debug__" : Str))=false:=by decide)
  (hcd:(x == ("__classdict__" : Str))=false:=by decide):PE X (.Name x pos) (mVar i):=by
 intro pins s σ H Q I h
 unfold mVar at h
 cases e:σ[i]? with
 | none=>rw [e] at h; exact h.elim
 | some o =>
  rw [e] at h
  cases o with
  | none=>exact h.elim
  | some v=>exact zoN_ hN hv hd hcd pins s σ H Q I ⟨v,e,h⟩
theorem zb2_ {x:Str}{l:List Nat}{j pos} (h:x=⟨l.toArray⟩:=by rfl):PE X (.Constant (.str x) j pos) (tC (tx l)):=h ▸ zo9_
def mAdd:R2:=fun x y H Q=>match x,y with
 | .int i,.int j=>Q (.int (i+j)) H
 | .str a,.str b=>a.cps.toList.length+b.cps.toList.length≤sizeLine∧Q (tx (a.cps.toList++b.cps.toList)) H
 | .ref a,.ref b=>∃ xs zs,H a=some (.lst xs)∧H b=some (.lst zs)∧xs.length+zs.length≤sizeLine∧∀ p,H p=none→Q (.ref p) (upd H p (.lst (xs++zs)))
 | _,_=>False
theorem zG_:OpR X (binaryOp .Add) mAdd:=by
 intro pins s σ H x y v u Q I rx ry h
 cases x<;>cases y<;>first
  | exact h.elim
  | exact zo7_ pins s σ H _ _ v u Q I rx ry ⟨_,_,rfl,rfl,h⟩
  | exact ziY_ pins s σ H _ _ v u Q I rx ry ⟨_,_,rfl,rfl,by simpa [Str.length] using h.1,by rw [zij_]; exact h.2⟩
  | (obtain ⟨xs,zs,h1,h2,h3,h4⟩:=h; exact zpo_ pins s σ H _ _ v u Q I rx ry ⟨_,_,xs,zs,rfl,rfl,h1,h2,h3,h4⟩)
def mI (C:Int→Int→Prop) (g:Int→Int→V):R2:=fun x y H Q=>match x,y with | .int i,.int j=>C i j∧Q (g i j) H | _,_=>False
def mI0 (g:Int→Int→V):R2:=fun x y H Q=>match x,y with | .int i,.int j=>Q (g i j) H | _,_=>False
theorem opM {f:Value→Value→Sem Value}{C:Int→Int→Prop}{g:Int→Int→V}(h:OpR X f (rI C g)):OpR X f (mI C g):=by
 intro pins s σ H x y v u Q I rx ry q
 cases x<;>cases y<;>first | exact q.elim | exact h pins s σ H _ _ v u Q I rx ry ⟨_,_,rfl,rfl,q.1,q.2⟩
theorem opM0 {f:Value→Value→Sem Value}{g:Int→Int→V}(h:OpR X f (rI0 g)):OpR X f (mI0 g):=by
 intro pins s σ H x y v u Q I rx ry q
 cases x<;>cases y<;>first | exact q.elim | exact h pins s σ H _ _ v u Q I rx ry ⟨_,_,rfl,rfl,q⟩
abbrev mSub:R2:=mI0 fun i j=>.int (i-j)
abbrev mMod:R2:=mI (fun _ j=>0<j) fun i j=>.int (i % j)
theorem zaR_:OpR X (binaryOp .Sub) mSub:=opM0 zoC_
theorem z2_:OpR X (binaryOp .Mod) mMod:=opM zoI_
def mEqB (x y:V):Option Bool:=match x,y with
 | .int i,.int j=>some (decide (i=j))
 | .str a,.str b=>some (decide (a.cps.toList=b.cps.toList))
 | .bl a,.bl b=>some (decide (a=b))
 | .non,.non=>some true
 | .non,.int _=>some false | .int _,.non=>some false | .non,.bl _=>some false | .bl _,.non=>some false | .non,.str _=>some false | .str _,.non=>some false
 | .int _,.str _=>some false | .str _,.int _=>some false | .bl _,.str _=>some false | .str _,.bl _=>some false
 | _,_=>none
theorem ziT_ {x y:V}{b:Bool}(h:mEqB x y=some b):scal x y=true∧decide (x=y)=b:=by
 cases x<;>cases y<;>first
  | (cases (show (none:Option Bool)=some b from h); done)
  | (refine ⟨rfl,?_⟩; have h':=Option.some.inj h; rw [← h']; first | rfl | (simp; done))
  | (rename_i a b'
     refine ⟨rfl,?_⟩
     have h':=Option.some.inj h
     rw [← h',decide_eq_decide]
     constructor
     ·intro e; cases e; rfl
     ·intro e; rw [zaQ_ a,zaQ_ b',e])
def mEq:R2:=fun x y H Q=>match mEqB x y with | some b=>Q (.bl b) H | none=>False
def mNe:R2:=fun x y H Q=>match mEqB x y with | some b=>Q (.bl (!b)) H | none=>False
theorem zoO_:OpR X (compareOp .Eq) mEq:=by
 intro pins s σ H x y v u Q I rx ry h
 unfold mEq at h
 cases e:mEqB x y with
 | none=>rw [e] at h; exact h.elim
 | some b =>
  rw [e] at h
  obtain ⟨h1,h2⟩:=ziT_ e
  exact op_eq pins s σ H x y v u Q I rx ry ⟨h1,by rw [h2]; exact h⟩
theorem zoU_:OpR X (compareOp .NotEq) mNe:=by
 intro pins s σ H x y v u Q I rx ry h
 unfold mNe at h
 cases e:mEqB x y with
 | none=>rw [e] at h; exact h.elim
 | some b =>
  rw [e] at h
  obtain ⟨h1,h2⟩:=ziT_ e
  exact op_ne pins s σ H x y v u Q I rx ry ⟨h1,by rw [h2]; exact h⟩
abbrev mLt:R2:=mI0 fun i j=>.bl (decide (i<j))
abbrev mGt:R2:=mI0 fun i j=>.bl (decide (j<i))
abbrev mGe:R2:=mI0 fun i j=>.bl (decide (j≤i))
theorem zmw_:OpR X (compareOp .Lt) mLt:=opM0 op_lt
theorem zmn_:OpR X (compareOp .Gt) mGt:=opM0 op_gt
theorem zpd_:OpR X (compareOp .GtE) mGe:=opM0 op_ge
def mIsB (x y:V):Option Bool:=match y with
 | .non=>some (decide (x=.non))
 | .bl b=>(match x with | .bl a=>some (decide (a=b)) | _=>none)
 | _=>none
def mIs:R2:=fun x y H Q=>match mIsB x y with | some b=>Q (.bl b) H | none=>False
def mIsNot:R2:=fun x y H Q=>match mIsB x y with | some b=>Q (.bl (!b)) H | none=>False
theorem zl8_ {M:Model}{A:Around}{E:Value→Shared→Prop}{s:Shared}{a b:Bool}{Q:Value→Shared→Prop}(h:Q (.bool (decide (a=b))) s):wpAny M A (compareOp .Is (.bool a) (.bool b)) Q E s:=by
 cases a<;>cases b<;>exact wpAny_pure h
theorem zhn_ {M:Model}{A:Around}{E:Value→Shared→Prop}{s:Shared}{a b:Bool}{Q:Value→Shared→Prop}(h:Q (.bool (!decide (a=b))) s):wpAny M A (compareOp .IsNot (.bool a) (.bool b)) Q E s:=by
 cases a<;>cases b<;>exact wpAny_pure h
theorem zoG_:OpR X (compareOp .Is) mIs:=by
 intro pins s σ H x y v u Q I rx ry h
 unfold mIs mIsB at h
 cases y with
 | non=>exact zok_ pins s σ H x _ v u Q I rx ry ⟨rfl,h⟩
 | bl b =>
  cases x with
  | bl a=>cases rx; cases ry; exact zl8_ ⟨.bl _,H,I,rfl,h⟩
  | _=>exact h.elim
 | _=>exact h.elim
theorem zj2_:OpR X (compareOp .IsNot) mIsNot:=by
 intro pins s σ H x y v u Q I rx ry h
 unfold mIsNot mIsB at h
 cases y with
 | non=>exact zmz_ pins s σ H x _ v u Q I rx ry ⟨rfl,h⟩
 | bl b =>
  cases x with
  | bl a=>cases rx; cases ry; exact zhn_ ⟨.bl _,H,I,rfl,h⟩
  | _=>exact h.elim
 | _=>exact h.elim
def inS (l:List Nat) (t:List Nat):Bool:=match l with | [c]=>decide (c∈t) | _=>!(Builtin.Str.occurrences ⟨t.toArray⟩ ⟨l.toArray⟩ 0 t.length 1).isEmpty
theorem znL_ (a b:Str):(!(Builtin.Str.occurrences b a 0 b.length 1).isEmpty)=inS a.cps.toList b.cps.toList:=by
 have e:b.length=b.cps.toList.length:=by simp [Str.length]
 unfold inS
 split
 ·rename_i c hc
  have ea:a=⟨#[c]⟩:=by rw [zaQ_ a,hc]
  rw [ea]
  exact StrLaws.found_one b c
 ·rw [← zaQ_,← zaQ_,e]
def mIn (K:Fgg) (neg:Bool):R2:=fun x y H Q=>match y with
 | .str b=>(match x with | .str a=>Q (.bl (if neg then !inS a.cps.toList b.cps.toList else inS a.cps.toList b.cps.toList)) H | _=>False)
 | .ref p=>∃ xs,(SqL K H p xs∨SqT K H p xs)∧flatV x=true∧xs.all flatV=true∧Q (.bl (if neg then !inV x xs else inV x xs)) H
 | _=>False
theorem zoi_:OpR X (compareOp .In) (mIn X.K false):=by
 intro pins s σ H x y v u Q I rx ry h
 unfold mIn at h
 cases y with
 | str b =>
  cases x with
  | str a=>exact zjw_ pins s σ H _ _ v u Q I rx ry ⟨_,_,rfl,rfl,by rw [znL_]; exact h⟩
  | _=>exact h.elim
 | ref p =>
  obtain ⟨xs,h1,h2,h3,h4⟩:=h
  exact zkl_ pins s σ H _ _ v u Q I rx ry ⟨_,xs,rfl,h1,h2,h3,h4⟩
 | _=>exact h.elim
def mTest (t:TE):TT:=fun σ H Q=>t σ H fun x H'=>match x with | .bl k=>Q k H' | _=>False
def mAndV (ta tb:TE):TE:=fun σ H Q=>ta σ H fun x H1=>match x with | .bl c=>br c (tb σ H1 Q) (Q (.bl false) H1) | _=>False
def mAnd (t u:TT):TT:=fun σ H Q=>t σ H fun c H1=>br c (u σ H1 Q) (Q false H1)
def mOr (t u:TT):TT:=fun σ H Q=>t σ H fun c H1=>br c (Q true H1) (u σ H1 Q)
variable {rest:List Expr}{tA tB':TT}
theorem zky_ (ha:PE X a ta) (hb:PE X (.BoolOp .And (b::rest) pos) tb):PE X (.BoolOp .And (a::b::rest) pos) (mAndV ta tb):=by
 intro pins s σ H Q I h
 refine BoolOp_and (thn (ha pins s σ H _ I h) fun v s1 hq_=>?_)
 obtain ⟨x,H1,I1,r1,q1⟩:=hq_
 cases x with
 | bl c =>
  cases r1
  refine wpAny_truthy_bool ?_
  cases c with
  | true=>exact hb pins s1 σ H1 Q I1 (q1.1 rfl)
  | false=>exact ⟨.bl false,H1,I1,rfl,q1.2 rfl⟩
 | _=>exact q1.elim
theorem znw_ (ha:PT X a tA) (hb:PW X (.BoolOp .And (b::rest) pos) tB'):PW X (.BoolOp .And (a::b::rest) pos) (mAnd tA tB'):=by
 intro wh pins s σ H Q I h
 refine isTrue_and (thn (ha pins s σ H _ I h) fun c s1 hq_=>?_)
 obtain ⟨H1,I1,q1⟩:=hq_
 cases c with
 | true=>exact hb wh pins s1 σ H1 Q I1 (q1.1 rfl)
 | false=>exact ⟨H1,I1,q1.2 rfl⟩
theorem zmQ_ (ha:PT X a tA) (hb:PW X (.BoolOp .Or (b::rest) pos) tB'):PW X (.BoolOp .Or (a::b::rest) pos) (mOr tA tB'):=by
 intro wh pins s σ H Q I h
 refine isTrue_or (thn (ha pins s σ H _ I h) fun c s1 hq_=>?_)
 obtain ⟨H1,I1,q1⟩:=hq_
 cases c with
 | true=>exact ⟨H1,I1,q1.1 rfl⟩
 | false=>exact hb wh pins s1 σ H1 Q I1 (q1.2 rfl)
theorem zg2_ {e:Expr}{t:TE}(h:PE X e t) (he:∀ whole,isTrue e X.env whole=(do let v ← whole; standAt e.pos; holding [v] (truthy v)):=by intro _; rfl):PT X e (mTest t):=by
 intro pins s σ H Q I hw
 refine isTrue_plain (thn (h pins s σ H _ I hw) fun v s1 hq_=>?_) (he _)
 obtain ⟨x,H1,I1,r1,q1⟩:=hq_
 cases x with
 | bl c=>cases r1; exact wpAny_truthy_bool ⟨H1,I1,q1⟩
 | _=>exact q1.elim
theorem zaN_ {op:CmpOp}{r:R2}(ho:OpR X (compareOp op) r) (ha:PE X a ta) (hb:PE X b tb) (hm:behindInMarks op b=false:=by first | exact nobehind _ (by decide) (by decide) | rfl):PT X (.Compare a [op] [b] pos) (mTest (tOp r ta tb)):=by
 intro pins s σ H Q I hw
 refine wpAny_isTrue_Compare1 (binT ha hb I hw fun v u s2 x y H2 I2 rx ry q=>?_) hm
 refine thn (ho pins s2 σ H2 x y v u _ I2 rx ry q) fun c s3 hq_=>?_
 obtain ⟨z,H3,I3,r3,q3⟩:=hq_
 cases z with
 | bl k=>cases r3; exact wpAny_truthy_bool ⟨H3,I3,q3⟩
 | _=>exact q3.elim
theorem zkt_ {op:CmpOp}{r:R2}(ho:OpR X (compareOp op) r) (ha:PE X a ta) (hb:PE X b tb) (hm:behindInMarks op b=false:=by first | exact nobehind _ (by decide) (by decide) | rfl):PE X (.Compare a [op] [b] pos) (tOp r ta tb):=zmH_ ho ha hb hm
def mIf (t:TT) (ta tb:TE):TE:=fun σ H Q=>t σ H fun c H1=>br c (ta σ H1 Q) (tb σ H1 Q)
theorem zoo_ {c:Expr}(hc:PT X c tA) (ha:PE X a ta) (hb:PE X b tb):PE X (.IfExp c a b pos) (mIf tA ta tb):=by
 intro pins s σ H Q I h
 refine wpAny_IfExp (thn (hc pins s σ H _ I h) fun d s1 hq_=>?_)
 obtain ⟨H1,I1,q1⟩:=hq_
 cases d with
 | true=>exact ha pins s1 σ H1 Q I1 (q1.1 rfl)
 | false=>exact hb pins s1 σ H1 Q I1 (q1.2 rfl)
def mIfS (c:TT) (t u:TS):TS:=fun D σ H=>c σ H fun b H1=>br b (t D σ H1) (u D σ H1)
theorem zcb_ {c:Expr}{a b:List Stmt}{tc:TT}{t u:TS}(hc:PT X c tc) (ha:PSs X a t) (hb:PSs X b u):PS X (.If c a b pos) (mIfS tc t u):=by
 intro pins s σ H D I h
 refine wpAny_If (thn (hc pins s σ H _ I h) fun d s1 hq_=>?_)
 obtain ⟨H1,I1,q1⟩:=hq_
 cases d with
 | true=>exact ha pins s1 σ H1 D I1 (q1.1 rfl)
 | false=>exact hb pins s1 σ H1 D I1 (q1.2 rfl)
end
end L2
namespace L2
open PySem PySem.Spec PyProof.Rows
section
variable {X:Cx}{a b c e o:Expr}{es:List Expr}{ta tb tc:TE}{t:TA}{pos:Pos}
def mIx (K:Fgg):R2:=fun x y H Q=>match y with
 | .int i=>(match x with
  | .ref p=>∃ xs,(SqL K H p xs∨SqT K H p xs)∧(match atI xs i with | some v=>Q v H | none=>False)
  | .str z=>z.cps.toList.length≤sizeLine∧(match atI z.cps.toList i with | some c=>Q (tx [c]) H | none=>False)
  | _=>False)
 | _=>False
theorem ix_M:IxR X (mIx X.K):=by
 intro value slice pins s σ H x y v u Q I rx ry h hs0
 unfold mIx at h
 cases y with
 | int i =>
  cases x with
  | ref p =>
   obtain ⟨xs,hs,h⟩:=h
   cases ev:atI xs i with
   | none=>rw [ev] at h; exact h.elim
   | some w' =>
    rw [ev] at h
    rcases hs with hs | hs
    ·exact znz_ value slice pins s σ H _ _ v u Q I rx ry ⟨p,xs,i,w',rfl,rfl,hs,ev,h⟩ hs0
    ·exact zoW_ value slice pins s σ H _ _ v u Q I rx ry ⟨p,xs,i,w',rfl,rfl,hs,ev,h⟩ hs0
  | str z =>
   obtain ⟨hz,h⟩:=h
   cases ev:atI z.cps.toList i with
   | none=>rw [ev] at h; exact h.elim
   | some w' =>
    rw [ev] at h
    exact zox_ value slice pins s σ H _ _ v u Q I rx ry ⟨z,i,w',rfl,rfl,by simpa [Str.length] using hz,ev,h⟩ hs0
  | _=>exact h.elim
 | _=>exact h.elim
def mSl (K:Fgg):V→Option Int→Option Int→Hp→VK→Prop:=fun x lo hi H Q=>match x with
 | .str z=>z.cps.toList.length≤sizeLine∧Q (tx (cutL z.cps.toList lo hi)) H
 | .ref a=>∃ xs,SqL K H a xs∧∀ p,H p=none→Q (.ref p) (upd H p (.lst (cutV xs lo hi)))
 | _=>False
theorem sl_M:SlR X (mSl X.K):=by
 intro pins s σ H x v vl vu lo hi sl Q I rx hs pl pu h
 unfold mSl at h
 cases x with
 | str z=>exact zoV_ pins s σ H _ v vl vu lo hi sl Q I rx hs pl pu ⟨by simpa [Str.length] using h.1,h.2⟩
 | ref p =>
  obtain ⟨xs,h1,h2⟩:=h
  exact zmN_ pins s σ H _ v vl vu lo hi sl Q I rx hs pl pu ⟨p,xs,rfl,h1,h2⟩
 | _=>exact h.elim
def mPart (t:TE):TO:=fun σ H Q=>t σ H fun x H1=>match x with | .int i=>Q (some i) H1 | _=>False
theorem po_M (h:PE X e ta):PO X (some e) (mPart ta):=by
 intro pins s σ H Q I hw
 rw [evalPart_some]
 refine thn (h pins s σ H _ I hw) fun u s1 hq_=>?_
 obtain ⟨x,H1,I1,r1,q1⟩:=hq_
 cases x with
 | int i=>obtain ⟨t,rfl⟩:=r1; exact ⟨some i,H1,I1,.int i t,q1⟩
 | _=>exact q1.elim
def mLen (K:Fgg):List V→Hp→VK→Prop:=fun xs H Q=>match xs with
 | [.str z]=>z.cps.toList.length≤sizeLine∧Q (.int z.cps.toList.length) H
 | [.ref p]=>∃ ys,(SqL K H p ys∨SqT K H p ys)∧Q (.int ys.length) H
 | _=>False
theorem zlc_ {K:Fgg}{xs:List V}{H:Hp}{Q:VK}(h:mLen K xs H Q):(∃ z,xs=[.str z]∧z.cps.toList.length≤sizeLine∧Q (.int z.cps.toList.length) H)∨∃ p ys,xs=[.ref p]∧(SqL K H p ys∨SqT K H p ys)∧Q (.int ys.length) H:=by
 rcases xs with _ | ⟨x,_ | ⟨y,t⟩⟩
 ·exact False.elim h
 ·cases x with
  | str z=>exact .inl ⟨z,rfl,h⟩
  | ref p=>obtain ⟨ys,h⟩:=h; exact .inr ⟨p,ys,rfl,h⟩
  | _=>exact False.elim h
 ·cases x<;>exact False.elim h
theorem zQ_:CallR X (.builtin "len") (mLen X.K):=by
 intro pins s σ H xs us Q I r h
 rcases zlc_ h with ⟨z,rfl,h⟩ | ⟨p,ys,rfl,h1,h2⟩
 ·exact zge_ pins s σ H _ us Q I r ⟨_,rfl,by simpa [Str.length] using h.1,by simpa [Str.length] using h.2⟩
 ·exact zgb_ pins s σ H _ us Q I r ⟨_,ys,rfl,h1,h2⟩
def mTwo (g:Int→Int→Int):List V→Hp→VK→Prop:=fun xs H Q=>match xs with | [.int i,.int j]=>Q (.int (g i j)) H | _=>False
theorem zis_ {g:Int→Int→Int}{xs:List V}{H:Hp}{Q:VK}(h:mTwo g xs H Q):∃ i j,xs=[.int i,.int j]∧Q (.int (g i j)) H:=by
 rcases xs with _ | ⟨x,_ | ⟨y,_ | ⟨w,t⟩⟩⟩
 ·exact False.elim h
 ·cases x<;>exact False.elim h
 ·cases x with
  | int i=>cases y with
   | int j=>exact ⟨i,j,rfl,h⟩
   | _=>exact False.elim h
  | _=>exact False.elim h
 ·cases x with
  | int i=>cases y<;>exact False.elim h
  | _=>exact False.elim h
theorem zke_ (hc:X.calm=true):CallR X (.builtin "max") (mTwo max):=by
 intro pins s σ H xs us Q I r h
 obtain ⟨i,j,rfl,h⟩:=zis_ h
 refine zjW_ hc pins s σ H _ us Q I r ⟨i,j,rfl,?_⟩
 have e:(if j > i then j else i)=max i j:=by split<;>lia
 rw [e]; exact h
theorem zko_ (hc:X.calm=true):CallR X (.builtin "min") (mTwo min):=by
 intro pins s σ H xs us Q I r h
 obtain ⟨i,j,rfl,h⟩:=zis_ h
 refine zkj_ hc pins s σ H _ us Q I r ⟨i,j,rfl,?_⟩
 have e:(if j<i then j else i)=min i j:=by split<;>lia
 rw [e]; exact h
def tyS (K:Fgg) (H:Hp):V→String→Prop:=fun x T=>match x with
 | .non=>T = "NoneType" | .bl _=>T = "bool" | .int _=>T = "int" | .str _=>T = "str"
 | .ref p=>(T = "list" ∧ ∃ xs,H p=some (.lst xs))∨(T = "tuple" ∧ ∃ xs,H p=some (.tup xs))
 | _=>False
theorem zpj_ {K:Fgg}{H:Hp}{x:V}{T:String}(h:tyS K H x T):TyOf K H x (.type T):=by
 unfold tyS at h
 cases x with
 | non=>subst h; exact .non
 | bl b=>subst h; exact .bl b
 | int i=>subst h; exact .int i
 | str z=>subst h; exact .str z
 | ref p =>
  rcases h with ⟨rfl,xs,h⟩ | ⟨rfl,xs,h⟩
  ·exact .lst h
  ·exact .tup h
 | _=>exact h.elim
def isaB (T c:String):Option Bool :=
 if T=c then some true else if T = "bool" ∧ c = "int" then some true
 else if (T = "bool" ∨ T = "int" ∨ T = "str" ∨ T = "list" ∨ T = "tuple" ∨ T = "NoneType")∧(c = "bool" ∨ c = "int" ∨ c = "str" ∨ c = "list" ∨ c = "tuple" ∨ c = "dict") then some false else none
theorem znN_ {K:Fgg}{T c:String}{b:Bool}(h:isaB T c=some b):PySem.W.kitOne K (.type T) (.type c)=some b:=by
 unfold isaB at h
 split at h
 ·rename_i e; subst e; cases h
  unfold PySem.W.kitOne
  rw [if_pos (by simp)]
 ·split at h
  ·rename_i e; obtain ⟨rfl,rfl⟩:=e; cases h; rfl
  ·split at h
   ·rename_i h1 h2 e
    cases h
    obtain ⟨e1,e2⟩:=e
    rcases e1 with rfl | rfl | rfl | rfl | rfl | rfl<;>rcases e2 with rfl | rfl | rfl | rfl | rfl | rfl<;>first | rfl | exact absurd rfl h1 | exact absurd ⟨rfl,rfl⟩ h2
   ·cases h
def mIsa (K:Fgg):List V→Hp→VK→Prop:=fun xs H Q=>match xs with
 | [.int _,.ty c]=>(match isaB "int" c with | some b=>Q (.bl b) H | none=>False)
 | [.bl _,.ty c]=>(match isaB "bool" c with | some b=>Q (.bl b) H | none=>False)
 | [.str _,.ty c]=>(match isaB "str" c with | some b=>Q (.bl b) H | none=>False)
 | [.non,.ty c]=>(match isaB "NoneType" c with | some b=>Q (.bl b) H | none=>False)
 | [.ref p,.ty c]=>∃ T,tyS K H (.ref p) T∧(match isaB T c with | some b=>Q (.bl b) H | none=>False)
 | _=>False
theorem zhO_:CallR X (.builtin "isinstance") (mIsa X.K):=by
 intro pins s σ H xs us Q I r h
 have key:∀ (x:V) (T c:String),xs=[x,.ty c]→tyS X.K H x T→(match isaB T c with | some b=>Q (.bl b) H | none=>False)→wpAny (model X.prog X.w) X.A (call (.builtin "isinstance") us) (EP X pins σ Q) X.xe s:=by
  intro x T c e ht hq
  subst e
  obtain ⟨u,w',rfl,r1,r2⟩:=vals2 r
  cases r2
  cases eb:isaB T c with
  | none=>rw [eb] at hq; exact hq.elim
  | some b =>
   rw [eb] at hq
   exact zjJ_ I r1 (zpj_ ht) (znN_ eb) fun tk=>⟨.bl b,H,I.tok tk,rfl,hq⟩
 unfold mIsa at h
 split at h
 ·exact key _ "int" _ rfl rfl h
 ·exact key _ "bool" _ rfl rfl h
 ·exact key _ "str" _ rfl rfl h
 ·exact key _ "NoneType" _ rfl rfl h
 ·obtain ⟨T,h1,h2⟩:=h
  exact key _ T _ rfl h1 h2
 ·exact h.elim
def findS (l:List Nat) (t:List Nat):Int:=Txt.find ⟨l.toArray⟩ ⟨t.toArray⟩
theorem zhJ_ (l:List Nat) (c:Nat):findS l [c]=(match l.findIdx? (· == c) with | some i=>(i:Int) | none => -1):=by
 unfold findS
 rcases find_whole ⟨l.toArray⟩ ⟨[c].toArray⟩ with ⟨h1,h2⟩ | ⟨i,h1,h2,h3⟩
 ·rw [h1]
  have:l.findIdx? (· == c)=none:=by
   rw [List.findIdx?_eq_none_iff]
   intro x hx
   obtain ⟨j,hj⟩:=List.mem_iff_getElem?.mp hx
   by_cases hxc:x=c
   ·subst hxc
    exact absurd ((StrLaws.subAt_one ⟨l.toArray⟩ x j).mpr (by simpa using hj)) (h2 j)
   ·simpa using hxc
  rw [this]
 ·rw [h1]
  have hi:l[i]?=some c:=by simpa using (StrLaws.subAt_one ⟨l.toArray⟩ c i).mp h2
  have:l.findIdx? (· == c)=some i:=by
   obtain ⟨hlt,hget⟩:=List.getElem?_eq_some_iff.mp hi
   rw [List.findIdx?_eq_some_iff_getElem]
   refine ⟨hlt,by simp [hget],fun j hj=>?_⟩
   have hjl:j<l.length:=Nat.lt_trans hj hlt
   have hn:=h3 j hj
   intro hc
   have hc':l[j]=c:=by simpa using hc
   exact hn ((StrLaws.subAt_one ⟨l.toArray⟩ c j).mpr (by simp [hjl,hc']))
  rw [this]
def mFind:V→List V→Hp→VK→Prop:=fun x xs H Q=>match x,xs with | .str l,[.str t]=>Q (.int (findS l.cps.toList t.cps.toList)) H | _,_=>False
theorem zkn_ {x:V}{xs:List V}{H:Hp}{Q:VK}(h:mFind x xs H Q):∃ l t,x=.str l∧xs=[.str t]∧Q (.int (findS l.cps.toList t.cps.toList)) H:=by
 cases x with
 | str l =>
  rcases xs with _ | ⟨y,_ | ⟨z,t⟩⟩
  ·exact False.elim h
  ·cases y with
   | str t=>exact ⟨l,t,rfl,rfl,h⟩
   | _=>exact False.elim h
  ·cases y<;>exact False.elim h
 | _=>exact False.elim h
theorem zmy_:MtR X "str.find" mFind:=by
 intro pins s σ H x xs v us Q I rx rv h
 obtain ⟨l,t,rfl,rfl,h⟩:=zkn_ h
 obtain ⟨k,rfl⟩:=rx
 obtain ⟨u,rfl,ru⟩:=rv.one
 obtain ⟨k',rfl⟩:=ru
 refine SC.find ?_
 have e:Txt.find l t=findS l.cps.toList t.cps.toList:=by unfold findS; rw [← zaQ_,← zaQ_]
 rw [e]
 exact ⟨.int _,H,I.tok _,⟨_,rfl⟩,h⟩
def mIndex:V→List V→Hp→VK→Prop:=fun x xs H Q=>match x,xs with | .str l,[.str t]=>findS l.cps.toList t.cps.toList ≠ -1∧Q (.int (findS l.cps.toList t.cps.toList)) H | _,_=>False
theorem zlq_:MtR X "str.index" mIndex:=by
 intro pins s σ H x xs v us Q I rx rv h
 unfold mIndex at h
 split at h
 ·rename_i l t
  obtain ⟨k,rfl⟩:=rx
  obtain ⟨u,rfl,ru⟩:=rv.one
  obtain ⟨k',rfl⟩:=ru
  have e:Txt.find l t=findS l.cps.toList t.cps.toList:=by unfold findS; rw [← zaQ_,← zaQ_]
  rw [← e] at h
  unfold Txt.find at h
  cases ho:Builtin.Str.occurrences l t 0 l.length 1 with
  | nil=>rw [ho] at h; exact absurd rfl h.1
  | cons i rest =>
   rw [ho] at h
   exact SC.index ho ⟨.int _,H,I.tok _,⟨_,rfl⟩,h.2⟩
 ·exact h.elim
def strsOf:List V→Option (List Str)
 | []=>some []
 | .str z::r=>(strsOf r).map (z::·)
 | _::_=>none
theorem zhM_ {vs:List V}{zs:List Str}:strsOf vs=some zs→vs=zs.map V.str:=by
 induction vs generalizing zs with
 | nil=>intro h; cases h; rfl
 | cons v r ih =>
  intro h
  cases v with
  | str z =>
   unfold strsOf at h
   cases e:strsOf r with
   | none=>rw [e] at h; cases h
   | some y=>rw [e] at h; cases h; rw [ih e]; rfl
  | _=>cases h
def joinS (sep:List Nat) (zs:List Str):List Nat:=(Txt.join ⟨sep.toArray⟩ zs).cps.toList
def mJoin (K:Fgg):V→List V→Hp→VK→Prop:=fun x xs H Q=>match x,xs with
 | .str l,[.ref D]=>∃ vs,(SqL K H D vs)∧(match strsOf vs with | some zs=>JoinOk l zs=true∧Q (tx (joinS l.cps.toList zs)) H | none=>False)
 | _,_=>False
theorem zgI_:∀ {zs:List Str}{us:List Value},Vals (zs.map V.str) us→∃ l:List (Str×Tok),us=strValues l∧l.map (·.1)=zs
 | [],us,r=>by cases r; exact ⟨[],rfl,rfl⟩
 | z::zs,us,r=>by
  cases r with
  | cons r rr =>
   obtain ⟨t,rfl⟩:=r
   obtain ⟨l,rfl,hl⟩:=zgI_ rr
   exact ⟨(z,t)::l,rfl,by rw [List.map_cons,hl]⟩
theorem zj6_ {K:Fgg}{x:V}{xs:List V}{H:Hp}{Q:VK}(h:mJoin K x xs H Q):∃ l D,x=.str l∧xs=[.ref D]∧∃ vs,(SqL K H D vs)∧(match strsOf vs with | some zs=>JoinOk l zs=true∧Q (tx (joinS l.cps.toList zs)) H | none=>False):=by
 cases x with
 | str l =>
  rcases xs with _ | ⟨y,_ | ⟨z,t⟩⟩
  ·exact False.elim h
  ·cases y with
   | ref t=>exact ⟨l,t,rfl,rfl,h⟩
   | _=>exact False.elim h
  ·cases y<;>exact False.elim h
 | _=>exact False.elim h
theorem zji_:MtR X "str.join" (mJoin X.K):=by
 intro pins s σ H x xs v us Q I rx rv h
 obtain ⟨l,D,rfl,rfl,h⟩:=zj6_ h
 ·obtain ⟨k,rfl⟩:=rx
  obtain ⟨u,rfl,ru⟩:=rv.one
  cases ru
  obtain ⟨vs,hs,h⟩:=h
  cases ez:strsOf vs with
  | none=>rw [ez] at h; exact h.elim
  | some zs =>
   rw [ez] at h
   have ev:=zhM_ ez
   subst ev
   obtain ⟨its,r,p,hz⟩:=I.list hs
   obtain ⟨lz,e1,e2⟩:=zgI_ r
   subst e1
   refine SC.join p.isList e2 h.1 fun t' k'=>⟨tx (joinS l.cps.toList zs),H,I.tok _,⟨t',?_⟩,h.2⟩
   unfold joinS
   rw [← zaQ_,← zaQ_]
end
theorem zlx_ (zs:List Str):joinS [] zs=(zs.map fun z=>z.cps.toList).flatten:=by
 unfold joinS Txt.join Builtin.Str.glued
 cases zs with
 | nil=>rfl
 | cons z r =>
  show ((r.foldl (fun acc p=>acc++#[]++p.cps) z.cps)).toList=_
  have:∀ (acc:Array Nat),(r.foldl (fun acc p=>acc++#[]++p.cps) acc).toList=acc.toList++(r.map fun z=>z.cps.toList).flatten:=by
   induction r with
   | nil=>intro acc; simp
   | cons y r ih=>intro acc; rw [List.foldl_cons,ih]; simp
  rw [this]
  simp
end L2
namespace L2
open PySem PySem.Spec PyProof.Rows
def Gd (P:Program) (w:World) (K:Fgg) (mg:Str→Option Value) (base:Heap) (CX:CXT) (k:Nat) (x:Str) (ps:List Str) (sp:Sp):Prop :=
 ∃ f fd,FnOk P w K mg base CX k f fd ps sp∧mg x=some (.ref f)∧PySem.W.keepIn K (.ref f)=true∧Binds K fd ps []
def Gc (mg:Str→Option Value) (x:Str) (v:V):Prop:=∃ u,mg x=some u∧RelV v u
abbrev Gb (mg:Str→Option Value) (x:Str):Prop:=mg x=none
section
variable {X:Cx}{CX:CXT}{k:Nat}{x:Str}{ps:List Str}{sp:Sp}{p pos:Pos}{e:Expr}{es:List Expr}{t:TA}{tg:Expr}
theorem zq_ (G:Gd X.prog X.w X.K X.mg X.base CX0 k x ps sp) (hr:Room k X.A) (ha:PA X (e::es) t) (hg:Gl X x:=by rfl) (hdb:(x == ("__debug__" : Str))=false:=by decide)
  (he:starEach (e::es) X.env=(false,eval e X.env)::starEach es X.env:=by rfl) (hpl:(backTo pos (starEach es X.env)).any (·.1)=false:=by rfl) :
  PE X (.Call (.Name x p) (e::es) [] pos) (tCall sp [] E0 t):=by
 obtain ⟨f,fd,F,hm,hk,hb⟩:=G
 exact znA_ F hr hg hm hk hb .nil pass0 ha hdb he hpl
theorem zn6_ {v:V}(h:Gc X.mg x v) (hg:Gl X x:=by rfl) (hd:(x == ("__debug__" : Str))=false:=by decide):PE X (.Name x pos) (tC v):=by
 obtain ⟨u,hm,r⟩:=h
 exact zmB_ hg hm r hd
theorem pe_ty (T:String) (hm:Gb X.mg x) (hg:Gl X x:=by rfl) (hv:bootBuiltins x=some (.type T):=by rfl) (hn:x ≠ "__name__" := by decide) (hd:(x == ("__debug__" : Str))=false:=by decide):PE X (.Name x pos) (tC (.ty T)) :=
 zm1_ hg hm hv rfl hn hd
theorem zd7_ {id:String}{r:List V→Hp→VK→Prop}(hc:CallR X (.builtin id) r) (hm:Gb X.mg x) (ha:PA X (e::es) t) (hg:Gl X x:=by rfl) (hv:bootBuiltins x=some (.builtin id):=by rfl) (hn:x ≠ "__name__" := by decide) (hdb:(x == ("__debug__" : Str))=false:=by decide)
  (hs:starEach (e::es) X.env=(false,eval e X.env)::starEach es X.env:=by rfl) (hpl:(backTo pos (starEach es X.env)).any (·.1)=false:=by rfl):PE X (.Call (.Name x p) (e::es) [] pos) (tCB r t) :=
 zle_ hc hg hm hv ha hn hdb hs hpl
theorem zmt_ {o:Expr}{to:TE}{name:Str}{id:String}{r:V→List V→Hp→VK→Prop}{apos cpos:Pos}(slot:Slot "str" name id) (hty:typeOf (.builtin id)=pure (.type "method_descriptor")) (hm:MtR X id r) (ho:PE X o to) (ha:PA X (e::es) t)
  (h1:attributeBase o name X.env (eval o X.env)=eval o X.env:=by rfl) (h2:((((backTo cpos (starEach (e::es) X.env)).all fun x=>!x.fst) && (backToKw cpos (keywordEach [] X.env)).all fun x=>x.fst.isSome) && decide (((e::es).length+([]:List Keyword).length+if ([]:List Keyword).isEmpty=true then 0 else 1)<30))=true:=by rfl)
  (h3:(apos.endLine == cpos.line)=true:=by rfl) (h4:starEach (e::es) X.env=(false,eval e X.env)::starEach es X.env:=by rfl) (h5:((backTo cpos (starEach es X.env)).any fun x=>x.fst)=false:=by rfl) :
  PE X (.Call (.Attribute o name apos) (e::es) [] cpos) (tBM X.K "str" r to t):=zhv_ PySem.F.plainAttrs_str slot hty hm ho ha h1 h2 h3 h4 h5
def iAny (K:Fgg) (tl:TE):TI:=fun σ H R=>tl σ H fun x H1=>match x with
 | .str z=>R (Itp z.cps.toList.length (fun i=>tx [z.cps.toList.getD i 0])) H1
 | .ref a=>((∃ xs,SqL K H1 a xs)∧R (Itl K a) H1)∨((∃ xs,SqT K H1 a xs)∧R (Itt K a) H1)
 | _=>False
theorem zpb_ (z:Str):sgn z=fun i=>tx [z.cps.toList.getD i 0]:=by
 funext i
 unfold sgn
 simp [Array.getD_eq_getD_getElem?,List.getD_eq_getElem?_getD]
theorem zbE_ {l:Expr}{tl:TE}(hl:PE X l tl):PI X tg l (iAny X.K tl):=by
 intro pins s σ H R I h
 refine thn (hl pins s σ H _ I h) fun v s1 hq_=>?_
 obtain ⟨x,H1,I1,r1,q1⟩:=hq_
 have pt:∀ (v:V),PE X l (tC v)→PE X l (tC v):=fun _ h=>h
 cases x with
 | str z =>
  obtain ⟨t,rfl⟩:=r1
  refine wpAny_pyIter_strU ?_
  have q:R (Itp z.cps.size (sgn z)) H1:=by
   have e:z.cps.toList.length=z.cps.size:=by simp
   rw [zpb_,← e]
   exact q1
  refine ⟨s1.heap.objs.size,[s1.heap.objs.size],_,_,H1,rfl,I1.kept (t':=s1.toks) fun b o e=>Heap.get?_push_of_some _ e,zmd_ _ z t,⟨Nat.zero_le _,⟨_,Heap.get?_push_size _ rfl,rfl,rfl⟩⟩,fun b hb=>?_,q⟩
  have e:b=s1.heap.objs.size:=by simpa using hb
  subst e
  exact I1.fpOk (Nat.le_refl _) (I1.hok.fresh (Nat.le_refl _))
 | ref a =>
  cases r1
  rcases q1 with ⟨⟨xs,hq⟩,q⟩ | ⟨⟨xs,hq⟩,q⟩
  ·obtain ⟨its,rv,p,hz⟩:=I1.list hq
   refine wpAny_pyIter_list p.isList ?_
   refine ⟨s1.heap.objs.size,[s1.heap.objs.size],_,_,H1,rfl,I1.kept (t':=s1.toks) fun b o e=>Heap.get?_push_of_some _ e,zjx_ a _,⟨_,Heap.get?_push_size _ rfl,rfl,rfl⟩,fun b hb=>?_,q⟩
   have e:b=s1.heap.objs.size:=by simpa using hb
   subst e
   exact I1.fpOk (Nat.le_refl _) (I1.hok.fresh (Nat.le_refl _))
  ·obtain ⟨its,rv,p,hz⟩:=I1.tuple hq
   refine wpAny_pyIter_tuple (show s1.heap.IsTuple a its.toArray from p) ?_
   refine ⟨s1.heap.objs.size,[s1.heap.objs.size],_,_,H1,rfl,I1.kept (t':=s1.toks) fun b o e=>Heap.get?_push_of_some _ e,ziM_ a _,⟨_,Heap.get?_push_size _ rfl,rfl,rfl⟩,fun b hb=>?_,q⟩
   have e:b=s1.heap.objs.size:=by simpa using hb
   subst e
   exact I1.fpOk (Nat.le_refl _) (I1.hok.fresh (Nat.le_refl _))
 | _=>exact q1.elim
def mRng1 (ta:TA):TI:=fun σ H R=>ta σ H fun vs H1=>match vs with | [.int j] => -(2 ^ 62)≤j∧j<2 ^ 62∧R (Itr 0 j.toNat) H1 | _=>False
def mRng2 (ta:TA):TI:=fun σ H R=>ta σ H fun vs H1=>match vs with | [.int i,.int j]=>(-(2 ^ 62)≤i∧i<2 ^ 62 ∧ -(2 ^ 62)≤j∧j<2 ^ 62)∧R (Itr i (j-i).toNat) H1 | _=>False
end
section
variable {X:Cx}{tg:Expr}
theorem zbr_ {a:Expr}{ta:TA}{p pos:Pos}(hm:Gb X.mg "range") (ha:PA X [a] ta) (hg:Gl X "range" := by rfl) (hs:starEach [a] X.env=[(false,eval a X.env)]:=by rfl):PI X tg (.Call (.Name "range" p) [a] [] pos) (mRng1 ta):=by
 intro pins s σ H R I h
 refine Call_ (zfK_ I hg hm boot_range (PyProof.Rows.callWith_type1 (thn (ha pos pins s σ H _ I h) fun us s1 hq_=>?_) hs rfl))
 obtain ⟨vs,H1,I1,r1,q1⟩:=hq_
 try dsimp only at q1
 split at q1
 ·obtain ⟨q2,q3,q⟩:=q1
  cases r1 with
  | cons r rr =>
   cases rr
   obtain ⟨t,rfl⟩:=r
   exact call_range_1 (ziP_ I1 (by lia) (by lia) q2 q3 (by simpa using q))
 ·exact q1.elim
theorem zja_ {a b:Expr}{ta:TA}{p pos:Pos}(hm:Gb X.mg "range") (ha:PA X [a,b] ta) (hg:Gl X "range" := by rfl) (hs:starEach [a,b] X.env=[(false,eval a X.env),(false,eval b X.env)]:=by rfl) (hs2:starEach [b] X.env=[(false,eval b X.env)]:=by rfl) :
  PI X tg (.Call (.Name "range" p) [a,b] [] pos) (mRng2 ta):=by
 intro pins s σ H R I h
 refine Call_ (zfK_ I hg hm boot_range (PyProof.Rows.callWith_type1 (thn (ha pos pins s σ H _ I h) fun us s1 hq_=>?_) (by rw [hs,hs2]) (by rw [hs2]; rfl)))
 obtain ⟨vs,H1,I1,r1,q1⟩:=hq_
 try dsimp only at q1
 split at q1
 ·obtain ⟨⟨q1,q2,q3,q4⟩,q⟩:=q1
  cases r1 with
  | cons r rr =>
   cases rr with
   | cons r' rr =>
    cases rr
    obtain ⟨t,rfl⟩:=r
    obtain ⟨t',rfl⟩:=r'
    exact call_range_2 (ziP_ I1 q1 q2 q3 q4 q)
 ·exact q1.elim
variable {elts:List Expr}{kk:Nat}{tpos:Pos}
def gNilM:TGs:=fun vs σ H Q=>match vs with | []=>Q σ H | _=>False
def gConsM (t:TG) (u:TGs):TGs:=fun vs σ H Q=>match vs with | v::r=>t v σ H fun σ' H'=>u r σ' H' Q | []=>False
theorem zeT_:PGs X [] gNilM:=by
 intro pins s σ H vs us Q I r h
 cases vs with
 | nil=>exact zmW_ pins s σ H [] us Q I r ⟨rfl,h⟩
 | cons _ _=>exact h.elim
theorem zbc_ {e:Expr}{es:List Expr}{t:TG}{u:TGs}(h1:PG X e t) (h2:PGs X es u)
  (hs:(assignEach (e::es) X.env).map (·.2)=assign e X.env::(assignEach es X.env).map (·.2):=by rfl):PGs X (e::es) (gConsM t u):=by
 intro pins s σ H vs us Q I r h
 cases vs with
 | nil=>exact h.elim
 | cons v vr=>exact zll_ h1 h2 hs pins s σ H _ us Q I r ⟨v,vr,rfl,h⟩
def gTupM (K:Fgg) (n:Nat) (t:TGs):TG:=fun v σ H Q=>match v with | .ref a=>∃ xs,SqT K H a xs∧xs.length=n∧t xs σ H Q | _=>False
theorem zgL_ {es:List Expr}{k:Nat}{t:TGs}{n:Nat}{pos:Pos}(hc:X.calm=true) (h:PGs X es t)
  (hn:(assignEach es X.env).length=n:=by rfl) (hst:(assignEach es X.env).findIdx? (·.1)=none:=by rfl):PG X (.Tuple es k pos) (gTupM X.K n t):=by
 intro pins s σ H v u Q I r hw
 cases v with
 | ref a =>
  obtain ⟨xs,h1,h2,h3⟩:=hw
  exact zow_ hc h hn hst pins s σ H _ u Q I r ⟨a,xs,rfl,h1,h2,h3⟩
 | _=>exact hw.elim
def mNeg (ta:TE):TE:=fun σ H Q=>ta σ H fun x H1=>match x with | .int i=>Q (.int (-i)) H1 | _=>False
theorem zf9_ {a:Expr}{ta:TE}{pos:Pos}(ha:PE X a ta):PE X (.UnaryOp .USub a pos) (mNeg ta):=by
 intro pins s σ H Q I h
 refine UnaryOp_ (thn (ha pins s σ H _ I h) fun v s1 hq_=>?_)
 obtain ⟨x,H1,I1,r1,q1⟩:=hq_
 cases x with
 | int i=>exact zoj_ pins s1 σ H1 _ v Q I1 r1 ⟨i,rfl,q1⟩
 | _=>exact q1.elim
end
theorem zcm_ {H:Hp}{p:Addr}(h:H p=none) (o:HO):Same H (upd H p o):=fun b u q=>by rw [zah_ (zbl_ q h)]; exact q
end L2
namespace L2
open PySem PySem.Spec PyProof.Rows
theorem zdm_ {n:Nat}(h:n≤100000):n≤sizeLine:=by rw [sizeLine_eq]; lia
theorem zdZ_ {zs:List Str}{sep:Str}(h:zs.length*(sep.length+1)≤100000) (h1:∀ z∈zs,z.length≤1):JoinOk sep zs=true:=by
 unfold JoinOk
 have key:∀ (l:List Str) (acc:Nat),(∀ z∈l,z.length≤1)→l.foldl (fun x1 x2=>x1+x2.length+sep.length) acc≤acc+l.length*(sep.length+1):=by
  intro l
  induction l with
  | nil=>intro acc _; simp
  | cons z r ih =>
   intro acc hz
   rw [List.foldl_cons]
   have h2:=ih (acc+z.length+sep.length) fun y hy=>hz y (List.mem_cons_of_mem _ hy)
   have h3:=hz z List.mem_cons_self
   rw [List.length_cons,Nat.add_mul]
   omega
 have q:=key zs 0 h1
 rw [List.foldl_toArray]
 unfold Builtin.Str.tooLong
 simp only [Bool.not_eq_true',decide_eq_false_iff_not]
 have:zs.foldl (fun x1 x2=>x1+x2.length+sep.length) 0≤100000:=by omega
 have hl:(100000:Nat)≤sizeLine:=by rw [sizeLine_eq]; omega
 omega
end L2
namespace L2
open PySem PySem.Spec PyProof.Rows
section
variable {X:Cx}{tg:Expr}
theorem zhm_ {P:Program}{w:World}{K:Fgg}{tg:Expr}(it:Addr) (lo c:Int) (n:Nat) :
  Turn P w K tg (Itp n fun i=>.int (lo+i*c)) [it] it (fun i h=>i≤n∧IsRangeIter h it (lo+(i:Nat)*c) ((n:Int)-(i:Nat)) c):=by
 refine zgO_ (Pw:=fun i v=>∃ t,v=.int (lo+i*c) t) (fun A hA=>Walks.range hA it lo c n) (fun i v _ h=>h) (fun i h st=>⟨_,_,_,st,rfl,rfl,by decide⟩) (fun A i s Q E st h=>wpAny_pyIter_rangeiter st h) (fun i h h' st k=>k it (by simp) _ st)
theorem zc0_ (a b:Int):Builtin.Range.rangeSize a b (-1)=(((a-b).toNat:Nat):Int):=by
 unfold Builtin.Range.rangeSize
 rw [if_neg (by decide)]
 split
 ·have e:(a-b-1) / (- -1)=a-b-1:=by
   have:(- -1:Int)=1:=by decide
   rw [this,Int.ediv_one]
  rw [e]; lia
 ·lia
theorem zio_ {a b:Int}(ha : -(2 ^ 61)≤a) (ha':a<2 ^ 61) (hb : -(2 ^ 61)≤b) (hb':b<2 ^ 61):Builtin.Range.small a b (-1)=true:=by
 unfold Builtin.Range.small
 rw [zc0_]
 simp only [Builtin.Range.rangeFitsLong,Bool.and_eq_true,Bool.or_eq_true,decide_eq_true_eq,beq_iff_eq,show ¬ ((-1:Int) > 0) by decide,if_false]
 omega
def mRng3 (ta:TA):TI:=fun σ H R=>ta σ H fun vs H1=>match vs with
 | [.int i,.int j,.int c]=>c = -1∧(-(2 ^ 61)≤i∧i<2 ^ 61 ∧ -(2 ^ 61)≤j∧j<2 ^ 61)∧R (Itp (i-j).toNat fun k=>.int (i+k*(-1))) H1
 | _=>False
theorem zi4_ {a b c:Expr}{ta:TA}{p pos:Pos}(hm:Gb X.mg "range") (ha:PA X [a,b,c] ta) (hg:Gl X "range" := by rfl)
  (hs:starEach [a,b,c] X.env=(false,eval a X.env)::starEach [b,c] X.env:=by rfl) (hpl:(backTo pos (starEach [b,c] X.env)).any (·.1)=false:=by rfl) :
  PI X tg (.Call (.Name "range" p) [a,b,c] [] pos) (mRng3 ta):=by
 intro pins s σ H R I h
 refine Call_ (zfK_ I hg hm boot_range (PyProof.Rows.callWith_type1 (thn (ha pos pins s σ H _ I h) fun us s1 hq_=>?_) hs hpl))
 obtain ⟨vs,H1,I1,r1,q1⟩:=hq_
 try dsimp only at q1
 split at q1
 ·rename_i i j c
  obtain ⟨rfl,⟨q1,q2,q3,q4⟩,q⟩:=q1
  cases r1 with
  | cons r rr =>
   cases rr with
   | cons r' rr =>
    cases rr with
    | cons r'' rr =>
     cases rr
     obtain ⟨t,rfl⟩:=r
     obtain ⟨t',rfl⟩:=r'
     obtain ⟨t'',rfl⟩:=r''
     refine call_range_3 (by decide) ?_ (.inl (PyProof.noPylong_small (by decide)))
     refine wpAny_pyIter_range (IsRange.new ..) (zio_ q1 q2 q3 q4) ?_
     have I2:Inv X pins σ H1 { s1 with heap:=s1.heap.push { cls:=.type "range",data:=.fields #[.int i t,.int j t',.int (-1) t''] },toks:=s1.toks }:=I1.kept fun b o e=>Heap.get?_push_of_some _ e
     refine ⟨(s1.heap.push { cls:=.type "range",data:=.fields #[.int i t,.int j t',.int (-1) t''] }).objs.size,[(s1.heap.push { cls:=.type "range",data:=.fields #[.int i t,.int j t',.int (-1) t''] }).objs.size],_,_,H1,rfl,
      I2.kept (t':=s1.toks) fun b o e=>Heap.get?_push_of_some _ e,zhm_ _ i (-1) (i-j).toNat,⟨Nat.zero_le _,?_⟩,fun b hb=>?_,q⟩
     ·have e1:i+((0:Nat):Int)*(-1)=i:=by simp
      have e2:(((i-j).toNat:Nat):Int)-((0:Nat):Int)=Builtin.Range.rangeSize i j (-1):=by rw [zc0_]; simp
      rw [e1,e2]
      exact Heap.get?_push_size _ rfl
     ·have e:b=(s1.heap.push { cls:=.type "range",data:=.fields #[.int i t,.int j t',.int (-1) t''] }).objs.size:=by simpa using hb
      subst e
      exact I2.fpOk (Nat.le_refl _) (I2.hok.fresh (Nat.le_refl _))
 ·exact q1.elim
def mSet:TSet:=fun o i v H Q=>match i with
 | .int k=>(match o with
  | .ref p=>∃ xs,H p=some (.lst xs)∧(match ixN xs.length k with | some j=>Q (upd H p (.lst (xs.set j v))) | none=>False)
  | _=>False)
 | _=>False
theorem zoh_:PSet X mSet:=by
 intro pins s σ H o i v ov iv u Q I ro ri rv h
 unfold mSet at h
 cases i with
 | int k =>
  cases o with
  | ref p =>
   obtain ⟨xs,h1,h⟩:=h
   cases e:ixN xs.length k with
   | none=>rw [e] at h; exact h.elim
   | some j =>
    rw [e] at h
    exact zlk_ pins s σ H _ _ v ov iv u Q I ro ri rv ⟨p,xs,k,j,rfl,rfl,h1,e,h⟩
  | _=>exact h.elim
 | _=>exact h.elim
theorem zfW_ {n:Nat}{k:Int}(h0:0≤k) (h1:k<n):ixN n k=some k.toNat:=by unfold ixN; rw [if_pos h0,if_pos h1]
def strI (i:Int):List Nat:=(Str.ofString (toString i)).cps.toList
def mStr:List V→Hp→VK→Prop:=fun xs H Q=>match xs with | [.int i]=>i.natAbs.log2<1920∧Q (tx (strI i)) H | _=>False
theorem zkk_:CallR X (.type "str") mStr:=by
 intro pins s σ H xs us Q I r h
 unfold mStr at h
 split at h
 ·rename_i i
  refine zfJ_ pins s σ H _ us Q I r ⟨i,rfl,h.1,?_⟩
  have e:tx (strI i)=V.str (Str.ofString (toString i)):=by unfold strI tx; rw [← zaQ_]
  rw [← e]
  exact h.2
 ·exact h.elim
def mZfill:V→List V→Hp→VK→Prop:=fun x xs H Q=>match x,xs with | .str l,[.int i]=>PadOk i=true∧Q (tx (Txt.zfill l i).cps.toList) H | _,_=>False
theorem zmi_:MtR X "str.zfill" mZfill:=by
 intro pins s σ H x xs v us Q I rx rv h
 have hi:∃ l i,x=.str l∧xs=[.int i]∧PadOk i=true∧Q (tx (Txt.zfill l i).cps.toList) H:=by
  cases x with
  | str l =>
   rcases xs with _ | ⟨y,_ | ⟨z,t⟩⟩
   ·exact False.elim h
   ·cases y with
    | int t=>exact ⟨l,t,rfl,rfl,h⟩
    | _=>exact False.elim h
   ·cases y<;>exact False.elim h
  | _=>exact False.elim h
 obtain ⟨l,i,rfl,rfl,h⟩:=hi
 obtain ⟨k,rfl⟩:=rx
 obtain ⟨u,rfl,ru⟩:=rv.one
 obtain ⟨k',rfl⟩:=ru
 exact SC.zfill h.1 fun t' k=>⟨tx (Txt.zfill l i).cps.toList,H,I.tok _,⟨t',by rw [← zaQ_]⟩,h.2⟩
end
section
variable {X:Cx}{x:Str}{p pos:Pos}{e:Expr}{es:List Expr}{t:TA}
theorem zkQ_ (T:String) {r:List V→Hp→VK→Prop}(hc:CallR X (.type T) r) (hm:Gb X.mg x) (ha:PA X (e::es) t) (hg:Gl X x:=by rfl) (hv:bootBuiltins x=some (.type T):=by rfl) (hn:x ≠ "__name__" := by decide) (hdb:(x == ("__debug__" : Str))=false:=by decide)
  (hs:starEach (e::es) X.env=(false,eval e X.env)::starEach es X.env:=by rfl) (hpl:(backTo pos (starEach es X.env)).any (·.1)=false:=by rfl):PE X (.Call (.Name x p) (e::es) [] pos) (tCB r t) :=
 zj0_ hc hg hm hv ha hn hdb hs hpl
end
def digs:Nat→Nat→List Nat
 | 0,_=>[]
 | w+1,n=>digs w (n / 10)++[48+n % 10]
theorem zaD_:∀ (w n:Nat),(digs w n).length=w
 | 0,_=>rfl
 | w+1,n=>by rw [digs,List.length_append,zaD_ w]; rfl
theorem zg8_:∀ (w:Nat),digs w 0=List.replicate w 48
 | 0=>rfl
 | w+1=>by rw [digs,zg8_ w,List.replicate_succ']
end L2
namespace L2
open PySem PySem.Spec PyProof.Rows
def dg (m:Nat):List Nat:=(Nat.toDigits 10 m).map Char.toNat
theorem ziZ_ (m:Nat):strI (m:Int)=dg m:=PySem.W.KIN.signs_num m
theorem ze5_:∀ d:Nat,d<10→(Nat.digitChar d).toNat=48+d:=by decide
theorem zos_ {m:Nat}(h:m<10):dg m=[48+m]:=by
 unfold dg
 rw [Nat.toDigits_of_lt_base h]
 show [(Nat.digitChar m).toNat]=_
 rw [ze5_ m h]
theorem dg_ge {m:Nat}(h:¬ m<10):dg m=dg (m / 10)++[48+m % 10]:=by
 unfold dg
 have hm:m % 10<10:=Nat.mod_lt m (by decide)
 have t:Nat.toDigits 10 (m / 10)++Nat.toDigits 10 (m % 10)=Nat.toDigits 10 (10*(m / 10)+m % 10):=Nat.toDigits_append_toDigits (by decide) (by lia) hm
 rw [Nat.div_add_mod] at t
 rw [← t,List.map_append,Nat.toDigits_of_lt_base hm]
 show _++[(Nat.digitChar (m % 10)).toNat]=_
 rw [ze5_ _ hm]
theorem znc_:∀ (w m:Nat),m<10 ^ (w+1)→(dg m).length≤w+1∧List.replicate (w+1-(dg m).length) 48++dg m=digs (w+1) m
 | w,m,h=>by
  by_cases hm:m<10
  ·rw [zos_ hm]
   refine ⟨by show 1≤w+1; lia,?_⟩
   rw [digs,show m / 10=0 by lia,zg8_,show m % 10=m by lia]
   rfl
  ·cases w with
   | zero=>exact absurd h (by simpa using hm)
   | succ w =>
    have hd:m / 10<10 ^ (w+1):=by
     rw [Nat.div_lt_iff_lt_mul (by decide)]
     rw [Nat.pow_succ] at h
     exact h
    obtain ⟨h1,h2⟩:=znc_ w (m / 10) hd
    rw [dg_ge hm]
    refine ⟨by rw [List.length_append]; show _+1≤_; lia,?_⟩
    have e:digs (w+1+1) m=digs (w+1) (m / 10)++[48+m % 10]:=rfl
    rw [e,← h2,List.append_assoc,List.length_append]
    have e2:w+1+1-((dg (m / 10)).length+[48+m % 10].length)=w+1-(dg (m / 10)).length:=by
     show w+1+1-((dg (m / 10)).length+1)=_
     lia
    rw [e2]
theorem zmF_ (m:Nat):∃ c r,dg m=c::r∧48≤c:=by
 induction m using Nat.strongRecOn with
 | _ m ih =>
  by_cases h:m<10
  ·exact ⟨48+m,[],zos_ h,by lia⟩
  ·obtain ⟨c,r,e,hc⟩:=ih (m / 10) (by lia)
   exact ⟨c,r++[48+m % 10],by rw [dg_ge h,e]; rfl,hc⟩
theorem zi6_ {w m:Nat}(hw:1≤w) (h:m<10 ^ w):(Txt.zfill ⟨(dg m).toArray⟩ (w:Int)).cps.toList=digs w m:=by
 obtain ⟨w',rfl⟩:∃ w',w=w'+1:=⟨w-1,by lia⟩
 obtain ⟨h1,h2⟩:=znc_ w' m h
 have hl:(⟨(dg m).toArray⟩:Str).length=(dg m).length:=by simp [Str.length]
 unfold Txt.zfill
 rw [hl]
 by_cases he:((w'+1:Nat):Int)≤((dg m).length:Int)
 ·rw [if_pos he]
  have e:(dg m).length=w'+1:=by lia
  rw [← h2,e,Nat.sub_self]
  simp
 ·rw [if_neg he]
  obtain ⟨c,r,ec,hc⟩:=zmF_ m
  have e:zfilled ⟨(dg m).toArray⟩ ((((w'+1:Nat):Int)).toNat-(dg m).length)=Builtin.Str.padded ⟨(dg m).toArray⟩ ((((w'+1:Nat):Int)).toNat-(dg m).length) 0 48:=by
   unfold zfilled
   have e0:((⟨(dg m).toArray⟩:Str).cps)[0]?=some c:=by rw [ec]; simp
   rw [e0]
   split
   ·rename_i h'; cases h'; lia
   ·rename_i h'; cases h'; lia
   ·rfl
  rw [e]
  unfold Builtin.Str.padded
  rw [← h2]
  simp
theorem zd2_:∀ (j n:Nat),digs (j+1) n=(48+n / 10 ^ j % 10)::digs j n
 | 0,n=>by simp [digs]
 | j+1,n=>by
  have e:digs (j+1+1) n=digs (j+1) (n / 10)++[48+n % 10]:=rfl
  rw [e,zd2_ j (n / 10),Nat.div_div_eq_div_mul]
  have e2:10*10 ^ j=10 ^ (j+1):=by rw [Nat.pow_succ,Nat.mul_comm]
  rw [e2]
  rfl
theorem zjZ_ (l:List Nat):joinS [] (l.map fun c=>(⟨#[c]⟩:Str))=l:=by
 rw [L2.zlx_,List.map_map]
 induction l with
 | nil=>rfl
 | cons c r ih=>rw [List.map_cons,List.flatten_cons,ih]; rfl
end L2
namespace L2
open PySem PySem.Spec PyProof.Rows
def fig (c:Nat):Nat:=if 48≤c∧c≤57 then c else 48
def numL (l:List Nat):Int:=l.foldl (fun (v:Int) (c:Nat)=>v*10+((c:Int)-48)) 0
theorem zfc_ {c:Nat}(h:48≤c∧c≤57):findS [48,49,50,51,52,53,54,55,56,57] [c]=(c:Int)-48:=by
 rw [zhJ_]
 obtain ⟨h1,h2⟩:=h
 have:c=48∨c=49∨c=50∨c=51∨c=52∨c=53∨c=54∨c=55∨c=56∨c=57:=by lia
 rcases this with rfl | rfl | rfl | rfl | rfl | rfl | rfl | rfl | rfl | rfl<;>rfl
theorem zf0_ {c:Nat}(h:¬ (48≤c∧c≤57)):findS [48,49,50,51,52,53,54,55,56,57] [c] = -1:=by
 rw [zhJ_]
 have:List.findIdx? (· == c) [48,49,50,51,52,53,54,55,56,57]=none:=by
  rw [List.findIdx?_eq_none_iff]
  intro x hx
  simp only [List.mem_cons,List.not_mem_nil,or_false] at hx
  simp only [beq_eq_false_iff_ne,ne_eq]
  omega
 rw [this]
theorem zjO_ (c:Nat):inS [c] [48,49,50,51,52,53,54,55,56,57]=decide (48≤c∧c≤57):=by
 show decide (c∈[48,49,50,51,52,53,54,55,56,57])=_
 have h1:∀ x∈[48,49,50,51,52,53,54,55,56,57],48≤x∧x≤57:=by decide
 have h2:∀ k,k<10→48+k∈[48,49,50,51,52,53,54,55,56,57]:=by decide
 rw [decide_eq_decide]
 refine ⟨h1 c,fun h=>?_⟩
 have e:48+(c-48)=c:=Nat.add_sub_cancel' h.1
 rw [← e]
 exact h2 _ (Nat.lt_succ_of_le (Nat.sub_le_of_le_add h.2))
theorem zeS_ (c:Nat):48≤fig c∧fig c≤57:=by unfold fig; split<;>omega
end L2
namespace L2
open PySem PySem.Spec PyProof.Rows
structure FlyX (x T C:Addr) (H:Hp) (hb h:Heap):Prop where
 obj:∃ oe vs a0 oT ts,h.get? x=some oe∧(oe.cls=.ref C∧vs[0]?=some a0)∧oe.data=.fields vs∧vs[1]?=some (.ref T)∧T≠x∧h.get? T=some oT∧oT.data=.fields ts∧ts[3]?=some .none
 hx:H x=none
 hT:H T=none
 nx:hb.get? x=none
 nT:hb.get? T=none
def CXx (P:Program) (w:World):CXT:=fun outer H s E e s'=>∃ x T C H',e=.ref x∧s'.os=s.os∧AllBare s'.gens∧Un (frs outer) [] H H' s.heap s'.heap∧HOk P w H' s'.heap ∧
 FlyX x T C H' s.heap s'.heap∧E (.ref C) none H'
section
variable {X:Cx}{pins:Pnn}{σ:St}{H:Hp}{s:Shared}
end
section
variable {P:Program}{w:World}{K:Fgg}{mg:Str→Option Value}{base:Heap}{N:List Str}{qual:Str}{scope:Scope}{f:Addr}{cd:Value}{A:Around}{outer:List Env}{s0:Shared}{H0:Hp}{E:XK}
end
end L2
namespace L2
open PySem PySem.Spec PyProof.Rows
def gA (K:Fgg) (x:Str):Addr:=match PySem.W.nsIn K mainGlobals x with | some (some (.ref c))=>c | _=>0
theorem znm_ {K:Fgg}{x:Str}{c:Addr}(h:PySem.W.nsIn K mainGlobals x=some (some (.ref c))):gA K x=c:=by unfold gA; rw [h]
section
variable {X:Cx}{E:XK}{C:Addr}{x:Str}{e:Expr}{es:List Expr}{t:TA}{np cpos pos:Pos}
end
section
variable {X:Cx}{a:Expr}{ta:TE}{pos:Pos}
def mFmt:V→Hp→VK→Prop:=fun x H Q=>match x with | .str z=>z.length≤sizeLine∧Q (.str z) H | .int i=>i.natAbs.log2<1920∧Q (tx (strI i)) H | _=>False
theorem znt_ (ha:PE X a ta):PE X (.FormattedValue a (-1) none pos) (tUn mFmt ta):=by
 intro pins s σ H Q I h
 refine wpAny_FormattedValue_plain (thn (ha pins s σ H _ I h) fun v s1 hq_=>?_)
 obtain ⟨x,H1,I1,r1,q1⟩:=hq_
 cases x with
 | str z =>
  obtain ⟨k,rfl⟩:=r1
  exact wpAny_formatField_str ⟨.str z,H1,I1,⟨_,rfl⟩,q1.2⟩ ⟨.str z,H1,I1.tok _,⟨_,rfl⟩,q1.2⟩ q1.1
 | int i =>
  obtain ⟨k,rfl⟩:=r1
  refine wpAny_formatField_int q1.1 ⟨tx (strI i),H1,I1.tok _,⟨s1.toks+1,?_⟩,q1.2⟩
  unfold strI
  rw [← zaQ_]
 | _=>exact q1.elim
abbrev TJ:=Str→St→Hp→(Str→Hp→Prop)→Prop
def PJ (X:Cx) (vs:List Expr) (t:TJ):Prop:=∀ (acc:Str) (pins:Pnn) (s:Shared) (σ:St) (H:Hp) (Q:Str→Shared→Prop) (R:Str→Hp→Prop),Inv X pins σ H s→t acc σ H R→(∀ out s1 H1,Inv X pins σ H1 s1→R out H1→Q out s1) →
 Joins (model X.prog X.w) X.A X.xe (evalEach vs X.env) acc Q s
def tJ0:TJ:=fun acc _ H R=>R acc H
def tJ1 (ta:TE) (tr:TJ):TJ:=fun acc σ H R=>ta σ H fun x H1=>match x with | .str z=>(acc++z).length≤sizeLine∧tr (acc++z) σ H1 R | _=>False
theorem zoy_:PJ X [] tJ0:=fun acc pins s σ H Q R I h hq=>hq acc s H I h
theorem zhS_ {vs:List Expr}{tr:TJ}(ha:PE X a ta) (hr:PJ X vs tr) (he:evalEach (a::vs) X.env=eval a X.env::evalEach vs X.env:=by rfl):PJ X (a::vs) (tJ1 ta tr):=by
 intro acc pins s σ H Q R I h hq
 rw [he]
 refine wpAny_mono (ha pins s σ H _ I h) (fun v s1 q=>?_) fun _ _ y=>y
 obtain ⟨x,H1,I1,r1,q1⟩:=q
 cases x with
 | str z =>
  obtain ⟨k,rfl⟩:=r1
  exact ⟨z,k,rfl,q1.1,hr (acc++z) pins s1 σ H1 Q R I1 q1.2 hq⟩
 | _=>exact q1.elim
def tJoin (tj:TJ):TE:=fun σ H Q=>tj Str.empty σ H fun out H1=>out.length≤sizeLine∧Q (.str out) H1
theorem zjA_ {b:Expr}{vs:List Expr}{tj:TJ}(h:PJ X (a::b::vs) tj):PE X (.JoinedStr (a::b::vs) pos) (tJoin tj):=by
 intro pins s σ H Q I q
 refine wpAny_JoinedStr (h Str.empty pins s σ H _ _ I q fun out s1 H1 I1 q1=>⟨q1.1,.str out,H1,I1.tok _,⟨_,rfl⟩,q1.2⟩)
end
end L2
namespace LX
open PySem PySem.W PySem.Calls PyProof.Rows Builtin Builtin.ObjectAttr Builtin.Getset_descriptor
section
variable {prog:Program}{w:World}{A:Around}{K:Frag}{x D:Addr}
end
end LX
namespace L2
open PySem PySem.Spec PyProof.Rows
end L2
namespace L2
open PySem PySem.Spec PyProof.Rows
section
variable {X:Cx}{k:Nat}{x:Str}{ps:List Str}{sp:Sp}{E:XK}{p pos:Pos}{e:Expr}{es:List Expr}{t:TA}
end
def XP (X:Cx) (pins:Pnn) (W:St→XK) (e:Value) (s':Shared):Prop:=∃ σ' Hb sb,Inv X pins σ' Hb sb∧CXx X.prog X.w X.stack Hb sb (W σ') e s'
abbrev TX:=Ends→(St→XK)→St→Hp→Prop
section
variable {X:Cx}{st:Stmt}{rest:List Stmt}{t u:TX}{k:Nat}{x:Str}{ps:List Str}{sp:Sp}{p pos pos':Pos}{e:Expr}{es:List Expr}{ta:TA}
end
section
variable {X:Cx}{pins:Pnn}{σ:St}{Hb H':Hp}{sb s1:Shared}{x T C:Addr}
end
end L2
namespace L2
open PySem PySem.Spec PyProof.Rows
section
variable {X:Cx}{body:List Stmt}{tb:TX}{ts:TS}{S:Addr}{sx n:Str}{i:Nat}{b₀:Stmt}{suite:List Stmt}{np hpos pos:Pos}
end
end L2
namespace L2
open PySem PySem.Spec PyProof.Rows
section
variable {P:Program}{w:World}{K:Fgg}{mg:Str→Option Value}{base:Heap}
end
section
variable {X:Cx}{k:Nat}{x:Str}{ps:List Str}{sp:Sp}{p pos:Pos}{e:Expr}{es:List Expr}{t:TA}
end
end L2
namespace L2
open PySem PySem.Spec PyProof.Rows
section
variable {X:Cx}{k:Nat}{x:Str}{ps:List Str}{sp:Sp}{p pos pos':Pos}{e:Expr}{es:List Expr}{ta:TA}{i:Nat}{y:Str}{py:Pos}
end
def SG:List Nat:=[32,48,49,50,51,52,53,54,55,56,57,65,66,67,68,69,70,71,72,73,74,75,76,77,78,79,80,81,82,83,84,85,86,87,88,89,90]
def rk (l:List Nat):Option Nat:=match l with | [c]=>SG.findIdx? (· == c) | _=>none
end L2
namespace L2
open PySem PySem.Spec PyProof.Rows
section
variable {X:Cx}
end
section
variable {X:Cx}
end
inductive EqD (K:Fgg) (H:Hp):Nat→V→V→Bool→Prop
 | flat {x y:V}(hx:flatV x=true) (hy:flatV y=true):EqD K H 0 x y (eqV x y)
 | lst {n:Nat}{p q:Addr}{xs ys:List V}(e:Nat→Bool) (hp:SqL K H p xs) (hq:SqL K H q ys) (hl:xs.length=ys.length) (h:∀ (i:Nat) x y,xs[i]?=some x→ys[i]?=some y→EqD K H n x y (e i)):EqD K H (n+1) (.ref p) (.ref q) ((List.range xs.length).all e)
 | lstN {n:Nat}{p q:Addr}{xs ys:List V}(hp:SqL K H p xs) (hq:SqL K H q ys) (hl:xs.length≠ys.length):EqD K H n (.ref p) (.ref q) false
 | tup {n:Nat}{p q:Addr}{xs ys:List V}(e:Nat→Bool) (hp:SqT K H p xs) (hq:SqT K H q ys) (h:∀ (i:Nat) x y,xs[i]?=some x→ys[i]?=some y→EqD K H n x y (e i)):EqD K H (n+1) (.ref p) (.ref q) ((List.range (min xs.length ys.length)).all e && xs.length == ys.length)
 | lt {n:Nat}{p q:Addr}{xs ys:List V}(hp:SqL K H p xs) (hq:SqT K H q ys):EqD K H n (.ref p) (.ref q) false
 | tl {n:Nat}{p q:Addr}{xs ys:List V}(hp:SqT K H p xs) (hq:SqL K H q ys):EqD K H n (.ref p) (.ref q) false
 | lf {n:Nat}{p:Addr}{xs:List V}{y:V}(hp:SqL K H p xs) (hy:flatV y=true):EqD K H n (.ref p) y false
 | fl {n:Nat}{p:Addr}{xs:List V}{y:V}(hp:SqL K H p xs) (hy:flatV y=true):EqD K H n y (.ref p) false
 | tf {n:Nat}{p:Addr}{xs:List V}{y:V}(hp:SqT K H p xs) (hy:flatV y=true):EqD K H n (.ref p) y false
 | ft {n:Nat}{p:Addr}{xs:List V}{y:V}(hp:SqT K H p xs) (hy:flatV y=true):EqD K H n y (.ref p) false
 | up {n:Nat}{x y:V}{b:Bool}(h:EqD K H n x y b):EqD K H (n+1) x y b
section
variable {X:Cx}{pins:Pnn}{σ:St}{H:Hp}{s:Shared}
theorem zdf_ {xs:List V}{us:List Value}(r:Vals xs us) {i:Nat}(h:i<us.toArray.size):∃ x,xs[i]?=some x∧RelV x us.toArray[i]:=by
 have hi:i<us.length:=by simpa using h
 have hl:=r.length
 obtain ⟨u,hu,ru⟩:=r.get (List.getElem?_eq_getElem (show i<xs.length by lia))
 refine ⟨_,List.getElem?_eq_getElem (by lia),?_⟩
 rw [List.getElem?_eq_getElem hi] at hu
 cases hu
 simpa using ru
theorem zhR_ (I:Inv X pins σ H s) {n:Nat}{x y:V}{b:Bool}(h:EqD X.K H n x y b):x=y→b=true:=by
 induction h with
 | flat hx hy =>
  rename_i x y
  rintro rfl
  cases x<;>first | (cases hx; done) | (simp [eqV]; done) | rfl
 | lst e hp hq hl h ih =>
  rename_i n p q xs ys
  intro e0
  cases e0
  have exy:=I.list_inj hp hq
  subst exy
  rw [List.all_eq_true]
  intro i hi
  have hi:=List.mem_range.mp hi
  exact ih i _ _ (List.getElem?_eq_getElem hi) (List.getElem?_eq_getElem hi) rfl
 | lstN hp hq hl =>
  intro e0
  cases e0
  exact absurd (by rw [I.list_inj hp hq]) hl
 | tup e hp hq h ih =>
  rename_i n p q xs ys
  intro e0
  cases e0
  have exy:=I.tuple_inj hp hq
  subst exy
  rw [Bool.and_eq_true,List.all_eq_true]
  refine ⟨?_,by simp⟩
  intro i hi
  have hi:=List.mem_range.mp hi
  have hi:i<xs.length:=by lia
  exact ih i _ _ (List.getElem?_eq_getElem hi) (List.getElem?_eq_getElem hi) rfl
 | lt hp hq =>
  intro e0
  cases e0
  obtain ⟨its,r1,p1,z1⟩:=I.list hp
  obtain ⟨its2,r2,p2,z2⟩:=I.tuple hq
  exact absurd rfl (SeqAt.ne_of_list_tuple p1.isList p2)
 | tl hp hq =>
  intro e0
  cases e0
  obtain ⟨its,r1,p1,z1⟩:=I.tuple hp
  obtain ⟨its2,r2,p2,z2⟩:=I.list hq
  exact absurd rfl (SeqAt.ne_of_list_tuple p2.isList p1)
 | lf hp hy=>rintro rfl; cases hy
 | fl hp hy=>rintro rfl; cases hy
 | tf hp hy=>rintro rfl; cases hy
 | ft hp hy=>rintro rfl; cases hy
 | up h ih=>exact ih
theorem zlG_ (I:Inv X pins σ H s) {n:Nat}{x y:V}{b:Bool}(h:EqD X.K H n x y b):∀ (A:Around) (v u:Value),A.units+n<cLine→RelV x v→RelV y u →
  SeqAt.EqAt A s v u b∧(∀ p q,x=.ref p→y=.ref q→SeqAt.RcAt A s v u b):=by
 induction h with
 | flat hx hy =>
  intro A v u _ rx ry
  refine ⟨znx_ rx ry hx hy,fun p q e _=>?_⟩
  subst e; cases hx
 | lst e hp hq hl h ih =>
  rename_i n p q xs ys
  intro A v u hu rx ry
  cases rx; cases ry
  obtain ⟨its,r1,p1,z1⟩:=I.list hp
  obtain ⟨its2,r2,p2,z2⟩:=I.list hq
  have l1:=r1.length
  have l2:=r2.length
  have rc:SeqAt.RcAt A s (.ref p) (.ref q) ((List.range xs.length).all e):=by
   have:=SeqAt.RcAt.lists (A:=A) (e:=e) p1.isList p2.isList (by simp only [List.size_toArray]; lia) (by lia) (fun j h1 h2=>by
    obtain ⟨x,ex,rx⟩:=zdf_ r1 h1
    obtain ⟨y,ey,ry⟩:=zdf_ r2 h2
    exact (ih j x y ex ey A.in1 _ _ (by show A.units+1+n<_; lia) rx ry).1)
   rw [List.size_toArray,← l1] at this
   exact this
  refine ⟨?_,fun _ _ _ _=>rc⟩
  by_cases hpq:p=q
  ·subst hpq
   have exy:=I.list_inj hp hq
   subst exy
   have:(List.range xs.length).all e=true:=by
    rw [List.all_eq_true]
    intro i hi
    have hi:=List.mem_range.mp hi
    exact zhR_ I (h i _ _ (List.getElem?_eq_getElem hi) (List.getElem?_eq_getElem hi)) rfl
   rw [this]
   exact SeqAt.EqAt.same _
  ·exact .of_refs hpq rc
 | lstN hp hq hl =>
  rename_i n p q xs ys
  intro A v u hu rx ry
  cases rx; cases ry
  obtain ⟨its,r1,p1,z1⟩:=I.list hp
  obtain ⟨its2,r2,p2,z2⟩:=I.list hq
  have l1:=r1.length
  have l2:=r2.length
  have rc:SeqAt.RcAt A s (.ref p) (.ref q) false:=SeqAt.RcAt.lists_lengths p1.isList p2.isList (by simp only [List.size_toArray,bne_iff_ne,ne_eq]; lia) (by lia)
  refine ⟨.of_refs (fun e=>?_) rc,fun _ _ _ _=>rc⟩
  subst e
  exact hl (by rw [I.list_inj hp hq])
 | tup e hp hq h ih =>
  rename_i n p q xs ys
  intro A v u hu rx ry
  cases rx; cases ry
  obtain ⟨its,r1,p1,z1⟩:=I.tuple hp
  obtain ⟨its2,r2,p2,z2⟩:=I.tuple hq
  have l1:=r1.length
  have l2:=r2.length
  have rc:SeqAt.RcAt A s (.ref p) (.ref q) ((List.range (min xs.length ys.length)).all e && xs.length == ys.length):=by
   have:=SeqAt.RcAt.tuples (A:=A) (e:=e) (show s.heap.IsTuple p its.toArray from p1) (show s.heap.IsTuple q its2.toArray from p2) (by lia) (fun j h1 h2=>by
    obtain ⟨x,ex,rx⟩:=zdf_ r1 h1
    obtain ⟨y,ey,ry⟩:=zdf_ r2 h2
    exact (ih j x y ex ey A.in1 _ _ (by show A.units+1+n<_; lia) rx ry).1)
   rw [List.size_toArray,List.size_toArray,← l1,← l2] at this
   exact this
  refine ⟨?_,fun _ _ _ _=>rc⟩
  by_cases hpq:p=q
  ·subst hpq
   have exy:=I.tuple_inj hp hq
   subst exy
   have:((List.range (min xs.length xs.length)).all e && xs.length == xs.length)=true:=by
    rw [Bool.and_eq_true,List.all_eq_true]
    refine ⟨?_,by simp⟩
    intro i hi
    have hi:=List.mem_range.mp hi
    have hi:i<xs.length:=by lia
    exact zhR_ I (h i _ _ (List.getElem?_eq_getElem hi) (List.getElem?_eq_getElem hi)) rfl
   rw [this]
   exact SeqAt.EqAt.same _
  ·exact .of_refs hpq rc
 | lt hp hq =>
  intro A v u hu rx ry
  cases rx; cases ry
  obtain ⟨its,r1,p1,z1⟩:=I.list hp
  obtain ⟨its2,r2,p2,z2⟩:=I.tuple hq
  exact ⟨.list_tuple p1.isList p2 (by lia),fun _ _ _ _=>.list_tuple p1.isList p2 (by lia)⟩
 | tl hp hq =>
  intro A v u hu rx ry
  cases rx; cases ry
  obtain ⟨its,r1,p1,z1⟩:=I.tuple hp
  obtain ⟨its2,r2,p2,z2⟩:=I.list hq
  exact ⟨.tuple_list p1 p2.isList (by lia),fun _ _ _ _=>.tuple_list p1 p2.isList (by lia)⟩
 | lf hp hy =>
  rename_i n p xs y
  intro A v u hu rx ry
  cases rx
  obtain ⟨its,r1,p1,z1⟩:=I.list hp
  refine ⟨?_,fun _ _ _ e=>by subst e; cases hy⟩
  cases y with
  | non=>cases ry; exact .list_none p1.isList (by lia)
  | bl b=>cases ry; exact .list_bool b p1.isList (by lia)
  | int b=>obtain ⟨t,rfl⟩:=ry; exact .list_int b t p1.isList (by lia)
  | str b=>obtain ⟨t,rfl⟩:=ry; exact .list_str b t p1.isList (by lia)
  | _=>cases hy
 | fl hp hy =>
  rename_i n p xs y
  intro A v u hu rx ry
  cases ry
  obtain ⟨its,r1,p1,z1⟩:=I.list hp
  refine ⟨?_,fun _ _ e _=>by subst e; cases hy⟩
  cases y with
  | non=>cases rx; exact .none_list p1.isList (by lia)
  | bl b=>cases rx; exact .bool_list b p1.isList (by lia)
  | int b=>obtain ⟨t,rfl⟩:=rx; exact .int_list b t p1.isList (by lia)
  | str b=>obtain ⟨t,rfl⟩:=rx; exact .str_list b t p1.isList (by lia)
  | _=>cases hy
 | tf hp hy =>
  rename_i n p xs y
  intro A v u hu rx ry
  cases rx
  obtain ⟨its,r1,p1,z1⟩:=I.tuple hp
  refine ⟨?_,fun _ _ _ e=>by subst e; cases hy⟩
  cases y with
  | non=>cases ry; exact .tuple_none p1 (by lia)
  | bl b=>cases ry; exact .tuple_bool b p1 (by lia)
  | int b=>obtain ⟨t,rfl⟩:=ry; exact .tuple_int b t p1 (by lia)
  | str b=>obtain ⟨t,rfl⟩:=ry; exact .tuple_str b t p1 (by lia)
  | _=>cases hy
 | ft hp hy =>
  rename_i n p xs y
  intro A v u hu rx ry
  cases ry
  obtain ⟨its,r1,p1,z1⟩:=I.tuple hp
  refine ⟨?_,fun _ _ e _=>by subst e; cases hy⟩
  cases y with
  | non=>cases rx; exact .none_tuple p1 (by lia)
  | bl b=>cases rx; exact .bool_tuple b p1 (by lia)
  | int b=>obtain ⟨t,rfl⟩:=rx; exact .int_tuple b t p1 (by lia)
  | str b=>obtain ⟨t,rfl⟩:=rx; exact .str_tuple b t p1 (by lia)
  | _=>cases hy
 | up h ih =>
  intro A v u hu rx ry
  exact ih A v u (by lia) rx ry
end
section
variable {X:Cx}
def mEqK (K:Fgg):R2:=fun x y H Q=>match x,y with
 | .ref p,.ref q=>∃ n b,n≤50∧EqD K H n (.ref p) (.ref q) b∧Q (.bl b) H
 | _,_=>mEq x y H Q
def mNeK (K:Fgg):R2:=fun x y H Q=>match x,y with
 | .ref p,.ref q=>∃ n b,n≤50∧EqD K H n (.ref p) (.ref q) b∧Q (.bl (!b)) H
 | _,_=>mNe x y H Q
theorem zik_ (hu:X.A.units+60<cLine):OpR X (compareOp .Eq) (mEqK X.K):=by
 intro pins s σ H x y v u Q I rx ry h
 unfold mEqK at h
 split at h
 ·rename_i p q
  obtain ⟨n,b,hn,h,q⟩:=h
  have:=(zlG_ I h X.A v u (by lia) rx ry).2 _ _ rfl rfl
  exact this X.prog X.w X.xe _ ⟨.bl b,H,I,rfl,q⟩
 ·exact zoO_ pins s σ H x y v u Q I rx ry h
end
section
variable {X:Cx}{pins:Pnn}{σ:St}{H:Hp}{s:Shared}
theorem zor_ (I:Inv X pins σ H s) {n:Nat}{x y:V}{b:Bool}(h:EqD X.K H n x y b):∀ (A:Around) (v u:Value),A.units+n<cLine→RelV x v→RelV y u→∀ p q,x=.ref p→y=.ref q→SeqAt.RcNeAt A s v u (!b):=by
 induction h with
 | flat hx hy=>intro A v u _ rx ry p q e _; subst e; cases hx
 | lst e hp hq hl h ih =>
  rename_i n p q xs ys
  intro A v u hu rx ry _ _ _ _
  cases rx; cases ry
  obtain ⟨its,r1,p1,z1⟩:=I.list hp
  obtain ⟨its2,r2,p2,z2⟩:=I.list hq
  have l1:=r1.length
  have l2:=r2.length
  have:=SeqAt.RcNeAt.lists (A:=A) (e:=e) p1.isList p2.isList (by simp only [List.size_toArray]; lia) (by lia) (fun j h1 h2=>by
   obtain ⟨x,ex,rx⟩:=zdf_ r1 h1
   obtain ⟨y,ey,ry⟩:=zdf_ r2 h2
   exact (zlG_ I (h j x y ex ey) A.in1 _ _ (by show A.units+1+n<_; lia) rx ry).1)
  rw [List.size_toArray,← l1] at this
  exact this
 | lstN hp hq hl =>
  intro A v u hu rx ry _ _ _ _
  cases rx; cases ry
  obtain ⟨its,r1,p1,z1⟩:=I.list hp
  obtain ⟨its2,r2,p2,z2⟩:=I.list hq
  have l1:=r1.length
  have l2:=r2.length
  exact SeqAt.RcNeAt.lists_lengths p1.isList p2.isList (by simp only [List.size_toArray,bne_iff_ne,ne_eq]; lia) (by lia)
 | tup e hp hq h ih =>
  rename_i n p q xs ys
  intro A v u hu rx ry _ _ _ _
  cases rx; cases ry
  obtain ⟨its,r1,p1,z1⟩:=I.tuple hp
  obtain ⟨its2,r2,p2,z2⟩:=I.tuple hq
  have l1:=r1.length
  have l2:=r2.length
  have:=SeqAt.RcNeAt.tuples (A:=A) (e:=e) (show s.heap.IsTuple p its.toArray from p1) (show s.heap.IsTuple q its2.toArray from p2) (by lia) (fun j h1 h2=>by
   obtain ⟨x,ex,rx⟩:=zdf_ r1 h1
   obtain ⟨y,ey,ry⟩:=zdf_ r2 h2
   exact (zlG_ I (h j x y ex ey) A.in1 _ _ (by show A.units+1+n<_; lia) rx ry).1)
  rw [List.size_toArray,List.size_toArray,← l1,← l2] at this
  exact this
 | lt hp hq =>
  intro A v u hu rx ry _ _ _ _
  cases rx; cases ry
  obtain ⟨its,r1,p1,z1⟩:=I.list hp
  obtain ⟨its2,r2,p2,z2⟩:=I.tuple hq
  exact .list_tuple p1.isList p2 (by lia)
 | tl hp hq =>
  intro A v u hu rx ry _ _ _ _
  cases rx; cases ry
  obtain ⟨its,r1,p1,z1⟩:=I.tuple hp
  obtain ⟨its2,r2,p2,z2⟩:=I.list hq
  exact .tuple_list p1 p2.isList (by lia)
 | lf hp hy=>intro A v u hu rx ry _ _ _ e; subst e; cases hy
 | fl hp hy=>intro A v u hu rx ry _ _ e _; subst e; cases hy
 | tf hp hy=>intro A v u hu rx ry _ _ _ e; subst e; cases hy
 | ft hp hy=>intro A v u hu rx ry _ _ e _; subst e; cases hy
 | up h ih=>intro A v u hu rx ry; exact ih A v u (by lia) rx ry
theorem zjt_ (hu:X.A.units+60<cLine):OpR X (compareOp .NotEq) (mNeK X.K):=by
 intro pins s σ H x y v u Q I rx ry h
 unfold mNeK at h
 split at h
 ·rename_i p q
  obtain ⟨n,b,hn,h,q⟩:=h
  have:=zor_ I h X.A v u (by lia) rx ry _ _ rfl rfl
  exact this X.prog X.w X.xe _ ⟨.bl (!b),H,I,rfl,q⟩
 ·exact zoU_ pins s σ H x y v u Q I rx ry h
end
theorem Room.u60 {k:Nat}{A:Around}(r:Room k A):A.units+60<cLine:=by have:=r.units; lia
end L2
namespace LX
open PySem Builtin Builtin.Str
section
variable {prog:Program}{w:World}{A:Around}{E:Value→Shared→Prop}{s:Shared}{x:Str}{t:Tok}{Q:Value→Shared→Prop}
end
end LX
namespace L2
open PySem PySem.Spec PyProof.Rows
section
variable {X:Cx}
end
section
variable {X:Cx}{a b c d:Expr}{ta tb tc td:TE}{pos:Pos}
end
end L2
namespace L2
open PySem PySem.Spec PyProof.Rows
section
variable {κ:Type} [DecidableEq κ]
def valV (kvs:List (κ×V)) (k:κ):Option V:=(kvs.find? fun kv=>decide (kv.1=k)).map (·.2)
def putK (kvs:List (κ×V)) (k:κ) (v:V):List (κ×V) :=
 if (kvs.any fun kv=>decide (kv.1=k))=true then kvs.map (fun kv=>if kv.1=k then (kv.1,v) else kv) else kvs++[(k,v)]
theorem zfU_ {p:κ×V}{r:List (κ×V)}{k:κ}(e:p.1=k):valV (p::r) k=some p.2:=by simp [valV,List.find?_cons,e]
theorem zfY_ {p:κ×V}{r:List (κ×V)}{k:κ}(e:¬ p.1=k):valV (p::r) k=valV r k:=by simp [valV,List.find?_cons,e]
theorem zjh_ (k:κ):∀ kvs:List (κ×V),(kvs.any fun kv=>decide (kv.1=k))=(valV kvs k).isSome
 | []=>rfl
 | p::r=>by
  rw [List.any_cons]
  by_cases e:p.1=k
  ·simp only [zfU_ e,decide_eq_true e,Bool.true_or,Option.isSome_some]
  ·rw [zfY_ e,decide_eq_false e,Bool.false_or]; exact zjh_ k r
theorem zes_ (kvs:List (κ×V)) (k:κ) (v:V):(putK kvs k v).length≤kvs.length+1:=by
 unfold putK
 split
 ·rw [List.length_map]; lia
 ·rw [List.length_append,List.length_cons,List.length_nil]; lia
theorem RelO.isSome_eq {o:Option V}{u:Option Value}(r:RelO o u):o.isSome=u.isSome:=by
 cases o with
 | none=>cases u with
  | none=>rfl
  | some _=>exact (show False from r).elim
 | some _=>cases u with
  | none=>exact (show False from r).elim
  | some _=>rfl
theorem RelO.getD {o:Option V}{u:Option Value}{d:V}{d':Value}(r:RelO o u) (rd:RelV d d'):RelV (o.getD d) (u.getD d'):=by
 cases o with
 | none=>cases u with
  | none=>exact rd
  | some _=>exact (show False from r).elim
 | some _=>cases u with
  | none=>exact (show False from r).elim
  | some _=>exact r
theorem KV.val {kvs:List (κ×V)}{vs:List (κ×Value)}(r:KV kvs vs) (k:κ):RelO (valV kvs k) (valueAt vs k):=by
 unfold KV at r
 induction r with
 | nil=>exact True.intro
 | @cons p q ps qs h t ih =>
  obtain ⟨h1,h2⟩:=h
  by_cases e:p.1=k
  ·have e':q.1=k:=h1.symm.trans e
   have b:valueAt (q::qs) k=some q.2:=by simp [valueAt,List.find?_cons,e']
   rw [zfU_ e,b]; exact h2
  ·have e':¬ q.1=k:=fun z=>e (h1.trans z)
   have b:valueAt (q::qs) k=valueAt qs k:=by simp [valueAt,List.find?_cons,e']
   rw [zfY_ e,b]; exact ih
theorem KV.any {kvs:List (κ×V)}{vs:List (κ×Value)}(r:KV kvs vs) (k:κ):(kvs.any fun kv=>decide (kv.1=k))=vs.any fun kv=>decide (kv.1=k):=by
 unfold KV at r
 induction r with
 | nil=>rfl
 | cons h t ih=>rw [List.any_cons,List.any_cons,ih,h.1]
theorem KV.repl {kvs:List (κ×V)}{vs:List (κ×Value)}(r:KV kvs vs) (k:κ) {y:V}{u:Value}(ry:RelV y u) :
  KV (kvs.map fun kv=>if kv.1=k then (kv.1,y) else kv) (vs.map fun kv=>if kv.1=k then (kv.1,u) else kv):=by
 unfold KV at r ⊢
 induction r with
 | nil=>exact .nil
 | @cons p q ps qs h t ih =>
  rw [List.map_cons,List.map_cons]
  refine .cons ?_ ih
  obtain ⟨h1,h2⟩:=h
  by_cases e:p.1=k
  ·rw [if_pos e,if_pos (h1.symm.trans e)]; exact ⟨h1,ry⟩
  ·rw [if_neg e,if_neg (fun z=>e (h1.trans z))]; exact ⟨h1,h2⟩
theorem KV.put {kvs:List (κ×V)}{vs:List (κ×Value)}(r:KV kvs vs) (k:κ) {y:V}{u:Value}(ry:RelV y u):KV (putK kvs k y) (stored vs k u):=by
 unfold putK stored
 rw [r.any k]
 by_cases e:(vs.any fun kv=>decide (kv.1=k))=true
 ·rw [if_pos e,if_pos e]; exact r.repl k ry
 ·rw [if_neg e,if_neg e]; exact Paired.snoc r ⟨rfl,ry⟩
theorem KV.length {kvs:List (κ×V)}{vs:List (κ×Value)}(r:KV kvs vs):kvs.length=vs.length:=Paired.length r
end
theorem zn8_ {P:Program}{w:World}{k:Key}{u:Value}(r:RelV (kV k) u):(mixKind P w).is k u=true:=by
 cases k with
 | inl i=>obtain ⟨t,e⟩:=(show ∃ t,u=Value.int i t from r); subst e; exact zhi_ P w i t
 | inr x=>obtain ⟨t,e⟩:=(show ∃ t,u=Value.str x t from r); subst e; exact zhk_ P w x t
theorem zgM_ {P:Program}{w:World}:∀ {ks:List Key}{us:List Value},Vals (ks.map kV) us→ItemsAre (mixKind P w) ks us
 | [],_,r=>by rw [List.map_nil] at r; cases r; exact .nil
 | k::ks,_,r=>by
  rw [List.map_cons] at r
  cases r with
  | cons h t=>exact .cons (zn8_ h) (zgM_ t)
abbrev KT (H:Hp):List (List Key×V)→List (List Key×Addr×Value)→Prop:=Paired fun p q=>p.1=q.1∧H q.2.1=some (.tup (p.1.map kV))∧RelV p.2 q.2.2
theorem KT.val {H:Hp}{kvs:List (List Key×V)}{xs:List (List Key×Addr×Value)}(r:KT H kvs xs) (k:List Key):RelO (valV kvs k) ((atKey xs k).map (·.2)):=by
 induction r with
 | nil=>exact True.intro
 | @cons p q ps qs h t ih =>
  obtain ⟨h1,_,h2⟩:=h
  by_cases e:p.1=k
  ·have e':q.1=k:=h1.symm.trans e
   have b:atKey (q::qs) k=some q.2:=by simp [atKey,List.find?_cons,e']
   rw [zfU_ e,b]; exact h2
  ·have e':¬ q.1=k:=fun z=>e (h1.trans z)
   have b:atKey (q::qs) k=atKey qs k:=by simp [atKey,List.find?_cons,e']
   rw [zfY_ e,b]; exact ih
theorem KT.repl {H:Hp}{kvs:List (List Key×V)}{xs:List (List Key×Addr×Value)}(r:KT H kvs xs) (k:List Key) {y:V}{u:Value}(ry:RelV y u) :
  KT H (kvs.map fun kv=>if kv.1=k then (kv.1,y) else kv) (xs.map (putAt k u)):=by
 induction r with
 | nil=>exact .nil
 | @cons p q ps qs h t ih =>
  rw [List.map_cons,List.map_cons]
  refine .cons ?_ ih
  obtain ⟨h1,h2,h3⟩:=h
  unfold putAt
  by_cases e:p.1=k
  ·rw [if_pos e,if_pos (h1.symm.trans e)]; exact ⟨h1,h2,ry⟩
  ·rw [if_neg e,if_neg (fun z=>e (h1.trans z))]; exact ⟨h1,h2,h3⟩
theorem KT.put {H:Hp}{kvs:List (List Key×V)}{xs:List (List Key×Addr×Value)}(r:KT H kvs xs) (k:List Key) {b:Addr}{y:V}{u:Value}(hb:H b=some (.tup (k.map kV))) (ry:RelV y u) :
  KT H (putK kvs k y) (storedH xs k b u):=by
 have e:(kvs.any fun kv=>decide (kv.1=k))=(atKey xs k).isSome:=by
  rw [zjh_,(r.val k).isSome_eq,Option.isSome_map]
 unfold putK storedH
 rw [e]
 by_cases q:(atKey xs k).isSome=true
 ·rw [if_pos q,if_pos q]; exact r.repl k ry
 ·rw [if_neg q,if_neg q]; exact Paired.snoc r ⟨rfl,hb,ry⟩
theorem KT.keeps {H H':Hp}{kvs:List (List Key×V)}{xs:List (List Key×Addr×Value)}(r:KT H kvs xs) (ht:∀ b ys,H b=some (.tup ys)→H' b=some (.tup ys)):KT H' kvs xs :=
 Paired.mapP r fun _ _ z=>⟨z.1,ht _ _ z.2.1,z.2.2⟩
section
variable {P:Program}{w:World}{H:Hp}{h:Heap}{a:Addr}
theorem rd_of {u:HO}(ok:HOk P w H h) (e:Rd H a u):ObjOk P w H h a u:=e.ok ok
theorem znF_ {kvs:List (Key×V)}(ok:HOk P w H h) (e:Rd H a (.dK kvs)):kvs.length≤sizeLine∧(a == sysModules)=false∧∃ vs,KV kvs vs∧h.DictOf (mixKind P w) a vs :=
 show ObjOk P w H h a (.dK kvs) from rd_of ok e
theorem dk_of {kvs:List (Key×V)}(ok:HOk P w H h) (e:H a=some (.dK kvs)):kvs.length≤sizeLine∧(a == sysModules)=false∧∃ vs,KV kvs vs∧h.DictOf (mixKind P w) a vs:=znF_ ok (.inl e)
theorem zjF_ {ks:List Key}(ok:HOk P w H h) (e:H a=some (.tup (ks.map kV))):(tupleKind (mixKind P w)).is h ks a:=by
 obtain ⟨_,its,r,o,h1,h2,n,h3⟩:=(show ObjOk P w H h a (.tup (ks.map kV)) from ok a _ e)
 exact ⟨o,its.toArray,n,h1,h2,h3,by simpa using zgM_ r⟩
theorem zmG_ {kvs:List (List Key×V)}(ok:HOk P w H h) (e:Rd H a (.dT kvs)):kvs.length≤sizeLine∧(a == sysModules)=false ∧
  ∃ xs,KT H kvs xs∧h.DictOfH (tupleKind (mixKind P w)) a xs:=by
 obtain ⟨z,y,xs,r,o,es,ep,h1,h2,h3,h4,h5⟩:=(show ObjOk P w H h a (.dT kvs) from rd_of ok e)
 refine ⟨z,y,xs,r,o,es,ep,h1,h2,h3,h4,fun x hx=>?_,h5⟩
 have all:∀ {l:List (List Key×V)}{m:List (List Key×Addr×Value)},KT H l m→∀ x∈m,(tupleKind (mixKind P w)).is h x.1 x.2.1:=by
  intro l m q
  induction q with
  | nil=>intro x hx; exact nomatch hx
  | @cons p q ps qs hq t ih =>
   intro x hx
   rcases List.mem_cons.mp hx with e | hx
   ·subst e
    exact zjF_ ok (by rw [← hq.1]; exact hq.2.1)
   ·exact ih x hx
 exact all r x hx
theorem dt_of {kvs:List (List Key×V)}(ok:HOk P w H h) (e:H a=some (.dT kvs)):kvs.length≤sizeLine∧(a == sysModules)=false ∧
  ∃ xs,KT H kvs xs∧h.DictOfH (tupleKind (mixKind P w)) a xs:=zmG_ ok (.inl e)
end
def DGet (H:Hp) (a:Addr) (y:V) (r:Option V):Prop :=
 (∃ kvs k,Rd H a (.dK kvs)∧y=kV k∧r=valV kvs k)∨∃ kvs k b,Rd H a (.dT kvs)∧y=.ref b∧H b=some (.tup (k.map kV))∧r=valV kvs k
def DPut (H:Hp) (a:Addr) (y v:V) (H':Hp):Prop :=
 (∃ kvs k,H a=some (.dK kvs)∧y=kV k∧kvs.length<sizeLine∧H'=upd H a (.dK (putK kvs k v))) ∨
 ∃ kvs k b,H a=some (.dT kvs)∧y=.ref b∧H b=some (.tup (k.map kV))∧kvs.length<sizeLine∧H'=upd H a (.dT (putK kvs k v))
theorem DGet.k {H:Hp}{a:Addr}{kvs:List (Key×V)}{k:Key}(e:H a=some (.dK kvs)):DGet H a (kV k) (valV kvs k):=.inl ⟨kvs,k,.inl e,rfl,rfl⟩
theorem DPut.k {H:Hp}{a:Addr}{kvs:List (Key×V)}{k:Key}{v:V}(e:H a=some (.dK kvs)) (hl:kvs.length<sizeLine):DPut H a (kV k) v (upd H a (.dK (putK kvs k v))):=.inl ⟨kvs,k,e,rfl,hl,rfl⟩
section
variable {X:Cx}{pins:Pnn}{σ:St}{H:Hp}{s:Shared}{a:Addr}{y v:V}{u r:Value}{o:Option V}{A:Around}{E:Value→Shared→Prop}
theorem Inv.big (I:Inv X pins σ H s):sysModules<s.heap.objs.size:=by
 have h:mainGlobals<s.heap.objs.size:=(I.mod.glob.keeps I.bk).lt
 exact Nat.lt_trans (by decide) h
theorem zjv_ {Q:Value→Shared→Prop}(hu:A.units+1<cLine) (I:Inv X pins σ H s) (g:DGet H a y (some v)) (ry:RelV y u) (h:∀ w' s',Inv X pins σ H s'→RelV v w'→Q w' s') :
  wpAny (model X.prog X.w) A (getItem (.ref a) u) Q E s:=by
 rcases g with ⟨kvs,k,e,ey,l⟩ | ⟨kvs,k,b,e,ey,eb,l⟩
 ·subst ey
  obtain ⟨z,hd,vs,rel,dd⟩:=znF_ I.hok e
  obtain ⟨w',hw,rw'⟩:=RelO.some_of (v:=v) (o:=valueAt vs k) (by rw [l]; exact rel.val k)
  exact wpAny_getItem_of (zn8_ ry) dd.mapOf hw (h w' _ (I.tok _) rw')
 ·subst ey
  cases (show u=Value.ref b from ry)
  obtain ⟨z,hd,xs,rel,dd⟩:=zmG_ I.hok e
  obtain ⟨w',hw,rw'⟩:=RelO.some_of (v:=v) (o:=(atKey xs k).map (·.2)) (by rw [l]; exact rel.val k)
  obtain ⟨p,hp,hp2⟩:=Option.map_eq_some_iff.mp hw
  refine wpAny_getItem_heap (tupleKind_room_in1 hu) (zjF_ I.hok eb) dd hp ?_
  rw [hp2]
  exact h w' _ (I.tok _) rw'
theorem zkG_ {h':Heap}{t':Nat}{ob:HO}(I:Inv X pins σ H s) (mu:Mut (H a)) (hs:Heap.SameBut a s.heap h') (he:∃ q,h'.get? a=some q) (new:ObjOk X.prog X.w (upd H a ob) h' a ob) :
  Inv X pins σ (upd H a ob) { s with heap:=h',toks:=t' } :=
 I.write (x:=a) (e:=a) mu (.inl rfl) (fun b q hb z=>(hs.2 b hb).trans z) he new
theorem zon_ {P:Program}{w:World}{H':Hp}{h':Heap}{kvs:List (Key×V)}{vs:List (Key×Value)}(z:kvs.length≤sizeLine) (hd:(a == sysModules)=false) (rel:KV kvs vs) (dd:h'.DictOf (mixKind P w) a vs) :
  ObjOk P w H' h' a (.dK kvs):=⟨z,hd,vs,rel,dd⟩
theorem zkg_ {H':Hp}{Q:Unit→Shared→Prop}(hu:A.units+1<cLine) (I:Inv X pins σ H s) (g:DPut H a y v H') (ry:RelV y u) (rv:RelV v r) (h:∀ s',Inv X pins σ H' s'→Q () s') :
  wpAny (model X.prog X.w) A (setItem (.ref a) u r) Q E s:=by
 rcases g with ⟨kvs,k,e,ey,l,eH⟩ | ⟨kvs,k,b,e,ey,eb,l,eH⟩
 ·subst ey eH
  obtain ⟨z,hd,vs,rel,dd⟩:=dk_of I.hok e
  have hz:vs.length≤sizeLine:=by rw [← rel.length]; exact z
  have hl:(putK kvs k v).length≤sizeLine:=by have:=zes_ kvs k v; lia
  refine wpAny_setItem_pairs (hsz:=hz) (zn8_ ry) dd fun h' dd' hs=>h _ ?_
  have he:∃ q,h'.get? a=some q:=let ⟨q,_,_,hq,_⟩:=dd'; ⟨q,hq⟩
  exact zkG_ I (by rw [e]; exact True.intro) hs he (zon_ hl hd (rel.put k rv) dd')
 ·subst ey eH
  cases (show u=Value.ref b from ry)
  obtain ⟨z,hd,xs,rel,dd⟩:=dt_of I.hok e
  have hz:xs.length≤sizeLine:=by rw [← Paired.length rel]; exact z
  have hl:(putK kvs k v).length≤sizeLine:=by have:=zes_ kvs k v; lia
  refine wpAny_setItem_heap (hsz:=hz) (tupleKind_room_in1 hu) (zjF_ I.hok eb) dd fun h' dd' hs=>h _ ?_
  obtain ⟨q,es,ep,hq,h2,h3,h4,_,h5⟩:=dd'
  refine zkG_ I (by rw [e]; exact True.intro) hs ⟨q,hq⟩ ⟨hl,hd,_,(rel.put k eb rv).keeps fun c ys ec=>?_,q,es,ep,hq,h2,h3,h4,h5⟩
  rw [zah_ (ne_of ec e (fun z=>nomatch z))]
  exact ec
end
section
variable {X:Cx}{pins:Pnn}{σ:St}{H:Hp}{s:Shared}{a:Addr}{kvs:List (Key×V)}{k:Key}{u:Value}{A:Around}{E:Value→Shared→Prop}
end
def NoSl (i:Expr):Prop:=∀ ov iv,subscripted i false ov iv=operate [ov,iv] (getItem ov iv)
theorem zm0_ {prog:Program}{w:World}{A:Around}{E:Value→Shared→Prop}{s:Shared}{env:Env}{value slice:Expr}{pos:Pos}{T id:String}{Q:Value→Shared→Prop}
  (hl:typeLookup (.type T) "__getitem__" = pure (some (.builtin id))) (hs:NoSl slice)
  (h:wpAny (model prog w) A (eval value env) (fun o s₁=>wpAny (model prog w) A (eval slice env) (fun i s₂=>s₂.TypeIs o T∧wpAny (model prog w) A (getItem o i) Q E s₂) E s₁) E s) :
  wpAny (model prog w) A (eval (.Subscript value slice pos) env) Q E s:=by
 refine Subscript_ (wpAny_mono h (fun o s₁ h₁=>wpAny_mono h₁ (fun i s₂ h₂=>?_) fun _ _ x=>x) fun _ _ x=>x)
 obtain ⟨hT,h₂⟩:=h₂
 unfold subscriptTail
 refine wpAny_bind ?_
 rw [getitemInPython_of_ne hT.not_modules]
 refine wpAny_bind (wpAny_specialOf hT hl ?_)
 have fin:wpAny (model prog w) A (subscripted slice false o i) (fun r s₃=>wpAny (model prog w) A (letTemporaryGo value o r>>=fun _=>pure r) Q E s₃) E s₂:=by
  rw [hs o i]
  exact wpAny_operating (wpAny_mono h₂ (fun r s₃ h₃=>wpAny_bind (wpAny_letTemporaryGo (wpAny_pure h₃))) fun _ _ x=>x)
 first
  | exact wpAny_pure (wpAny_bind fin)
  | exact wpAny_bind (wpAny_pure (wpAny_bind fin))
  | exact wpAny_bind fin
theorem zho_ {X:Cx}{pins:Pnn}{σ:St}{H:Hp}{s:Shared}{a:Addr}{y:V}{o:Option V}(I:Inv X pins σ H s) (g:DGet H a y o):s.TypeIs (.ref a) "dict" := by
 rcases g with ⟨kvs,k,e,_,_⟩ | ⟨kvs,k,b,e,_,_,_⟩
 ·obtain ⟨_,_,vs,_,dd⟩:=znF_ I.hok e
  exact dd.typeIs
 ·obtain ⟨_,_,xs,_,dd⟩:=zmG_ I.hok e
  exact dd.typeIs
section
variable {X:Cx}{o i e value:Expr}{pos pos' tpos:Pos}{td ty tv:TE}
end
theorem zl7_ {P:Program}{w:World}{H:Hp}(h:Heap) (hb:sysModules<h.objs.size):ObjOk P w H (h.push { cls:=.type "dict",data:=.dict #[] }) h.objs.size (.dK []) :=
 ⟨Nat.zero_le _,beq_eq_false_iff_ne.mpr (Ne.symm (Nat.ne_of_lt hb)),[],.nil,Heap.DictOf.new h⟩
def tDNewK:TE:=fun _ H Q=>∀ p,H p=none→Q (.ref p) (upd H p (.dK []))
section
variable {X:Cx}{pos:Pos}
theorem zii_:PE X (.Dict [] [] pos) tDNewK:=fun pins s σ H Q I h =>
 wpAny_Dict_empty ⟨.ref s.heap.objs.size,_,I.laid (a:=s.heap.objs.size) (o:=.dK []) (t':=s.toks) (fun _ _ q=>Heap.get?_push_of_some _ q) (Nat.le_refl _) (zl7_ s.heap I.big),rfl,h _ (I.hok.fresh (Nat.le_refl _))⟩
end
structure M2 (X:Cx) (o:Expr) (m:Str) (apos:Pos) (e f:Expr) (cpos:Pos):Prop where
 base:attributeBase o m X.env (eval o X.env)=eval o X.env
 few:((backTo cpos (starEach [e,f] X.env)).all (fun x=>!x.1) && (backToKw cpos (keywordEach [] X.env)).all (fun x=>x.1.isSome)
  && decide (([e,f]:List Expr).length+([]:List Keyword).length+(if ([]:List Keyword).isEmpty then 0 else 1)<30))=true
 line:(apos.endLine == cpos.line)=true
 trees:backTo cpos (starEach [e,f] X.env)=[(false,eval e X.env),(false,eval f X.env)]
def IsD (H:Hp) (a:Addr):Prop:=(∃ kvs,Rd H a (.dK kvs))∨∃ kvs,Rd H a (.dT kvs)
theorem zpe_ {X:Cx}{pins:Pnn}{σ:St}{H:Hp}{s:Shared}{a:Addr}(I:Inv X pins σ H s) (d:IsD H a) :
  s.TypeIs (.ref a) "dict" ∧ (∀ b,Value.ref a=.ref b→∃ ob,s.heap.get? b=some ob∧ob.dict=none)∧(a == sysModules)=false:=by
 rcases d with ⟨kvs,e⟩ | ⟨kvs,e⟩
 ·obtain ⟨_,hd,vs,_,dd⟩:=znF_ I.hok e
  refine ⟨dd.typeIs,fun b q=>?_,hd⟩
  cases q
  obtain ⟨ob,_,_,h1,h2,_⟩:=dd
  exact ⟨ob,h1,h2.2.1⟩
 ·obtain ⟨_,hd,xs,_,dd⟩:=zmG_ I.hok e
  refine ⟨dd.typeIs,fun b q=>?_,hd⟩
  cases q
  obtain ⟨ob,_,_,h1,h2,_⟩:=dd
  exact ⟨ob,h1,h2.2.1⟩
section
variable {X:Cx}{pins:Pnn}{σ:St}{H:Hp}{s:Shared}{a:Addr}{y d:V}{u r:Value}{o:Option V}{A:Around}{E:Value→Shared→Prop}
theorem zpl_ {Q:Value→Shared→Prop}(hu:A.units+1<cLine) (I:Inv X pins σ H s) (g:DGet H a y o) (ry:RelV y u) (rd:RelV d r) (h:∀ w' s',Inv X pins σ H s'→RelV (o.getD d) w'→Q w' s') :
  wpAny (model X.prog X.w) A (call (.builtin "dict.get") [.ref a,u,r]) Q E s:=by
 rcases g with ⟨kvs,k,e,ey,l⟩ | ⟨kvs,k,b,e,ey,eb,l⟩
 ·subst ey
  obtain ⟨z,hd,vs,rel,dd⟩:=znF_ I.hok e
  refine call_meetsIn PySem.F.slot_dict_get dd.typeIs PySem.F.entry_dict_get (PySem.F.args_dict_get_3 _ _ _) (meets_dict_get_default (mixKind X.prog X.w) a (zn8_ ry) hd r) ⟨_,dd.mapOf,h _ _ (I.tok _) ?_⟩
  rw [l]
  exact (rel.val k).getD rd
 ·subst ey
  cases (show u=Value.ref b from ry)
  obtain ⟨z,hd,xs,rel,dd⟩:=zmG_ I.hok e
  refine call_meetsIn PySem.F.slot_dict_get dd.typeIs PySem.F.entry_dict_get (PySem.F.args_dict_get_3 _ _ _) (meetsH_dict_get_default (tupleKind (mixKind X.prog X.w)) a b hd r) ⟨tupleKind_room_in1 hu,k,xs,zjF_ I.hok eb,dd,h _ _ (I.tok _) ?_⟩
  rw [l]
  exact (rel.val k).getD rd
end
section
variable {X:Cx}{o e f:Expr}{apos cpos:Pos}{td ty tx:TE}
end
section
variable {X:Cx}{pins:Pnn}{σ:St}{H:Hp}{s:Shared}{a:Addr}{kvs:List (Key×V)}{A:Around}{E:Value→Shared→Prop}
end
section
variable {X:Cx}{pins:Pnn}{σ:St}{H:Hp}{s:Shared}{a:Addr}{y:V}{u:Value}{A:Around}{E:Value→Shared→Prop}
namespace L2
open PySem PySem.Spec PyProof.Rows
section
variable {X:Cx}
end
section
variable {κ:Type} [DecidableEq κ]
end
end L2
end
end L2
namespace L2
open PySem PySem.Spec PyProof.Rows
section
variable {X:Cx}
end
section
variable {X:Cx}{elts:List Expr}{kk:Nat}{tpos:Pos}
end
section
variable {X:Cx}{e st:Expr}{te:TE}{ts:TO}{pos p2:Pos}
end
end L2
namespace L2
open PySem PySem.Spec PyProof.Rows
def keyV:V→Option Key
 | .int i=>some (.inl i)
 | .str z=>some (.inr z)
 | _=>none
theorem zm2_ {y:V}{k:Key}(h:keyV y=some k):y=kV k:=by
 cases y<;>first | (cases h; rfl) | cases h
def atD (x y:V) (H:Hp) (R:Addr→List (Key×V)→Key→Prop):Prop:=match x with
 | .ref a=>(match keyV y with | some k=>∃ kvs,H a=some (.dK kvs)∧R a kvs k | none=>False)
 | _=>False
theorem zmj_ {x y:V}{H:Hp}{R:Addr→List (Key×V)→Key→Prop}(h:atD x y H R):∃ a kvs k,x=.ref a∧y=kV k∧H a=some (.dK kvs)∧R a kvs k:=by
 unfold atD at h
 cases x with
 | ref a =>
  cases e:keyV y with
  | none=>rw [e] at h; exact h.elim
  | some k =>
   rw [e] at h
   obtain ⟨kvs,h1,h2⟩:=h
   exact ⟨a,kvs,k,rfl,zm2_ e,h1,h2⟩
 | _=>exact h.elim
def mDGet (td ty:TE):TE:=fun σ H Q=>td σ H fun x H1=>ty σ H1 fun y H2=>atD x y H2 fun _ kvs k=>∃ v,valV kvs k=some v∧Q v H2
def mDPut (td ty tv:TE):TS:=fun D σ H=>tv σ H fun v H1=>td σ H1 fun x H2=>ty σ H2 fun y H3=>atD x y H3 fun a kvs k=>kvs.length<sizeLine∧D.nx σ (upd H3 a (.dK (putK kvs k v)))
section
variable {X:Cx}{o i e value:Expr}{pos pos' tpos:Pos}{td ty tv:TE}
theorem zoD_ (hu:X.A.units+60<cLine) (ho:PE X o td) (hi:PE X i ty) (hs:NoSl i:=by exact fun _ _=>rfl):PE X (.Subscript o i pos) (mDGet td ty):=by
 intro pins s σ H Q I h
 refine zm0_ PySem.F.slot_dict_getitem.lookup hs (thn (ho pins s σ H _ I h) fun u s1 ⟨x,H1,I1,rx,q1⟩=>thn (hi pins s1 σ H1 _ I1 q1) fun iv s2 hq_=>?_)
 obtain ⟨y,H2,I2,ry,q2⟩:=hq_
 obtain ⟨a,kvs,k,rfl,rfl,hd,v,hv,q⟩:=zmj_ q2
 obtain rfl:u=Value.ref a:=rx
 have g:DGet H2 a (kV k) (some v):=by rw [← hv]; exact DGet.k hd
 exact ⟨zho_ I2 g,zjv_ (by lia) I2 g ry fun w' s3 I3 rw'=>⟨v,H2,I3,rw',q⟩⟩
theorem ziS_ (hu:X.A.units+60<cLine) (ho:PE X o td) (hi:PE X i ty) (hv:PE X value tv) (hs:swapsWith value (some (.Subscript o i pos')) pos.line X.env=pure false:=by rfl) :
  PS X (.Assign [.Subscript o i pos'] value pos) (mDPut td ty tv):=by
 intro pins s σ H D I h
 refine wpAny_Assign_Subscript (thn (hv pins s σ H _ I h) fun r s1 ⟨v,H1,I1,rv,q1⟩=>thn (ho pins s1 σ H1 _ I1 q1) fun u s2 ⟨x,H2,I2,rx,q2⟩=>thn (hi pins s2 σ H2 _ I2 q2) fun iv s3 hq_=>?_) hs
 obtain ⟨y,H3,I3,ry,q3⟩:=hq_
 obtain ⟨a,kvs,k,rfl,rfl,hd,hl,q⟩:=zmj_ q3
 obtain rfl:u=Value.ref a:=rx
 exact zkg_ (by lia) I3 (DPut.k hd hl) ry rv fun s4 I4=>⟨σ,_,I4,q⟩
end
section
variable {X:Cx}{o e f:Expr}{apos cpos:Pos}{td ty tx':TE}
def mDGet2 (td ty tx':TE):TE:=fun σ H Q=>td σ H fun x H1=>(match x with | .ref a=>∃ kvs,H1 a=some (.dK kvs) | _=>False)∧ty σ H1 fun y H2=>tx' σ H2 fun z H3=>atD x y H3 fun _ kvs k=>Q ((valV kvs k).getD z) H3
theorem zjG_ (hu:X.A.units+60<cLine) (ho:PE X o td) (he:PE X e ty) (hf:PE X f tx') (m:M2 X o "get" apos e f cpos:=by exact ⟨rfl,rfl,rfl,rfl⟩):PE X (.Call (.Attribute o "get" apos) [e,f] [] cpos) (mDGet2 td ty tx'):=by
 intro pins s σ H Q I h
 refine wpAny_Call_method m.base m.few m.line PySem.F.plainAttrs_dict PySem.F.slot_dict_get PySem.F.type_dict_get (thn (ho pins s σ H _ I h) fun u s1 hq_=>?_)
 obtain ⟨x,H1,I1,rx,hx,q1⟩:=hq_
 cases x with
 | ref a =>
  obtain ⟨kvs0,hd0⟩:=hx
  obtain rfl:u=Value.ref a:=rx
  obtain ⟨t1,t2,_⟩:=zpe_ I1 (.inl ⟨kvs0,.inl hd0⟩)
  refine ⟨t1,t2,?_⟩
  rw [m.trees]
  refine Calls.callWith_builtin rfl (Calls.evalArgs_plain (Calls.spliced_cons (thn (he pins s1 σ H1 _ I1 q1) fun iv s2 ⟨y,H2,I2,ry,q2⟩ =>
   Calls.spliced_cons (thn (hf pins s2 σ H2 _ I2 q2) fun fv s3 ⟨z,H3,I3,rz,q3⟩=>Calls.spliced_nil ?_))))
  obtain ⟨a',kvs,k,ea,rfl,hd,q⟩:=zmj_ q3
  cases ea
  exact zpl_ (by lia) I3 (DGet.k (k:=k) hd) ry rz fun w' s4 I4 rw'=>⟨_,H3,I4,rw',q⟩
 | _=>exact hx.elim
end
section
variable {X:Cx}{o i:Expr}{pos:Pos}{td ty:TE}
end
end L2
namespace L2
open PySem PySem.Spec PyProof.Rows
inductive Mo (α:Type) where
 | ok (a:α) | ex (c:String) | no
namespace Mo
variable {α β γ:Type}
def bind (x:Mo α) (f:α→Mo β):Mo β:=match x with | .ok a=>f a | .ex c=>.ex c | .no=>.no
theorem ok_bind (a:α) (f:α→Mo β):(Mo.ok a).bind f=f a:=rfl
def noex (x:Mo α):Mo α:=match x with | .ok a=>.ok a | _=>.no
def lim (n:Nat) (k:Mo α):Mo α:=if n≤sizeLine then k else .no
theorem lim_ok {n:Nat}{k:Mo α}(h:n≤100000):lim n k=k:=if_pos (zdm_ h)
def grd (p:Prop) [Decidable p] (k:Mo α):Mo α:=if p then k else .no
theorem grd_ok {p:Prop} [Decidable p] {k:Mo α}(h:p):grd p k=k:=if_pos h
def opt (x:Option α):Mo α:=match x with | some a=>.ok a | none=>.no
end Mo
def un (F h:Hp):Hp:=fun p=>match F p with | some o=>some o | none=>h p
def Dj (F h:Hp):Prop:=∀ p,F p=none∨h p=none
def Jn (h1 h2 h:Hp):Prop:=∀ p,(h1 p=none∧h p=h2 p)∨(h2 p=none∧h p=h1 p)
def Ext (F H F' H':Hp):Prop:=Same F F'∧Same F' H'∧Same H H'∧∀ p,F p=none→F' p≠none→H p=none
theorem Ext.refl {F H:Hp}(h:Same F H):Ext F H F H:=⟨Same.refl _,h,Same.refl _,fun p a b=>absurd a b⟩
theorem Ext.trans {F H F1 H1 F2 H2:Hp}(a:Ext F H F1 H1) (b:Ext F1 H1 F2 H2):Ext F H F2 H2:=by
 obtain ⟨a1,a2,a3,a4⟩:=a
 obtain ⟨b1,b2,b3,b4⟩:=b
 refine ⟨a1.trans b1,b2,a3.trans b3,fun p hp hq=>?_⟩
 cases e:F1 p with
 | none=>exact a3.free (b4 p e hq)
 | some o=>exact a4 p hp (by rw [e]; exact Option.some_ne_none _)
theorem Ext.heap {F H H':Hp}(h:Same F H) (g:Same H H'):Ext F H F H':=⟨Same.refl _,h.trans g,g,fun p a b=>absurd a b⟩
theorem Ext.new {F H:Hp}(h:Same F H) {p:Addr}{o:HO}(hp:H p=none):Ext F H (upd F p o) (upd H p o):=by
 refine ⟨zcm_ (h.free hp) _,fun b u e=>?_,zcm_ hp _,fun q a b=>?_⟩
 ·unfold upd at e ⊢
  split
  ·rename_i z; rw [if_pos z] at e; exact e
  ·rename_i z; rw [if_neg z] at e; exact h _ _ e
 ·unfold upd at b
  split at b
  ·rename_i z; rw [z]; exact hp
  ·exact absurd a b
structure Ty (α:Type) where
 R:α→V→Hp→Prop
 mono:∀ {a v H H'},Same H H'→R a v H→R a v H'
def Tups (H H':Hp):Prop:=∀ p xs,H p=some (.tup xs)→H' p=some (.tup xs)
def Imm {α:Type}(T:Ty α):Prop:=∀ {a v H H'},Tups H H'→T.R a v H→T.R a v H'
abbrev tyInt:Ty Int:=⟨fun a v _=>v=.int a,fun _ h=>h⟩
abbrev tyStr:Ty (List Nat):=⟨fun a v _=>v=tx a,fun _ h=>h⟩
abbrev tyBl:Ty Bool:=⟨fun a v _=>v=.bl a,fun _ h=>h⟩
abbrev tyNon:Ty Unit:=⟨fun _ v _=>v=.non,fun _ h=>h⟩
theorem zc_:Imm tyInt:=fun _ h=>h
theorem zp_:Imm tyStr:=fun _ h=>h
theorem zZ_:Imm tyBl:=fun _ h=>h
theorem zk0_:Imm tyNon:=fun _ h=>h
abbrev tyOpt {α:Type}(T:Ty α):Ty (Option α):=⟨fun a v H=>match a with | none=>v=.non | some x=>T.R x v H∧v≠.non,fun {a v H H'} g h=>by cases a with | none=>exact h | some x=>exact ⟨T.mono g h.1,h.2⟩⟩
theorem zbb_ {α:Type}{T:Ty α}(i:Imm T):Imm (tyOpt T):=fun {a v H H'} g h=>by cases a with | none=>exact h | some x=>exact ⟨i g h.1,h.2⟩
structure Cs (γ:Type) where
 R:γ→List V→Hp→Prop
 mono:∀ {c vs H H'},Same H H'→R c vs H→R c vs H'
def ImmC {γ:Type}(C:Cs γ):Prop:=∀ {c vs H H'},Tups H H'→C.R c vs H→C.R c vs H'
abbrev csNil:Cs Unit:=⟨fun _ vs _=>vs=[],fun _ h=>h⟩
abbrev csLast {α:Type}(T:Ty α):Cs α:=⟨fun a vs H=>∃ v,vs=[v]∧T.R a v H,fun g ⟨v,e,h⟩=>⟨v,e,T.mono g h⟩⟩
abbrev csCons {α γ:Type}(T:Ty α) (C:Cs γ):Cs (α×γ):=⟨fun a vs H=>∃ v us,vs=v::us∧T.R a.1 v H∧C.R a.2 us H,fun g ⟨v,us,e,h,q⟩=>⟨v,us,e,T.mono g h,C.mono g q⟩⟩
theorem zlN_:ImmC csNil:=fun _ h=>h
theorem zk_ {α:Type}{T:Ty α}(i:Imm T):ImmC (csLast T):=fun g ⟨v,e,h⟩=>⟨v,e,i g h⟩
theorem zl_ {α γ:Type}{T:Ty α}{C:Cs γ}(i:Imm T) (j:ImmC C):ImmC (csCons T C):=fun g ⟨v,us,e,h,q⟩=>⟨v,us,e,i g h,j g q⟩
abbrev tyTup {γ:Type}(C:Cs γ):Ty γ:=⟨fun c v H=>∃ p us,v=.ref p∧H p=some (.tup us)∧C.R c us H,fun g ⟨p,us,e,h,q⟩=>⟨p,us,e,g _ _ h,C.mono g q⟩⟩
theorem zv_ {γ:Type}{C:Cs γ}(i:ImmC C):Imm (tyTup C):=fun g ⟨p,us,e,h,q⟩=>⟨p,us,e,g _ _ h,i g q⟩
abbrev Prs {α:Type}(T:Ty α) (H:Hp) (xs:List α) (vs:List V):Prop:=Paired (fun x v=>T.R x v H) xs vs
theorem zbO_ {α β:Type}{R R':α→β→Prop}(h:∀ a b,R a b→R' a b):∀ {xs:List α}{ys:List β},Paired R xs ys→Paired R' xs ys
 | _,_,.nil=>.nil
 | _,_,.cons a t=>.cons (h _ _ a) (zbO_ h t)
theorem Prs.mono {α:Type}{T:Ty α}{H H':Hp}{xs:List α}{vs:List V}(g:Same H H') (h:Prs T H xs vs):Prs T H' xs vs:=zbO_ (fun _ _ r=>T.mono g r) h
theorem Prs.imm {α:Type}{T:Ty α}(i:Imm T) {H H':Hp}{xs:List α}{vs:List V}(g:Tups H H') (h:Prs T H xs vs):Prs T H' xs vs:=zbO_ (fun _ _ r=>i g r) h
abbrev tyL {α:Type}(T:Ty α):Ty (List α):=⟨fun xs v H=>∃ p vs,v=.ref p∧H p=some (.lst vs)∧Prs T H xs vs,fun g ⟨p,vs,e,h,q⟩=>⟨p,vs,e,g _ _ h,q.mono g⟩⟩
abbrev tySc (K:Fgg):Ty (List Int):=⟨fun xs v H=>∃ p,v=.ref p∧SqL K H p (xs.map V.int),fun g ⟨p,e,h⟩=>⟨p,e,g.seq h⟩⟩
structure Own (α:Type) where
 O:α→V→Hp→Hp→Prop
 fr:Ty α
 mono:∀ {a v F F' h},Same F F'→O a v F h→O a v F' h
 frz:∀ {a v F h},Dj F h→O a v F h→fr.R a v (un F h)
 notup:∀ {a v F h},O a v F h→∀ p xs,h p≠some (.tup xs)
def ImmO {α:Type}(O:Own α):Prop:=∀ {a v F F' h},Tups F F'→O.O a v F h→O.O a v F' h
theorem z1_ {F h:Hp}:Same F (un F h):=fun p o e=>by unfold un; rw [e]
theorem zfN_ {F h:Hp}(d:Dj F h):Same h (un F h):=fun p o e=>by
 unfold un
 rcases d p with z | z
 ·rw [z]; exact e
 ·rw [z] at e; cases e
abbrev owF {α:Type}(T:Ty α):Own α:=⟨fun a v F h=>(∀ p,h p=none)∧T.R a v F,T,fun g ⟨e,h⟩=>⟨e,T.mono g h⟩,fun _ ⟨_,h⟩=>T.mono z1_ h,fun ⟨e,_⟩ p xs z=>by rw [e] at z; cases z⟩
theorem zo_ {α:Type}{T:Ty α}(i:Imm T):ImmO (owF T):=fun g ⟨e,h⟩=>⟨e,i g h⟩
def one (p:Addr) (o:HO):Hp:=fun q=>if q=p then some o else none
theorem zaA_ {p:Addr}{o:HO}:one p o p=some o:=if_pos rfl
abbrev owL {α:Type}(T:Ty α):Own (List α):=⟨fun xs v F h=>∃ p vs,v=.ref p∧h=one p (.lst vs)∧Prs T F xs vs,tyL T,fun g ⟨p,vs,e,z,q⟩=>⟨p,vs,e,z,q.mono g⟩,
 fun d ⟨p,vs,e,z,q⟩=>⟨p,vs,e,zfN_ d _ _ (by rw [z]; exact zaA_),q.mono z1_⟩,
 fun ⟨p,vs,e,z,q⟩ b xs y=>by rw [z] at y; unfold one at y; split at y<;>cases y⟩
theorem zy_ {α:Type}{T:Ty α}(i:Imm T):ImmO (owL T):=fun g ⟨p,vs,e,z,q⟩=>⟨p,vs,e,z,q.imm i g⟩
inductive Sl:Type 1 where
 | dead
 | fz {α:Type}(T:Ty α) (a:α)
 | ow {α:Type}(O:Own α) (a:α)
def Sl.P:Sl→Option V→Hp→Hp→Prop
 | .dead,_,_,_=>True
 | .fz T a,o,F,_=>∃ v,o=some v∧T.R a v F
 | .ow O a,o,F,h=>∃ v,o=some v∧O.O a v F h
def Sl.Z:Sl→Option V→Hp→Prop
 | .dead,_,_=>True
 | .fz T a,o,F=>∃ v,o=some v∧T.R a v F
 | .ow O a,o,F=>∃ v,o=some v∧O.fr.R a v F
def Sl.cold:Sl→Sl
 | .ow _ _=>.dead
 | s=>s
def Hold:List Sl→St→Hp→Hp→Prop
 | [],[],_,_=>True
 | s::L,o::σ,F,h=>∃ h1 h2,Jn h1 h2 h∧s.P o F h1∧Hold L σ F h2
 | _,_,_,_=>False
def HoldF (L:List Sl) (σ:St) (F:Hp):Prop:=∀ (i:Nat) (s:Sl),L[i]?=some s→s.Z (σ[i]?.join) F
theorem Sl.P.mono {s:Sl}{o:Option V}{F F' h:Hp}(g:Same F F') (q:s.P o F h):s.P o F' h:=by
 cases s with
 | dead=>exact q
 | fz T a=>obtain ⟨v,e,r⟩:=q; exact ⟨v,e,T.mono g r⟩
 | ow O a=>obtain ⟨v,e,r⟩:=q; exact ⟨v,e,O.mono g r⟩
theorem Sl.Z.mono {s:Sl}{o:Option V}{F F':Hp}(g:Same F F') (q:s.Z o F):s.Z o F':=by
 cases s with
 | dead=>exact q
 | fz T a=>obtain ⟨v,e,r⟩:=q; exact ⟨v,e,T.mono g r⟩
 | ow O a=>obtain ⟨v,e,r⟩:=q; exact ⟨v,e,O.fr.mono g r⟩
theorem HoldF.mono {L:List Sl}{σ:St}{F F':Hp}(g:Same F F') (q:HoldF L σ F):HoldF L σ F':=fun i s e=>(q i s e).mono g
theorem Hold.mono:∀ {L:List Sl}{σ:St}{F F' h:Hp},Same F F'→Hold L σ F h→Hold L σ F' h
 | [],[],_,_,_,_,q=>q
 | s::L,o::σ,F,F',h,g,⟨h1,h2,j,p,r⟩=>⟨h1,h2,j,p.mono g,r.mono g⟩
 | [],_::_,_,_,_,_,q=>q.elim
 | _::_,[],_,_,_,_,q=>q.elim
theorem Hold.len:∀ {L:List Sl}{σ:St}{F h:Hp},Hold L σ F h→L.length=σ.length
 | [],[],_,_,_=>rfl
 | s::L,o::σ,F,h,⟨h1,h2,j,p,r⟩=>by rw [List.length_cons,List.length_cons,r.len]
 | [],_::_,_,_,q=>q.elim
 | _::_,[],_,_,q=>q.elim
theorem Jn.l {h1 h2 h:Hp}(j:Jn h1 h2 h):Same h1 h:=fun p o e=>by
 rcases j p with ⟨a,b⟩ | ⟨a,b⟩
 ·rw [a] at e; cases e
 ·rw [b]; exact e
theorem Jn.r {h1 h2 h:Hp}(j:Jn h1 h2 h):Same h2 h:=fun p o e=>by
 rcases j p with ⟨a,b⟩ | ⟨a,b⟩
 ·rw [b]; exact e
 ·rw [a] at e; cases e
theorem Jn.dj {h1 h2 h:Hp}(j:Jn h1 h2 h):Dj h1 h2:=fun p=>by
 rcases j p with ⟨a,b⟩ | ⟨a,b⟩
 ·exact .inl a
 ·exact .inr a
theorem zck_ {h1 h2:Hp}(d:Dj h1 h2):Jn h1 h2 (un h1 h2):=fun p=>by
 unfold un
 rcases d p with a | a
 ·rw [a]; exact .inl ⟨rfl,rfl⟩
 ·refine .inr ⟨a,?_⟩
  cases h1 p with
  | none=>exact a
  | some o=>rfl
theorem Hold.at:∀ {L:List Sl}{σ:St}{F h:Hp}(i:Nat) {s:Sl},Hold L σ F h→L[i]?=some s →
  ∃ o h1 h2,σ[i]?=some o∧Jn h1 h2 h∧s.P o F h1∧∀ s' o' h1' h',Jn h1' h2 h'→s'.P o' F h1'→Hold (L.set i s') (σ.set i o') F h'
 | [],_,_,_,_,_,_,e=>by cases e
 | s::L,[],_,_,_,_,q,_=>q.elim
 | s::L,o::σ,F,h,0,t,⟨h1,h2,j,p,r⟩,e=>by
  cases e
  exact ⟨o,h1,h2,rfl,j,p,fun s' o' h1' h' j' p'=>⟨h1',h2,j',p',r⟩⟩
 | s::L,o::σ,F,h,i+1,t,⟨h1,h2,j,p,r⟩,e=>by
  obtain ⟨o1,k1,k2,e1,j1,p1,f⟩:=Hold.at i r (by simpa using e)
  have d1:Dj h1 k1:=fun p=>by
   rcases j.dj p with a | a
   ·exact .inl a
   ·exact .inr (j1.l.free a)
  have d2:Dj h1 k2:=fun p=>by
   rcases j.dj p with a | a
   ·exact .inl a
   ·exact .inr (j1.r.free a)
  refine ⟨o1,k1,un h1 k2,by simpa using e1,fun p=>?_,p1,fun s' o' k1' h' j' p'=>?_⟩
  ·rcases j p with ⟨a,b⟩ | ⟨a,b⟩
   ·rcases j1 p with ⟨c,d⟩ | ⟨c,d⟩
    ·refine .inl ⟨c,?_⟩; unfold un; rw [a,b,d]
    ·refine .inr ⟨?_,by rw [b,d]⟩; unfold un; rw [a,c]
   ·refine .inl ⟨j1.l.free a,?_⟩
    have:k2 p=none:=j1.r.free a
    unfold un; rw [b]
    cases h1 p with
    | none=>rw [this]
    | some u=>rfl
  ·have dd:Dj k1' k2:=fun p=>by
    rcases j' p with ⟨a,b⟩ | ⟨a,b⟩
    ·exact .inl a
    ·right; unfold un at a
     cases z:h1 p with
     | none=>rw [z] at a; exact a
     | some u=>rw [z] at a; cases a
   refine ⟨h1,un k1' k2,fun p=>?_,p,f s' o' k1' _ (zck_ dd) p'⟩
   rcases j' p with ⟨a,b⟩ | ⟨a,b⟩
   ·unfold un at b ⊢
    cases z:h1 p with
    | none=>rw [z] at b; exact .inl ⟨rfl,by rw [b,a]⟩
    | some u =>
     rw [z] at b
     refine .inr ⟨?_,b⟩
     rw [a]
     rcases d2 p with y | y
     ·rw [y] at z; cases z
     ·exact y
   ·unfold un at a
    cases z:h1 p with
    | some u=>rw [z] at a; cases a
    | none =>
     rw [z] at a
     refine .inl ⟨rfl,?_⟩
     unfold un; rw [b]
     cases k1' p with
     | none=>exact a.symm
     | some u=>rfl
theorem Hold.froz {L:List Sl}{σ:St}{F h:Hp}(d:Dj F h) (q:Hold L σ F h):HoldF L σ (un F h):=by
 intro i s e
 obtain ⟨o,h1,h2,e1,j,p,_⟩:=q.at i e
 rw [e1]
 have d1:Dj F h1:=fun p=>by
  rcases d p with a | a
  ·exact .inl a
  ·exact .inr (j.l.free a)
 cases s with
 | dead=>trivial
 | fz T a=>obtain ⟨v,e2,r⟩:=p; exact ⟨v,e2,T.mono z1_ r⟩
 | ow O a =>
  obtain ⟨v,e2,r⟩:=p
  refine ⟨v,e2,O.fr.mono (fun p u z=>?_) (O.frz d1 r)⟩
  unfold un at z ⊢
  cases y:F p with
  | some w=>rw [y] at z; exact z
  | none=>rw [y] at z; exact j.l _ _ z
theorem Hold.coldF {L:List Sl}{σ:St}{F h:Hp}(q:Hold L σ F h):HoldF (L.map Sl.cold) σ F:=by
 intro i s e
 rw [List.getElem?_map] at e
 cases e1:L[i]? with
 | none=>rw [e1] at e; cases e
 | some t =>
  rw [e1] at e
  cases e
  obtain ⟨o,h1,h2,e2,j,p,_⟩:=q.at i e1
  rw [e2]
  cases t with
  | dead=>trivial
  | fz T a=>obtain ⟨v,e2,r⟩:=p; exact ⟨v,e2,r⟩
  | ow O a=>trivial
end L2
namespace L2
open PySem PySem.Spec PyProof.Rows
def After {α:Type}(K:Fgg) (r:Mo α) (E:XK) (F H:Hp) (k:α→Hp→Hp→Prop):Prop:=match r with
 | .ok a=>∀ F' H',Ext F H F' H'→k a F' H'
 | .ex c=>∀ F' H',Ext F H F' H'→E (.ref (gA K c)) none H'
 | .no=>False
section
variable {K:Fgg}{E:XK}{α β γ ρ:Type}{F H:Hp}
theorem After.bind {r:Mo α}{f:α→Mo β}{k:β→Hp→Hp→Prop}(h:After K (r.bind f) E F H k):After K r E F H fun a F1 H1=>After K (f a) E F1 H1 k:=by
 cases r with
 | ok a =>
  intro F1 H1 x
  have h':After K (f a) E F H k:=h
  cases e:f a with
  | ok b=>rw [e] at h'; exact fun F2 H2 y=>h' F2 H2 (x.trans y)
  | ex c=>rw [e] at h'; exact fun F2 H2 y=>h' F2 H2 (x.trans y)
  | no=>rw [e] at h'; exact h'
 | ex c=>exact h
 | no=>exact h
theorem After.imp {r:Mo α}{k k':α→Hp→Hp→Prop}(h:After K r E F H k) (g:∀ a F' H',Ext F H F' H'→k a F' H'→k' a F' H'):After K r E F H k':=by
 cases r with
 | ok a=>exact fun F' H' x=>g a F' H' x (h F' H' x)
 | ex c=>exact h
 | no=>exact h
theorem After.ok {a:α}{k:α→Hp→Hp→Prop}(hs:Same F H) (h:After K (.ok a) E F H k):k a F H:=h F H (.refl hs)
theorem After.noex {r:Mo α}{k:α→Hp→Hp→Prop}(h:After K r.noex E F H k):After K r E0 F H k:=by
 cases r with
 | ok a=>exact h
 | ex c=>exact h.elim
 | no=>exact h
theorem After.lim {n:Nat}{r:Mo α}{k:α→Hp→Hp→Prop}(h:After K (Mo.lim n r) E F H k):n≤sizeLine∧After K r E F H k:=by
 unfold Mo.lim at h
 split at h
 ·exact ⟨by assumption,h⟩
 ·exact h.elim
theorem After.grd {p:Prop} [Decidable p] {r:Mo α}{k:α→Hp→Hp→Prop}(h:After K (Mo.grd p r) E F H k):p∧After K r E F H k:=by
 unfold Mo.grd at h
 split at h
 ·exact ⟨by assumption,h⟩
 ·exact h.elim
theorem After.opt {x:Option α}{k:α→Hp→Hp→Prop}(h:After K (Mo.opt x) E F H k):∃ a,x=some a∧After K (.ok a) E F H k:=by
 cases x with
 | none=>exact h.elim
 | some a=>exact ⟨a,rfl,h⟩
def EvF (K:Fgg) (e:TE) (E:XK) (L:List Sl) (r:Mo α) (T:Ty α):Prop :=
 ∀ σ F H (Q:VK),HoldF L σ F→Same F H→After K r E F H (fun a F' H'=>∀ v,T.R a v F'→Q v H')→e σ H Q
def OwnK (O:Own α) (H:Hp) (Q:VK) (a:α) (F' H':Hp):Prop:=∀ v h,(∀ p,h p≠none→H p=none)→Dj F' h→Same h H'→O.O a v F' h→Q v H'
def EvO (K:Fgg) (e:TE) (E:XK) (L:List Sl) (r:Mo α) (O:Own α):Prop :=
 ∀ σ F H (Q:VK),HoldF L σ F→Same F H→After K r E F H (OwnK O H Q)→e σ H Q
def EvT (K:Fgg) (t:TT) (E:XK) (L:List Sl) (r:Mo Bool):Prop :=
 ∀ σ F H (Q:Bool→Hp→Prop),HoldF L σ F→Same F H→After K r E F H (fun b _ H'=>Q b H')→t σ H Q
def EvA (K:Fgg) (t:TA) (E:XK) (L:List Sl) (r:Mo γ) (C:Cs γ):Prop :=
 ∀ σ F H (Q:List V→Hp→Prop),HoldF L σ F→Same F H→After K r E F H (fun c F' H'=>∀ vs,C.R c vs F'→Q vs H')→t σ H Q
variable {L:List Sl}{e e1 e2:TE}{T:Ty α}{r:Mo α}
theorem EvO.fr {O:Own α}(h:EvO K e E L r O):EvF K e E L r O.fr:=by
 intro σ F H Q hL hs q
 refine h σ F H Q hL hs ?_
 cases r with
 | ok a =>
  intro F' H' x v h' fresh d s o
  refine q (un F' h') H' ⟨x.1.trans z1_,fun p o e=>?_,x.2.2.1,fun p a b=>?_⟩ v (O.frz d o)
  ·unfold un at e
   cases z:F' p with
   | some w=>rw [z] at e; cases e; exact x.2.1 _ _ z
   | none=>rw [z] at e; exact s _ _ e
  ·unfold un at b
   cases z:F' p with
   | some w=>exact x.2.2.2 p a (by rw [z]; exact Option.some_ne_none _)
   | none=>rw [z] at b; exact fresh p b
 | ex c=>exact q
 | no=>exact q
theorem EvF.ow (h:EvF K e E L r T):EvO K e E L r (owF T):=by
 intro σ F H Q hL hs q
 refine h σ F H Q hL hs (q.imp fun a F' H' x k v hv=>?_)
 exact k v (fun _=>none) (fun p z=>absurd rfl z) (fun p=>.inr rfl) (fun p o z=>by cases z) ⟨fun _=>rfl,hv⟩
theorem ev_c {v:V}{a:α}(h:∀ F,T.R a v F):EvF K (tC v) E L (.ok a) T:=fun σ F H Q hL hs q=>q.ok hs v (h F)
theorem zj_ (i:Int):EvF K (tC (.int i)) E L (.ok i) tyInt:=ev_c fun _=>rfl
theorem zbw_ (l:List Nat):EvF K (tC (tx l)) E L (.ok l) tyStr:=ev_c fun _=>rfl
theorem zj4_ (b:Bool):EvF K (tC (.bl b)) E L (.ok b) tyBl:=ev_c fun _=>rfl
theorem znv_:EvF K (tC .non) E L (.ok ()) tyNon:=ev_c fun _=>rfl
theorem zmY_ {β:Type}{T:Ty β}:EvF K (tC .non) E L (.ok (none:Option β)) (tyOpt T):=ev_c fun _=>rfl
theorem zmL_ (hn:∀ a v F,T.R a v F→v≠.non) (h:EvF K e E L r T):EvF K e E L (r.bind fun a=>.ok (some a)) (tyOpt T):=by
 intro σ F H Q hL hs q
 exact h σ F H Q hL hs (q.bind.imp fun a F1 H1 x k v hv=>k.ok x.2.1 v ⟨hv,hn _ _ _ hv⟩)
theorem zd_ (i:Nat) {a:α}(h:L[i]?=some (.fz T a)):EvF K (mVar i) E L (.ok a) T:=by
 intro σ F H Q hL hs q
 obtain ⟨v,e,r⟩:=hL i _ h
 unfold mVar
 cases z:σ[i]? with
 | none=>rw [z] at e; cases e
 | some o =>
  rw [z] at e
  cases (show o=some v from e)
  exact q.ok hs v r
theorem zgV_ (i:Nat) {O:Own α}{a:α}(h:L[i]?=some (.ow O a)):EvF K (mVar i) E L (.ok a) O.fr:=by
 intro σ F H Q hL hs q
 obtain ⟨v,e,r⟩:=hL i _ h
 unfold mVar
 cases z:σ[i]? with
 | none=>rw [z] at e; cases e
 | some o =>
  rw [z] at e
  cases (show o=some v from e)
  exact q.ok hs v r
def Op2 (K:Fgg) (m:R2) (E:XK) (T1:Ty α) (T2:Ty β) (g:α→β→Mo γ) (T:Ty γ):Prop :=
 ∀ a b x y F H (Q:VK),Same F H→T1.R a x F→T2.R b y F→After K (g a b) E F H (fun c F' H'=>∀ v,T.R c v F'→Q v H')→m x y H Q
def Op2O (K:Fgg) (m:R2) (E:XK) (T1:Ty α) (T2:Ty β) (g:α→β→Mo γ) (O:Own γ):Prop :=
 ∀ a b x y F H (Q:VK),Same F H→T1.R a x F→T2.R b y F→After K (g a b) E F H (OwnK O H Q)→m x y H Q
theorem OwnK.back {O:Own α}{H H1:Hp}{Q:VK}{a:α}{F' H':Hp}(g:Same H H1) (h:OwnK O H Q a F' H'):OwnK O H1 Q a F' H' :=
 fun v k fresh d s o=>h v k (fun p z=>g.free (fresh p z)) d s o
theorem zs_ {m:R2}{T1:Ty α}{T2:Ty β}{T:Ty γ}{g:α→β→Mo γ}{r1:Mo α}{r2:Mo β}(hop:Op2 K m E T1 T2 g T) (h1:EvF K e1 E L r1 T1) (h2:EvF K e2 E L r2 T2) :
  EvF K (tOp m e1 e2) E L (r1.bind fun a=>r2.bind fun b=>g a b) T:=by
 intro σ F H Q hL hs q
 refine h1 σ F H _ hL hs (q.bind.imp fun a F1 H1 x1 k1 v1 hv1=>?_)
 refine h2 σ F1 H1 _ (hL.mono x1.1) x1.2.1 (k1.bind.imp fun b F2 H2 x2 k2 v2 hv2=>?_)
 exact hop a b v1 v2 F2 H2 Q x2.2.1 (T1.mono x2.1 hv1) hv2 k2
theorem znb_ {m:R2}{T1:Ty α}{T2:Ty β}{O:Own γ}{g:α→β→Mo γ}{r1:Mo α}{r2:Mo β}(hop:Op2O K m E T1 T2 g O) (h1:EvF K e1 E L r1 T1) (h2:EvF K e2 E L r2 T2) :
  EvO K (tOp m e1 e2) E L (r1.bind fun a=>r2.bind fun b=>g a b) O:=by
 intro σ F H Q hL hs q
 refine h1 σ F H _ hL hs (q.bind.imp fun a F1 H1 x1 k1 v1 hv1=>?_)
 refine h2 σ F1 H1 _ (hL.mono x1.1) x1.2.1 (k1.bind.imp fun b F2 H2 x2 k2 v2 hv2=>?_)
 exact hop a b v1 v2 F2 H2 Q x2.2.1 (T1.mono x2.1 hv1) hv2 (k2.imp fun c F3 H3 x3 k3=>k3.back (x1.2.2.1.trans x2.2.2.1))
theorem zn7_ {g:Int→Int→V}{f:Int→Int→α}(h:∀ i j F,T.R (f i j) (g i j) F):Op2 K (mI0 g) E tyInt tyInt (fun i j=>.ok (f i j)) T:=by
 intro a b x y F H Q hs hx hy q
 cases hx; cases hy
 exact q.ok hs _ (h a b F)
theorem op_i {C:Int→Int→Prop} [∀ i j,Decidable (C i j)] {g:Int→Int→V}{f:Int→Int→α}(h:∀ i j F,T.R (f i j) (g i j) F):Op2 K (mI C g) E tyInt tyInt (fun i j=>.grd (C i j) (.ok (f i j))) T:=by
 intro a b x y F H Q hs hx hy q
 cases hx; cases hy
 obtain ⟨c,q⟩:=q.grd
 exact ⟨c,q.ok hs _ (h a b F)⟩
instance (i j:Int):Decidable (CMul i j):=inferInstanceAs (Decidable (_∨_))
instance (i j:Int):Decidable (CDiv i j):=inferInstanceAs (Decidable (_∧_))
instance (i j:Int):Decidable (CPow i j):=inferInstanceAs (Decidable (_∧_∧_))
theorem zaj_:Op2 K mAdd E tyInt tyInt (fun i j=>.ok (i+j)) tyInt:=by
 intro a b x y F H Q hs hx hy q
 cases hx; cases hy
 exact q.ok hs _ rfl
theorem zaP_:Op2 K mSub E tyInt tyInt (fun i j=>.ok (i-j)) tyInt:=zn7_ fun _ _ _=>rfl
theorem z3_:Op2 K mMod E tyInt tyInt (fun i j=>.grd (0<j) (.ok (i % j))) tyInt:=op_i (C:=fun _ j=>0<j) fun _ _ _=>rfl
theorem zni_:Op2 K mLt E tyInt tyInt (fun i j=>.ok (decide (i<j))) tyBl:=zn7_ fun _ _ _=>rfl
theorem zlT_:Op2 K mGt E tyInt tyInt (fun i j=>.ok (decide (j<i))) tyBl:=zn7_ fun _ _ _=>rfl
theorem zoM_:Op2 K mGe E tyInt tyInt (fun i j=>.ok (decide (j≤i))) tyBl:=zn7_ fun _ _ _=>rfl
theorem zby_:Op2 K mAdd E tyStr tyStr (fun i j=>.lim (i.length+j.length) (.ok (i++j))) tyStr:=by
 intro a b x y F H Q hs hx hy q
 cases hx; cases hy
 obtain ⟨c,q⟩:=q.lim
 exact ⟨c,q.ok hs _ rfl⟩
theorem Prs.append {xs ys:List α}{vs us:List V}(a:Prs T H xs vs) (b:Prs T H ys us):Prs T H (xs++ys) (vs++us):=by
 induction a with
 | nil=>exact b
 | cons r t ih=>exact .cons r ih
theorem Prs.len {xs:List α}{vs:List V}(a:Prs T H xs vs):xs.length=vs.length:=Paired.length a
theorem Prs.get {xs:List α}{vs:List V}(a:Prs T H xs vs) (i:Nat):(xs[i]?=none∧vs[i]?=none)∨∃ x v,xs[i]?=some x∧vs[i]?=some v∧T.R x v H:=by
 induction a generalizing i with
 | nil=>exact .inl ⟨rfl,rfl⟩
 | cons r t ih =>
  cases i with
  | zero=>exact .inr ⟨_,_,rfl,rfl,r⟩
  | succ i=>simpa using ih i
theorem Prs.take {xs:List α}{vs:List V}(a:Prs T H xs vs) (n:Nat):Prs T H (xs.take n) (vs.take n):=by
 induction a generalizing n with
 | nil=>rw [List.take_nil,List.take_nil]; exact .nil
 | cons r t ih =>
  cases n with
  | zero=>exact .nil
  | succ n=>exact .cons r (ih n)
theorem Prs.drop {xs:List α}{vs:List V}(a:Prs T H xs vs) (n:Nat):Prs T H (xs.drop n) (vs.drop n):=by
 induction a generalizing n with
 | nil=>rw [List.drop_nil,List.drop_nil]; exact .nil
 | cons r t ih =>
  cases n with
  | zero=>exact .cons r t
  | succ n=>exact ih n
theorem Prs.set {xs:List α}{vs:List V}(a:Prs T H xs vs) (i:Nat) {x:α}{v:V}(q:T.R x v H):Prs T H (xs.set i x) (vs.set i v):=by
 induction a generalizing i with
 | nil=>exact .nil
 | cons r t ih =>
  cases i with
  | zero=>exact .cons q t
  | succ i=>exact .cons r (ih i)
theorem znf_ {vs:List V}{xs:List α}{p:Addr}{F' H':Hp}{Q:VK}(hp:H p=none) (h2:H' p=some (.lst vs)) (hf:F' p=none) (hr:Prs T F' xs vs) (q:OwnK (owL T) H Q xs F' H'):Q (.ref p) H':=by
 refine q (.ref p) (one p (.lst vs)) (fun b z=>?_) (fun b=>?_) (fun b o z=>?_) ⟨p,vs,rfl,rfl,hr⟩
 ·unfold one at z; split at z
  ·rename_i e; rw [e]; exact hp
  ·exact absurd rfl z
 ·unfold one; split
  ·rename_i e; rw [e]; exact .inl hf
  ·exact .inr rfl
 ·unfold one at z; split at z
  ·rename_i e; rw [e]; cases z; exact h2
  ·cases z
theorem zd3_ {vs:List V}{xs:List α}{p:Addr}{Q:VK}(hs:Same F H) (hp:H p=none) (hr:Prs T F xs vs) (q:After K (.ok xs) E F H (OwnK (owL T) H Q)):Q (.ref p) (upd H p (.lst vs)) :=
 znf_ hp zat_ (hs.free hp) hr (q F _ (.heap hs (zcm_ hp _)))
theorem zmE_:Op2O K mAdd E (tyL T) (tyL T) (fun i j=>.lim (i.length+j.length) (.ok (i++j))) (owL T):=by
 rintro a b x y F H Q hs ⟨p,vs,rfl,h1,r1⟩ ⟨p2,us,rfl,h2,r2⟩ q
 obtain ⟨c,q⟩:=q.lim
 exact ⟨vs,us,hs _ _ h1,hs _ _ h2,by rw [← r1.len,← r2.len]; exact c,fun p hp=>zd3_ hs hp (r1.append r2) q⟩
theorem zom_:EvA K tNil E L (.ok ()) csNil:=fun σ F H Q hL hs q=>q.ok hs [] rfl
theorem zf_ (h:EvF K e E L r T):EvA K (tCons e tNil) E L r (csLast T):=by
 intro σ F H Q hL hs q
 exact h σ F H _ hL hs (q.imp fun a F1 H1 x k v hv=>k [v] ⟨v,rfl,hv⟩)
theorem zm_ {ta:TA}{r2:Mo γ}{C:Cs γ}(h:EvF K e E L r T) (h2:EvA K ta E L r2 C):EvA K (tCons e ta) E L (r.bind fun a=>r2.bind fun c=>.ok (a,c)) (csCons T C):=by
 intro σ F H Q hL hs q
 refine h σ F H _ hL hs (q.bind.imp fun a F1 H1 x1 k1 v1 hv1=>?_)
 refine h2 σ F1 H1 _ (hL.mono x1.1) x1.2.1 (k1.bind.imp fun c F2 H2 x2 k2 vs hvs=>?_)
 exact k2.ok x2.2.1 (v1::vs) ⟨v1,vs,rfl,T.mono x2.1 hv1,hvs⟩
def Ct (K:Fgg) (C:Cs γ) (f:γ→Mo ρ) (O:Own ρ):Sp:=fun vs H Q E=>∃ F c,Same F H∧C.R c vs F∧After K (f c) E F H (OwnK O H Q)
theorem zbo_ {C:Cs γ}{f:γ→Mo ρ}{O:Own ρ}{ta:TA}{r:Mo γ}(h:EvA K ta E L r C):EvO K (tCall (Ct K C f O) [] E0 ta) E L (r.bind fun c=>(f c).noex) O:=by
 intro σ F H Q hL hs q
 refine h σ F H _ hL hs (q.bind.imp fun c F1 H1 x1 k1 vs hvs=>?_)
 rw [List.append_nil]
 exact ⟨F1,c,x1.2.1,hvs,k1.noex.imp fun r F2 H2 x2 k2=>k2.back x1.2.2.1⟩
def Bl (K:Fgg) (m:List V→Hp→VK→Prop) (E:XK) (C:Cs γ) (g:γ→Mo α) (T:Ty α):Prop :=
 ∀ c vs F H (Q:VK),Same F H→C.R c vs F→After K (g c) E F H (fun c F' H'=>∀ v,T.R c v F'→Q v H')→m vs H Q
def BlO (K:Fgg) (m:List V→Hp→VK→Prop) (E:XK) (C:Cs γ) (g:γ→Mo α) (O:Own α):Prop :=
 ∀ c vs F H (Q:VK),Same F H→C.R c vs F→After K (g c) E F H (OwnK O H Q)→m vs H Q
theorem zeb_ {m:List V→Hp→VK→Prop}{C:Cs γ}{g:γ→Mo α}{ta:TA}{r:Mo γ}(hb:Bl K m E C g T) (h:EvA K ta E L r C):EvF K (tCB m ta) E L (r.bind g) T:=by
 intro σ F H Q hL hs q
 exact h σ F H _ hL hs (q.bind.imp fun c F1 H1 x1 k1 vs hvs=>hb c vs F1 H1 Q x1.2.1 hvs k1)
theorem zfP_ {m:List V→Hp→VK→Prop}{C:Cs γ}{g:γ→Mo α}{O:Own α}{ta:TA}{r:Mo γ}(hb:BlO K m E C g O) (h:EvA K ta E L r C):EvO K (tCB m ta) E L (r.bind g) O:=by
 intro σ F H Q hL hs q
 exact h σ F H _ hL hs (q.bind.imp fun c F1 H1 x1 k1 vs hvs=>hb c vs F1 H1 Q x1.2.1 hvs (k1.imp fun a F2 H2 x2 k2=>k2.back x1.2.2.1))
theorem zaK_:Bl K (mLen K) E (csLast (tyL T)) (fun l=>.ok (l.length:Int)) tyInt:=by
 rintro c vs F H Q hs ⟨v,rfl,p,us,rfl,h,r⟩ q
 exact ⟨us,.inl (.of (hs _ _ h)),q.ok hs _ (by rw [r.len])⟩
theorem zmh_:Bl K (mLen K) E (csLast (tySc K)) (fun l=>.ok (l.length:Int)) tyInt:=by
 rintro c vs F H Q hs ⟨v,rfl,p,rfl,h⟩ q
 exact ⟨_,.inl (hs.seq h),q.ok hs _ (by rw [List.length_map])⟩
theorem zo1_:Bl K (mTwo max) E (csCons tyInt (csLast tyInt)) (fun c=>.ok (max c.1 c.2)) tyInt:=by
 rintro c vs F H Q hs ⟨v,us,rfl,rfl,w,rfl,rfl⟩ q
 exact q.ok hs _ rfl
theorem zoQ_:Bl K (mTwo min) E (csCons tyInt (csLast tyInt)) (fun c=>.ok (min c.1 c.2)) tyInt:=by
 rintro c vs F H Q hs ⟨v,us,rfl,rfl,w,rfl,rfl⟩ q
 exact q.ok hs _ rfl
theorem zoF_:Bl K mStr E (csLast tyInt) (fun i=>.grd (i.natAbs.log2<1920) (.ok (strI i))) tyStr:=by
 rintro c vs F H Q hs ⟨v,rfl,rfl⟩ q
 obtain ⟨z,q⟩:=q.grd
 exact ⟨z,q.ok hs _ rfl⟩
theorem zkH_ {xs:List Int}:Prs tyInt H xs (xs.map V.int):=by
 induction xs with
 | nil=>exact .nil
 | cons x xs ih=>exact .cons rfl ih
theorem zfx_:Op2 K (mIx K) E tyStr tyInt (fun l i=>.lim l.length (.opt ((atI l i).map fun c=>[c]))) tyStr:=by
 rintro a b x y F H Q hs rfl rfl q
 obtain ⟨z,q⟩:=q.lim
 obtain ⟨l,e,q⟩:=q.opt
 refine ⟨z,?_⟩
 show (match atI a b with | some c=>Q (tx [c]) H | none=>False)
 cases e1:atI a b with
 | none=>rw [e1] at e; cases e
 | some c=>rw [e1] at e; cases e; exact q.ok hs _ rfl
theorem zkZ_ {xs:List α}{vs:List V}(r:Prs T H xs vs) {i:Int}{x:α}(e:atI xs i=some x):∃ v,atI vs i=some v∧T.R x v H:=by
 unfold atI at e ⊢
 rw [← r.len]
 cases e1:ixN xs.length i with
 | none=>rw [e1] at e; cases e
 | some j =>
  rw [e1] at e
  rcases r.get j with ⟨a,b⟩ | ⟨y,v,a,b,c⟩
  ·have:xs[j]?=some x:=e
   rw [a] at this; cases this
  ·have:xs[j]?=some x:=e
   rw [a] at this; cases this
   exact ⟨v,b,c⟩
theorem zaB_:Op2 K (mIx K) E (tyL T) tyInt (fun l i=>.opt (atI l i)) T:=by
 rintro a b x y F H Q hs ⟨p,vs,rfl,h,r⟩ rfl q
 obtain ⟨l,e,q⟩:=q.opt
 refine ⟨vs,.inl (.of (hs _ _ h)),?_⟩
 obtain ⟨v,e2,rv⟩:=zkZ_ r e
 rw [e2]
 exact q.ok hs v rv
theorem znU_:Op2 K (mIx K) E (tySc K) tyInt (fun l i=>.opt (atI l i)) tyInt:=by
 rintro a b x y F H Q hs ⟨p,rfl,h⟩ rfl q
 obtain ⟨l,e,q⟩:=q.opt
 refine ⟨_,.inl (hs.seq h),?_⟩
 obtain ⟨v,e2,rv⟩:=zkZ_ (H:=F) zkH_ e
 rw [e2]
 exact q.ok hs v rv
def CsAt (C:Cs γ) (i:Nat) (T:Ty α) (pr:γ→α):Prop:=∀ {c vs H},C.R c vs H→∃ v,vs[i]?=some v∧T.R (pr c) v H
theorem zfe_:CsAt (csLast T) 0 T id:=fun ⟨v,e,h⟩=>⟨v,by rw [e]; rfl,h⟩
theorem at_0 {C:Cs γ}:CsAt (csCons T C) 0 T Prod.fst:=fun ⟨v,us,e,h,q⟩=>⟨v,by rw [e]; rfl,h⟩
theorem at_s {C:Cs γ}{i:Nat}{pr:γ→α}{T':Ty β}(h:CsAt C i T pr):CsAt (csCons T' C) (i+1) T (fun c=>pr c.2):=fun ⟨v,us,e,_,q⟩=>by
 obtain ⟨w,e2,r⟩:=h q
 exact ⟨w,by rw [e]; exact e2,r⟩
theorem zef_ {C:Cs γ}{i:Nat}{pr:γ→α}{r:Mo γ}(ha:CsAt C i T pr) (h:EvF K e E L r (tyTup C)):EvF K (tOp (mIx K) e (tC (.int i))) E L (r.bind fun c=>.ok (pr c)) T:=by
 intro σ F H Q hL hs q
 refine h σ F H _ hL hs (q.bind.imp fun c F1 H1 x1 k1 v1 hq_=>?_)
 obtain ⟨p,us,ev,hp,hc⟩:=hq_
 subst ev
 obtain ⟨w,e2,rw'⟩:=ha hc
 refine ⟨us,.inr (.of (x1.2.1 _ _ hp)),?_⟩
 have e3:atI us (i:Int)=some w:=by
  unfold atI
  rw [zfW_ (by lia) (by have:=(List.getElem?_eq_some_iff.mp e2).1; lia)]
  simpa using e2
 rw [e3]
 exact k1.ok x1.2.1 w rw'
end
end L2
namespace L2
open PySem PySem.Spec PyProof.Rows
section
variable {K:Fgg}{E:XK}{α β γ ρ:Type}{F H:Hp}{L:List Sl}{e e1 e2:TE}{T:Ty α}{r:Mo α}
variable {t t1 t2:TT}{b b1 b2:Mo Bool}
theorem zbu_ (h:EvF K e E L b tyBl):EvT K (mTest e) E L b:=by
 intro σ F H Q hL hs q
 refine h σ F H _ hL hs (q.imp fun a F1 H1 x k v hv=>?_)
 cases hv
 exact k
theorem zlE_ (h:EvT K t E L b):EvT K (tNot t) E L (b.bind fun c=>.ok (!c)):=by
 intro σ F H Q hL hs q
 exact h σ F H _ hL hs (q.bind.imp fun a F1 H1 x k=>k.ok x.2.1)
theorem zoH_ (h1:EvT K t1 E L b1) (h2:EvT K t2 E L b2):EvT K (mAnd t1 t2) E L (b1.bind fun c=>if c then b2 else .ok false):=by
 intro σ F H Q hL hs q
 refine h1 σ F H _ hL hs (q.bind.imp fun a F1 H1 x k=>⟨fun c=>?_,fun c=>?_⟩)
 ·rw [if_pos c] at k; exact h2 σ F1 H1 _ (hL.mono x.1) x.2.1 k
 ·rw [if_neg (by rw [c]; decide)] at k; exact k.ok x.2.1
theorem et_or (h1:EvT K t1 E L b1) (h2:EvT K t2 E L b2):EvT K (mOr t1 t2) E L (b1.bind fun c=>if c then .ok true else b2):=by
 intro σ F H Q hL hs q
 refine h1 σ F H _ hL hs (q.bind.imp fun a F1 H1 x k=>⟨fun c=>?_,fun c=>?_⟩)
 ·rw [if_pos c] at k; exact k.ok x.2.1
 ·rw [if_neg (by rw [c]; decide)] at k; exact h2 σ F1 H1 _ (hL.mono x.1) x.2.1 k
theorem zo6_ (h1:EvF K e1 E L b1 tyBl) (h2:EvF K e2 E L b2 tyBl):EvF K (mAndV e1 e2) E L (b1.bind fun c=>if c then b2 else .ok false) tyBl:=by
 intro σ F H Q hL hs q
 refine h1 σ F H _ hL hs (q.bind.imp fun a F1 H1 x k v hv=>?_)
 cases hv
 refine ⟨fun c=>?_,fun c=>?_⟩
 ·rw [if_pos c] at k; exact h2 σ F1 H1 _ (hL.mono x.1) x.2.1 k
 ·rw [if_neg (by rw [c]; decide)] at k; exact k.ok x.2.1 _ rfl
theorem zfG_ {r:Mo Int}(h1:EvF K e1 E L r tyInt):EvF K (mNeg e1) E L (r.bind fun c=>.ok (-c)) tyInt:=by
 intro σ F H Q hL hs q
 refine h1 σ F H _ hL hs (q.bind.imp fun a F1 H1 x k v hv=>?_)
 cases hv
 exact k.ok x.2.1 _ rfl
theorem ev_if {r1 r2:Mo α}(ht:EvT K t E L b) (h1:EvF K e1 E L r1 T) (h2:EvF K e2 E L r2 T):EvF K (mIf t e1 e2) E L (b.bind fun c=>if c then r1 else r2) T:=by
 intro σ F H Q hL hs q
 refine ht σ F H _ hL hs (q.bind.imp fun a F1 H1 x k=>⟨fun c=>?_,fun c=>?_⟩)
 ·rw [if_pos c] at k; exact h1 σ F1 H1 _ (hL.mono x.1) x.2.1 k
 ·rw [if_neg (by rw [c]; decide)] at k; exact h2 σ F1 H1 _ (hL.mono x.1) x.2.1 k
theorem After.more {k:α→Hp→Hp→Prop}(h:After K r E F H k):After K r E F H fun a F1 H1=>∀ F2 H2,Ext F1 H1 F2 H2→k a F2 H2:=by
 cases r with
 | ok a=>exact fun F1 H1 x F2 H2 y=>h F2 H2 (x.trans y)
 | ex c=>exact h
 | no=>exact h
def CsN (C:Cs γ) (n:Nat):Prop:=∀ {c vs H},C.R c vs H→vs.length=n
theorem zgK_:CsN csNil 0:=fun e=>by rw [e]; rfl
theorem z6_:CsN (csLast T) 1:=fun ⟨v,e,_⟩=>by rw [e]; rfl
theorem zad_ {C:Cs γ}{n:Nat}(h:CsN C n):CsN (csCons T C) (n+1):=fun ⟨v,us,e,_,q⟩=>by rw [e,List.length_cons,h q]
theorem zmV_ {ta:TA}{C:Cs γ}{r:Mo γ}{n:Nat}(hl:CsN C n) (h:EvA K ta E L r C) (hn:n≤100:=by decide):EvF K (tTup ta) E L r (tyTup C):=by
 intro σ F H Q hL hs q
 refine h σ F H _ hL hs (q.more.imp fun c F1 H1 x1 k1 vs hvs=>⟨zdm_ (by rw [hl hvs]; lia),fun p hp=>?_⟩)
 have x:=Ext.new (o:=.tup vs) x1.2.1 hp
 exact k1 _ _ x _ ⟨p,vs,rfl,zat_,C.mono x.1 hvs⟩
def CsL (C:Cs γ) (T:Ty α) (f:γ→List α):Prop:=∀ {c vs H},C.R c vs H→Prs T H (f c) vs
theorem zco_:CsL (csLast T) T fun a=>[a]:=fun ⟨v,e,h⟩=>by rw [e]; exact .cons h .nil
theorem zcx_ {C:Cs γ}{f:γ→List α}(h:CsL C T f):CsL (csCons T C) T fun c=>c.1::f c.2:=fun ⟨v,us,e,q,z⟩=>by rw [e]; exact .cons q (h z)
theorem zfZ_ {ta:TA}{C:Cs γ}{r:Mo γ}{n:Nat}{f:γ→List α}(hl:CsN C n) (hf:CsL C T f) (h:EvA K ta E L r C) (hn:n≤100:=by decide):EvO K (tLst ta) E L (r.bind fun c=>.ok (f c)) (owL T):=by
 intro σ F H Q hL hs q
 refine h σ F H _ hL hs (q.bind.imp fun c F1 H1 x1 k1 vs hvs=>⟨zdm_ (by rw [hl hvs]; omega),fun p hp=>?_⟩)
 exact zd3_ x1.2.1 hp (hf hvs) (k1.imp fun a F2 H2 x2 k2=>k2.back x1.2.2.1)
theorem zbn_ (T:Ty α):EvO K (tLst tNil) E L (.ok []) (owL T):=by
 intro σ F H Q hL hs q
 exact ⟨Nat.zero_le _,fun p hp=>zd3_ hs hp (T:=T) .nil q⟩
def EvP (K:Fgg) (t:TO) (E:XK) (L:List Sl) (r:Mo (Option Int)):Prop :=
 ∀ σ F H (Q:Option Int→Hp→Prop),HoldF L σ F→Same F H→After K r E F H (fun b _ H'=>Q b H')→t σ H Q
theorem zoc_:EvP K tNoPart E L (.ok none):=fun σ F H Q hL hs q=>q.ok hs
theorem zfz_ {r:Mo Int}(h:EvF K e E L r tyInt):EvP K (mPart e) E L (r.bind fun i=>.ok (some i)):=by
 intro σ F H Q hL hs q
 refine h σ F H _ hL hs (q.bind.imp fun a F1 H1 x k v hv=>?_)
 cases hv
 exact k.ok x.2.1
def cutG (xs:List α) (lo hi:Option Int):List α:=(xs.drop (HT.sIx xs.length 0 lo)).take (HT.sIx xs.length xs.length hi-HT.sIx xs.length 0 lo)
theorem zk4_ {xs:List α}{vs:List V}(q:Prs T H xs vs) (lo hi:Option Int):Prs T H (cutG xs lo hi) (cutV vs lo hi):=by
 unfold cutG cutV
 rw [← q.len]
 exact (q.drop _).take _
variable {tl th:TO}{rl rh:Mo (Option Int)}
theorem zhc_ {r:Mo (List Nat)}(h:EvF K e E L r tyStr) (hl:EvP K tl E L rl) (hh:EvP K th E L rh):EvF K (tSl (mSl K) e tl th) E L (r.bind fun l=>rl.bind fun a=>rh.bind fun b=>.lim l.length (.ok (cutG l a b))) tyStr:=by
 intro σ F H Q hL hs q
 refine h σ F H _ hL hs (q.bind.imp fun l F1 H1 x1 k1 v hv=>?_)
 refine hl σ F1 H1 _ (hL.mono x1.1) x1.2.1 (k1.bind.imp fun a F2 H2 x2 k2=>?_)
 refine hh σ F2 H2 _ (hL.mono (x1.1.trans x2.1)) x2.2.1 (k2.bind.imp fun b F3 H3 x3 k3=>?_)
 cases hv
 obtain ⟨z,k3⟩:=k3.lim
 exact ⟨z,k3.ok x3.2.1 _ rfl⟩
theorem zlA_ {r:Mo (List α)}(h:EvF K e E L r (tyL T)) (hl:EvP K tl E L rl) (hh:EvP K th E L rh):EvO K (tSl (mSl K) e tl th) E L (r.bind fun l=>rl.bind fun a=>rh.bind fun b=>.ok (cutG l a b)) (owL T):=by
 intro σ F H Q hL hs q
 refine h σ F H _ hL hs (q.bind.imp fun l F1 H1 x1 k1 v hv=>?_)
 refine hl σ F1 H1 _ (hL.mono x1.1) x1.2.1 (k1.bind.imp fun a F2 H2 x2 k2=>?_)
 refine hh σ F2 H2 _ (hL.mono (x1.1.trans x2.1)) x2.2.1 (k2.bind.imp fun b F3 H3 x3 k3=>?_)
 obtain ⟨p,vs,rfl,hp,hr⟩:=hv
 have x:=x2.1.trans x3.1
 exact ⟨vs,.of (x3.2.1 _ _ (x _ _ hp)),fun q hq=>zd3_ x3.2.1 hq (zk4_ (hr.mono x) a b) (k3.imp fun _ _ _ _ z=>z.back ((x1.2.2.1.trans x2.2.2.1).trans x3.2.2.1))⟩
theorem zn3_ {r:Mo (List Int)}(h:EvF K e E L r (tySc K)) (hl:EvP K tl E L rl) (hh:EvP K th E L rh):EvO K (tSl (mSl K) e tl th) E L (r.bind fun l=>rl.bind fun a=>rh.bind fun b=>.ok (cutG l a b)) (owL tyInt):=by
 intro σ F H Q hL hs q
 refine h σ F H _ hL hs (q.bind.imp fun l F1 H1 x1 k1 v hv=>?_)
 refine hl σ F1 H1 _ (hL.mono x1.1) x1.2.1 (k1.bind.imp fun a F2 H2 x2 k2=>?_)
 refine hh σ F2 H2 _ (hL.mono (x1.1.trans x2.1)) x2.2.1 (k2.bind.imp fun b F3 H3 x3 k3=>?_)
 obtain ⟨p,rfl,hp⟩:=hv
 have x:=x2.1.trans x3.1
 exact ⟨_,x3.2.1.seq (x.seq hp),fun q hq=>zd3_ x3.2.1 hq (zk4_ zkH_ a b) (k3.imp fun _ _ _ _ z=>z.back ((x1.2.2.1.trans x2.2.2.1).trans x3.2.2.1))⟩
structure EqT (K:Fgg) (T:Ty α) (n:Nat) (q:α→α→Bool):Prop where
 eq:∀ {a b x y H},T.R a x H→T.R b y H→EqD K H n x y (q a b)
theorem zin_:EqT K tyStr 0 (fun a b=>decide (a=b)):=⟨by
 rintro a b x y H rfl rfl
 have:eqV (tx a) (tx b)=decide (a=b):=by
  unfold eqV
  rw [Bool.eq_iff_iff,decide_eq_true_iff]
  constructor
  ·intro h
   have h:=eq_of_beq h
   injection h with h
   have:=congrArg Array.toList h
   simpa using this
  ·rintro rfl; exact beq_self_eq_true _
 rw [← this]; exact .flat rfl rfl⟩
def eqL (q:α→α→Bool):List α→List α→Bool
 | [],[]=>true
 | x::xs,y::ys=>q x y && eqL q xs ys
 | _,_=>false
theorem zkw_ {q:α→α→Bool}:∀ {xs ys:List α},xs.length≠ys.length→eqL q xs ys=false
 | [],[],h=>absurd rfl h
 | [],_::_,_=>rfl
 | _::_,[],_=>rfl
 | x::xs,y::ys,h=>by unfold eqL; rw [zkw_ (by simpa using h),Bool.and_false]
theorem zkv_ {q:α→α→Bool}:∀ {xs ys:List α},xs.length=ys.length→eqL q xs ys=(List.range xs.length).all fun i=>match xs[i]?,ys[i]? with | some x,some y=>q x y | _,_=>true
 | [],[],_=>rfl
 | x::xs,y::ys,h=>by
  unfold eqL
  rw [List.length_cons,List.range_succ_eq_map,List.all_cons,List.all_map,zkv_ (by simpa using h)]
  rfl
theorem zn5_ {n:Nat}{q:α→α→Bool}(h:EqT K T n q):EqT K (tyL T) (n+1) (eqL q):=⟨by
 rintro a b x y H ⟨p,vs,rfl,hp,hr⟩ ⟨p2,us,rfl,hp2,hr2⟩
 by_cases hl:a.length=b.length
 ·rw [zkv_ hl,hr.len]
  refine .lst _ (.of hp) (.of hp2) (by rw [← hr.len,← hr2.len,hl]) fun i x y hx hy=>?_
  rcases hr.get i with ⟨_,z⟩ | ⟨x1,v1,e1,e2,r1⟩
  ·rw [z] at hx; cases hx
  rcases hr2.get i with ⟨_,z⟩ | ⟨x2,v2,e3,e4,r2⟩
  ·rw [z] at hy; cases hy
  rw [e2] at hx; cases hx
  rw [e4] at hy; cases hy
  simp only [e1,e3]
  exact h.eq r1 r2
 ·rw [zkw_ hl]
  exact .lstN (.of hp) (.of hp2) (by rw [← hr.len,← hr2.len]; exact hl)⟩
theorem zop_ {n:Nat}{q:α→α→Bool}(h:EqT K T n q) (hn:n≤50:=by decide) (hr:∀ {a x H},T.R a x H→∃ p,x=.ref p):Op2 K (mEqK K) E T T (fun a b=>.ok (q a b)) tyBl:=by
 intro a b x y F H Q hs hx hy k
 have hd:=h.eq (T.mono hs hx) (T.mono hs hy)
 obtain ⟨p,rfl⟩:=hr hx
 obtain ⟨p2,rfl⟩:=hr hy
 exact ⟨n,_,hn,hd,k.ok hs _ rfl⟩
theorem zoY_ {n:Nat}{q:α→α→Bool}(h:EqT K T n q) (hn:n≤50:=by decide) (hr:∀ {a x H},T.R a x H→∃ p,x=.ref p):Op2 K (mNeK K) E T T (fun a b=>.ok (!(q a b))) tyBl:=by
 intro a b x y F H Q hs hx hy k
 have hd:=h.eq (T.mono hs hx) (T.mono hs hy)
 obtain ⟨p,rfl⟩:=hr hx
 obtain ⟨p2,rfl⟩:=hr hy
 exact ⟨n,_,hn,hd,k.ok hs _ rfl⟩
theorem ref_l {a:List α}{x:V}{H:Hp}(h:(tyL T).R a x H):∃ p,x=.ref p:=by obtain ⟨p,_,e,_⟩:=h; exact ⟨p,e⟩
theorem zns_ {n:Nat}{q:α→α→Bool}(h:EqT K (tyL T) n (eqL q)) (hn:n≤50:=by decide):Op2 K (mEqK K) E (tyL T) (tyL T) (fun a b=>.ok (eqL q a b)) tyBl:=zop_ h hn ref_l
theorem zoA_ {n:Nat}{q:α→α→Bool}(h:EqT K (tyL T) n (eqL q)) (hn:n≤50:=by decide):Op2 K (mNeK K) E (tyL T) (tyL T) (fun a b=>.ok (!(eqL q a b))) tyBl:=zoY_ h hn ref_l
theorem zl6_:Op2 K (mEqK K) E tyInt tyInt (fun a b=>.ok (decide (a=b))) tyBl:=by
 rintro a b x y F H Q hs rfl rfl k
 exact k.ok hs _ rfl
theorem zoK_:Op2 K (mNeK K) E tyInt tyInt (fun a b=>.ok (!decide (a=b))) tyBl:=by
 rintro a b x y F H Q hs rfl rfl k
 exact k.ok hs _ rfl
theorem zmJ_:Op2 K (mNeK K) E tyStr tyStr (fun a b=>.ok (!decide (a=b))) tyBl:=by
 rintro a b x y F H Q hs rfl rfl k
 exact k.ok hs _ rfl
theorem znC_:Op2 K mIs E (tyOpt T) tyNon (fun a _=>.ok a.isNone) tyBl:=by
 rintro a b x y F H Q hs hx rfl k
 have:decide (x=.non)=a.isNone:=by
  cases a with
  | none=>cases hx; rfl
  | some a=>exact decide_eq_false hx.2
 show (match mIsB x .non with | some b=>Q (.bl b) H | none=>False)
 have e:mIsB x .non=some (decide (x=.non)):=rfl
 rw [e,this]
 exact k.ok hs _ rfl
theorem zk9_:Op2 K mIsNot E (tyOpt T) tyNon (fun a _=>.ok a.isSome) tyBl:=by
 rintro a b x y F H Q hs hx rfl k
 have:(!decide (x=.non))=a.isSome:=by
  cases a with
  | none=>cases hx; rfl
  | some a=>rw [decide_eq_false hx.2]; rfl
 show (match mIsB x .non with | some b=>Q (.bl (!b)) H | none=>False)
 have e:mIsB x .non=some (decide (x=.non)):=rfl
 rw [e]
 show Q (.bl (!decide (x=.non))) H
 rw [this]
 exact k.ok hs _ rfl
theorem zol_:Op2 K (mIn K false) E tyStr tyStr (fun a b=>.ok (inS a b)) tyBl:=by
 rintro a b x y F H Q hs rfl rfl k
 exact k.ok hs _ rfl
def TyN (K:Fgg) (T:Ty α) (n:String):Prop:=∀ {a x H},T.R a x H→tyS K H x n
theorem zog_:TyN K tyStr "str" := fun h=>by cases h; rfl
theorem tn_l:TyN K (tyL T) "list" := fun ⟨p,vs,e,h,_⟩=>by subst e; exact .inl ⟨rfl,vs,h⟩
theorem zm9_ {x:V}{n c:String}{bb:Bool}{Q:VK}(h:tyS K H x n) (hb:isaB n c=some bb) (q:Q (.bl bb) H):mIsa K [x,.ty c] H Q:=by
 cases x with
 | non=>cases (show n=_ from h); show (match isaB "NoneType" c with | some b=>Q (.bl b) H | none=>False); rw [hb]; exact q
 | bl _=>cases (show n=_ from h); show (match isaB "bool" c with | some b=>Q (.bl b) H | none=>False); rw [hb]; exact q
 | int _=>cases (show n=_ from h); show (match isaB "int" c with | some b=>Q (.bl b) H | none=>False); rw [hb]; exact q
 | str _=>cases (show n=_ from h); show (match isaB "str" c with | some b=>Q (.bl b) H | none=>False); rw [hb]; exact q
 | ref p=>exact ⟨n,h,by rw [hb]; exact q⟩
 | _=>exact h.elim
theorem znM_ {n c:String}{bb:Bool}(hn:TyN K T n) (h:EvF K e E L r T) (hb:isaB n c=some bb:=by decide):EvF K (tCB (mIsa K) (tCons e (tCons (tC (.ty c)) tNil))) E L (r.bind fun _=>.ok bb) tyBl:=by
 intro σ F H Q hL hs q
 refine h σ F H _ hL hs (q.bind.imp fun l F1 H1 x1 k1 v hv=>?_)
 exact zm9_ (hn (T.mono x1.2.1 hv)) hb (k1.ok x1.2.1 _ rfl)
def Me (K:Fgg) (m:V→List V→Hp→VK→Prop) (E:XK) (C:Cs γ) (g:List Nat→γ→Mo α) (T:Ty α):Prop :=
 ∀ l c vs F H (Q:VK),Same F H→C.R c vs F→After K (g l c) E F H (fun c F' H'=>∀ v,T.R c v F'→Q v H')→m (tx l) vs H Q
theorem zms_ {m:V→List V→Hp→VK→Prop}{C:Cs γ}{g:List Nat→γ→Mo α}{ta:TA}{r0:Mo (List Nat)}{r:Mo γ}(hb:Me K m E C g T) (h0:EvF K e E L r0 tyStr) (h:EvA K ta E L r C):EvF K (tBM K "str" m e ta) E L (r0.bind fun l=>r.bind fun c=>g l c) T:=by
 intro σ F H Q hL hs q
 refine h0 σ F H _ hL hs (q.bind.imp fun l F1 H1 x1 k1 v hv=>?_)
 cases hv
 refine ⟨rfl,h σ F1 H1 _ (hL.mono x1.1) x1.2.1 (k1.bind.imp fun c F2 H2 x2 k2 vs hvs=>hb l c vs F2 H2 Q x2.2.1 hvs k2)⟩
theorem zmv_:Me K mFind E (csLast tyStr) (fun l c=>.ok (findS l c)) tyInt:=by
 rintro l c vs F H Q hs ⟨v,rfl,rfl⟩ k
 exact k.ok hs _ rfl
theorem zmp_:Me K mIndex E (csLast tyStr) (fun l c=>.grd (findS l c ≠ -1) (.ok (findS l c))) tyInt:=by
 rintro l c vs F H Q hs ⟨v,rfl,rfl⟩ k
 obtain ⟨z,k⟩:=k.grd
 exact ⟨z,k.ok hs _ rfl⟩
def zfL (l:List Nat) (i:Int):List Nat:=(Txt.zfill ⟨l.toArray⟩ i).cps.toList
theorem zmb_:Me K mZfill E (csLast tyInt) (fun l i=>.grd (PadOk i=true) (.ok (zfL l i))) tyStr:=by
 rintro l c vs F H Q hs ⟨v,rfl,rfl⟩ k
 obtain ⟨z,k⟩:=k.grd
 exact ⟨z,k.ok hs _ rfl⟩
end
end L2
namespace L2
open PySem PySem.Spec PyProof.Rows
section
variable {K:Fgg}{E:XK}{α β γ ρ S S' B:Type}{F H:Hp}{L:List Sl}{e e1 e2:TE}{T:Ty α}{r:Mo α}
def setL (L:List Sl) (ss:List (Nat×Sl)):List Sl:=ss.foldl (fun L q=>L.set q.1 q.2) L
def setS (σ:St) (ss:List (Nat×Option V)):St:=ss.foldl (fun L q=>L.set q.1 q.2) σ
inductive Plain (F:Hp):List (Nat×Sl)→List (Nat×Option V)→Prop
 | nil:Plain F [] []
 | cons {α:Type}{T:Ty α}{a:α}{i:Nat}{v:V}{ss vs} (h:T.R a v F) (t:Plain F ss vs):Plain F ((i,.fz T a)::ss) ((i,some v)::vs)
def TgR (K:Fgg) (g:TG) (T:Ty α) (ss:α→List (Nat×Sl)):Prop :=
 ∀ a v σ F H (Q:St→Hp→Prop),Same F H→T.R a v F→(∀ vs,Plain F (ss a) vs→Q (setS σ vs) H)→g v σ H Q
theorem zM_ (i:Nat):TgR K (gName i) T fun a=>[(i,.fz T a)]:=by
 intro a v σ F H Q hs hv q
 exact q [(i,some v)] (.cons hv .nil)
def TgC (K:Fgg) (g:TGs) (C:Cs γ) (ss:γ→List (Nat×Sl)):Prop :=
 ∀ a vs σ F H (Q:St→Hp→Prop),Same F H→C.R a vs F→(∀ us,Plain F (ss a) us→Q (setS σ us) H)→g vs σ H Q
theorem zg6_ {g:TG}{ss:α→List (Nat×Sl)}(h:TgR K g T ss):TgC K (gConsM g gNilM) (csLast T) ss:=by
 rintro a vs σ F H Q hs ⟨v,rfl,hv⟩ q
 exact h a v σ F H _ hs hv fun us hu=>q us hu
theorem zgD_ (i:Nat) {g:TGs}{C:Cs γ}{ss:γ→List (Nat×Sl)}(h:TgC K g C ss):TgC K (gConsM (gName i) g) (csCons T C) fun c=>(i,.fz T c.1)::ss c.2:=by
 rintro a vs σ F H Q hs ⟨v,us,rfl,hv,hc⟩ q
 exact h a.2 us _ F H _ hs hc fun ws hw=>q ((i,some v)::ws) (.cons hv hw)
theorem zkh_ {n:Nat}{g:TGs}{C:Cs γ}{ss:γ→List (Nat×Sl)}(hn:CsN C n) (h:TgC K g C ss):TgR K (gTupM K n g) (tyTup C) ss:=by
 rintro a v σ F H Q hs ⟨p,us,rfl,hp,hc⟩ q
 exact ⟨us,.of (hs _ _ hp),hn hc,h a us σ F H Q hs hc q⟩
theorem zh6_ {σ:St}{i j:Nat}{o:Option V}(h:i<σ.length):((σ.set i o)[j]?).join=if i=j then o else (σ[j]?).join:=by
 rw [List.getElem?_set]
 split
 ·rename_i e; subst e; first | rfl | (rw [if_pos h]; rfl)
 ·rfl
theorem zjy_ {σ:St}{i:Nat}{s:Sl}{o:Option V}(hl:L.length=σ.length) (h:HoldF L σ F) (hs:s.Z o F):HoldF (L.set i s) (σ.set i o) F:=by
 intro j t e
 rw [List.getElem?_set] at e
 split at e
 ·rename_i z; subst z
  split at e
  ·rename_i y; cases e
   rw [zh6_ (by rw [← hl]; exact y),if_pos rfl]; exact hs
  ·cases e
 ·rename_i z
  by_cases y:i<σ.length
  ·rw [zh6_ y,if_neg z]; exact h j t e
  ·rw [List.set_eq_of_length_le (by lia)]; exact h j t e
theorem zhe_ {ss:List (Nat×Sl)}{vs:List (Nat×Option V)}(p:Plain F ss vs):∀ {L:List Sl}{σ:St},L.length=σ.length→HoldF L σ F→HoldF (setL L ss) (setS σ vs) F∧(setS σ vs).length=σ.length∧(setL L ss).length=L.length:=by
 induction p with
 | nil=>exact fun hl h=>⟨h,rfl,rfl⟩
 | cons hv t ih =>
  rename_i T a i v ss vs
  intro L σ hl h
  obtain ⟨a1,b,c⟩:=ih (L:=L.set i (.fz T a)) (σ:=σ.set i (some v)) (by rw [List.length_set,List.length_set]; exact hl) (zjy_ (s:=.fz T a) hl h ⟨v,rfl,hv⟩)
  exact ⟨a1,b.trans (by rw [List.length_set]),c.trans (by rw [List.length_set])⟩
def DeadAt (L:List Sl) (is:List Nat):Prop:=∀ i∈is,∀ s,L[i]?=some s→s=.dead
theorem zmg_ {ss:List (Nat×Sl)}{vs:List (Nat×Option V)}(p:Plain F ss vs) {j:Nat}:∀ {σ:St},j∉ss.map (·.1)→(setS σ vs)[j]?=σ[j]?:=by
 induction p with
 | nil=>exact fun _=>rfl
 | cons hv t ih =>
  rename_i i v ss vs
  intro σ hj
  have h1:i≠j:=fun z=>hj (by rw [← z]; exact List.mem_cons_self)
  have h2:=ih (σ:=σ.set i (some v)) fun z=>hj (List.mem_cons_of_mem _ z)
  exact h2.trans (List.getElem?_set_ne h1)
structure Yl (K:Fgg) (J:It) (xs:List α) (T:Ty α) (F1:Hp):Prop where
 go:∀ i H x,Same F1 H→xs[i]?=some x→J.go i H∧∀ v H',J.yld i H v H'→∀ F,Same F1 F→Same F H→∃ F',Ext F H F' H'∧T.R x v F'
 stop:∀ H,Same F1 H→J.stop xs.length H
def EvI (K:Fgg) (wi:TI) (E:XK) (L:List Sl) (r:Mo (List α)) (T:Ty α):Prop :=
 ∀ σ F H (R:It→Hp→Prop),HoldF L σ F→Same F H→After K r E F H (fun xs F' H'=>∀ J,Yl K J xs T F'→R J H')→wi σ H R
theorem zlu_ {r:Mo (List Nat)}(h:EvF K e E L r tyStr):EvI K (iAny K e) E L (r.bind fun l=>.ok (l.map fun c=>[c])) tyStr:=by
 intro σ F H R hL hs q
 refine h σ F H _ hL hs (q.bind.imp fun l F1 H1 x1 k1 v hv=>?_)
 cases hv
 refine k1.ok x1.2.1 _ ⟨fun i H x hH hx=>?_,fun H hH=>?_⟩
 ·rw [List.getElem?_map] at hx
  cases e:l[i]? with
  | none=>rw [e] at hx; cases hx
  | some c =>
   rw [e] at hx; cases hx
   have hi:=(List.getElem?_eq_some_iff.mp e).1
   refine ⟨hi,?_⟩
   rintro v H' ⟨rfl,rfl⟩ F _ hF
   refine ⟨F,.refl hF,?_⟩
   show tx [l.getD i 0]=tx [c]
   rw [List.getD_eq_getElem?_getD,e]; rfl
 ·show l.length≤(l.map fun c=>[c]).length
  rw [List.length_map]; exact Nat.le_refl _
theorem ei_l {r:Mo (List α)}(h:EvF K e E L r (tyL T)):EvI K (iAny K e) E L r T:=by
 intro σ F H R hL hs q
 refine h σ F H _ hL hs (q.imp fun l F1 H1 x1 k1 v hv=>?_)
 obtain ⟨p,vs,rfl,hp,hr⟩:=hv
 refine .inl ⟨⟨vs,.of (x1.2.1 _ _ hp)⟩,k1 _ ⟨fun i H x hH hx=>?_,fun H hH=>⟨vs,.of (hH _ _ hp),by rw [hr.len]; exact Nat.le_refl _⟩⟩⟩
 rcases hr.get i with ⟨a,_⟩ | ⟨y,u,a,b,c⟩
 ·rw [a] at hx; cases hx
 ·rw [a] at hx; cases hx
  refine ⟨⟨vs,u,.of (hH _ _ hp),b⟩,?_⟩
  rintro v H' ⟨rfl,z⟩ F hF hF'
  have e:=z vs (.of (hH _ _ hp))
  rw [b] at e; cases e
  exact ⟨F,.refl hF',T.mono hF c⟩
def rngI (lo:Int) (n:Nat):List Int:=(List.range n).map fun (i:Nat)=>lo+i
theorem znD_ {lo:Int}{n:Nat}{F1:Hp}:Yl K (Itr lo n) (rngI lo n) tyInt F1:=by
 refine ⟨fun i H x hH hx=>?_,fun H hH=>?_⟩
 ·unfold rngI at hx
  rw [List.getElem?_map] at hx
  cases e:(List.range n)[i]? with
  | none=>rw [e] at hx; cases hx
  | some c =>
   rw [e] at hx; cases hx
   obtain ⟨hi,e⟩:=List.getElem?_eq_some_iff.mp e
   rw [List.getElem_range] at e; subst e
   rw [List.length_range] at hi
   refine ⟨hi,?_⟩
   rintro v H' ⟨rfl,rfl⟩ F _ hF
   exact ⟨F,.refl hF,rfl⟩
 ·show n≤_
  unfold rngI; rw [List.length_map,List.length_range]; exact Nat.le_refl _
theorem zcD_ {r:Mo Int}{ta:TA}(h:EvA K ta E L r (csLast tyInt)):EvI K (mRng1 ta) E L (r.bind fun j=>.grd (-(2 ^ 62)≤j∧j<2 ^ 62) (.ok (rngI 0 j.toNat))) tyInt:=by
 intro σ F H R hL hs q
 refine h σ F H _ hL hs (q.bind.imp fun l F1 H1 x1 k1 v hv=>?_)
 obtain ⟨u,rfl,rfl⟩:=hv
 obtain ⟨z,k1⟩:=k1.grd
 exact ⟨z.1,z.2,k1.ok x1.2.1 _ znD_⟩
theorem zkU_ {r:Mo (Int×Int)}{ta:TA}(h:EvA K ta E L r (csCons tyInt (csLast tyInt))):EvI K (mRng2 ta) E L (r.bind fun c=>.grd (-(2 ^ 62)≤c.1∧c.1<2 ^ 62 ∧ -(2 ^ 62)≤c.2∧c.2<2 ^ 62) (.ok (rngI c.1 (c.2-c.1).toNat))) tyInt:=by
 intro σ F H R hL hs q
 refine h σ F H _ hL hs (q.bind.imp fun l F1 H1 x1 k1 v hv=>?_)
 obtain ⟨u,us,rfl,rfl,w,rfl,rfl⟩:=hv
 obtain ⟨z,k1⟩:=k1.grd
 exact ⟨z,k1.ok x1.2.1 _ znD_⟩
def enumL (xs:List α):List (Int×α):=(List.range xs.length).zip xs |>.map fun q=>((q.1:Int),q.2)
theorem zgA_ (xs:List α) (i:Nat):(enumL xs)[i]?=(xs[i]?).map fun x=>((i:Int),x):=by
 unfold enumL
 rw [List.getElem?_map]
 cases e:xs[i]? with
 | none =>
  have:=List.getElem?_eq_none_iff.mp e
  rw [List.getElem?_eq_none (by rw [List.length_zip,List.length_range]; lia)]; rfl
 | some x =>
  have hi:=(List.getElem?_eq_some_iff.mp e).1
  have:((List.range xs.length).zip xs)[i]?=some (i,x):=List.getElem?_zip_eq_some.mpr ⟨by rw [List.getElem?_range hi],e⟩
  rw [this]; rfl
theorem zcQ_ (xs:List α):(enumL xs).length=xs.length:=by unfold enumL; rw [List.length_map,List.length_zip,List.length_range,Nat.min_self]
def compM (f:α→Mo (Option β)):List α→List β→Mo (List β)
 | [],acc=>.ok acc
 | x::xs,acc=>(f x).bind fun o=>match o with | none=>compM f xs acc | some y=>.lim (acc.length+1) (compM f xs (acc++[y]))
theorem zap_ {f:α→Mo (Option β)}{g:α→β}:∀ {xs:List α}{acc:List β},(∀ x∈xs,f x=.ok (some (g x)))→acc.length+xs.length≤100000→compM f xs acc=.ok (acc++xs.map g)
 | [],acc,_,_=>by unfold compM; rw [List.map_nil,List.append_nil]
 | x::xs,acc,h,hl=>by
  rw [List.length_cons] at hl
  unfold compM
  rw [h x List.mem_cons_self,Mo.ok_bind]
  show Mo.lim _ _=_
  rw [Mo.lim_ok (by lia),zap_ (fun y hy=>h y (List.mem_cons_of_mem _ hy)) (by rw [List.length_append,List.length_singleton]; lia)]
  simp
def cL (lv:List Str) (fr:List (Str×Nat)) (L:List Sl):List Sl:=lv.map (fun _=>Sl.dead)++fr.map fun q=>(L[q.2]?).getD .dead
theorem ziG_ {lv:List Str}{fr:List (Str×Nat)}{σ:St}(h:HoldF L σ F):HoldF (cL lv fr L) (cS lv fr σ) F:=by
 intro i s e
 unfold cL at e
 unfold cS
 by_cases hi:i<lv.length
 ·rw [List.getElem?_append_left (by rw [List.length_map]; exact hi),List.getElem?_map,List.getElem?_eq_getElem hi] at e
  cases e; trivial
 ·rw [List.getElem?_append_right (by rw [List.length_map]; lia),List.length_map,List.getElem?_map] at e
  rw [List.getElem?_append_right (by rw [List.length_map]; lia),List.length_map,List.getElem?_map]
  cases z:fr[i-lv.length]? with
  | none=>rw [z] at e; cases e
  | some q =>
   rw [z] at e
   have e:(L[q.2]?).getD .dead=s:=by simpa using e
   show Sl.Z s (σ[q.2]?).join F
   cases y:L[q.2]? with
   | none=>rw [y] at e; rw [← e]; trivial
   | some t=>rw [y] at e; cases e; exact h _ _ y
theorem zlg_ {lv:List Str}{fr:List (Str×Nat)}{σ:St}:(cL lv fr L).length=(cS lv fr σ).length:=by unfold cL cS; simp
def cond1 (c:Mo Bool) (f:Mo β):Mo (Option β):=(c.bind fun b=>if b then f.bind fun y=>.ok (some y) else .ok none).noex
end
end L2
namespace L2
open PySem PySem.Spec PyProof.Rows
inductive Out (ρ B S:Type) where
 | nx (s:S) | rt (r:ρ) | bk (b:B) | ct (b:B)
def Okk (F0 H0 F h H:Hp):Prop:=Ext F0 H0 F H∧Dj F h∧Same h H∧(∀ p,h p≠none→H0 p=none)∧∀ p xs,h p≠some (.tup xs)
section
variable {K:Fgg}{E:XK}{α β γ ρ S S' B B':Type}{F0 H0 F h H:Hp}{L:List Sl}{e e1 e2:TE}{T:Ty α}{r:Mo α}{O:Own ρ}
def Fin (K:Fgg) (r:Mo (Out ρ B S)) (E:XK) (LS:S→List Sl) (LB:B→List Sl) (O:Own ρ) (F0 H0:Hp) (D:Ends):Prop:=match r with
 | .ok (.nx s)=>∀ σ F h H,Hold (LS s) σ F h→Okk F0 H0 F h H→D.nx σ H
 | .ok (.bk b)=>∀ σ F h H,Hold (LB b) σ F h→Okk F0 H0 F h H→D.bk σ H
 | .ok (.ct b)=>∀ σ F h H,Hold (LB b) σ F h→Okk F0 H0 F h H→D.ct σ H
 | .ok (.rt a)=>∀ v F h H,Okk F0 H0 F h H→O.O a v F h→D.rt v H
 | .ex c=>∀ F h H,Okk F0 H0 F h H→E (.ref (gA K c)) none H
 | .no=>False
def EvS (K:Fgg) (t:TS) (E:XK) (L:List Sl) (r:Mo (Out ρ B S)) (LS:S→List Sl) (LB:B→List Sl) (O:Own ρ):Prop :=
 ∀ F0 H0 σ F h H (D:Ends),Hold L σ F h→Okk F0 H0 F h H→Fin K r E LS LB O F0 H0 D→t D σ H
variable {t u:TS}{LS:S→List Sl}{LS':S'→List Sl}{LB:B→List Sl}
def thenO (r:Mo (Out ρ B S)) (k:S→Mo (Out ρ B S')):Mo (Out ρ B S'):=r.bind fun o=>match o with | .nx s=>k s | .rt a=>.ok (.rt a) | .bk b=>.ok (.bk b) | .ct b=>.ok (.ct b)
theorem zbY_ {r:Mo (Out ρ B S)}{k:S→Mo (Out ρ B S')}(h1:EvS K t E L r LS LB O) (h2:∀ s,EvS K u E (LS s) (k s) LS' LB O):EvS K (tSeq t u) E L (thenO r k) LS' LB O:=by
 intro F0 H0 σ F h H D hL ok fin
 refine h1 F0 H0 σ F h H { D with nx:=u D } hL ok ?_
 cases r with
 | no=>exact fin
 | ex c=>exact fin
 | ok o =>
  cases o with
  | nx s=>exact fun σ F h H hL ok=>h2 s F0 H0 σ F h H D hL ok fin
  | rt a=>exact fin
  | bk b=>exact fin
  | ct b=>exact fin
theorem Okk.thaw (ok:Okk F0 H0 F h H):Same (un F h) H:=fun p o e=>by
 unfold un at e
 cases z:F p with
 | some w=>rw [z] at e; cases e; exact ok.1.2.1 _ _ z
 | none=>rw [z] at e; exact ok.2.2.1 _ _ e
def less (G h:Hp):Hp:=fun p=>match h p with | none=>G p | some _=>none
theorem zB_ {G h:Hp}{p:Addr}(e:h p=none):less G h p=G p:=by unfold less; rw [e]
theorem Okk.back (ok:Okk F0 H0 F h H) {G' H':Hp}(x:Ext (un F h) H G' H'):Okk F0 H0 (less G' h) h H'∧Same F (less G' h)∧Tups G' (less G' h):=by
 obtain ⟨o1,o2,o3,o4,o5⟩:=ok
 have hs:Same F (less G' h):=fun p o e=>by
  have hp:h p=none:=by
   rcases o2 p with z | z
   ·rw [z] at e; cases e
   ·exact z
  rw [zB_ hp]; exact x.1 _ _ (z1_ _ _ e)
 refine ⟨⟨⟨o1.1.trans hs,fun p o e=>?_,o1.2.2.1.trans x.2.2.1,fun p a b=>?_⟩,fun p=>?_,fun p o e=>?_,o4,o5⟩,hs,fun p xs e=>?_⟩
 ·unfold less at e
  split at e
  ·exact x.2.1 _ _ e
  ·cases e
 ·unfold less at b
  split at b
  ·rename_i z
   cases y:un F h p with
   | none=>exact o1.2.2.1.free (x.2.2.2 p y b)
   | some o =>
    unfold un at y
    cases w:F p with
    | some _=>exact o1.2.2.2 p a (by rw [w]; exact Option.some_ne_none _)
    | none=>rw [w,z] at y; cases y
  ·exact absurd rfl b
 ·unfold less
  cases z:h p with
  | none=>exact .inr rfl
  | some o=>exact .inl rfl
 ·exact x.2.1 _ _ (x.1 _ _ (zfN_ o2 _ _ e))
 ·unfold less
  cases z:h p with
  | none=>exact e
  | some o =>
   have:=x.1 _ _ (zfN_ o2 _ _ z)
   rw [e] at this; cases this
   exact absurd z (o5 p xs)
theorem zag_ {r:Mo α}{k:α→Mo (Out ρ B S)}{G:Hp}{D:Ends}{kk:α→Hp→Hp→Prop}(ok:Okk F0 H0 F h H) (G1:Hp) (hG:G1=un F h∨G1=F) (fin:Fin K (r.bind k) E LS LB O F0 H0 D)
  (hk:∀ a F' H',r=.ok a→Ext G1 H F' H'→kk a F' H'):After K r E G1 H kk:=by
 cases r with
 | ok a=>exact fun F' H' x=>hk a F' H' rfl x
 | no=>exact fin
 | ex c =>
  intro F' H' x
  rcases hG with rfl | rfl
  ·exact fin _ _ _ (ok.back x).1
  ·refine fin F' h H' ⟨ok.1.trans x,fun p=>?_,ok.2.2.1.trans x.2.2.1,ok.2.2.2.1,ok.2.2.2.2⟩
   cases z:h p with
   | none=>exact .inr rfl
   | some o =>
    left
    rcases ok.2.1 p with y | y
    ·cases w:F' p with
     | none=>rfl
     | some o'=>have:=x.2.2.2 p y (by rw [w]; exact Option.some_ne_none _); rw [ok.2.2.1 _ _ z] at this; cases this
    ·rw [y] at z; cases z
theorem Okk.cold (ok:Okk F0 H0 F h H) {F' H':Hp}(x:Ext F H F' H'):Okk F0 H0 F' h H':=by
 refine ⟨ok.1.trans x,fun p=>?_,ok.2.2.1.trans x.2.2.1,ok.2.2.2.1,ok.2.2.2.2⟩
 cases z:h p with
 | none=>exact .inr rfl
 | some o =>
  left
  rcases ok.2.1 p with y | y
  ·cases w:F' p with
   | none=>rfl
   | some o'=>have:=x.2.2.2 p y (by rw [w]; exact Option.some_ne_none _); rw [ok.2.2.1 _ _ z] at this; cases this
  ·rw [y] at z; cases z
theorem zcC_ {i:Nat}{s:Sl}{σ:St}{a:α}{v:V}(hi:L[i]?=some s) (hL:Hold L σ F h) (hv:T.R a v F):Hold (L.set i (.fz T a)) (σ.set i (some v)) F h:=by
 obtain ⟨o,h1,h2,_,j,_,f⟩:=hL.at i hi
 exact f (.fz T a) (some v) h1 h j ⟨v,rfl,hv⟩
theorem zgR_ {i:Nat}{s:Sl}{σ:St}{a:α}{v:V}{O1:Own α}{hn:Hp}(ok:Okk F0 H0 F h H) (hi:L[i]?=some s) (hL:Hold L σ F h) (fresh:∀ p,hn p≠none→H0 p=none) (dj:Dj F hn) (dh:Dj hn h) (hs:Same hn H) (hv:O1.O a v F hn) :
  ∃ h',Hold (L.set i (.ow O1 a)) (σ.set i (some v)) F h'∧Okk F0 H0 F h' H:=by
 obtain ⟨o,h1,h2,_,j,_,f⟩:=hL.at i hi
 have d2:Dj hn h2:=fun p=>by
  rcases dh p with z | z
  ·exact .inl z
  ·exact .inr (j.r.free z)
 refine ⟨un hn h2,f (.ow O1 a) (some v) hn _ (zck_ d2) ⟨v,rfl,hv⟩,ok.1,fun p=>?_,fun p o e=>?_,fun p e=>?_,fun p xs e=>?_⟩
 ·unfold un
  cases z:hn p with
  | some w =>
   rcases dj p with y | y
   ·exact .inl y
   ·rw [y] at z; cases z
  | none =>
   rcases ok.2.1 p with y | y
   ·exact .inl y
   ·exact .inr (j.r.free y)
 ·unfold un at e
  cases z:hn p with
  | some w=>rw [z] at e; cases e; exact hs _ _ z
  | none=>rw [z] at e; exact ok.2.2.1 _ _ (j.r _ _ e)
 ·unfold un at e
  cases z:hn p with
  | some w=>exact fresh p (by rw [z]; exact Option.some_ne_none _)
  | none =>
   rw [z] at e
   cases y:h2 p with
   | none=>exact absurd y e
   | some w=>exact ok.2.2.2.1 p (by rw [j.r _ _ y]; exact Option.some_ne_none _)
 ·unfold un at e
  cases z:hn p with
  | some w=>rw [z] at e; cases e; exact O1.notup hv p xs z
  | none=>rw [z] at e; exact ok.2.2.2.2 p xs (j.r _ _ e)
theorem zb6_ {i:Nat}{s:Sl}{k:α→Mo (Out ρ B S)}(hi:L[i]?=some s) (hT:Imm T) (he:EvF K e E L r T) (hk:∀ a,EvS K u E (L.set i (.fz T a)) (k a) LS LB O):EvS K (tSeq (tAsg e (gName i)) u) E L (r.bind k) LS LB O:=by
 intro F0 H0 σ F h H D hL ok fin
 refine he σ (un F h) H _ (hL.froz ok.2.1) ok.thaw (zag_ (G:=F) ok _ (.inl rfl) fin fun a F' H' hr x v hv=>?_)
 obtain ⟨o,hs,ht⟩:=ok.back x
 rw [hr] at fin
 exact hk a F0 H0 _ _ h H' D (zcC_ hi (hL.mono hs) (hT ht hv)) o fin
theorem zna_ {hn h:Hp}(hh:Same h H) (fresh:∀ p,hn p≠none→H p=none):Dj hn h:=fun p=>by
 cases z:hn p with
 | none=>exact .inl rfl
 | some w =>
  have:=fresh p (by rw [z]; exact Option.some_ne_none _)
  exact .inr (hh.free this)
theorem za9_ {i:Nat}{s:Sl}{O1:Own α}{k:α→Mo (Out ρ B S)}(hi:L[i]?=some s) (hO:ImmO O1) (he:EvO K e E L r O1) (hk:∀ a,EvS K u E (L.set i (.ow O1 a)) (k a) LS LB O):EvS K (tSeq (tAsg e (gName i)) u) E L (r.bind k) LS LB O:=by
 intro F0 H0 σ F h H D hL ok fin
 refine he σ (un F h) H _ (hL.froz ok.2.1) ok.thaw (zag_ (G:=F) ok _ (.inl rfl) fin fun a F' H' hr x v hn fresh dj hsn hv=>?_)
 obtain ⟨o,hs,ht⟩:=ok.back x
 rw [hr] at fin
 have dj':Dj (less F' h) hn:=fun p=>by
  unfold less
  cases z:h p with
  | none=>exact dj p
  | some w=>exact .inl rfl
 obtain ⟨h',a1,a2⟩:=zgR_ o hi (hL.mono hs) (fun p z=>ok.1.2.2.1.free (fresh p z)) dj' (zna_ ok.2.2.1 fresh) hsn (hO ht hv)
 exact hk a F0 H0 _ _ h' H' D a1 a2 fin
theorem ziH_ {i:Nat}{s:Sl}{O1:Own α}{k:α→Mo (Out ρ B S)}(hi:L[i]?=some s) (he:EvO K e E (L.map Sl.cold) r O1) (hk:∀ a,EvS K u E (L.set i (.ow O1 a)) (k a) LS LB O):EvS K (tSeq (tAsg e (gName i)) u) E L (r.bind k) LS LB O:=by
 intro F0 H0 σ F h H D hL ok fin
 refine he σ F H _ hL.coldF ok.1.2.1 (zag_ (G:=F) ok _ (.inr rfl) fin fun a F' H' hr x v hn fresh dj hsn hv=>?_)
 rw [hr] at fin
 obtain ⟨h',a1,a2⟩:=zgR_ (ok.cold x) hi (hL.mono x.1) (fun p z=>ok.1.2.2.1.free (fresh p z)) dj (zna_ ok.2.2.1 fresh) hsn hv
 exact hk a F0 H0 _ _ h' H' D a1 a2 fin
theorem zaM_ {α:Type}{l:List α}{i:Nat}{o:α}(h:l[i]?=some o):l.set i o=l:=by
 obtain ⟨hi,e⟩:=List.getElem?_eq_some_iff.mp h
 rw [← e]; exact List.set_getElem_self hi
theorem zhH_ {i:Nat}{O1:Own α}{a:α}{r:Mo (Out ρ B S)}(hi:L[i]?=some (.ow O1 a)) (hk:EvS K u E (L.set i (.fz O1.fr a)) r LS LB O):EvS K u E L r LS LB O:=by
 intro F0 H0 σ F h H D hL ok fin
 obtain ⟨o,h1,h2,e1,j,⟨v,e2,hv⟩,f⟩:=hL.at i hi
 obtain ⟨o1,o2,o3,o4,o5⟩:=ok
 have dj1:Dj F h1:=fun p=>by
  rcases o2 p with z | z
  ·exact .inl z
  ·exact .inr (j.l.free z)
 have dj2:Dj F h2:=fun p=>by
  rcases o2 p with z | z
  ·exact .inl z
  ·exact .inr (j.r.free z)
 have g1:Hold (L.set i (.dead)) σ F h2:=by
  have:=f .dead o (fun _=>none) h2 (fun p=>.inl ⟨rfl,rfl⟩) trivial
  rwa [zaM_ e1] at this
 have g2:Hold (L.set i (.fz O1.fr a)) σ (un F h1) h2:=by
  have g3:=g1.mono (z1_ (h:=h1))
  have hi':(L.set i Sl.dead)[i]?=some .dead:=by
   rw [List.getElem?_set_self]
   exact (List.getElem?_eq_some_iff.mp hi).1
  have:=zcC_ (T:=O1.fr) hi' g3 (O1.frz dj1 hv)
  rw [List.set_set] at this
  subst e2
  rwa [zaM_ e1] at this
 refine hk F0 H0 σ _ h2 H D g2 ⟨⟨o1.1.trans z1_,fun p o e=>?_,o1.2.2.1,fun p a b=>?_⟩,fun p=>?_,j.r.trans o3,fun p z=>?_,fun p xs e=>o5 p xs (j.r _ _ e)⟩ fin
 ·unfold un at e
  cases z:F p with
  | some w=>rw [z] at e; cases e; exact o1.2.1 _ _ z
  | none=>rw [z] at e; exact o3 _ _ (j.l _ _ e)
 ·unfold un at b
  cases z:F p with
  | some w=>exact o1.2.2.2 p a (by rw [z]; exact Option.some_ne_none _)
  | none =>
   rw [z] at b
   cases y:h1 p with
   | none=>exact absurd y b
   | some w=>exact o4 p (by rw [j.l _ _ y]; exact Option.some_ne_none _)
 ·unfold un
  cases z:F p with
  | some w =>
   rcases dj2 p with y | y
   ·rw [y] at z; cases z
   ·exact .inr y
  | none=>exact j.dj p
 ·cases y:h2 p with
  | none=>exact absurd y z
  | some w=>exact o4 p (by rw [j.r _ _ y]; exact Option.some_ne_none _)
theorem zcA_ {r:Mo ρ}(hO:ImmO O) (he:EvO K e E L r O):EvS K (tRet e) E L (r.bind fun a=>.ok (.rt a)) LS LB O:=by
 intro F0 H0 σ F h H D hL ok fin
 refine he σ (un F h) H _ (hL.froz ok.2.1) ok.thaw (zag_ (G:=F) ok _ (.inl rfl) fin fun a F' H' hr x v hn fresh dj hsn hv=>?_)
 obtain ⟨o,hs,ht⟩:=ok.back x
 rw [hr] at fin
 refine fin v _ hn H' ⟨o.1,fun p=>?_,hsn,fun p z=>ok.1.2.2.1.free (fresh p z),O.notup hv⟩ (hO ht hv)
 unfold less
 cases z:h p with
 | none=>exact dj p
 | some w=>exact .inl rfl
theorem zoJ_ {r:Mo ρ}(he:EvO K e E (L.map Sl.cold) r O):EvS K (tRet e) E L (r.bind fun a=>.ok (.rt a)) LS LB O:=by
 intro F0 H0 σ F h H D hL ok fin
 refine he σ F H _ hL.coldF ok.1.2.1 (zag_ (G:=F) ok _ (.inr rfl) fin fun a F' H' hr x v hn fresh dj hsn hv=>?_)
 rw [hr] at fin
 exact fin v _ hn H' ⟨ok.1.trans x,dj,hsn,fun p z=>ok.1.2.2.1.free (fresh p z),O.notup hv⟩ hv
theorem znk_ {i:Nat}{a:ρ}(hi:L[i]?=some (.ow O a)):EvS K (tRet (mVar i)) E L (.ok (.rt a)) LS LB O:=by
 intro F0 H0 σ F h H D hL ok fin
 obtain ⟨o,h1,h2,e1,j,⟨v,e2,hv⟩,f⟩:=hL.at i hi
 subst e2
 show mVar i σ H D.rt
 unfold mVar
 rw [e1]
 obtain ⟨o1,o2,o3,o4,o5⟩:=ok
 refine fin v F h1 H ⟨o1,fun p=>?_,j.l.trans o3,fun p z=>?_,O.notup hv⟩ hv
 ·rcases o2 p with z | z
  ·exact .inl z
  ·exact .inr (j.l.free z)
 ·cases y:h1 p with
  | none=>exact absurd y z
  | some w=>exact o4 p (by rw [j.l _ _ y]; exact Option.some_ne_none _)
theorem s_if {c:TT}{b:Mo Bool}{r1 r2:Mo (Out ρ B S)}(hc:EvT K c E L b) (h1:EvS K t E L r1 LS LB O) (h2:EvS K u E L r2 LS LB O):EvS K (mIfS c t u) E L (b.bind fun c=>if c then r1 else r2) LS LB O:=by
 intro F0 H0 σ F h H D hL ok fin
 refine hc σ (un F h) H _ (hL.froz ok.2.1) ok.thaw (zag_ (G:=F) ok _ (.inl rfl) fin fun a F' H' hr x=>?_)
 obtain ⟨o,hs,ht⟩:=ok.back x
 rw [hr] at fin
 have fin':Fin K (if a then r1 else r2) E LS LB O F0 H0 D:=fin
 refine ⟨fun z=>?_,fun z=>?_⟩
 ·rw [if_pos z] at fin'; exact h1 F0 H0 σ _ h H' D (hL.mono hs) o fin'
 ·rw [if_neg (by rw [z]; decide)] at fin'; exact h2 F0 H0 σ _ h H' D (hL.mono hs) o fin'
inductive Sub:List Sl→List Sl→Prop
 | nil:Sub [] []
 | same {s:Sl}{L L':List Sl}(h:Sub L L'):Sub (s::L) (s::L')
 | dead {s:Sl}{L L':List Sl}(h:Sub L L'):Sub (s::L) (.dead::L')
theorem Sub.hold {L L':List Sl}(w:Sub L L'):∀ {σ:St}{F h:Hp},Hold L σ F h→Hold L' σ F h:=by
 induction w with
 | nil=>exact fun h=>h
 | same _ ih =>
  intro σ F h q
  cases σ with
  | nil=>exact q.elim
  | cons o σ=>obtain ⟨h1,h2,j,p,r⟩:=q; exact ⟨h1,h2,j,p,ih r⟩
 | dead _ ih =>
  intro σ F h q
  cases σ with
  | nil=>exact q.elim
  | cons o σ=>obtain ⟨h1,h2,j,p,r⟩:=q; exact ⟨h1,h2,j,trivial,ih r⟩
theorem zw_ {s:S}(w:Sub L (LS s)):EvS K tNext E L (.ok (.nx s)) LS LB O:=fun F0 H0 σ F h H D hL ok fin=>fin σ F h H (w.hold hL) ok
theorem zch_ {r:Mo (Out ρ B S)}(h:EvS K (tSeq t tNext) E L r LS LB O):EvS K t E L r LS LB O:=h
def forO (step:S→α→Mo (Out ρ S S)):List α→S→Mo (Out ρ B S)
 | [],s=>.ok (.nx s)
 | x::xs,s=>(step s x).bind fun o=>match o with | .nx s'=>forO step xs s' | .ct s'=>forO step xs s' | .bk s'=>.ok (.nx s') | .rt a=>.ok (.rt a)
theorem ze2_ {ss:List (Nat×Sl)}{vs:List (Nat×Option V)}(p:Plain F ss vs):∀ {L:List Sl}{σ:St},Hold L σ F h→Hold (setL L ss) (setS σ vs) F h:=by
 induction p with
 | nil=>exact fun h=>h
 | cons hv t ih =>
  rename_i T a i v ss vs
  intro L σ q
  refine ih (L:=L.set i (.fz T a)) (σ:=σ.set i (some v)) ?_
  by_cases hi:i<L.length
  ·exact zcC_ (List.getElem?_eq_getElem hi) q hv
  ·rw [List.set_eq_of_length_le (by lia),List.set_eq_of_length_le (by have:=q.len; lia)]; exact q
theorem Okk.rebase {F1 H1:Hp}(x:Ext F0 H0 F1 H1) (ok:Okk F0 H0 F h H) (s:Same F1 F):Okk F1 H0 F h H:=by
 obtain ⟨o1,o2,o3,o4,o5⟩:=ok
 refine ⟨⟨s,o1.2.1,o1.2.2.1,fun p a b=>o1.2.2.2 p (x.1.free a) b⟩,o2,o3,o4,o5⟩
theorem Okk.unbase {F1 H1:Hp}(x:Ext F0 H0 F1 H1) (ok:Okk F1 H0 F h H):Okk F0 H0 F h H:=by
 obtain ⟨o1,o2,o3,o4,o5⟩:=ok
 refine ⟨⟨x.1.trans o1.1,o1.2.1,o1.2.2.1,fun p a b=>?_⟩,o2,o3,o4,o5⟩
 cases z:F1 p with
 | none=>exact o1.2.2.2 p z b
 | some w=>exact x.2.2.2 p a (by rw [z]; exact Option.some_ne_none _)
theorem zed_ {wi:TI}{g:TG}{tb:TS}{s0:S}{r:Mo (List α)}{ss:α→List (Nat×Sl)}{step:S→α→Mo (Out ρ S S)}(hi:EvI K wi E ((LS s0).map Sl.cold) r T) (hg:TgR K g T ss)
  (hb:∀ s a,EvS K tb E (setL (LS s) (ss a)) (step s a) LS LS O):EvS K (tFor wi g tb) E (LS s0) (r.bind fun xs=>forO step xs s0) LS LB O:=by
 intro F0 H0 σ F h H D hL ok fin
 refine hi σ F H _ hL.coldF ok.1.2.1 (zag_ (G:=F) ok _ (.inr rfl) fin fun xs F1 H1 hr x1 J Y=>?_)
 rw [hr] at fin
 have xx:=ok.1.trans x1
 refine ⟨fun i m σ H=>m=xs.length-i∧i≤xs.length∧∃ s F h,Hold (LS s) σ F h∧Okk F1 H0 F h H∧Fin K (forO (B:=B) step (xs.drop i) s) E LS LB O F0 H0 D,
  ⟨_,rfl,Nat.zero_le _,s0,F1,h,hL.mono x1.1,(ok.cold x1).rebase xx (Same.refl _),fin⟩,?_⟩
 rintro i m σ H ⟨rfl,hi,s,F,h,hL,ok,fin⟩
 have s1:Same F1 H:=ok.1.1.trans ok.1.2.1
 by_cases hlt:i<xs.length
 ·right
  obtain ⟨g1,g2⟩:=Y.go i H xs[i] s1 (List.getElem?_eq_getElem hlt)
  refine ⟨g1,fun σ' H'=>i+1≤xs.length∧∃ s F h,Hold (LS s) σ' F h∧Okk F1 H0 F h H'∧Fin K (forO (B:=B) step (xs.drop (i+1)) s) E LS LB O F0 H0 D,fun σ' H' z=>⟨xs.length-(i+1),by omega,rfl,z⟩,fun v H2 hy=>?_⟩
  obtain ⟨F2,x2,hv⟩:=g2 v H2 hy F ok.1.1 ok.1.2.1
  refine hg xs[i] v σ F2 H2 _ x2.2.1 hv fun vs hp=>?_
  refine hb s xs[i] F1 H0 _ F2 h H2 _ (ze2_ hp (hL.mono x2.1)) (ok.cold x2) ?_
  rw [List.drop_eq_getElem_cons hlt] at fin
  unfold forO at fin
  cases e:step s xs[i] with
  | no=>rw [e] at fin; exact fin
  | ex c=>rw [e] at fin; exact fun F h H ok=>fin F h H (ok.unbase xx)
  | ok o =>
   rw [e] at fin
   cases o with
   | nx s'=>exact fun σ' F' h' H' hL' ok'=>⟨hlt,s',F',h',hL',ok',fin⟩
   | ct s'=>exact fun σ' F' h' H' hL' ok'=>⟨hlt,s',F',h',hL',ok',fin⟩
   | bk s'=>exact fun σ' F' h' H' hL' ok'=>fin σ' F' h' H' hL' (ok'.unbase xx)
   | rt a=>exact fun v F h H ok=>fin v F h H (ok.unbase xx)
 ·left
  have e:i=xs.length:=by omega
  subst e
  rw [List.drop_length] at fin
  exact ⟨Y.stop H s1,fin σ F h H hL (ok.unbase xx)⟩
theorem zar_ {i:Nat}{σ:St}{xs:List α}(hL:Hold L σ F h) (hi:L[i]?=some (.ow (owL T) xs)) (ok:Okk F0 H0 F h H) :
  ∃ p vs,σ[i]?=some (some (.ref p))∧H p=some (.lst vs)∧Prs T F xs vs∧∀ xs' vs',Prs T F xs' vs'→∃ h',Hold (L.set i (.ow (owL T) xs')) σ F h'∧Okk F0 H0 F h' (upd H p (.lst vs')):=by
 obtain ⟨o,h1,h2,e1,j,⟨v,e2,p,vs,rfl,rfl,hr⟩,f⟩:=hL.at i hi
 subst e2
 obtain ⟨o1,o2,o3,o4,o5⟩:=ok
 have hp:h p=some (.lst vs):=j.l _ _ zaA_
 have h2p:h2 p=none:=by
  rcases j.dj p with z | z
  ·rw [zaA_] at z; cases z
  ·exact z
 have Fp:F p=none:=by
  rcases o2 p with z | z
  ·exact z
  ·rw [hp] at z; cases z
 have H0p:H0 p=none:=o4 p (by rw [hp]; exact Option.some_ne_none _)
 refine ⟨p,vs,e1,o3 _ _ hp,hr,fun xs' vs' hr'=>?_⟩
 have d2:Dj (one p (.lst vs')) h2:=fun q=>by
  unfold one; split
  ·rename_i z; rw [z]; exact .inr h2p
  ·exact .inl rfl
 have g:=f (.ow (owL T) xs') (some (.ref p)) (one p (.lst vs')) _ (zck_ d2) ⟨_,rfl,p,vs',rfl,rfl,hr'⟩
 rw [zaM_ e1] at g
 refine ⟨_,g,⟨o1.1,fun q o z=>?_,fun q o z=>?_,o1.2.2.2⟩,fun q=>?_,fun q o z=>?_,fun q z=>?_,fun q ys z=>?_⟩
 ·unfold upd; split
  ·rename_i w; rw [w,Fp] at z; cases z
  ·exact o1.2.1 _ _ z
 ·unfold upd; split
  ·rename_i w; rw [w,H0p] at z; cases z
  ·exact o1.2.2.1 _ _ z
 ·by_cases w:q=p
  ·rw [w]; exact .inl Fp
  ·unfold un one; simp only [if_neg w]
   rcases o2 q with z | z
   ·exact .inl z
   ·exact .inr (j.r.free z)
 ·unfold un one at z
  unfold upd
  by_cases w:q=p
  ·rw [if_pos w]; simp only [if_pos w] at z; exact z
  ·rw [if_neg w]; simp only [if_neg w] at z; exact o3 _ _ (j.r _ _ z)
 ·unfold un one at z
  by_cases w:q=p
  ·rw [w]; exact H0p
  ·simp only [if_neg w] at z
   cases y:h2 q with
   | none=>exact absurd y z
   | some u=>exact o4 q (by rw [j.r _ _ y]; exact Option.some_ne_none _)
 ·unfold un one at z
  by_cases w:q=p
  ·simp only [if_pos w] at z; cases z
  ·simp only [if_neg w] at z; exact o5 q ys (j.r _ _ z)
theorem za6_ {i:Nat}{σ:St}{v:V}{Q:VK}(e:σ[i]?=some (some v)) (q:Q v H):mVar i σ H Q:=by unfold mVar; rw [e]; exact q
theorem zdj_ {n:Nat}{r:Mo (Out ρ B S)}{D:Ends}(h:Fin K (Mo.lim n r) E LS LB O F0 H0 D):n≤sizeLine∧Fin K r E LS LB O F0 H0 D:=by
 unfold Mo.lim at h
 split at h
 ·exact ⟨by assumption,h⟩
 ·exact h.elim
theorem zkI_ {x:Option α}{k:α→Mo (Out ρ B S)}{D:Ends}(h:Fin K ((Mo.opt x).bind k) E LS LB O F0 H0 D):∃ a,x=some a∧Fin K (k a) E LS LB O F0 H0 D:=by
 cases x with
 | none=>exact h.elim
 | some a=>exact ⟨a,rfl,h⟩
theorem zdb_ {i:Nat}{xs:List α}{k:α→Mo (Out ρ B S)}(hi:L[i]?=some (.ow (owL T) xs)) (hT:Imm T) (he:EvF K e E L r T) (hk:∀ a,EvS K u E (L.set i (.ow (owL T) (xs++[a]))) (k a) LS LB O) :
  EvS K (tSeq (tDrop (tBM K "list" rAppend (mVar i) (tCons e tNil))) u) E L (r.bind fun a=>.lim (xs.length+1) (k a)) LS LB O:=by
 intro F0 H0 σ F h H D hL ok fin
 obtain ⟨p,vs,e1,hp,hr,_⟩:=zar_ hL hi ok
 show mVar i σ H fun x H1=>tyV K "list" x H1∧tCons e tNil σ H1 fun xs H2=>rAppend x xs H2 (fun _ H3=>u D σ H3)
 refine za6_ e1 ⟨.inl ⟨rfl,vs,.of hp⟩,?_⟩
 refine he σ (un F h) H _ (hL.froz ok.2.1) ok.thaw (zag_ (G:=F) ok _ (.inl rfl) fin fun a F' H' hra x v hv=>?_)
 obtain ⟨o,hs,ht⟩:=ok.back x
 rw [hra] at fin
 obtain ⟨hz,fin⟩:=zdj_ (show Fin K (Mo.lim (xs.length+1) (k a)) E LS LB O F0 H0 D from fin)
 obtain ⟨p',vs',e1',hp',hr',mm⟩:=zar_ (hL.mono hs) hi o
 rw [e1] at e1'; cases e1'
 obtain ⟨h',a1,a2⟩:=mm (xs++[a]) (vs'++[v]) (hr'.append (.cons (hT ht hv) .nil))
 exact ⟨p,vs',v,rfl,rfl,hp',by rw [← hr'.len]; lia,hk a F0 H0 σ _ h' _ D a1 a2 fin⟩
theorem zi9_ {i:Nat}{xs:List α}{r:Mo (List α)}{k:List α→Mo (Out ρ B S)}(hi:L[i]?=some (.ow (owL T) xs)) (hT:Imm T) (he:EvF K e E L r (tyL T)) (hk:∀ a,EvS K u E (L.set i (.ow (owL T) (xs++a))) (k a) LS LB O) :
  EvS K (tSeq (tDrop (tBM K "list" rExtend (mVar i) (tCons e tNil))) u) E L (r.bind fun a=>.lim (xs.length+a.length) (k a)) LS LB O:=by
 intro F0 H0 σ F h H D hL ok fin
 obtain ⟨p,vs,e1,hp,hr,_⟩:=zar_ hL hi ok
 show mVar i σ H fun x H1=>tyV K "list" x H1∧tCons e tNil σ H1 fun xs H2=>rExtend x xs H2 (fun _ H3=>u D σ H3)
 refine za6_ e1 ⟨.inl ⟨rfl,vs,.of hp⟩,?_⟩
 refine he σ (un F h) H _ (hL.froz ok.2.1) ok.thaw (zag_ (G:=F) ok _ (.inl rfl) fin fun a F' H' hra x v hq_=>?_)
 obtain ⟨p2,us,ev,hp2,hr2⟩:=hq_
 obtain ⟨o,hs,ht⟩:=ok.back x
 rw [hra] at fin
 subst ev
 obtain ⟨hz,fin⟩:=zdj_ (show Fin K (Mo.lim (xs.length+a.length) (k a)) E LS LB O F0 H0 D from fin)
 obtain ⟨p',vs',e1',hp',hr',mm⟩:=zar_ (hL.mono hs) hi o
 rw [e1] at e1'; cases e1'
 obtain ⟨h',a1,a2⟩:=mm (xs++a) (vs'++us) (hr'.append (hr2.imm hT ht))
 exact ⟨p,p2,vs',us,rfl,rfl,hp',x.2.1 _ _ hp2,by rw [← hr'.len,← hr2.len]; exact hz,hk a F0 H0 σ _ h' _ D a1 a2 fin⟩
theorem zmT_ {i:Nat}{xs:List α}{k:Mo (Out ρ B S)}(hi:L[i]?=some (.ow (owL T) xs)) (hk:EvS K u E (L.set i (.ow (owL T) [])) k LS LB O) :
  EvS K (tSeq (tDrop (tBM0 K "list" rClear (mVar i))) u) E L k LS LB O:=by
 intro F0 H0 σ F h H D hL ok fin
 obtain ⟨p,vs,e1,hp,hr,mm⟩:=zar_ hL hi ok
 obtain ⟨h',a1,a2⟩:=mm [] [] .nil
 show mVar i σ H fun x H1=>tyV K "list" x H1∧rClear x [] H1 (fun _ H3=>u D σ H3)
 exact za6_ e1 ⟨.inl ⟨rfl,vs,.of hp⟩,p,vs,rfl,rfl,hp,hk F0 H0 σ _ h' _ D a1 a2 fin⟩
theorem zno_ {i:Nat}{xs:List α}{ei:TE}{ri:Mo Int}{k:List α→Mo (Out ρ B S)}(hi:L[i]?=some (.ow (owL T) xs)) (hT:Imm T) (he:EvF K e E L r T) (hei:EvF K ei E L ri tyInt) (hk:∀ a,EvS K u E (L.set i (.ow (owL T) a)) (k a) LS LB O) :
  EvS K (tSeq (tAsg e (gSub (mVar i) ei mSet)) u) E L (r.bind fun a=>ri.bind fun j=>(Mo.opt ((ixN xs.length j).map fun n=>xs.set n a)).bind k) LS LB O:=by
 intro F0 H0 σ F h H D hL ok fin
 refine he σ (un F h) H _ (hL.froz ok.2.1) ok.thaw (zag_ (G:=F) ok _ (.inl rfl) fin fun a F' H' hra x v hv=>?_)
 obtain ⟨o,hs,ht⟩:=ok.back x
 rw [hra] at fin
 have hL':=hL.mono hs
 obtain ⟨p,vs,e1,hp,hr,_⟩:=zar_ hL' hi o
 refine za6_ e1 ?_
 have hv':=hT ht hv
 refine hei σ (un _ h) H' _ (hL'.froz o.2.1) o.thaw (zag_ (G:=F) o _ (.inl rfl) fin fun j F2 H2 hrj x2 v2 hv2=>?_)
 cases hv2
 obtain ⟨o',hs',ht'⟩:=o.back x2
 rw [hrj] at fin
 obtain ⟨ys,ey,fin⟩:=zkI_ fin
 obtain ⟨p',vs',e1',hp',hr',mm⟩:=zar_ (hL'.mono hs') hi o'
 rw [e1] at e1'; cases e1'
 cases ej:ixN xs.length j with
 | none=>rw [ej] at ey; cases ey
 | some n =>
  rw [ej] at ey; cases ey
  obtain ⟨h',a1,a2⟩:=mm (xs.set n a) (vs'.set n v) (hr'.set n (T.mono hs' hv'))
  refine ⟨vs',hp',?_⟩
  rw [← hr'.len,ej]
  exact hk _ F0 H0 σ _ h' _ D a1 a2 fin
def fnO (r:Mo (Out ρ Unit Unit)):Mo ρ:=r.bind fun o=>match o with | .rt a=>.ok a | _=>.no
inductive Args (F:Hp):List V→List Sl→Prop
 | nil:Args F [] []
 | cons {α:Type}{T:Ty α}{a:α}{v:V}{vs ss} (h:T.R a v F) (t:Args F vs ss):Args F (v::vs) (.fz T a::ss)
theorem Args.hold {vs:List V}{ss:List Sl}(a:Args F vs ss) (n:Nat):Hold (ss++List.replicate n .dead) (vs.map some++List.replicate n none) F (fun _=>none):=by
 induction a with
 | nil =>
  induction n with
  | zero=>trivial
  | succ n ih=>exact ⟨fun _=>none,fun _=>none,fun p=>.inl ⟨rfl,rfl⟩,trivial,ih⟩
 | cons hv t ih=>exact ⟨fun _=>none,fun _=>none,fun p=>.inl ⟨rfl,rfl⟩,⟨_,rfl,hv⟩,ih⟩
def CsS (C:Cs γ) (ss:γ→List Sl):Prop:=∀ {c vs F},C.R c vs F→Args F vs (ss c)
theorem zk3_:CsS csNil fun _=>[]:=fun e=>by rw [e]; exact .nil
theorem zt_:CsS (csLast T) fun a=>[.fz T a]:=fun ⟨v,e,h⟩=>by rw [e]; exact .cons h .nil
theorem zx_ {C:Cs γ}{ss:γ→List Sl}(h:CsS C ss):CsS (csCons T C) fun c=>.fz T c.1::ss c.2:=fun ⟨v,us,e,q,z⟩=>by rw [e]; exact .cons q (h z)
theorem zjV_ (hs:Same F H):Okk F H F (fun _=>none) H:=by
 refine ⟨.refl hs,fun p=>.inr rfl,fun p o e=>?_,fun p e=>absurd rfl e,fun p xs e=>?_⟩
 ·cases e
 ·cases e
theorem fn_rd {t:XK→TS}{C:Cs γ}{ss:γ→List Sl}{f:γ→Mo (Out ρ Unit Unit)}{N:List Str}(n m:Nat) (hn:CsN C n) (hm:N.length-n=m) (hC:CsS C ss) (h:∀ c E,EvS K (t E) E (ss c++List.replicate m .dead) (f c) (fun _:Unit=>[]) (fun _:Unit=>[]) O) :
  ∀ vs H Q E,Ct K C (fun c=>fnO (f c)) O vs H Q E→t E { nx:=fun _ H'=>Q .non H',rt:=Q } (start N vs) H:=by
 rintro vs H Q E ⟨F,c,hs,hc,q⟩
 have hstart:start N vs=vs.map some++List.replicate m none:=by unfold start; rw [hn hc,hm]
 rw [hstart]
 refine h c E F H _ F (fun _=>none) H _ ((hC hc).hold m) (zjV_ hs) ?_
 have q:After K (fnO (f c)) E F H (OwnK O H Q):=q
 cases e:f c with
 | no=>rw [e] at q; exact q
 | ex cc=>rw [e] at q; exact fun F h H ok=>q F H ok.1
 | ok o =>
  rw [e] at q
  cases o with
  | nx s=>exact q.elim
  | bk s=>exact q.elim
  | ct s=>exact q.elim
  | rt a=>exact fun v F' h' H' ok hv=>q F' H' ok.1 v h' (fun p z=>ok.2.2.2.1 p z) ok.2.1 ok.2.2.1 hv
end
end L2
namespace L2
open PySem PySem.Spec PyProof.Rows
section
variable {K:Fgg}{E:XK}{α β γ ρ S S' B B':Type}{F0 H0 F h H:Hp}{L L':List Sl}{e e1 e2:TE}{T:Ty α}{r:Mo α}{O:Own ρ}{t u:TS}{LS:S→List Sl}{LS':S'→List Sl}{LB:B→List Sl}
def CDivG (i j:Int):Prop:=0<j∧Builtin.divisionGoesByPylong i j=false
instance (i j:Int):Decidable (CDivG i j):=inferInstanceAs (Decidable (_∧_))
instance (i j:Int):Decidable (IntMulOk i j):=inferInstanceAs (Decidable (¬ _))
abbrev mMulG:R2:=mI IntMulOk fun i j=>.int (i*j)
abbrev mDivG:R2:=mI CDivG fun i j=>.int (i / j)
theorem znQ_ {X:Cx}:OpR X (binaryOp .Mult) mMulG:=opM (opI fun _ _ _ _ _ _ _ hc q=>mul_int q hc)
theorem zbV_ {X:Cx}:OpR X (binaryOp .FloorDiv) mDivG:=opM (opI fun i j _ _ _ _ _ hc q=>by
 have h1:(0:Int)<j:=hc.1
 exact floordiv_int (by lia) (by rw [Int.fdiv_eq_ediv_of_nonneg i (by lia)]; exact q) (.inl hc.2))
theorem za1_:Op2 K mDivG E tyInt tyInt (fun i j=>.grd (CDivG i j) (.ok (i / j))) tyInt:=op_i fun _ _ _=>rfl
theorem zmU_ {Pq:α→Prop}{a:α}{l:List α}(h:Pq a) (t:∀ q∈l,Pq q):∀ q∈a::l,Pq q:=List.forall_mem_cons.mpr ⟨h,t⟩
theorem zaU_ {r:Mo (Out ρ B S)}(w:Sub L L') (hk:EvS K t E L' r LS LB O):EvS K t E L r LS LB O:=fun F0 H0 σ F h H D hL ok fin=>hk F0 H0 σ F h H D (w.hold hL) ok fin
theorem at_ {r:Mo (Out ρ B S)}(L:List Sl) (hk:EvS K t E L r LS LB O):EvS K t E L r LS LB O:=hk
theorem zdh_ (i:Nat) {xs:List α}(h:L[i]?=some (.ow (owL T) xs)):EvF K (mVar i) E L (.ok xs) (tyL T):=zgV_ i h
theorem zbL_:EvT K tTrue E L (.ok true):=fun σ F H Q hL hs q=>q.ok hs
theorem dead1 {L:List Sl}:DeadAt (.dead::L) [0]:=fun i hi s e=>by
 cases (List.mem_singleton.mp hi); cases e; rfl
theorem zpk_ {a:List Nat}{v:V}{F:Hp}(h:tyStr.R a v F):v≠.non:=by cases h; exact fun z=>V.noConfusion z
end
end L2
namespace L2
open PySem PySem.Spec PyProof.Rows
section
variable {α β γ ρ S S' B:Type}
@[simp] theorem Mo.okB (a:α) (f:α→Mo β):(Mo.ok a).bind f=f a:=of_eq_true (eq_self _)
@[simp] theorem Mo.exB (c:String) (f:α→Mo β):(Mo.ex c:Mo α).bind f=.ex c:=of_eq_true (eq_self _)
@[simp] theorem Mo.noB (f:α→Mo β):(Mo.no:Mo α).bind f=.no:=of_eq_true (eq_self _)
@[simp] theorem Mo.noexO (a:α):(Mo.ok a).noex=.ok a:=of_eq_true (eq_self _)
@[simp] theorem Mo.optS (a:α):Mo.opt (some a)=.ok a:=of_eq_true (eq_self _)
@[simp] theorem zit_ (s:S) (k:S→Mo (Out ρ B S')):thenO (.ok (.nx s)) k=k s:=of_eq_true (eq_self _)
@[simp] theorem zli_ (a:ρ) (k:S→Mo (Out ρ B S')):thenO (.ok (.rt a)) k=.ok (.rt a):=of_eq_true (eq_self _)
@[simp] theorem zls_ (b:B) (k:S→Mo (Out ρ B S')):thenO (.ok (.bk b)) k=.ok (.bk b):=of_eq_true (eq_self _)
@[simp] theorem zlH_ (b:B) (k:S→Mo (Out ρ B S')):thenO (.ok (.ct b)) k=.ok (.ct b):=of_eq_true (eq_self _)
@[simp] theorem zoR_ (a:ρ):fnO (.ok (.rt a))=.ok a:=of_eq_true (eq_self _)
@[simp] theorem zlQ_ (step:S→α→Mo (Out ρ S S)) (s:S):forO (B:=B) step [] s=.ok (.nx s):=of_eq_true (eq_self _)
theorem zjQ_ (step:S→α→Mo (Out ρ S S)) (x:α) (xs:List α) (s:S):forO (B:=B) step (x::xs) s=(step s x).bind fun o=>match o with | .nx s'=>forO step xs s' | .ct s'=>forO step xs s' | .bk s'=>.ok (.nx s') | .rt a=>.ok (.rt a):=rfl
theorem zi3_ {step:S→α→Mo (Out ρ S S)}{x:α}{xs:List α}{s s':S}(h:step s x=.ok (.nx s')):forO (B:=B) step (x::xs) s=forO step xs s':=by rw [zjQ_,h]; rfl
theorem zcF_ {step:S→α→Mo (Out ρ S S)}(g:S→α→S):∀ {xs:List α}{s:S},(∀ s x,x∈xs→step s x=.ok (.nx (g s x)))→forO (B:=B) step xs s=.ok (.nx (xs.foldl g s))
 | [],s,_=>rfl
 | x::xs,s,h=>by rw [zi3_ (h s x List.mem_cons_self),zcF_ g fun s y hy=>h s y (List.mem_cons_of_mem _ hy)]; rfl
theorem ziB_ {step:S→α→Mo (Out ρ S S)}(P:List α→S→Prop):∀ {xs:List α}(done:List α) {s:S},P done s→(∀ d x s,(∃ r,done++xs=d++x::r)→P d s→∃ s',step s x=.ok (.nx s')∧P (d++[x]) s')→∃ s',forO (B:=B) step xs s=.ok (.nx s')∧P (done++xs) s'
 | [],done,s,h0,_=>⟨s,rfl,by rw [List.append_nil]; exact h0⟩
 | x::xs,done,s,h0,h=>by
  obtain ⟨s1,e1,p1⟩:=h done x s ⟨xs,rfl⟩ h0
  obtain ⟨s2,e2,p2⟩:=ziB_ P (xs:=xs) (done++[x]) p1 fun d y s ⟨r,hr⟩ hp=>h d y s ⟨r,by rw [← hr]; simp⟩ hp
  exact ⟨s2,by rw [zi3_ e1,e2],by simpa using p2⟩
theorem zhX_ {step:Unit→α→Mo (Out ρ Unit Unit)}:∀ {xs:List α},(∀ x∈xs,step () x=.ok (.nx ()))→forO (B:=B) step xs ()=.ok (.nx ())
 | [],_=>rfl
 | x::xs,h=>by rw [zi3_ (h x List.mem_cons_self),zhX_ fun y hy=>h y (List.mem_cons_of_mem _ hy)]
open PySem PySem.Spec PyProof.Rows in
theorem zng_ {a j:Int}(h0:0<j) (h:j.natAbs.log2<9000):CDivG a j:=by
 refine ⟨h0,?_⟩
 unfold Builtin.divisionGoesByPylong
 simp only
 rw [Bool.and_eq_false_iff]
 left
 rw [decide_eq_false_iff_not]
 split<;>lia
theorem log2_lt {n k:Nat}(h:n<2 ^ k):n.log2<k∨n=0:=by
 by_cases hz:n=0
 ·exact .inr hz
 ·exact .inl ((Nat.log2_lt hz).mpr h)
theorem znh_ {a j:Int}(h0:0<j) (h:j<2 ^ 1000):CDivG a j:=by
 refine zng_ h0 ?_
 have h1:j.natAbs<2 ^ 1000:=by
  have:((2:Int) ^ 1000)=((2 ^ 1000:Nat):Int):=by rw [Int.natCast_pow]; rfl
  rw [this] at h
  lia
 rcases log2_lt h1 with h | h
 ·lia
 ·rw [h]; decide
open PySem PySem.Spec PyProof.Rows in
theorem zdN_ {i j:Int}(h : -(2 ^ 64)<i∧i<2 ^ 64 ∨ -(2 ^ 64)<j∧j<2 ^ 64):IntMulOk i j:=CMul.ok h
@[simp] theorem zn0_ {a j:Int}{k:Mo α}(h0:0<j) (h1:j<1073741824):Mo.grd (CDivG a j) k=k:=Mo.grd_ok (znh_ h0 (by lia))
@[simp] theorem grd_T {k:Mo α} [Decidable True]:Mo.grd True k=k:=Mo.grd_ok trivial
@[simp] theorem znR_ {j:Int}{k:Mo α}(h0:0<j):Mo.grd (0<j) k=k:=Mo.grd_ok h0
open PySem PySem.Spec PyProof.Rows in
@[simp] theorem zlJ_ {i j:Int}{k:Mo α}(h0 : -18446744073709551616<i) (h1:i<18446744073709551616):Mo.grd (IntMulOk i j) k=k:=Mo.grd_ok (zdN_ (.inl ⟨by lia,by lia⟩))
open PySem PySem.Spec PyProof.Rows in
theorem zi7_ {i j:Int}{k:Mo α}(h0 : -18446744073709551616<j) (h1:j<18446744073709551616):Mo.grd (IntMulOk i j) k=k:=Mo.grd_ok (zdN_ (.inr ⟨by lia,by lia⟩))
theorem z9_ (lo:Int) (n:Nat):(rngI lo n).length=n:=by unfold rngI; rw [List.length_map,List.length_range]
theorem zeX_ {xs:List α}{k:Int}(h0:0≤k):atI xs k=xs[k.toNat]?:=by
 unfold atI ixN
 rw [if_pos h0]
 split
 ·rfl
 ·rename_i h
  rw [List.getElem?_eq_none (by omega)]; rfl
theorem zbf_ {xs:List α}{k:Int}(h0:0≤k) (h1:k<xs.length):∃ x,atI xs k=some x∧x∈xs:=by
 rw [zeX_ h0,List.getElem?_eq_getElem (show k.toNat<xs.length by lia)]
 exact ⟨_,rfl,List.getElem_mem _⟩
theorem zn4_ {xs:List α}(k:Int) (h:xs≠[]):∃ x,atI xs (k % (xs.length:Int))=some x∧x∈xs:=by
 have:0<xs.length:=List.length_pos_iff.mpr h
 exact zbf_ (Int.emod_nonneg _ (by lia)) (Int.emod_lt_of_pos _ (by lia))
theorem zeB_ {q:α→α→Bool}(hq:∀ a,q a a=true):∀ xs:List α,eqL q xs xs=true
 | []=>rfl
 | x::xs=>by unfold eqL; rw [hq,zeB_ hq xs]; rfl
theorem zde_ (xs:List α) (lo hi:Option Int):(cutG xs lo hi).length≤xs.length:=by
 unfold cutG; rw [List.length_take,List.length_drop]; lia
end
end L2
namespace L2
open PySem PySem.Spec PyProof.Rows
section
variable {K:Fgg}{E:XK}{α β γ ρ S S' B B':Type}{F0 H0 F h H:Hp}{L L':List Sl}{e e1 e2:TE}{T:Ty α}{r:Mo α}{O:Own ρ}{t u:TS}{LS:S→List Sl}{LS':S'→List Sl}{LB:B→List Sl}
theorem zl1_ {n:Nat}{j:Int}{k:Nat}(h:ixN n j=some k):k<n:=by
 unfold ixN at h
 split at h
 ·split at h
  ·cases h; lia
  ·cases h
 ·split at h
  ·cases h; lia
  ·cases h
theorem znO_ {p:Addr}{o':HO}{h1' hr h':Hp}(ok:Okk F0 H0 F h H) (hp:h p≠none) (nt:∀ xs,o'≠.tup xs) (h':Hp) (hh:∀ q,h' q=if q=p then some o' else h q):Okk F0 H0 F h' (upd H p o'):=by
 obtain ⟨o1,o2,o3,o4,o5⟩:=ok
 have Fp:F p=none:=by
  rcases o2 p with z | z
  ·exact z
  ·exact absurd z hp
 have H0p:H0 p=none:=o4 p hp
 refine ⟨⟨o1.1,fun q o z=>?_,fun q o z=>?_,o1.2.2.2⟩,fun q=>?_,fun q o z=>?_,fun q z=>?_,fun q ys z=>?_⟩
 ·unfold upd; split
  ·rename_i w; rw [w,Fp] at z; cases z
  ·exact o1.2.1 _ _ z
 ·unfold upd; split
  ·rename_i w; rw [w,H0p] at z; cases z
  ·exact o1.2.2.1 _ _ z
 ·rw [hh]; split
  ·rename_i w; rw [w]; exact .inl Fp
  ·exact o2 q
 ·rw [hh] at z; unfold upd
  split at z
  ·rename_i w; rw [if_pos w]; exact z
  ·rename_i w; rw [if_neg w]; exact o3 _ _ z
 ·rw [hh] at z; split at z
  ·rename_i w; rw [w]; exact H0p
  ·exact o4 q z
 ·rw [hh] at z; split at z
  ·exact nt ys (by injection z)
  ·exact o5 q ys z
end
end L2
namespace L2
open PySem PySem.Spec PyProof.Rows
section
variable {K:Fgg}{E:XK}{α β γ ρ S S' B B':Type}{F0 H0 F h H:Hp}{L L':List Sl}{e e1 e2:TE}{T:Ty α}{r:Mo α}{O:Own ρ}{t u:TS}{LS:S→List Sl}{LS':S'→List Sl}{LB:B→List Sl}
@[irreducible] def fuelW:Nat:=100000
end
end L2
namespace L2
open PySem PySem.Spec PyProof.Rows
section
variable {α:Type}
theorem zS_ {S B ρ:Type}{step:S→α→Mo (Out ρ S S)}{xs:List α}{s:S}{G:Mo (Out ρ B S)→Prop}(P:List α→S→Prop) (h0:P [] s) (hs:∀ d x s,(∃ r,xs=d++x::r)→P d s→∃ s',step s x=.ok (.nx s')∧P (d++[x]) s') (hk:∀ s',P xs s'→G (.ok (.nx s'))):G (forO step xs s):=by
 obtain ⟨s',e,p⟩:=ziB_ (B:=B) P (xs:=xs) [] h0 (fun d x s hr hp=>hs d x s hr hp)
 rw [e]
 exact hk s' p
end
abbrev Crd:=List Nat
def sg (c:Crd) (col:Int):Nat:=c.getD (col-1).toNat 0
def rk1 (x:Nat):Nat:=(SG.findIdx? (· == x)).getD 0 % 37
def rnk (c:Crd) (col:Int):Nat:=rk1 (sg c col)
def kv:List Int→Crd→Nat
 | [],_=>0
 | c::L,a=>rnk a c*37 ^ L.length+kv L a
end L2
namespace L2
open PySem PySem.Spec PyProof.Rows
end L2
namespace L2
open PySem PySem.Spec PyProof.Rows
open PySem.SeqAt
open PySem.AutoSeq1 (wpAny_loadPart')
open PySem.MeetsSeq PySem.MeetsSeq2 PySem.MeetsSeq3
end L2
namespace L2
open PySem PySem.Spec PyProof.Rows
section
variable {K:Fgg}{E:XK}{H:Hp}
end
end L2
namespace L2
open PySem PySem.Spec PyProof.Rows
section
variable {α:Type}
theorem zhb_ {n d:Nat}{i:Int}(h:0≤i):HT.sIx n d (some i)=min i.toNat n:=by
 unfold HT.sIx
 simp only
 split<;>lia
theorem zjo_ {xs:List α}{i:Int}(h:0≤i):cutG xs none (some i)=xs.take i.toNat:=by
 unfold cutG
 rw [zhb_ h,show HT.sIx xs.length 0 none=0 from rfl,List.drop_zero,Nat.sub_zero,← List.take_take,List.take_length]
theorem zgv_ {xs:List α}{i:Int}(h:0≤i):cutG xs (some i) none=xs.drop i.toNat:=by
 unfold cutG
 rw [zhb_ h,show HT.sIx xs.length xs.length none=xs.length from rfl]
 by_cases hl:i.toNat≤xs.length
 ·rw [Nat.min_eq_left hl,List.take_of_length_le (by rw [List.length_drop]; exact Nat.le_refl _)]
 ·rw [Nat.min_eq_right (by lia),List.drop_length,List.drop_eq_nil_of_le (by lia),List.take_nil]
end
end L2
namespace L2
open PySem PySem.Spec PyProof.Rows
section
variable {K:Fgg}{E:XK}{α β γ ρ S S' B B':Type}{F0 H0 F h H:Hp}{L L':List Sl}{e e1 e2:TE}{T:Ty α}{r:Mo α}{O:Own ρ}{t u:TS}{LS:S→List Sl}{LS':S'→List Sl}{LB:B→List Sl}
theorem zr_ {C:Cs γ}{f:γ→Mo α}{ta:TA}{r:Mo γ}(h:EvA K ta E L r C):EvF K (tCall (Ct K C f (owF T)) [] E0 ta) E L (r.bind fun c=>(f c).noex) T:=(zbo_ h).fr
end
end L2
namespace L2
open PySem PySem.Spec PyProof.Rows
def repL {α:Type}(xs:List α) (n:Int):List α:=(List.replicate n.toNat xs).flatten
def CRep (m:Nat) (n:Int):Prop:=0≤n∧n≤100000∧m≤100000∧m*n.toNat≤100000
instance (m:Nat) (n:Int):Decidable (CRep m n):=inferInstanceAs (Decidable (_∧_))
def mMulX:R2:=fun x y H Q=>match x,y with
 | .int i,.int j=>IntMulOk i j∧Q (.int (i*j)) H
 | .str z,.int n=>CRep z.cps.toList.length n∧Q (tx (repL z.cps.toList n)) H
 | .ref l,.int k=>∃ xs,H l=some (.lst xs)∧CRep xs.length k∧∀ p,H p=none→Q (.ref p) (upd H p (.lst (repL xs k)))
 | _,_=>False
theorem zks_ (z:Array Nat) (n:Nat):(List.foldl (fun x1 x2=>x1++x2) #[] (List.replicate n z)).toList=(List.replicate n z.toList).flatten:=by
 have:∀ (l:List (Array Nat)) (acc:Array Nat),(l.foldl (fun x1 x2=>x1++x2) acc).toList=acc.toList++(l.map Array.toList).flatten:=by
  intro l
  induction l with
  | nil=>intro acc; simp
  | cons a l ih=>intro acc; rw [List.foldl_cons,ih]; simp
 rw [this]
 simp
theorem zdn_ {X:Cx}:OpR X (binaryOp .Mult) mMulX:=by
 intro pins s σ H x y v u Q I rx ry h
 cases x<;>cases y<;>first
  | exact h.elim
  | exact znQ_ pins s σ H _ _ v u Q I rx ry h
  | (obtain ⟨xs,hl,⟨c1,c2,c3,c4⟩,q⟩:=h
     exact zpp_ pins s σ H _ _ v u Q I rx ry ⟨_,_,xs,rfl,rfl,hl,by lia,by lia,zdm_ c4,q⟩)
  | (rename_i z n
     obtain ⟨⟨c1,c2,c3,c4⟩,q⟩:=h
     obtain ⟨t,rfl⟩:=rx
     obtain ⟨t',rfl⟩:=ry
     have hz:z.length=z.cps.toList.length:=by simp [Str.length]
     refine PySem.P.mul_str (by simp; lia) (fun h1 h2=>?_) (fun h1 h2=>?_) ?_
     ·rw [hz]
      have hn:0<n:=by lia
      have:(z.cps.toList.length:Int)*n≤2 ^ 63-1:=by
       have e:n=(n.toNat:Int):=by lia
       rw [e,← Int.natCast_mul]; lia
      have:=Int.le_ediv_of_mul_le hn this
      lia
     ·unfold Builtin.Str.tooLong
      rw [hz]
      have:=zdm_ c4
      exact decide_eq_false (by lia)
     ·by_cases h1:n<1
      ·rw [if_pos h1]
       have:n=0:=by lia
       subst this
       exact ⟨Nat.zero_le _,tx [],H,I.tok _,⟨_,rfl⟩,q⟩
      ·rw [if_neg h1]
       by_cases h2:(n == 1 || z.length == 0)=true
       ·rw [if_pos h2]
        have e:repL z.cps.toList n=z.cps.toList:=by
         unfold repL
         rw [Bool.or_eq_true] at h2
         rcases h2 with h2 | h2
         ·have:n=1:=by simpa using h2
          subst this; simp
         ·have:z.cps.toList=[]:=List.length_eq_zero_iff.mp (by rw [← hz]; simpa using h2)
          rw [this]; simp
        rw [e] at q
        refine ⟨tx z.cps.toList,H,I,⟨t,?_⟩,q⟩
        show Value.str z t=Value.str ⟨z.cps.toList.toArray⟩ t
        rw [← zaQ_]
       ·rw [if_neg h2]
        refine ⟨?_,tx (repL z.cps.toList n),H,I.tok _,⟨s.toks,?_⟩,q⟩
        ·have e:(⟨List.foldl (fun x1 x2=>x1++x2) #[] (List.replicate n.toNat z.cps)⟩:Str).length=(List.replicate n.toNat z.cps.toList).flatten.length:=by
          rw [← zks_]; simp [Str.length]
         rw [e,zk1_]
         exact zdm_ (by rw [Nat.mul_comm]; exact c4)
        show Value.str _ _=Value.str _ _
        congr 1
        unfold repL
        rw [← zks_])
section
variable {K:Fgg}{E:XK}{α β γ ρ S S' B B':Type}{F0 H0 F h H:Hp}{L L':List Sl}{e e1 e2:TE}{T:Ty α}{r:Mo α}{O:Own ρ}{t u:TS}{LS:S→List Sl}{LB:B→List Sl}
theorem zdP_:Op2 K mMulX E tyInt tyInt (fun i j=>.grd (IntMulOk i j) (.ok (i*j))) tyInt:=by
 rintro a b x y F H Q hs rfl rfl k
 obtain ⟨c,k⟩:=k.grd
 exact ⟨c,k.ok hs _ rfl⟩
theorem ziD_:Op2 K mMulX E tyStr tyInt (fun l n=>.grd (CRep l.length n) (.ok (repL l n))) tyStr:=by
 rintro a b x y F H Q hs rfl rfl k
 obtain ⟨c,k⟩:=k.grd
 exact ⟨c,k.ok hs _ rfl⟩
theorem zmC_ {xs:List α}{vs:List V}(hr:Prs T H xs vs) (n:Int):Prs T H (repL xs n) (repL vs n):=by
 unfold repL
 induction n.toNat with
 | zero=>exact .nil
 | succ m ih=>rw [List.replicate_succ,List.replicate_succ,List.flatten_cons,List.flatten_cons]; exact hr.append ih
theorem zlZ_:Op2O K mMulX E (tyL T) tyInt (fun l n=>.grd (CRep l.length n) (.ok (repL l n))) (owL T):=by
 rintro a b x y F H Q hs ⟨p,vs,rfl,hp,hr⟩ rfl k
 obtain ⟨c,k⟩:=k.grd
 exact ⟨vs,hs _ _ hp,by rw [← hr.len]; exact c,fun q hq=>zd3_ hs hq (zmC_ hr b) k⟩
def strsL (l:List (List Nat)):List Str:=l.map fun z=>⟨z.toArray⟩
theorem zl5_ {l:List (List Nat)}{vs:List V}(h:Prs tyStr H l vs):strsOf vs=some (strsL l):=by
 induction h with
 | nil=>rfl
 | cons r t ih=>cases r; show (strsOf _).map _=_; rw [ih]; rfl
theorem zjg_:Me K (mJoin K) E (csLast (tyL tyStr)) (fun l c=>.grd (JoinOk ⟨l.toArray⟩ (strsL c)=true) (.ok (joinS l (strsL c)))) tyStr:=by
 rintro l c vs F H Q hs ⟨v,rfl,p,us,rfl,hp,hr⟩ k
 obtain ⟨z,k⟩:=k.grd
 refine ⟨us,.of (hs _ _ hp),?_⟩
 rw [zl5_ hr]
 exact ⟨z,k.ok hs _ rfl⟩
theorem zkc_ {i:Nat}{xs:List α}{k:α→Mo (Out ρ B S)}(hi:L[i]?=some (.ow (owL T) xs)) (he:EvF K e E (L.map Sl.cold) r T) (hk:∀ a,EvS K u E (L.set i (.ow (owL T) (xs++[a]))) (k a) LS LB O) :
  EvS K (tSeq (tDrop (tBM K "list" rAppend (mVar i) (tCons e tNil))) u) E L (r.bind fun a=>.lim (xs.length+1) (k a)) LS LB O:=by
 intro F0 H0 σ F h H D hL ok fin
 obtain ⟨p,vs,e1,hp,hr,_⟩:=zar_ hL hi ok
 show mVar i σ H fun x H1=>tyV K "list" x H1∧tCons e tNil σ H1 fun xs H2=>rAppend x xs H2 (fun _ H3=>u D σ H3)
 refine za6_ e1 ⟨.inl ⟨rfl,vs,.of hp⟩,?_⟩
 refine he σ F H _ hL.coldF ok.1.2.1 (zag_ (G:=F) ok _ (.inr rfl) fin fun a F' H' hra x v hv=>?_)
 rw [hra] at fin
 obtain ⟨hz,fin⟩:=zdj_ (show Fin K (Mo.lim (xs.length+1) (k a)) E LS LB O F0 H0 D from fin)
 obtain ⟨p',vs',e1',hp',hr',mm⟩:=zar_ (hL.mono x.1) hi (ok.cold x)
 rw [e1] at e1'; cases e1'
 obtain ⟨h',a1,a2⟩:=mm (xs++[a]) (vs'++[v]) (hr'.append (.cons hv .nil))
 exact ⟨p,vs',v,rfl,rfl,hp',by rw [← hr'.len]; lia,hk a F0 H0 σ _ h' _ D a1 a2 fin⟩
end
end L2
namespace L2
open PySem PySem.Spec PyProof.Rows
structure KyT (κ:Type) where
 T:Ty κ
 key:κ→Key
 inj:∀ {a b},key a=key b→a=b
 of:∀ {a v H},T.R a v H→keyV v=some (key a)
abbrev kInt:KyT Int:=⟨tyInt,Sum.inl,fun h=>by injection h,fun h=>by cases h; rfl⟩
section
variable {K:Fgg}{E:XK}{α β γ ρ κ S S' B B':Type}{F0 H0 F h H:Hp}{L L':List Sl}{e e1 e2:TE}{T:Ty α}{r:Mo α}{O:Own ρ}{t u:TS}{LS:S→List Sl}{LB:B→List Sl}{KY:KyT κ}
abbrev DPr (KY:KyT κ) (T:Ty α) (H:Hp) (m:List (κ×α)) (kvs:List (Key×V)):Prop:=Paired (fun (q:κ×α) (w:Key×V)=>w.1=KY.key q.1∧T.R q.2 w.2 H) m kvs
theorem DPr.mono {m:List (κ×α)}{kvs:List (Key×V)}{H H':Hp}(g:Same H H') (h:DPr KY T H m kvs):DPr KY T H' m kvs:=zbO_ (fun _ _ r=>⟨r.1,T.mono g r.2⟩) h
theorem DPr.imm (i:Imm T) {m:List (κ×α)}{kvs:List (Key×V)}{H H':Hp}(g:Tups H H') (h:DPr KY T H m kvs):DPr KY T H' m kvs:=zbO_ (fun _ _ r=>⟨r.1,i g r.2⟩) h
abbrev tyD (KY:KyT κ) (T:Ty α):Ty (List (κ×α)):=⟨fun m v H=>∃ p kvs,v=.ref p∧H p=some (.dK kvs)∧DPr KY T H m kvs,fun g ⟨p,kvs,e,h,q⟩=>⟨p,kvs,e,g _ _ h,q.mono g⟩⟩
abbrev owD (KY:KyT κ) (T:Ty α):Own (List (κ×α)):=⟨fun m v F h=>∃ p kvs,v=.ref p∧h=one p (.dK kvs)∧DPr KY T F m kvs,tyD KY T,fun g ⟨p,vs,e,z,q⟩=>⟨p,vs,e,z,q.mono g⟩,
 fun d ⟨p,vs,e,z,q⟩=>⟨p,vs,e,zfN_ d _ _ (by rw [z]; exact zaA_),q.mono z1_⟩,
 fun ⟨p,vs,e,z,q⟩ b xs y=>by rw [z] at y; unfold one at y; split at y<;>cases y⟩
theorem zcU_ (i:Imm T):ImmO (owD KY T):=fun g ⟨p,vs,e,z,q⟩=>⟨p,vs,e,z,q.imm i g⟩
variable [DecidableEq κ]
def getA (m:List (κ×α)) (k:κ):Option α:=(m.find? fun q=>decide (q.1=k)).map (·.2)
def putA (m:List (κ×α)) (k:κ) (v:α):List (κ×α):=if (m.any fun q=>decide (q.1=k))=true then m.map (fun q=>if q.1=k then (q.1,v) else q) else m++[(k,v)]
theorem zkB_ (a b:κ):decide (KY.key a=KY.key b)=decide (a=b):=by rw [decide_eq_decide]; exact ⟨KY.inj,fun h=>by rw [h]⟩
theorem znP_ {m:List (κ×α)}{kvs:List (Key×V)}(h:DPr KY T H m kvs) (k:κ):(getA m k=none∧valV kvs (KY.key k)=none)∨∃ a v,getA m k=some a∧valV kvs (KY.key k)=some v∧T.R a v H:=by
 induction h with
 | nil=>exact .inl ⟨rfl,rfl⟩
 | cons r t ih =>
  rename_i q w m kvs
  unfold getA valV at ih ⊢
  rw [List.find?_cons,List.find?_cons,r.1,zkB_]
  by_cases e:q.1=k
  ·rw [decide_eq_true e]; exact .inr ⟨_,_,rfl,rfl,r.2⟩
  ·rw [decide_eq_false e]; exact ih
theorem znX_ {m:List (κ×α)}{kvs:List (Key×V)}(h:DPr KY T H m kvs) (k:κ):(kvs.any fun w=>decide (w.1=KY.key k))=m.any fun q=>decide (q.1=k):=by
 induction h with
 | nil=>rfl
 | cons r t ih=>rw [List.any_cons,List.any_cons,ih,r.1,zkB_]
theorem znq_ {m m':List (κ×α)}{kvs kvs':List (Key×V)}(h:DPr KY T H m kvs) (h':DPr KY T H m' kvs'):DPr KY T H (m++m') (kvs++kvs'):=by
 induction h with
 | nil=>exact h'
 | cons r t ih=>exact .cons r ih
theorem zmu_ {m:List (κ×α)}{kvs:List (Key×V)}(h:DPr KY T H m kvs) (k:κ) {a:α}{v:V}(hv:T.R a v H):DPr KY T H (m.map fun q=>if q.1=k then (q.1,a) else q) (kvs.map fun w=>if w.1=KY.key k then (w.1,v) else w):=by
 induction h with
 | nil=>exact .nil
 | cons r t ih =>
  rename_i q w m kvs
  rw [List.map_cons,List.map_cons]
  refine .cons ?_ ih
  by_cases e:q.1=k
  ·rw [if_pos e,if_pos (by rw [r.1,e])]; exact ⟨r.1,hv⟩
  ·rw [if_neg e,if_neg (fun z=>e (KY.inj (by rw [← r.1,z])))]; exact r
theorem zkP_ {m:List (κ×α)}{kvs:List (Key×V)}(h:DPr KY T H m kvs) (k:κ) {a:α}{v:V}(hv:T.R a v H):DPr KY T H (putA m k a) (putK kvs (KY.key k) v):=by
 unfold putA putK
 rw [znX_ h]
 split
 ·exact zmu_ h k hv
 ·exact znq_ h (.cons ⟨rfl,hv⟩ .nil)
theorem zkE_ (KY:KyT κ) (T:Ty α):EvO K tDNewK E L (.ok []) (owD KY T):=by
 intro σ F H Q hL hs q p hp
 have q':OwnK (owD KY T) H Q [] F (upd H p (.dK [])):=q F _ (.heap hs (zcm_ hp _))
 refine q' (.ref p) (one p (.dK [])) (fun b z=>?_) (fun b=>?_) (fun b o z=>?_) ⟨p,[],rfl,rfl,.nil⟩
 ·unfold one at z; split at z
  ·rename_i e; rw [e]; exact hp
  ·exact absurd rfl z
 ·unfold one; split
  ·rename_i e; rw [e]; exact .inl (hs.free hp)
  ·exact .inr rfl
 ·unfold one at z; split at z
  ·rename_i e; rw [e]; cases z; exact zat_
  ·cases z
theorem znV_ (i:Nat) {m:List (κ×α)}(h:L[i]?=some (.ow (owD KY T) m)):EvF K (mVar i) E L (.ok m) (tyD KY T):=zgV_ i h
theorem at_d {x y:V}{R:Addr→List (Key×V)→Key→Prop}{m:List (κ×α)}{k:κ}(hx:(tyD KY T).R m x F) (hy:KY.T.R k y F) (hs:Same F H) (hr:∀ p kvs,H p=some (.dK kvs)→DPr KY T F m kvs→R p kvs (KY.key k)):atD x y H R:=by
 obtain ⟨p,kvs,rfl,hp,hd⟩:=hx
 unfold atD
 simp only
 rw [KY.of hy]
 exact ⟨kvs,hs _ _ hp,hr p kvs (hs _ _ hp) hd⟩
theorem zgS_ {i:Nat}{σ:St}{m:List (κ×α)}(hL:Hold L σ F h) (hi:L[i]?=some (.ow (owD KY T) m)) (ok:Okk F0 H0 F h H) :
  ∃ p kvs,σ[i]?=some (some (.ref p))∧H p=some (.dK kvs)∧DPr KY T F m kvs∧∀ m' kvs',DPr KY T F m' kvs'→∃ h',Hold (L.set i (.ow (owD KY T) m')) σ F h'∧Okk F0 H0 F h' (upd H p (.dK kvs')):=by
 obtain ⟨o,h1,h2,e1,j,⟨v,e2,p,kvs,rfl,rfl,hr⟩,f⟩:=hL.at i hi
 subst e2
 have hp:h p=some (.dK kvs):=j.l _ _ zaA_
 have h2p:h2 p=none:=by
  rcases j.dj p with z | z
  ·rw [zaA_] at z; cases z
  ·exact z
 refine ⟨p,kvs,e1,ok.2.2.1 _ _ hp,hr,fun m' kvs' hr'=>?_⟩
 have d2:Dj (one p (.dK kvs')) h2:=fun q=>by
  unfold one; split
  ·rename_i z; rw [z]; exact .inr h2p
  ·exact .inl rfl
 have g:=f (.ow (owD KY T) m') (some (.ref p)) (one p (.dK kvs')) _ (zck_ d2) ⟨_,rfl,p,kvs',rfl,rfl,hr'⟩
 rw [zaM_ e1] at g
 refine ⟨_,g,znO_ (h1':=h) (hr:=h) (h':=h) ok (by rw [hp]; exact Option.some_ne_none _) (fun xs z=>by cases z) _ fun b=>?_⟩
 unfold un one
 by_cases z:b=p
 ·simp only [if_pos z]
 ·simp only [if_neg z]
  rcases j b with ⟨_,c⟩ | ⟨a,c⟩
  ·exact c.symm
  ·rw [c,a]; unfold one; rw [if_neg z]
theorem zoS_ {i:Nat}{m:List (κ×α)}{r2:Mo κ}{k:α→κ→Mo (Out ρ B S)}(hi:L[i]?=some (.ow (owD KY T) m)) (hT:Imm T) (hKT:Imm KY.T) (he:EvF K e E L r T) (he2:EvF K e2 E L r2 KY.T) (hk:∀ a y,EvS K u E (L.set i (.ow (owD KY T) (putA m y a))) (k a y) LS LB O) :
  EvS K (tSeq (mDPut (mVar i) e2 e) u) E L (r.bind fun a=>r2.bind fun y=>.lim (m.length+1) (k a y)) LS LB O:=by
 intro F0 H0 σ F h H D hL ok fin
 show e σ H fun v H1=>mVar i σ H1 fun x H2=>e2 σ H2 fun y H3=>atD x y H3 fun a kvs k=>kvs.length<sizeLine∧u D σ (upd H3 a (.dK (putK kvs k v)))
 refine he σ (un F h) H _ (hL.froz ok.2.1) ok.thaw (zag_ (G:=F) ok _ (.inl rfl) fin fun a F1 H1 hra x1 v hv=>?_)
 obtain ⟨o,hs,ht⟩:=ok.back x1
 rw [hra] at fin
 have hL':=hL.mono hs
 have hv':=hT ht hv
 obtain ⟨p,kvs,e1,hp,hr,_⟩:=zgS_ hL' hi o
 refine za6_ e1 ?_
 refine he2 σ (un _ h) H1 _ (hL'.froz o.2.1) o.thaw (zag_ (G:=F) o _ (.inl rfl) fin fun y F2 H2 hry x2 v2 hv2=>?_)
 obtain ⟨o',hs',ht'⟩:=o.back x2
 rw [hry] at fin
 obtain ⟨hz,fin⟩:=zdj_ (show Fin K (Mo.lim (m.length+1) (k a y)) E LS LB O F0 H0 D from fin)
 obtain ⟨p',kvs',e1',hp',hr',mm⟩:=zgS_ (hL'.mono hs') hi o'
 rw [e1] at e1'; cases e1'
 obtain ⟨h',a1,a2⟩:=mm (putA m y a) (putK kvs' (KY.key y) v) (zkP_ hr' y (T.mono hs' hv'))
 unfold atD
 simp only
 rw [KY.of hv2]
 refine ⟨kvs',hp',?_,hk a y F0 H0 σ _ h' _ D a1 a2 fin⟩
 have:=Paired.length hr'
 lia
end
end L2
namespace L2
open PySem PySem.Spec PyProof.Rows
section
variable {α κ:Type} [DecidableEq κ]
theorem zln_ (m:List (κ×α)) (k j:κ) (v:α):getA (putA m k v) j=if k=j then some v else getA m j:=by
 unfold getA putA
 by_cases ha:(m.any fun q=>decide (q.1=k))=true
 ·rw [if_pos ha]
  induction m with
  | nil=>cases ha
  | cons q m ih =>
   rw [List.map_cons,List.find?_cons,List.find?_cons]
   by_cases e:q.1=k
   ·rw [if_pos e]
    by_cases e2:k=j
    ·rw [if_pos e2]
     simp [e,e2]
    ·rw [if_neg e2]
     have:¬ q.1=j:=fun z=>e2 (by rw [← e,z])
     simp only [decide_eq_false this]
     by_cases hb:(m.any fun q=>decide (q.1=k))=true
     ·have:=ih hb
      rw [if_neg e2] at this
      exact this
     ·have e3:m.map (fun q=>if q.1=k then (q.1,v) else q)=m:=by
       rw [List.map_congr_left (g:=id) (fun x hx=>?_),List.map_id]
       have:¬ x.1=k:=fun z=>hb (List.any_eq_true.mpr ⟨x,hx,by simpa using z⟩)
       simp [this]
      rw [e3]
   ·rw [if_neg e]
    have hb:(m.any fun q=>decide (q.1=k))=true:=by
     rw [List.any_cons,decide_eq_false e,Bool.false_or] at ha; exact ha
    by_cases e2:q.1=j
    ·simp only [decide_eq_true e2]
     have:¬ k=j:=fun z=>e (by rw [e2,z])
     rw [if_neg this]
    ·simp only [decide_eq_false e2]
     exact ih hb
 ·rw [if_neg ha,List.find?_append]
  by_cases e2:k=j
  ·subst e2
   have:m.find? (fun q=>decide (q.1=k))=none:=by
    rw [List.find?_eq_none]
    intro x hx z
    exact ha (List.any_eq_true.mpr ⟨x,hx,z⟩)
   rw [this,if_pos rfl]
   simp
  ·rw [if_neg e2]
   cases m.find? (fun q=>decide (q.1=j)) with
   | some z=>rfl
   | none=>simp [e2]
theorem zib_ (m:List (κ×α)) (k:κ) (v:α):(putA m k v).length≤m.length+1:=by
 unfold putA
 split
 ·rw [List.length_map]; lia
 ·rw [List.length_append]; exact Nat.le_refl _
end
section
variable {α:Type}
end
end L2
namespace L2
open PySem PySem.Spec PyProof.Rows
section
variable {K:Fgg}{E:XK}
end
end L2
namespace Att
open PySem PySem.W PySem.Calls PyProof.Rows
theorem zk6_ {ns:List Int}(h:WData.layableAll [WData.list (ns.map WData.int)]=true):∀ x∈ns,Builtin.Int.intBits x≤1048576:=by
 intro x hx
 have h1:=layableW_arg h _ (List.mem_singleton.mpr rfl)
 have h2:=layableW_item h1 (.int x) (List.mem_map.mpr ⟨x,hx,rfl⟩)
 exact PyData.bits_of_layable (layable_int h2)
theorem attach_callB {l:OpenLaw}{n:Nat}{q:Program}{loose:List Str}{XP:(Str→Option Value)→Heap→Prop}{YP:World→Heap→Prop}{d:DefRec}
  (hn:l.most=some n) (hdf:d.params.defaults=[])
  (call:∀ (w:World) (s₀ s₁:Shared) (mg mb:Str→Option Value) (fa:Addr) (o:Obj) (pm cd doc:Value) (a:Addr) (vs:List Value) (ns:List Int),
   (∀ x∈ns,Builtin.Int.intBits x≤1048576) →
   Ground q loose [] XP w s₀ mg mb s₁.heap→YP w s₁.heap →
   s₁.heap.get? fa=some o→o.data=.func (docDef d.name d.params d.body d.scope pm cd doc)→s₁.heap.CodeRec cd d.name→mg d.name=some (.ref fa) →
   s₁.heap.get? a=some { cls:=.type "list",data:=.seq vs.toArray }→IntsAre vs ns→ns.length≤n→s₁.gens=#[] →
   codeAny (model l.prog w) callerA (.call (.ref fa) ⟨[.ref a],[]⟩) (fun r s'=>r=.ok (.ret (.bool true))∧OldK s₁.heap s'.heap∧s'.os=s₁.os∧AllBare s'.gens) s₁) :
  WalkO q loose XP YP l.row.toRowW d [] (fun f vs=>PySem.call f vs):=by
 intro w s₀ s₁ mg mb G Y fa o pm cd doc dV kV ho hd hcd hD hmg hg args vals as hpre hlay hrd hwl hlo
 obtain rfl:dV=.none:=Dflts.none hD hdf
 obtain rfl:kV=.none:=Dflts.noKw hD
 obtain ⟨a,vs,ns,rfl,rfl,hobj,hints,hlen⟩:=zka_ hn hpre hwl
 refine enter_call (codeAny_mono (call w s₀ s₁ mg mb fa o pm cd doc a vs ns (zk6_ hlay) G Y ho (fd_plain hd) hcd hmg hobj hints hlen hg) fun r s' hq=>?_)
 obtain ⟨rfl,h2,h3,h4⟩:=hq
 exact ⟨.inl ⟨.bool true,.bool true,[],rfl,fun _=>rfl,.bool true,zjI_ l _,fun _=>⟨List.Pairwise.nil,fun _ hm=>(nomatch hm)⟩⟩,h2,h3,h4⟩
end Att
namespace L2
open PySem PySem.Spec PyProof.Rows
theorem zlY_ {l:PySem.W.OpenLaw}{n k:Nat}{q:Program}{loose:List Str}{XP:(Str→Option Value)→Heap→Prop}{YP:World→Heap→Prop}{d:DefRec}{K:Params→Fgg}{CX:World→CXT}{sp:World→Sp}{x:Str}
  (hn:l.most=some n) (hn2:n≤sizeLine) (hdf:d.params.defaults=[]) (hr:Room k callerA)
  (hY:∀ (w:World) (h:Heap),YP w h→(K w.params).In h)
  (F:∀ (w:World) (mg:Str→Option Value) (fa:Addr) (h:Heap),(K w.params).In h→h.Ns mainGlobals mg→mg d.name=some (.ref fa) →
   ∃ fd:FuncData,(∀ (s:Shared) (u:Value),BindsTo s fd ⟨[u],[]⟩ [(x,u)]) ∧
    ∀ base:Heap,(K w.params).In base→base.Ns mainGlobals mg→FnOk l.prog w (K w.params) mg base (CX w) k fa fd [x] (sp w))
  (hsp:∀ (w:World) (H:Hp) (a:Addr) (ns:List Int),ns.length≤n→(∀ x∈ns,Builtin.Int.intBits x≤1048576)→Only H→SqL (K w.params) H a (ns.map V.int)→sp w [.ref a] H (fun v _=>v=.bl true) fun _ _ _=>False)
  (hCX:∀ (w:World) (H:Hp) (s:Shared) (e:Value) (s':Shared),CX w [] H s (fun _ _ _=>False) e s'→False) :
  PySem.W.WalkO q loose XP YP l.row.toRowW d [] (fun f vs=>PySem.call f vs):=by
 refine Att.attach_callB hn hdf fun w s₀ s₁ mg mb fa o pm cd doc a vs ns hbits G Y ho hd hcd hmg hobj hints hlen hg=>?_
 have KX:=hY w _ Y
 obtain ⟨fd,hb,hF⟩:=F w mg fa _ KX G.T.g hmg
 exact zlw_ KX G.T.g G.T.b G.T.builtins G.T.nolimit hg hobj hints (Nat.le_trans hlen hn2) hr hF hb (fun H hO hS=>hsp w H a ns hlen hbits hO hS) fun H e s'=>hCX w H s₁ e s'
abbrev BitsOk (ns:List Int):Prop:=∀ x∈ns,Builtin.Int.intBits x≤1048576
end L2
namespace L2
open PySem PySem.Spec PyProof.Rows PySem.W
section
variable {α β:Type}
variable {lt:Nat→Nat→Bool}{n:Nat}
abbrev le (lt:Nat→Nat→Bool) (a b:Nat):Prop:=lt b a=false
end
section
variable {prog:Program}{w:World}{A:Around}{E:Value→Shared→Prop}{s:Shared}{vs:List Value}{lt:Nat→Nat→Bool}
end
end L2
namespace L2
open PySem PySem.Spec PyProof.Rows PySem.W
section
variable {prog:Program}{w:World}{A:Around}{E:Value→Shared→Prop}{s:Shared}{Q:Bool→Shared→Prop}
end
section
variable {X:Cx}
end
end L2
namespace L2
open PySem PySem.Spec PyProof.Rows PySem.W
section
variable {α β:Type}
end
end L2
namespace L2
open PySem PySem.Spec PyProof.Rows PySem.W
section
variable {α β γ:Type}{K:Fgg}{E:XK}
end
end L2
universe u
namespace L2
open PySem PySem.Spec PyProof.Rows
section
variable {α γ:Type}{K:Fgg}{E:XK}{L:List Sl}{T:Ty α}{e:TE}
end
section
variable {α:Type}{K:Fgg}{E:XK}{L:List Sl}{T:Ty α}{F h H F0 H0:Hp}{ρ B S:Type}{LS:S→List Sl}{LB:B→List Sl}{O:Own ρ}
end
end L2
namespace L2
open PySem PySem.Spec PyProof.Rows PySem.W
section
variable {prog:Program}{w:World}{A:Around}{E:Value→Shared→Prop}{s:Shared}{T:String}{rr dd:Addr}{n:Nat}{PP:Nat→Value→Prop}{OK:Heap→Prop}
end
section
variable {prog:Program}{w:World}{A:Around}{E:Value→Shared→Prop}{s:Shared}{lt:Nat→Nat→Bool}
end
section
variable {X:Cx}
end
section
variable {α β γ κ:Type}{K:Fgg}{E:XK}
end
end L2
namespace L2
open PySem PySem.Spec PyProof.Rows PySem.W
section
variable {prog:Program}{w:World}{A:Around}{E:Value→Shared→Prop}{s:Shared}{z ti to i j:Addr}{f g:List Addr}{n1 n2 k:Nat}{P1 P2:Nat→Value→Prop}{S1 S2:Nat→Heap→Prop}{a b:Value}
end
end L2
namespace L2
open PySem PySem.Spec PyProof.Rows PySem.W
section
variable {prog:Program}{w:World}{A:Around}{E:Value→Shared→Prop}{s:Shared}
end
section
variable {X:Cx}{elts:List Expr}{kk:Nat}{tpos:Pos}
end
section
variable {K:Fgg}{E:XK}{α β:Type}{L:List Sl}{T:Ty α}
end
end L2
namespace L2
open PySem PySem.Spec PyProof.Rows
section
variable {K:Fgg}{E:XK}{α β γ ρ S B:Type}{F0 H0 F h H:Hp}{L:List Sl}{e:TE}{T:Ty α}{r:Mo α}{O:Own ρ}{u:TS}{LS:S→List Sl}{LB:B→List Sl}
theorem Hold.atM:∀ {L:List Sl}{σ:St}{F h:Hp}(i:Nat) {s:Sl},Hold L σ F h→L[i]?=some s →
  ∃ o h1 h2,σ[i]?=some o∧Jn h1 h2 h∧s.P o F h1∧∀ F' s' o' h1' h',Same F F'→Jn h1' h2 h'→s'.P o' F' h1'→Hold (L.set i s') (σ.set i o') F' h'
 | [],_,_,_,_,_,_,e=>by cases e
 | s::L,[],_,_,_,_,q,_=>q.elim
 | s::L,o::σ,F,h,0,t,⟨h1,h2,j,p,r⟩,e=>by
  cases e
  exact ⟨o,h1,h2,rfl,j,p,fun F' s' o' h1' h' g j' p'=>⟨h1',h2,j',p',r.mono g⟩⟩
 | s::L,o::σ,F,h,i+1,t,⟨h1,h2,j,p,r⟩,e=>by
  obtain ⟨o1,k1,k2,e1,j1,p1,f⟩:=Hold.atM i r (by simpa using e)
  have d1:Dj h1 k1:=fun p=>by
   rcases j.dj p with a | a
   ·exact .inl a
   ·exact .inr (j1.l.free a)
  have d2:Dj h1 k2:=fun p=>by
   rcases j.dj p with a | a
   ·exact .inl a
   ·exact .inr (j1.r.free a)
  refine ⟨o1,k1,un h1 k2,by simpa using e1,fun p=>?_,p1,fun F' s' o' k1' h' g j' p'=>?_⟩
  ·rcases j p with ⟨a,b⟩ | ⟨a,b⟩
   ·rcases j1 p with ⟨c,d⟩ | ⟨c,d⟩
    ·refine .inl ⟨c,?_⟩; unfold un; rw [a,b,d]
    ·refine .inr ⟨?_,by rw [b,d]⟩; unfold un; rw [a,c]
   ·refine .inl ⟨j1.l.free a,?_⟩
    have:k2 p=none:=j1.r.free a
    unfold un; rw [b]
    cases h1 p with
    | none=>rw [this]
    | some u=>rfl
  ·have dd:Dj k1' k2:=fun p=>by
    rcases j' p with ⟨a,b⟩ | ⟨a,b⟩
    ·exact .inl a
    ·right; unfold un at a
     cases z:h1 p with
     | none=>rw [z] at a; exact a
     | some u=>rw [z] at a; cases a
   refine ⟨h1,un k1' k2,fun p=>?_,p.mono g,f F' s' o' k1' _ g (zck_ dd) p'⟩
   rcases j' p with ⟨a,b⟩ | ⟨a,b⟩
   ·unfold un at b ⊢
    cases z:h1 p with
    | none=>rw [z] at b; exact .inl ⟨rfl,by rw [b,a]⟩
    | some u =>
     rw [z] at b
     refine .inr ⟨?_,b⟩
     rw [a]
     rcases d2 p with y | y
     ·rw [y] at z; cases z
     ·exact y
   ·unfold un at a
    cases z:h1 p with
    | some u=>rw [z] at a; cases a
    | none =>
     rw [z] at a
     refine .inl ⟨rfl,?_⟩
     unfold un; rw [b]
     cases k1' p with
     | none=>exact a.symm
     | some u=>rfl
structure PutC (F2 H2 h H0 k k' F3 H3:Hp):Prop where
 ff:Same F2 F3
 fh:Same F3 H3
 ol:Same (less H2 k) H3
 nw:∀ q,F2 q=none→F3 q≠none→H2 q=none∨k q≠none
 kh:Same k' H3
 dj:Dj F3 k'
 fr:∀ q,k q=none→k' q≠none→h q=none∧H0 q=none
theorem zfV_ {O1:Own α}{i:Nat}{σ:St}{x:α}(hL:Hold L σ F h) (hi:L[i]?=some (.ow O1 x)) (ok:Okk F0 H0 F h H) :
  ∃ v k,σ[i]?=some (some v)∧O1.O x v F k∧Same k H∧Same k h∧Dj F k∧∀ {β:Type}(O2:Own β) (x':β) (v':V) (k' F3 H3:Hp),PutC F H h H0 k k' F3 H3→O2.O x' v' F3 k' →
   ∃ h',Hold (L.set i (.ow O2 x')) (σ.set i (some v')) F3 h'∧Okk F0 H0 F3 h' H3:=by
 obtain ⟨o,k,hr,e1,j,⟨v,e2,ho⟩,f⟩:=hL.atM i hi
 subst e2
 obtain ⟨o1,o2,o3,o4,o5⟩:=ok
 have kh:Same k h:=j.l
 have rh:Same hr h:=j.r
 have kne:∀ q,k q≠none→h q≠none:=fun q z w=>z (kh.free w)
 refine ⟨v,k,e1,ho,kh.trans o3,kh,fun q=>?_,?_⟩
 ·rcases o2 q with z | z
  ·exact .inl z
  ·exact .inr (kh.free z)
 intro β O2 x' v' k' F3 H3 P hv'
 have rk:∀ {q o},hr q=some o→k q=none:=fun {q o} z=>by
  rcases j.dj q with y | y
  ·exact y
  ·rw [y] at z; cases z
 have dj:Dj k' hr:=fun q=>by
  by_cases w:k' q=none
  ·exact .inl w
  ·right
   by_cases w2:k q=none
   ·exact rh.free (P.fr q w2 w).1
   ·rcases j.dj q with y | y
    ·exact absurd y w2
    ·exact y
 have rH:∀ {q o},hr q=some o→H3 q=some o:=fun {q o} z=>P.ol q o (by rw [zB_ (rk z)]; exact o3 _ _ (rh _ _ z))
 refine ⟨un k' hr,f F3 (.ow O2 x') (some v') k' _ P.ff (zck_ dj) ⟨_,rfl,hv'⟩,⟨o1.1.trans P.ff,P.fh,fun q o z=>?_,fun q a b=>?_⟩,fun q=>?_,fun q o z=>?_,fun q z=>?_,fun q xs z=>?_⟩
 ·have hq:h q=none:=by
   cases w:h q with
   | none=>rfl
   | some s=>have:=o4 q (by rw [w]; exact Option.some_ne_none _); rw [this] at z; cases z
  exact P.ol q o (by rw [zB_ (kh.free hq)]; exact o1.2.2.1 _ _ z)
 ·by_cases w:F q=none
  ·rcases P.nw q w b with y | y
   ·exact o1.2.2.1.free y
   ·exact o4 q (kne q y)
  ·exact o1.2.2.2 q a w
 ·unfold un
  cases w:k' q with
  | some s =>
   left
   rcases P.dj q with y | y
   ·exact y
   ·rw [y] at w; cases w
  | none =>
   cases y:hr q with
   | none=>exact .inr rfl
   | some s =>
    left
    have hq:h q=some s:=rh _ _ y
    have Fq:F q=none:=by
     rcases o2 q with d | d
     ·exact d
     ·rw [d] at hq; cases hq
    by_cases w3:F3 q=none
    ·exact w3
    ·rcases P.nw q Fq w3 with d | d
     ·rw [o3 _ _ hq] at d; cases d
     ·exact absurd (rk y) d
 ·unfold un at z
  cases w:k' q with
  | some s=>rw [w] at z; rw [P.kh q s w]; exact z
  | none=>rw [w] at z; exact rH z
 ·unfold un at z
  cases w:k' q with
  | some s =>
   by_cases y:k q=none
   ·exact (P.fr q y (by rw [w]; exact Option.some_ne_none _)).2
   ·exact o4 q (kne q y)
  | none =>
   rw [w] at z
   exact o4 q fun y=>z (rh.free y)
 ·unfold un at z
  cases w:k' q with
  | some s=>rw [w] at z; refine O2.notup hv' q xs ?_; rw [w]; exact z
  | none=>rw [w] at z; exact o5 q xs (rh _ _ z)
theorem PutC.same {k k':Hp}{H3:Hp}(ok:Okk F0 H0 F h H) (kh:Same k h) (a:Same k' H3) (b:∀ q,k q=none→k' q=none→H3 q=H q) (c:∀ q,k q=none→k' q≠none→F q=none∧h q=none∧H0 q=none∧H q=k' q):PutC F H h H0 k k' F H3:=by
 have dj:Dj F k':=fun q=>by
  by_cases w:k' q=none
  ·exact .inr w
  ·left
   by_cases y:k q=none
   ·exact (c q y w).1
   ·rcases ok.2.1 q with d | d
    ·exact d
    ·exact absurd (kh.free d) y
 have ol:∀ q o,k q=none→H q=some o→H3 q=some o:=fun q o y z=>by
  by_cases w:k' q=none
  ·rw [b q y w]; exact z
  ·obtain ⟨_,_,_,e⟩:=c q y w
   rw [z] at e
   exact a _ _ e.symm
 refine ⟨Same.refl _,fun q o z=>?_,fun q o z=>?_,fun q y z=>absurd y z,a,dj,fun q y z=>⟨(c q y z).2.1,(c q y z).2.2.1⟩⟩
 ·have y:k q=none:=by
   rcases ok.2.1 q with d | d
   ·rw [d] at z; cases z
   ·exact kh.free d
  exact ol q o y (ok.1.2.1 _ _ z)
 ·unfold less at z
  split at z
  ·rename_i y; exact ol q o y z
  ·cases z
theorem PutC.one {p:Addr}{o o':HO}(ok:Okk F0 H0 F h H) (kh:Same (one p o) h):PutC F H h H0 (one p o) (one p o') F (upd H p o'):=by
 have ne:∀ q,L2.one p o q=none→q≠p:=fun q z w=>by rw [w,zaA_] at z; cases z
 refine PutC.same ok kh (fun q s z=>?_) (fun q z1 z2=>zah_ (ne q z1)) fun q z1 z2=>?_
 ·unfold L2.one at z
  split at z
  ·rename_i w; unfold upd; rw [if_pos w]; exact z
  ·cases z
 ·unfold L2.one at z2
  rw [if_neg (ne q z1)] at z2
  exact absurd rfl z2
end
section
variable {K:Fgg}{E:XK}{α β γ ρ S B:Type}{F0 H0 F h H:Hp}{L:List Sl}{e:TE}{T:Ty α}{r:Mo α}{O:Own ρ}{u:TS}{LS:S→List Sl}{LB:B→List Sl}{p:Addr}{vs:List V}
end
end L2
namespace L2
open PySem PySem.Spec PyProof.Rows
section
variable {α β γ:Type}
def OwAll (O:Own α) (F:Hp):List α→List V→Hp→Prop
 | [],[],h=>∀ p,h p=none
 | x::xs,v::vs,h=>∃ h1 h2,Jn h1 h2 h∧O.O x v F h1∧OwAll O F xs vs h2
 | _,_,_=>False
variable {O:Own α}
theorem OwAll.mono:∀ {xs:List α}{vs:List V}{F F' h:Hp},Same F F'→OwAll O F xs vs h→OwAll O F' xs vs h
 | [],[],_,_,_,_,q=>q
 | x::xs,v::vs,F,F',h,g,⟨h1,h2,j,o,r⟩=>⟨h1,h2,j,O.mono g o,r.mono g⟩
 | [],_::_,_,_,_,_,q=>q.elim
 | _::_,[],_,_,_,_,q=>q.elim
theorem OwAll.imm (i:ImmO O):∀ {xs:List α}{vs:List V}{F F' h:Hp},Tups F F'→OwAll O F xs vs h→OwAll O F' xs vs h
 | [],[],_,_,_,_,q=>q
 | x::xs,v::vs,F,F',h,g,⟨h1,h2,j,o,r⟩=>⟨h1,h2,j,i g o,r.imm i g⟩
 | [],_::_,_,_,_,_,q=>q.elim
 | _::_,[],_,_,_,_,q=>q.elim
theorem OwAll.notup:∀ {xs:List α}{vs:List V}{F h:Hp},OwAll O F xs vs h→∀ p ys,h p≠some (.tup ys)
 | [],[],_,_,q,p,ys=>by rw [q p]; exact fun z=>by cases z
 | x::xs,v::vs,F,h,⟨h1,h2,j,o,r⟩,p,ys=>by
  rcases j p with ⟨_,b⟩ | ⟨_,b⟩
  ·rw [b]; exact r.notup p ys
  ·rw [b]; exact O.notup o p ys
 | [],_::_,_,_,q,_,_=>q.elim
 | _::_,[],_,_,q,_,_=>q.elim
theorem OwAll.len:∀ {xs:List α}{vs:List V}{F h:Hp},OwAll O F xs vs h→xs.length=vs.length
 | [],[],_,_,_=>rfl
 | x::xs,v::vs,F,h,⟨h1,h2,j,o,r⟩=>by rw [List.length_cons,List.length_cons,r.len]
 | [],_::_,_,_,q=>q.elim
 | _::_,[],_,_,q=>q.elim
theorem zds_ {F h1 h:Hp}(d:Dj F h) (s:Same h1 h):Same (un F h1) (un F h):=fun p o e=>by
 unfold un at e ⊢
 cases z:F p with
 | some w=>rw [z] at e; exact e
 | none=>rw [z] at e; exact s _ _ e
theorem OwAll.prs:∀ {xs:List α}{vs:List V}{F h G:Hp},Dj F h→Same (un F h) G→OwAll O F xs vs h→Prs O.fr G xs vs
 | [],[],_,_,_,_,_,_=>.nil
 | x::xs,v::vs,F,h,G,d,g,⟨h1,h2,j,o,r⟩=>by
  have d1:Dj F h1:=fun p=>by
   rcases d p with z | z
   ·exact .inl z
   ·exact .inr (j.l.free z)
  have d2:Dj F h2:=fun p=>by
   rcases d p with z | z
   ·exact .inl z
   ·exact .inr (j.r.free z)
  exact .cons (O.fr.mono ((zds_ d j.l).trans g) (O.frz d1 o)) (r.prs d2 ((zds_ d j.r).trans g))
 | [],_::_,_,_,_,_,_,q=>q.elim
 | _::_,[],_,_,_,_,_,q=>q.elim
theorem zix_ {h1 h2 h:Hp}(j:Jn h1 h2 h):Jn h2 h1 h:=fun p=>by
 rcases j p with ⟨a,b⟩ | ⟨a,b⟩
 ·exact .inr ⟨a,b⟩
 ·exact .inl ⟨a,b⟩
theorem zcz_ {h1 h2 h12 h3 h:Hp}(j:Jn h1 h2 h12) (k:Jn h12 h3 h):∃ h23,Jn h2 h3 h23∧Jn h1 h23 h:=by
 have d:Dj h2 h3:=fun p=>by
  rcases k.dj p with z | z
  ·exact .inl (j.r.free z)
  ·exact .inr z
 refine ⟨un h2 h3,zck_ d,fun p=>?_⟩
 unfold un
 rcases k p with ⟨a,b⟩ | ⟨a,b⟩
 ·refine .inl ⟨j.l.free a,?_⟩
  rw [j.r.free a]; exact b
 ·rcases j p with ⟨c,e⟩ | ⟨c,e⟩
  ·refine .inl ⟨c,?_⟩
   rw [b,e]
   cases z:h2 p with
   | none=>exact a.symm ▸ rfl
   | some w=>rfl
  ·refine .inr ⟨?_,by rw [b,e]⟩
   rw [c]; exact a
theorem OwAll.at:∀ {xs:List α}{vs:List V}{F h:Hp}(i:Nat) {x:α},OwAll O F xs vs h→xs[i]?=some x →
  ∃ v h1 h2,vs[i]?=some v∧Jn h1 h2 h∧O.O x v F h1∧∀ x' h1' h' F3,Same F F3→O.O x' v F3 h1'→Jn h1' h2 h'→OwAll O F3 (xs.set i x') vs h'
 | [],_,_,_,_,_,_,e=>by cases e
 | x::xs,[],_,_,_,_,q,_=>q.elim
 | x::xs,v::vs,F,h,0,y,⟨h1,h2,j,o,r⟩,e=>by
  cases e
  exact ⟨v,h1,h2,rfl,j,o,fun x' h1' h' F3 g o' j'=>⟨h1',h2,j',o',r.mono g⟩⟩
 | x::xs,v::vs,F,h,i+1,y,⟨h1,h2,j,o,r⟩,e=>by
  obtain ⟨w,k1,k2,e1,j1,o1,f⟩:=OwAll.at i r (by simpa using e)
  obtain ⟨m,jm,jh⟩:=zcz_ j1 (zix_ j)
  refine ⟨w,k1,m,by simpa using e1,jh,o1,fun x' k1' h' F3 g o' j'=>?_⟩
  have d:Dj k1' k2:=fun p=>by
   rcases j'.dj p with z | z
   ·exact .inl z
   ·exact .inr (jm.l.free z)
  refine ⟨h1,un k1' k2,?_,O.mono g o,f x' k1' _ F3 g o' (zck_ d)⟩
  intro p
  rcases j' p with ⟨a,b⟩ | ⟨a,b⟩
  ·rcases jm p with ⟨c,e⟩ | ⟨c,e⟩
   ·right
    refine ⟨by unfold un; rw [a,c],by rw [b,e]⟩
   ·left
    refine ⟨c,by unfold un; rw [a,b,e]⟩
  ·left
   refine ⟨jm.r.free a,?_⟩
   unfold un
   rw [b]
   cases z:k1' p with
   | none=>exact (jm.l.free a).symm ▸ rfl
   | some w=>rfl
theorem OwAll.snoc:∀ {xs:List α}{vs:List V}{F h:Hp}{x:α}{v:V}{hn:Hp},OwAll O F xs vs h→O.O x v F hn→Dj h hn→OwAll O F (xs++[x]) (vs++[v]) (un h hn)
 | [],[],F,h,x,v,hn,q,o,d=>by
  refine ⟨hn,fun _=>none,fun p=>.inr ⟨rfl,?_⟩,o,fun _=>rfl⟩
  unfold un; rw [q p]
 | y::xs,w::vs,F,h,x,v,hn,⟨h1,h2,j,o1,r⟩,o,d=>by
  obtain ⟨m,jm,jh⟩:=zcz_ j (zck_ d)
  have d2:Dj h2 hn:=jm.dj
  have e:m=un h2 hn:=by
   funext p
   unfold un
   rcases jm p with ⟨a,b⟩ | ⟨a,b⟩
   ·rw [a]; exact b
   ·rw [b]
    cases z:h2 p with
    | none=>exact a.symm ▸ rfl
    | some w=>rfl
  rw [e] at jh
  exact ⟨h1,_,jh,o1,r.snoc o d2⟩
 | [],_::_,_,_,_,_,_,q,_,_=>q.elim
 | _::_,[],_,_,_,_,_,q,_,_=>q.elim
abbrev owLO (O:Own α):Own (List α):=⟨fun xs v F h=>∃ p vs h2,v=.ref p∧Jn (one p (.lst vs)) h2 h∧OwAll O F xs vs h2,tyL O.fr,fun g ⟨p,vs,h2,e,j,q⟩=>⟨p,vs,h2,e,j,q.mono g⟩,
 fun {a v F h} d ⟨p,vs,h2,e,j,q⟩=>⟨p,vs,e,zfN_ d _ _ (j.l _ _ zaA_),q.prs (fun b=>by
  rcases d b with z | z
  ·exact .inl z
  ·exact .inr (j.r.free z)) (zds_ d j.r)⟩,
 fun ⟨p,vs,h2,e,j,q⟩ b xs y=>by
  rcases j b with ⟨_,z⟩ | ⟨_,z⟩
  ·rw [z] at y; exact q.notup b xs y
  ·rw [z] at y; unfold one at y; split at y<;>cases y⟩
theorem zY_ (i:ImmO O):ImmO (owLO O):=fun g ⟨p,vs,h2,e,j,q⟩=>⟨p,vs,h2,e,j,q.imm i g⟩
end
section
variable {K:Fgg}{E:XK}{α β γ ρ S B:Type}{F0 H0 F h H:Hp}{L:List Sl}{e te ei:TE}{T:Ty α}{r:Mo α}{Or:Own ρ}{u:TS}{LS:S→List Sl}{LB:B→List Sl}{σ:St}
def Foc (F0 H0:Hp) (σ:St) (h F1:Hp) (O':Own β) (y:β) (u:V) (LF:β→List Sl):Prop :=
 ∀ F2 H2,Same F1 F2→Okk F0 H0 F2 h H2→∃ k,O'.O y u F2 k∧Same k h ∧
  ∀ y' k' F3 H3,PutC F2 H2 h H0 k k' F3 H3→O'.O y' u F3 k'→∃ h',Hold (LF y') σ F3 h'∧Okk F0 H0 F3 h' H3
theorem ziL_ {O:Own α}{x:α}{i:Nat}(hL:Hold L σ F h) (hi:L[i]?=some (.ow O x)):∃ v,σ[i]?=some (some v)∧Foc F0 H0 σ h F O x v (fun x'=>L.set i (.ow O x')):=by
 obtain ⟨o,_,_,e1,_,⟨v,e2,_⟩,_⟩:=hL.at i hi
 subst e2
 refine ⟨v,e1,fun F2 H2 s ok=>?_⟩
 obtain ⟨v',k,e1',ho,_,kh,_,g⟩:=zfV_ (hL.mono s) hi ok
 rw [e1] at e1'; cases e1'
 refine ⟨k,ho,kh,fun y' k' F3 H3 a b=>?_⟩
 obtain ⟨h',a1,a2⟩:=g O y' v k' F3 H3 a b
 rw [zaM_ e1] at a1
 exact ⟨h',a1,a2⟩
theorem Foc.part {O:Own α}{O':Own β}{F1:Hp}{y:α}{z:β}{w u:V}{LF:α→List Sl}{put:β→α}(f:Foc F0 H0 σ h F1 O y u LF)
  (pt:∀ F2 k,Same F1 F2→Same k h→O.O y u F2 k→∃ k1 k2,Jn k1 k2 k∧O'.O z w F2 k1∧∀ z' k1' k' F3,Same F2 F3→O'.O z' w F3 k1'→Jn k1' k2 k'→O.O (put z') u F3 k'):Foc F0 H0 σ h F1 O' z w (fun z'=>LF (put z')):=by
 intro F2 H2 s ok
 obtain ⟨k,ho,kh,g⟩:=f F2 H2 s ok
 obtain ⟨k1,k2,j,ho',pp⟩:=pt F2 k s kh ho
 refine ⟨k1,ho',j.l.trans kh,fun z' k1' F3 H3 P hz=>?_⟩
 have d:Dj k1' k2:=fun q=>by
  by_cases w1:k1' q=none
  ·exact .inl w1
  ·right
   by_cases w2:k1 q=none
   ·exact (j.r.trans kh).free (P.fr q w2 w1).1
   ·rcases j.dj q with y | y
    ·exact absurd y w2
    ·exact y
 have k2h:∀ {q o},k2 q=some o→k1 q=none∧H3 q=some o:=fun {q o} e=>by
  have y1:k1 q=none:=by
   rcases j.dj q with y1 | y1
   ·exact y1
   ·rw [y1] at e; cases e
  exact ⟨y1,P.ol q o (by rw [zB_ y1]; exact ok.2.2.1 _ _ (kh _ _ (j.r _ _ e)))⟩
 refine g (put z') (un k1' k2) F3 H3 ⟨P.ff,P.fh,fun q o e=>?_,(fun q a b=>(P.nw q a b).imp id fun z w=>z (j.l.free w)),fun q o e=>?_,fun q=>?_,fun q a1 a2=>?_⟩ (pp z' k1' _ F3 P.ff hz (zck_ d))
 ·unfold less at e
  split at e
  ·rename_i y; exact P.ol q o (by rw [zB_ (j.l.free y)]; exact e)
  ·cases e
 ·unfold un at e
  cases y:k1' q with
  | some s=>rw [y] at e; rw [P.kh q s y]; exact e
  | none=>rw [y] at e; exact (k2h e).2
 ·unfold un
  cases y:k1' q with
  | some s =>
   rcases P.dj q with d | d
   ·exact .inl d
   ·rw [d] at y; cases y
  | none =>
   cases e:k2 q with
   | none=>exact .inr rfl
   | some s =>
    left
    have hq:h q=some s:=kh _ _ (j.r _ _ e)
    have Fq:F2 q=none:=by
     rcases ok.2.1 q with d | d
     ·exact d
     ·rw [d] at hq; cases hq
    by_cases w3:F3 q=none
    ·exact w3
    ·rcases P.nw q Fq w3 with d | d
     ·rw [ok.2.2.1 _ _ hq] at d; cases d
     ·exact absurd (k2h e).1 d
 ·unfold un at a2
  have y2:k2 q=none:=j.r.free a1
  have y:k1' q≠none:=fun y=>by rw [y] at a2; exact a2 y2
  exact P.fr q (j.l.free a1) y
def EvPt (K:Fgg) (te:TE) (E:XK) (L:List Sl) (i:Nat) (O:Own α) (O':Own β) (r:Mo (β×(β→α))):Prop :=
 ∀ F0 H0 σ F h H (Q:VK),Hold L σ F h→Okk F0 H0 F h H→After K r E (un F h) H (fun yp G1 H1=>∀ u,Foc F0 H0 σ h (less G1 h) O' yp.1 u (fun z=>L.set i (.ow O (yp.2 z)))→Q u H1)→te σ H Q
theorem zd0_ {O:Own α}{x:α}{i:Nat}(hi:L[i]?=some (.ow O x)):EvPt K (mVar i) E L i O O (.ok (x,fun z=>z)):=by
 intro F0 H0 σ F h H Q hL ok q
 obtain ⟨o,hs,_⟩:=ok.back (Ext.refl ok.thaw)
 obtain ⟨v,ev,fc⟩:=ziL_ (F0:=F0) (H0:=H0) (hL.mono hs) hi
 exact za6_ ev (q.ok ok.thaw v fc)
theorem zkV_ {O:Own β}{p:Addr}{xs:List β}{n:Nat}{y:β}{vs:List V}{w:V}(hv:h p=some (.lst vs)) (hw:vs[n]?=some w) (e:xs[n]?=some y) :
  ∀ F2 k,Same k h→(owLO O).O xs (.ref p) F2 k→∃ k1 k2,Jn k1 k2 k∧O.O y w F2 k1∧∀ y' k1' k' F3,Same F2 F3→O.O y' w F3 k1'→Jn k1' k2 k'→(owLO O).O (xs.set n y') (.ref p) F3 k':=by
 rintro F2 k kh ⟨p',vs',k2,ep,j,all⟩
 cases ep
 have ev:vs'=vs:=by
  have:=kh _ _ (j.l _ _ zaA_)
  rw [hv] at this
  injection this with this
  injection this with this
  exact this.symm
 subst ev
 obtain ⟨w',a1,a2,e1,j1,o1,f⟩:=all.at n e
 rw [hw] at e1; cases e1
 obtain ⟨m,jm,jk⟩:=zcz_ j1 (zix_ j)
 refine ⟨a1,m,jk,o1,fun y' k1' k' F3 g o' j'=>?_⟩
 have d:Dj k1' a2:=fun q=>by
  rcases j'.dj q with z | z
  ·exact .inl z
  ·exact .inr (jm.l.free z)
 refine ⟨p,vs',un k1' a2,rfl,?_,f y' k1' _ F3 g o' (zck_ d)⟩
 intro q
 rcases j' q with ⟨a,b⟩ | ⟨a,b⟩
 ·rcases jm q with ⟨c,e⟩ | ⟨c,e⟩
  ·right
   refine ⟨by unfold un; rw [a,c],by rw [b,e]⟩
  ·left
   refine ⟨c,by unfold un; rw [a,b,e]⟩
 ·left
  refine ⟨jm.r.free a,?_⟩
  unfold un
  rw [b]
  cases z:k1' q with
  | none=>exact (jm.l.free a).symm ▸ rfl
  | some w=>rfl
theorem zgt_ {G1 G2 h:Hp}(s:Same G1 G2):Same (less G1 h) (less G2 h):=fun p o e=>by
 unfold less at e ⊢
 split at e
 ·exact s _ _ e
 ·cases e
end
end L2
namespace L2
open PySem PySem.Spec PyProof.Rows
def mFld (C:Addr) (te:TE) (f:Str):TE:=fun σ H Q=>te σ H fun x H1=>match x with
 | .ref a=>∃ dx fs v,H1 a=some (.ins C dx fs)∧fs.lookup f=some v∧Q v H1
 | _=>False
def mSFld (C:Addr) (te tv:TE) (f:Str):TS:=fun D σ H=>tv σ H fun y H1=>te σ H1 fun x H2=>match x with
 | .ref a=>∃ dx fs,H2 a=some (.ins C dx fs)∧fs.length<1000∧D.nx σ (upd H2 a (.ins C dx (putF f y fs)))
 | _=>False
def Gm (P:Program) (w:World) (K:Fgg) (mg:Str→Option Value) (base:Heap) (CX:CXT) (k:Nat) (C:Addr) (m:Str) (ps:List Str) (sp:Sp):Prop :=
 ∃ f fd,FnOk P w K mg base CX k f fd ps sp∧Cls K C∧Meth K C m f∧Binds K fd ps []
def Gk (P:Program) (w:World) (K:Fgg) (mg:Str→Option Value) (base:Heap) (CX:CXT) (k:Nat) (x:Str) (C:Addr) (ps:List Str) (sp:Sp):Prop :=
 ∃ f fd,FnOk P w K mg base CX k f fd ps sp∧Mk K C f∧mg x=some (.ref C)∧Binds K fd ps []
section
variable {X:Cx}{e value o:Expr}{es:List Expr}{f m x:Str}{p pos pos' apos:Pos}{ta tv:TE}{t:TA}{C:Addr}{k:Nat}{ps:List Str}{sp:Sp}
theorem z8_ (c:Cls X.K C) (n:NoAttr X.K C f) (he:PE X e ta) (hb:attributeBase e f X.env (eval e X.env)=eval e X.env:=by rfl):PE X (.Attribute e f pos) (mFld C ta f):=by
 intro pins s σ H Q I h
 refine znG_ hb (thn (he pins s σ H _ I h) fun u s1 hq_=>?_)
 obtain ⟨x,H1,I1,rx,q1⟩:=hq_
 cases x with
 | ref a =>
  obtain ⟨dx,fs,v,ea,l,q⟩:=q1
  obtain rfl:u=Value.ref a:=rx
  exact zhK_ I1 ea c n l fun u' s2 I2 ru=>⟨v,H1,I2,ru,q⟩
 | _=>exact q1.elim
theorem za4_ (c:Cls X.K C) (n:NoAttr X.K C f) (ha:PE X o ta) (hv:PE X value tv) (hs:swapsWith value (some (.Attribute o f pos')) pos.line X.env=pure false:=by rfl):PS X (.Assign [.Attribute o f pos'] value pos) (mSFld C ta tv f):=by
 intro pins s σ H D I h
 refine plainObj_wpAny_Assign_Attribute (thn (hv pins s σ H _ I h) fun u s1 ⟨y,H1,I1,ry,q⟩=>thn (ha pins s1 σ H1 _ I1 q) fun ov s2 hq_=>?_) hs
 obtain ⟨x,H2,I2,rx,q2⟩:=hq_
 cases x with
 | ref a =>
  obtain ⟨dx,fs,ea,l,q3⟩:=q2
  obtain rfl:ov=Value.ref a:=rx
  exact zi2_ I2 ea c n l ry fun s3 I3=>⟨σ,_,I3,q3⟩
 | _=>exact q2.elim
theorem za5_ {pl:Sem Bool}(G:Gm X.prog X.w X.K X.mg X.base CX0 k C m ps sp) (hr:Room k X.A) (he:PE X o ta) (ha:PA X (e::es) t)
  (hst:starEach (e::es) X.env=(false,eval e X.env)::starEach es X.env:=by rfl) (hpl:(backTo pos (starEach es X.env)).any (·.1)=false:=by rfl)
  (ht:eval (.Call (.Attribute o m apos) (e::es) [] pos) X.env=(do
   let ov ← eval o X.env
   standAt apos.atName
   let (f,first) ← holding [ov] (getMethod ov m pl)
   callWith pos f first (backTo pos (starEach (e::es) X.env)) (backToKw pos (keywordEach [] X.env))):=by rfl) :
  PE X (.Call (.Attribute o m apos) (e::es) [] pos) (tMeth C m sp [] E0 ta t):=by
 obtain ⟨f,fd,F,c,hm,hb⟩:=G
 exact znZ_ he c hm F hr hb .nil pass0 ha hst hpl ht
theorem zb8_ {pl:Sem Bool}(G:Gm X.prog X.w X.K X.mg X.base CX0 k C m ps sp) (hr:Room k X.A) (he:PE X o ta)
  (ht:eval (.Call (.Attribute o m apos) [] [] pos) X.env=(do
   let ov ← eval o X.env
   standAt apos.atName
   let (f,first) ← holding [ov] (getMethod ov m pl)
   callWith pos f first (backTo pos (starEach [] X.env)) (backToKw pos (keywordEach [] X.env))):=by rfl) :
  PE X (.Call (.Attribute o m apos) [] [] pos) (tMeth C m sp [] E0 ta tNil):=by
 obtain ⟨f,fd,F,c,hm,hb⟩:=G
 exact zl9_ he c hm F hr hb .nil pass0 ht
theorem zfR_ (G:Gk X.prog X.w X.K X.mg X.base CX0 k x C ps sp) (hr:Room (k+1) X.A) (ha:PA X (e::es) t) (hg:Gl X x:=by rfl) (hdb:(x == ("__debug__" : Str))=false:=by decide)
  (he:starEach (e::es) X.env=(false,eval e X.env)::starEach es X.env:=by rfl) (hpl:(backTo pos (starEach es X.env)).any (·.1)=false:=by rfl) :
  PE X (.Call (.Name x p) (e::es) [] pos) (tMake C sp [] E0 t):=by
 obtain ⟨f,fd,F,M,hm,hb⟩:=G
 exact znl_ M F hr hg hm hb .nil pass0 ha hdb he hpl
end
theorem zcK_:∀ {ns:List Str}{vs:List V}{i:Nat}{f:Str}{v:V},ns.Nodup→ns[i]?=some f→vs[i]?=some v→(ns.zip vs).lookup f=some v
 | [],_,_,_,_,_,h,_=>by simp at h
 | n::ns,[],_,_,_,_,_,h=>by simp at h
 | n::ns,w::vs,0,f,v,_,h,h'=>by
  simp at h h'; subst h h'
  rw [List.zip_cons_cons,List.lookup_cons,beq_self_eq_true]
 | n::ns,w::vs,i+1,f,v,nd,h,h'=>by
  obtain ⟨h1,h2⟩:=List.nodup_cons.mp nd
  have hf:ns[i]?=some f:=by simpa using h
  have hne:(f == n)=false:=beq_eq_false_iff_ne.mpr fun z=>h1 (z ▸ List.mem_of_getElem? hf)
  rw [List.zip_cons_cons,List.lookup_cons,hne]
  exact zcK_ h2 hf (by simpa using h')
theorem zaI_:∀ {ns:List Str}{vs:List V}{f:Str},f∉ns→(ns.zip vs).lookup f=none
 | [],_,_,_=>rfl
 | n::ns,[],_,_=>rfl
 | n::ns,w::vs,f,h=>by
  have hne:(f == n)=false:=beq_eq_false_iff_ne.mpr fun z=>h (z ▸ List.mem_cons_self ..)
  rw [List.zip_cons_cons,List.lookup_cons,hne]
  exact zaI_ fun z=>h (List.mem_cons_of_mem _ z)
theorem ziq_:∀ {ns:List Str}{vs:List V}{i:Nat}{f:Str}(v:V),ns.Nodup→ns[i]?=some f→i<vs.length→putF f v (ns.zip vs)=ns.zip (vs.set i v)
 | [],_,_,_,_,_,h,_=>by simp at h
 | n::ns,[],_,_,_,_,_,h=>by simp at h
 | n::ns,w::vs,0,f,v,_,h,_=>by
  simp at h; subst h
  rw [List.zip_cons_cons,putF,if_pos rfl]; rfl
 | n::ns,w::vs,i+1,f,v,nd,h,h'=>by
  obtain ⟨h1,h2⟩:=List.nodup_cons.mp nd
  have hf:ns[i]?=some f:=by simpa using h
  have hne:¬ n=f:=fun z=>h1 (z ▸ List.mem_of_getElem? hf)
  rw [List.zip_cons_cons,putF,if_neg hne,ziq_ v h2 hf (by simpa using h')]; rfl
theorem zgh_:∀ {ns:List Str}{vs:List V}{f:Str}(v:V),f∉ns→vs.length=ns.length→putF f v (ns.zip vs)=(ns++[f]).zip (vs++[v])
 | [],[],f,v,_,_=>rfl
 | [],_::_,_,_,_,h=>by simp at h
 | _::_,[],_,_,_,h=>by simp at h
 | n::ns,w::vs,f,v,h,hl=>by
  have hne:¬ n=f:=fun z=>h (z ▸ List.mem_cons_self ..)
  rw [List.zip_cons_cons,putF,if_neg hne,zgh_ v (fun z=>h (List.mem_cons_of_mem _ z)) (by simpa using hl)]; rfl
theorem zk2_:∀ {ns:List Str}{vs us:List V},vs.length=ns.length→us.length=ns.length→ns.zip vs=ns.zip us→vs=us
 | [],[],[],_,_,_=>rfl
 | n::ns,v::vs,u::us,h1,h2,e=>by
  rw [List.zip_cons_cons,List.zip_cons_cons] at e
  injection e with e1 e2
  injection e1 with _ e1
  rw [e1,zk2_ (by simpa using h1) (by simpa using h2) e2]
 | [],_::_,_,h,_,_=>by simp at h
 | [],[],_::_,_,h,_=>by simp at h
 | _::_,[],_,h,_,_=>by simp at h
 | _::_,_::_,[],_,h,_=>by simp at h
structure Ps (γ:Type) where
 P:γ→List V→Hp→Hp→Prop
 fr:Cs γ
 mono:∀ {c vs F F' h},Same F F'→P c vs F h→P c vs F' h
 frz:∀ {c vs F h},Dj F h→P c vs F h→fr.R c vs (un F h)
 notup:∀ {c vs F h},P c vs F h→∀ p xs,h p≠some (.tup xs)
section
variable {α β γ:Type}
theorem dj_l {F h1 h2 h:Hp}(d:Dj F h) (j:Jn h1 h2 h):Dj F h1:=fun p=>by
 rcases d p with z | z
 ·exact .inl z
 ·exact .inr (j.l.free z)
theorem dj_r {F h1 h2 h:Hp}(d:Dj F h) (j:Jn h1 h2 h):Dj F h2:=fun p=>by
 rcases d p with z | z
 ·exact .inl z
 ·exact .inr (j.r.free z)
abbrev psNil:Ps Unit:=⟨fun _ vs _ h=>vs=[]∧∀ p,h p=none,csNil,fun _ q=>q,fun _ q=>q.1,fun q p xs z=>by rw [q.2 p] at z; cases z⟩
abbrev psO (O:Own α) (P:Ps γ):Ps (α×γ):=⟨fun c vs F h=>∃ v us h1 h2,vs=v::us∧Jn h1 h2 h∧O.O c.1 v F h1∧P.P c.2 us F h2,csCons O.fr P.fr,
 fun g ⟨v,us,h1,h2,e,j,a,b⟩=>⟨v,us,h1,h2,e,j,O.mono g a,P.mono g b⟩,
 fun d ⟨v,us,h1,h2,e,j,a,b⟩=>⟨v,us,e,O.fr.mono (zds_ d j.l) (O.frz (dj_l d j) a),P.fr.mono (zds_ d j.r) (P.frz (dj_r d j) b)⟩,
 fun ⟨v,us,h1,h2,e,j,a,b⟩ p xs z=>by
  rcases j p with ⟨_,y⟩ | ⟨_,y⟩
  ·rw [y] at z; exact P.notup b p xs z
  ·rw [y] at z; exact O.notup a p xs z⟩
def two (p dx:Addr) (o:HO):Hp:=fun q=>if q=p then some o else if q=dx then some (.own p) else none
theorem zhB_ {p dx:Addr}{o:HO}:two p dx o p=some o:=if_pos rfl
theorem zlf_ {p dx:Addr}{o:HO}(h:dx≠p):two p dx o dx=some (.own p):=by unfold two; rw [if_neg h,if_pos rfl]
theorem zmA_ {p dx q:Addr}{o:HO}(h:two p dx o q=none):q≠p∧q≠dx:=by
 refine ⟨fun e=>?_,fun e=>?_⟩
 ·rw [e,zhB_] at h; cases h
 ·unfold two at h; split at h
  ·cases h
  ·first | cases h | (rw [if_pos e] at h; cases h)
abbrev tyI (C:Addr) (ns:List Str) (Q:Cs γ):Ty γ:=⟨fun c v H=>∃ p dx vs,v=.ref p∧H p=some (.ins C dx (ns.zip vs))∧vs.length=ns.length∧Q.R c vs H,fun g ⟨p,dx,vs,e,h,l,q⟩=>⟨p,dx,vs,e,g _ _ h,l,Q.mono g q⟩⟩
abbrev owI (C:Addr) (ns:List Str) (P:Ps γ):Own γ:=⟨fun c v F h=>∃ p dx vs k,v=.ref p∧dx≠p∧Jn (two p dx (.ins C dx (ns.zip vs))) k h∧vs.length=ns.length∧P.P c vs F k,tyI C ns P.fr,
 fun g ⟨p,dx,vs,k,e,n,j,l,q⟩=>⟨p,dx,vs,k,e,n,j,l,P.mono g q⟩,
 fun d ⟨p,dx,vs,k,e,n,j,l,q⟩=>⟨p,dx,vs,e,zfN_ d _ _ (j.l _ _ zhB_),l,P.fr.mono (zds_ d j.r) (P.frz (dj_r d j) q)⟩,
 fun ⟨p,dx,vs,k,e,n,j,l,q⟩ b xs y=>by
  rcases j b with ⟨_,z⟩ | ⟨_,z⟩
  ·rw [z] at y; exact P.notup q b xs y
  ·rw [z] at y; unfold two at y; split at y
   ·cases y
   ·split at y<;>cases y⟩
abbrev owAt (u:V) (O:Own α):Own α:=⟨fun a v F h=>v=u∧O.O a v F h,O.fr,fun g q=>⟨q.1,O.mono g q.2⟩,fun d q=>O.frz d q.2,fun q=>O.notup q.2⟩
def PsAt (P:Ps γ) (n:Nat) (O:Own β) (pr:γ→β) (st:γ→β→γ):Prop:=∀ {c vs F h},P.P c vs F h→∃ v h1 h2,vs[n]?=some v∧Jn h1 h2 h∧O.O (pr c) v F h1∧∀ z' h1' h' F3,Same F F3→O.O z' v F3 h1'→Jn h1' h2 h'→P.P (st c z') vs F3 h'
theorem zpm_ {O:Own β}{P:Ps γ}:PsAt (psO O P) 0 O (fun c=>c.1) (fun c z=>(z,c.2)):=fun ⟨v,us,h1,h2,e,j,a,b⟩=>by
 subst e
 exact ⟨v,h1,h2,rfl,j,a,fun z' h1' h' F3 g o' j'=>⟨v,us,h1',h2,rfl,j',o',P.mono g b⟩⟩
theorem zob_ {b t m a h:Hp}(jm:Jn b t m) (j:Jn a m h):Jn t (un a b) h:=fun q=>by
 rcases j q with ⟨x,y⟩ | ⟨x,y⟩
 ·rcases jm q with ⟨c,e⟩ | ⟨c,e⟩
  ·right
   refine ⟨by unfold un; rw [x,c],by rw [y,e]⟩
  ·left
   refine ⟨c,by unfold un; rw [x,y,e]⟩
 ·left
  refine ⟨jm.r.free x,?_⟩
  unfold un
  rw [y]
  cases z:a q with
  | none=>exact (jm.l.free x).symm ▸ rfl
  | some w=>rfl
theorem zn9_ {a b t m h:Hp}(jm:Jn b t m) (j:Jn a m h):Dj a b:=fun q=>by
 rcases j.dj q with z | z
 ·exact .inl z
 ·exact .inr (jm.l.free z)
theorem zih_ {O:Own α}{O':Own β}{P:Ps γ}{n:Nat}{pr:γ→β}{st:γ→β→γ}(h:PsAt P n O' pr st):PsAt (psO O P) (n+1) O' (fun c=>pr c.2) (fun c z=>(c.1,st c.2 z)):=fun ⟨v,us,h1,h2,e,j,a,b⟩=>by
 subst e
 obtain ⟨w,k1,k2,e1,j1,o1,f⟩:=h b
 obtain ⟨m,jm,jh⟩:=zcz_ j1 (zix_ j)
 refine ⟨w,k1,m,by simpa using e1,jh,o1,fun z' k1' h' F3 g o' j'=>?_⟩
 exact ⟨v,us,h1,un k1' k2,rfl,zob_ jm j',O.mono g a,f z' k1' _ F3 g o' (zck_ (zn9_ jm j'))⟩
def PsPut (P:Ps γ) (n:Nat) (O:Own β) (st:γ→β→γ):Prop:=∀ {c vs F h},P.P c vs F h→n<vs.length∧∃ h2,Same h2 h∧∀ z' v' h1' h' F3,Same F F3→O.O z' v' F3 h1'→Jn h1' h2 h'→P.P (st c z') (vs.set n v') F3 h'
theorem ziv_ {O:Own β}{P:Ps γ}:PsPut (psO O P) 0 O (fun c z=>(z,c.2)):=fun ⟨v,us,h1,h2,e,j,a,b⟩=>by
 subst e
 exact ⟨by simp,h2,j.r,fun z' v' h1' h' F3 g o' j'=>⟨v',us,h1',h2,rfl,j',o',P.mono g b⟩⟩
theorem zcO_ {O:Own α}{O':Own β}{P:Ps γ}{n:Nat}{st:γ→β→γ}(h:PsPut P n O' st):PsPut (psO O P) (n+1) O' (fun c z=>(c.1,st c.2 z)):=fun ⟨v,us,h1,h2,e,j,a,b⟩=>by
 subst e
 obtain ⟨hn,k2,ks,f⟩:=h b
 have d:Dj k2 h1:=fun q=>by
  rcases j.dj q with z | z
  ·exact .inr z
  ·exact .inl (ks.free z)
 refine ⟨by simpa using hn,un k2 h1,fun q o z=>?_,fun z' v' k1' h' F3 g o' j'=>?_⟩
 ·unfold un at z
  cases y:k2 q with
  | some w=>rw [y] at z; rw [← z]; exact j.r _ _ (ks _ _ y)
  | none=>rw [y] at z; exact j.l _ _ z
 ·exact ⟨v,us.set n v',h1,un k1' k2,rfl,zob_ (zck_ d) j',O.mono g a,f z' v' k1' _ F3 g o' (zck_ (zn9_ (zck_ d) j'))⟩
def PsAdd (P:Ps γ) (O:Own β) {δ:Type}(P':Ps δ) (ad:γ→β→δ):Prop:=∀ {c vs F h},P.P c vs F h→∀ z v' h1' h' F3,Same F F3→O.O z v' F3 h1'→Jn h1' h h'→P'.P (ad c z) (vs++[v']) F3 h'
theorem zea_ {O:Own β}:PsAdd psNil O (psO O psNil) (fun _ z=>(z,())):=fun q z v' h1' h' F3 g o' j'=>by
 rw [q.1]
 exact ⟨v',[],h1',_,rfl,j',o',rfl,q.2⟩
theorem zbd_ {O:Own α}{O':Own β}{P:Ps γ}{δ:Type}{P':Ps δ}{ad:γ→β→δ}(h:PsAdd P O' P' ad):PsAdd (psO O P) O' (psO O P') (fun c z=>(c.1,ad c.2 z)):=fun ⟨v,us,h1,h2,e,j,a,b⟩ z v' k1' h' F3 g o' j'=>by
 subst e
 have jm:Jn h2 h1 _:=zix_ j
 exact ⟨v,us++[v'],h1,un k1' h2,rfl,zob_ jm j',O.mono g a,h b z v' k1' _ F3 g o' (zck_ (zn9_ jm j'))⟩
end
section
variable {K:Fgg}{E:XK}{α β γ δ ρ S B:Type}{F0 H0 F h H:Hp}{L:List Sl}{e te ei:TE}{T:Ty α}{r:Mo α}{Or:Own ρ}{u:TS}{LS:S→List Sl}{LB:B→List Sl}{σ:St}{C:Addr}{ns:List Str}{f:Str}{i n:Nat}
theorem zbh_ {Q:Cs γ}{pr:γ→α}{r:Mo γ}(nd:ns.Nodup) (hf:ns[n]?=some f) (ha:CsAt Q n T pr) (he:EvF K te E L r (tyI C ns Q)):EvF K (mFld C te f) E L (r.bind fun c=>.ok (pr c)) T:=by
 intro σ F H R hL hs q
 refine he σ F H _ hL hs (q.bind.imp fun c F1 H1 x1 k1 v hq_=>?_)
 obtain ⟨p,dx,vs,e,hp,hl,hc⟩:=hq_
 subst e
 obtain ⟨w,ew,rw'⟩:=ha hc
 exact ⟨dx,_,w,x1.2.1 _ _ hp,zcK_ nd hf ew,k1.ok x1.2.1 w rw'⟩
theorem zf5_ {O:Own α}{O':Own β}{w:V}{r:Mo (β×(β→α))}(hp:EvPt K te E L i O (owAt w O') r):EvPt K te E L i O O' r:=by
 intro F0 H0 σ F h H Q hL ok q
 refine hp F0 H0 σ F h H _ hL ok (q.imp fun yp G1 H1 x1 k1 u fc=>k1 u fun F2 H2 s o2=>?_)
 obtain ⟨k,⟨e,ho⟩,kh,g⟩:=fc F2 H2 s o2
 exact ⟨k,ho,kh,fun y' k' F3 H3 P hy=>g y' k' F3 H3 P ⟨e,hy⟩⟩
theorem zne_ {P:Ps γ}{O':Own β}{pr:γ→β}{st:γ→β→γ}{p dx:Addr}{vs:List V}{w:V}{c:γ}(pa:PsAt P n O' pr st) (hv:h p=some (.ins C dx (ns.zip vs))) (hl:vs.length=ns.length) (hw:vs[n]?=some w) :
  ∀ F2 k,Same k h→(owI C ns P).O c (.ref p) F2 k→∃ k1 k2,Jn k1 k2 k∧O'.O (pr c) w F2 k1∧∀ y' k1' k' F3,Same F2 F3→O'.O y' w F3 k1'→Jn k1' k2 k'→(owI C ns P).O (st c y') (.ref p) F3 k':=by
 rintro F2 k kh ⟨p',dx',vs',m,ep,ndx,j,hl',ps⟩
 cases ep
 have ev:=kh _ _ (j.l _ _ zhB_)
 rw [hv] at ev
 injection ev with ev
 injection ev with _ e1 e2
 subst e1
 have ev:=zk2_ hl hl' e2
 subst ev
 obtain ⟨w',a1,a2,e3,j1,o1,g⟩:=pa ps
 rw [hw] at e3; cases e3
 obtain ⟨mm,jm,jk⟩:=zcz_ j1 (zix_ j)
 refine ⟨a1,mm,jk,o1,fun y' k1' k' F3 s o' j'=>?_⟩
 exact ⟨p,dx,vs,un k1' a2,rfl,ndx,zob_ jm j',hl,g y' k1' _ F3 s o' (zck_ (zn9_ jm j'))⟩
theorem zny_ {O:Own α}{P:Ps γ}{O':Own β}{pr:γ→β}{st:γ→β→γ}{r:Mo (γ×(γ→α))}(nd:ns.Nodup) (hf:ns[n]?=some f) (pa:PsAt P n O' pr st) (hp:EvPt K te E L i O (owI C ns P) r) :
  EvPt K (mFld C te f) E L i O O' (r.bind fun yp=>.ok (pr yp.1,fun z'=>yp.2 (st yp.1 z'))):=by
 intro F0 H0 σ F h H Q hL ok q
 refine hp F0 H0 σ F h H _ hL ok (q.bind.imp fun yp G1 H1 x1 k1 u fc=>?_)
 obtain ⟨o1,_,_⟩:=ok.back x1
 obtain ⟨k,⟨p,dx,vs,m,rfl,ndx,jn,hl,ps⟩,kh,_⟩:=fc _ H1 (Same.refl _) o1
 have hp1:h p=some (.ins C dx (ns.zip vs)):=kh _ _ (jn.l _ _ zhB_)
 obtain ⟨w,_,_,ew,_⟩:=pa ps
 refine ⟨dx,_,w,o1.2.2.1 _ _ hp1,zcK_ nd hf ew,?_⟩
 exact k1.ok x1.2.1 w (Foc.part (put:=st yp.1) (LF:=fun y'=>L.set i (.ow O (yp.2 y'))) fc fun F2 k s kh ho=>zne_ pa hp1 hl ew F2 k kh ho)
theorem zim_ {p dx:Addr}{o o':HO}{m h2 hn:Hp}{k:Hp}(ok:Okk F0 H0 F h H) (kh:Same k h) (ndx:dx≠p) (jn:Jn (two p dx o) m k) (h2m:Same h2 m) (fresh:∀ q,hn q≠none→F q=none∧h q=none∧H0 q=none) (hs:Same hn H) (dn:Dj hn h2) :
  Jn (two p dx o') (un hn h2) (un (two p dx o') (un hn h2))∧PutC F H h H0 k (un (two p dx o') (un hn h2)) F (upd H p o'):=by
 have hnk:∀ q,hn q≠none→k q=none:=fun q z=>kh.free (fresh q z).2.1
 have kp:k p=some o:=jn.l _ _ zhB_
 have kdx:k dx=some (.own p):=jn.l _ _ (zlf_ ndx)
 have m0:∀ q,two p dx o q≠none→m q=none:=fun q z=>by
  rcases jn.dj q with y | y
  ·exact absurd y z
  ·exact y
 have two_ne:∀ {o:HO}{q},two p dx o q≠none→q=p∨q=dx:=fun {o q} z=>by
  by_cases a:q=p
  ·exact .inl a
  ·by_cases b:q=dx
   ·exact .inr b
   ·exact absurd (by unfold two; rw [if_neg a,if_neg b]) z
 have dj:Dj (two p dx o') (un hn h2):=fun q=>by
  by_cases z:two p dx o' q=none
  ·exact .inl z
  ·right
   have kq:k q≠none:=by
    rcases two_ne z with e | e
    ·rw [e,kp]; exact Option.some_ne_none _
    ·rw [e,kdx]; exact Option.some_ne_none _
   have hq:hn q=none:=by
    by_cases y:hn q=none
    ·exact y
    ·exact absurd (hnk q y) kq
   have mq:m q=none:=m0 q (by
    rcases two_ne z with e | e
    ·rw [e,zhB_]; exact Option.some_ne_none _
    ·rw [e,zlf_ ndx]; exact Option.some_ne_none _)
   unfold un; rw [hq]; exact h2m.free mq
 refine ⟨zck_ dj,PutC.same ok kh (fun q s z=>?_) (fun q z1 z2=>zah_ fun e=>?_) fun q z1 z2=>?_⟩
 ·unfold un at z
  cases y:two p dx o' q with
  | some w =>
   rw [y] at z
   by_cases e:q=p
   ·rw [e,zhB_] at y; rw [e,zat_,y]; exact z
   ·rw [zah_ e]
    have e2:q=dx:=by
     rcases two_ne (o:=o') (q:=q) (by rw [y]; exact Option.some_ne_none _) with a | a
     ·exact absurd a e
     ·exact a
    rw [e2,zlf_ ndx] at y
    rw [← z,← y,e2]; exact ok.2.2.1 _ _ (kh _ _ kdx)
  | none =>
   rw [y] at z
   have e:=(zmA_ y).1
   rw [zah_ e]
   cases x:hn q with
   | some w=>rw [x] at z; rw [← z]; exact hs _ _ x
   | none=>rw [x] at z; exact ok.2.2.1 _ _ (kh _ _ (jn.r _ _ (h2m _ _ z)))
 ·rw [e,kp] at z1; cases z1
 ·have e1:two p dx o' q=none:=by
   by_cases y:two p dx o' q=none
   ·exact y
   ·rcases two_ne y with e | e
    ·rw [e,kp] at z1; cases z1
    ·rw [e,kdx] at z1; cases z1
  have e2:h2 q=none:=h2m.free (jn.r.free z1)
  have eu:un (two p dx o') (un hn h2) q=hn q:=by
   unfold un; rw [e1]
   cases x:hn q with
   | some w=>rfl
   | none=>exact e2
  rw [eu] at z2 ⊢
  obtain ⟨a,b,c⟩:=fresh q z2
  refine ⟨a,b,c,?_⟩
  cases x:hn q with
  | none=>exact absurd x z2
  | some w=>exact hs _ _ x
theorem zoP_ {O:Own β}{P:Ps γ}{st:γ→α→γ}{r0:Mo (γ×(γ→β))}{k:β→Mo (Out ρ B S)}(nd:ns.Nodup) (hf:ns[n]?=some f) (hsm:ns.length<1000) (pp:PsPut P n (owF T) st) (hT:Imm T) (he:EvF K e E L r T) (hp:EvPt K te E L i O (owI C ns P) r0) (hk:∀ x',EvS K u E (L.set i (.ow O x')) (k x') LS LB Or) :
  EvS K (tSeq (mSFld C te e f) u) E L (r.bind fun a=>r0.bind fun yp=>k (yp.2 (st yp.1 a))) LS LB Or:=by
 intro F0 H0 σ F h H D hL ok fin
 refine he σ (un F h) H _ (hL.froz ok.2.1) ok.thaw (zag_ (G:=F) ok _ (.inl rfl) fin fun a F' H' hra x v hv=>?_)
 obtain ⟨o,hs,ht⟩:=ok.back x
 rw [hra] at fin
 refine hp F0 H0 σ (less F' h) h H' _ (hL.mono hs) o (zag_ (G:=F) o _ (.inl rfl) fin fun yp G1 H1 hr0 x1 u0 fc=>?_)
 obtain ⟨o1,hs1,_⟩:=o.back x1
 rw [hr0] at fin
 obtain ⟨k0,⟨p,dx,vs,m,rfl,ndx,jn,hl,ps⟩,kh,g⟩:=fc _ H1 (Same.refl _) o1
 obtain ⟨hn,h2,h2m,pf⟩:=pp ps
 have hp1:H1 p=some (.ins C dx (ns.zip vs)):=o1.2.2.1 _ _ (kh _ _ (jn.l _ _ zhB_))
 refine ⟨dx,_,hp1,by rw [List.length_zip]; omega,?_⟩
 rw [ziq_ v nd hf hn]
 have nul:∀ q,(fun _:Addr=>(none:Option HO)) q≠none→less G1 h q=none∧h q=none∧H0 q=none:=fun q z=>absurd rfl z
 obtain ⟨j',P'⟩:=zim_ (o':=.ins C dx (ns.zip (vs.set n v))) (hn:=fun _=>none) o1 kh ndx jn h2m nul (fun q o z=>by cases z) (fun q=>.inl rfl)
 have eu:un (fun _=>none) h2=h2:=by funext q; rfl
 rw [eu] at j' P'
 obtain ⟨h',a1,a2⟩:=g (st yp.1 a) _ _ _ P' ⟨p,dx,vs.set n v,h2,rfl,ndx,j',by rw [List.length_set]; exact hl,pf a v (fun _=>none) h2 _ (Same.refl _) ⟨fun _=>rfl,T.mono hs1 (hT ht hv)⟩ (fun q=>.inl ⟨rfl,rfl⟩)⟩
 exact hk _ F0 H0 σ _ h' _ D a1 a2 fin
theorem zo5_ {P:Ps γ}{P':Ps δ}{ad:γ→α→δ}{x:γ}{w:V}{k:δ→Mo (Out ρ B S)}(hi:L[i]?=some (.ow (owAt w (owI C ns P)) x)) (hf:f∉ns) (hsm:ns.length<900) (pp:PsAdd P (owF T) P' ad) (hT:Imm T) (he:EvF K e E L r T) (hk:∀ x',EvS K u E (L.set i (.ow (owAt w (owI C (ns++[f]) P')) x')) (k x') LS LB Or) :
  EvS K (tSeq (mSFld C (mVar i) e f) u) E L (r.bind fun a=>k (ad x a)) LS LB Or:=by
 intro F0 H0 σ F h H D hL ok fin
 refine he σ (un F h) H _ (hL.froz ok.2.1) ok.thaw (zag_ (G:=F) ok _ (.inl rfl) fin fun a F' H' hra x1 v hv=>?_)
 obtain ⟨o,hs,ht⟩:=ok.back x1
 rw [hra] at fin
 obtain ⟨v0,k0,e1,⟨ew,p,dx,vs,m,rfl,ndx,jn,hl,ps⟩,kH,kh,_,g⟩:=zfV_ (hL.mono hs) hi o
 have hp1:H' p=some (.ins C dx (ns.zip vs)):=kH _ _ (jn.l _ _ zhB_)
 refine za6_ e1 ⟨dx,_,hp1,by rw [List.length_zip]; omega,?_⟩
 rw [zgh_ v hf hl]
 have nul:∀ q,(fun _:Addr=>(none:Option HO)) q≠none→less F' h q=none∧h q=none∧H0 q=none:=fun q z=>absurd rfl z
 obtain ⟨j',PC⟩:=zim_ (o':=.ins C dx ((ns++[f]).zip (vs++[v]))) (hn:=fun _=>none) o kh ndx jn (Same.refl m) nul (fun q o z=>by cases z) (fun q=>.inl rfl)
 have eu:un (fun _=>none) m=m:=by funext q; rfl
 rw [eu] at j' PC
 obtain ⟨h',a1,a2⟩:=g (owAt w (owI C (ns++[f]) P')) (ad x a) (.ref p) _ _ _ PC ⟨ew,p,dx,vs++[v],m,rfl,ndx,j',by rw [List.length_append,List.length_append,hl]; rfl,pp ps a v (fun _=>none) m _ (Same.refl _) ⟨fun _=>rfl,hT ht hv⟩ (fun q=>.inl ⟨rfl,rfl⟩)⟩
 rw [zaM_ e1] at a1
 exact hk _ F0 H0 σ _ h' _ D a1 a2 fin
end
end L2
namespace L2
open PySem PySem.Spec PyProof.Rows
section
variable {K:Fgg}{E:XK}{α β γ δ ρ ρ' S B:Type}{F0 H0 F h H:Hp}{L:List Sl}{e te ei:TE}{T:Ty α}{r:Mo α}{Or:Own ρ}{t u:TS}{LS:S→List Sl}{LB:B→List Sl}{σ:St}{C:Addr}{ns:List Str}{f m:Str}{i n:Nat}
def FinM (K:Fgg) (r:Mo ρ) (E:XK) (F0 H0:Hp) (kk:ρ→Hp→Hp→Hp→Prop):Prop:=match r with
 | .ok a=>∀ F h H,Okk F0 H0 F h H→kk a F h H
 | .ex c=>∀ F h H,Okk F0 H0 F h H→E (.ref (gA K c)) none H
 | .no=>False
abbrev owRM (w:V) (O2:Own β) (Or:Own ρ):Own (ρ×β):=⟨fun r v F h=>∃ h1 h2,Jn h1 h2 h∧Or.O r.1 v F h1∧O2.O r.2 w F h2,⟨fun r v H=>Or.fr.R r.1 v H,fun g q=>Or.fr.mono g q⟩,
 fun g ⟨h1,h2,j,a,b⟩=>⟨h1,h2,j,Or.mono g a,O2.mono g b⟩,
 fun d ⟨h1,h2,j,a,b⟩=>Or.fr.mono (zds_ d j.l) (Or.frz (dj_l d j) a),
 fun ⟨h1,h2,j,a,b⟩ p xs z=>by
  rcases j p with ⟨_,y⟩ | ⟨_,y⟩
  ·rw [y] at z; exact O2.notup b p xs z
  ·rw [y] at z; exact Or.notup a p xs z⟩
def CtM (K:Fgg) (O:Own α) (O2:Own β) (Q:Cs γ) (g:α→γ→Mo (ρ×β)) (Or:Own ρ):Sp:=fun vs H R E=>∃ F h x c w ws,vs=w::ws∧Same F H∧Dj F h∧Same h H∧O.O x w F h∧Q.R c ws F ∧
 FinM K (g x c) E F (less H h) fun r F' h' H'=>∀ v,(owRM w O2 Or).O r v F' h'→R v H'
theorem zbW_ {k:Hp}(ok:Okk F0 H0 F h H) (s:Same k h):Okk F0 H0 F k H:=by
 refine ⟨ok.1,fun p=>?_,s.trans ok.2.2.1,fun p z=>ok.2.2.2.1 p fun y=>z (s.free y),fun p xs z=>ok.2.2.2.2 p xs (s _ _ z)⟩
 rcases ok.2.1 p with z | z
 ·exact .inl z
 ·exact .inr (s.free z)
theorem zR_ {h:Hp}(p:Addr) (z:h p≠none):less H h p=none:=by
 unfold less
 cases y:h p with
 | none=>exact absurd y z
 | some w=>rfl
theorem zba_:Same (less H h) H:=fun p o z=>by
 unfold less at z
 split at z
 ·exact z
 ·cases z
theorem zgj_ (hs:Same F H) (dj:Dj F h) (hh:Same h H) (nt:∀ p xs,h p≠some (.tup xs)):Okk F (less H h) F h H:=by
 refine ⟨⟨Same.refl _,hs,zba_,fun p a b=>absurd a b⟩,dj,hh,fun p z=>zR_ p z,nt⟩
def fnMU (r:Mo (Out (Unit×β) Unit β)):Mo (Unit×β):=r.bind fun o=>match o with | .rt a=>.ok a | .nx x=>.ok ((),x) | _=>.no
def fnMR (r:Mo (Out (ρ×β) Unit Unit)):Mo (ρ×β):=r.bind fun o=>match o with | .rt a=>.ok a | _=>.no
theorem zfs_ {O:Own α}{Q:Cs γ}{ss:γ→List Sl}{x:α}{c:γ}{w:V}{ws:List V}(m:Nat) (hC:CsS Q ss) (hO:O.O x w F h) (hc:Q.R c ws F):Hold (.ow (owAt w O) x::(ss c++List.replicate m .dead)) (some w::(ws.map some++List.replicate m none)) F h :=
 ⟨h,fun _=>none,fun _=>.inr ⟨rfl,rfl⟩,⟨w,rfl,rfl,hO⟩,(hC hc).hold m⟩
theorem zm3_ {t:XK→TS}{O:Own α}{O2:Own β}{Q:Cs γ}{ss:γ→List Sl}{g:α→γ→Mo (Out (Unit×β) Unit β)}{N:List Str}{LS:V→β→List Sl}(n m:Nat) (hn:CsN Q n) (hm:N.length-(n+1)=m) (hC:CsS Q ss) (hLS:∀ w x,(LS w x)[0]?=some (.ow (owAt w O2) x))
  (hb:∀ w x c E,EvS K (t E) E (.ow (owAt w O) x::(ss c++List.replicate m .dead)) (g x c) (LS w) (fun _:Unit=>[]) (owRM w O2 (owF tyNon))) :
  ∀ vs H R E,CtM K O O2 Q (fun x c=>fnMU (g x c)) (owF tyNon) vs H R E→t E { nx:=fun _ H'=>R .non H',rt:=R } (start N vs) H:=by
 rintro vs H R E ⟨F,h,x,c,w,ws,rfl,hs,dj,hh,hO,hc,q⟩
 have hstart:start N (w::ws)=some w::(ws.map some++List.replicate m none):=by
  unfold start
  rw [List.length_cons,hn hc,hm]; rfl
 rw [hstart]
 refine hb w x c E F (less H h) _ F h H _ (zfs_ m hC hO hc) (zgj_ hs dj hh (O.notup hO)) ?_
 cases e:g x c with
 | no=>simp only [fnMU,e] at q; exact q
 | ex cc=>simp only [fnMU,e] at q; exact q
 | ok o =>
  simp only [fnMU,e] at q
  cases o with
  | nx s =>
   intro σ F' h' H' hL ok
   obtain ⟨o,k,hr,e1,j,⟨v,e2,e3,ho⟩,_⟩:=hL.at 0 (hLS w s)
   subst e3
   exact q F' k H' (zbW_ ok j.l) .non ⟨fun _=>none,k,fun _=>.inl ⟨rfl,rfl⟩,⟨fun _=>rfl,rfl⟩,ho⟩
  | bk s=>exact q.elim
  | ct s=>exact q.elim
  | rt a=>exact fun v F' h' H' ok hv=>q F' h' H' ok v hv
theorem znH_ {t:XK→TS}{O:Own α}{O2:Own β}{Q:Cs γ}{ss:γ→List Sl}{g:α→γ→Mo (Out (ρ×β) Unit Unit)}{N:List Str}(n m:Nat) (hn:CsN Q n) (hm:N.length-(n+1)=m) (hC:CsS Q ss)
  (hb:∀ w x c E,EvS K (t E) E (.ow (owAt w O) x::(ss c++List.replicate m .dead)) (g x c) (fun _:Unit=>[]) (fun _:Unit=>[]) (owRM w O2 Or)) :
  ∀ vs H R E,CtM K O O2 Q (fun x c=>fnMR (g x c)) Or vs H R E→t E { nx:=fun _ H'=>R .non H',rt:=R } (start N vs) H:=by
 rintro vs H R E ⟨F,h,x,c,w,ws,rfl,hs,dj,hh,hO,hc,q⟩
 have hstart:start N (w::ws)=some w::(ws.map some++List.replicate m none):=by
  unfold start
  rw [List.length_cons,hn hc,hm]; rfl
 rw [hstart]
 refine hb w x c E F (less H h) _ F h H _ (zfs_ m hC hO hc) (zgj_ hs dj hh (O.notup hO)) ?_
 cases e:g x c with
 | no=>simp only [fnMR,e] at q; exact q
 | ex cc=>simp only [fnMR,e] at q; exact q
 | ok o =>
  simp only [fnMR,e] at q
  cases o with
  | nx s=>exact q.elim
  | bk s=>exact q.elim
  | ct s=>exact q.elim
  | rt a=>exact fun v F' h' H' ok hv=>q F' h' H' ok v hv
theorem zpf_ {O2:Own β}{x:β}{w:V}(h0:L[i]?=some (.ow (owAt w O2) x)) (hT:Imm T) (he:EvF K e E L r T):EvS K (tRet e) E L (r.bind fun a=>.ok (.rt (a,x))) LS LB (owRM w O2 (owF T)):=by
 intro F0 H0 σ F h H D hL ok fin
 refine he σ (un F h) H _ (hL.froz ok.2.1) ok.thaw (zag_ (G:=F) ok _ (.inl rfl) fin fun a F' H' hr x1 v hv=>?_)
 obtain ⟨o,hs,ht⟩:=ok.back x1
 rw [hr] at fin
 obtain ⟨_,k,_,_,j,⟨v',_,e3,ho⟩,_⟩:=(hL.mono hs).at i h0
 subst e3
 exact fin v _ k H' (zbW_ o j.l) ⟨fun _=>none,k,fun _=>.inl ⟨rfl,rfl⟩,⟨fun _=>rfl,hT ht hv⟩,ho⟩
theorem zk5_ {O:Own α}{P:Ps β}{r0:Mo (β×(β→α))}{Q:Cs γ}{ta:TA}{ra:Mo γ}{g:β→γ→Mo (ρ'×β)}{Or':Own ρ'}{k:α→Mo (Out ρ B S)}(hno:m∉ns) (hI:ImmO (owI C ns P)) (hp:EvPt K te E L i O (owI C ns P) r0) (hC:ImmC Q) (ha:EvA K ta E L ra Q)
  (hk:∀ x',EvS K u E (L.set i (.ow O x')) (k x') LS LB Or) :
  EvS K (tSeq (tDrop (tMeth C m (CtM K (owI C ns P) (owI C ns P) Q g Or') [] E0 te ta)) u) E L (r0.bind fun yp=>ra.bind fun c=>(g yp.1 c).noex.bind fun q=>k (yp.2 q.2)) LS LB Or:=by
 intro F0 H0 σ F h H D hL ok fin
 show te σ H fun x H1=>∃ a dx fs,x=.ref a∧H1 a=some (.ins C dx fs)∧fs.lookup m=none∧ta σ H1 fun vs H2=>CtM K (owI C ns P) (owI C ns P) Q g Or' (x::(vs++[])) H2 (fun _ H3=>u D σ H3) E0
 refine hp F0 H0 σ F h H _ hL ok (zag_ (G:=F) ok _ (.inl rfl) fin fun yp G1 H1 hr0 x1 u0 fc=>?_)
 obtain ⟨o1,hs1,_⟩:=ok.back x1
 rw [hr0] at fin
 obtain ⟨k0,⟨p,dx,vs0,m0,rfl,ndx,jn,hl,ps⟩,kh,_⟩:=fc _ H1 (Same.refl _) o1
 refine ⟨p,dx,_,rfl,o1.2.2.1 _ _ (kh _ _ (jn.l _ _ zhB_)),zaI_ hno,?_⟩
 refine ha σ (un (less G1 h) h) H1 _ ((hL.mono hs1).froz o1.2.1) o1.thaw (zag_ (G:=F) o1 _ (.inl rfl) fin fun c G2 H2 hra x2 vs hvs=>?_)
 obtain ⟨o2,hs2,ht2⟩:=o1.back x2
 rw [hra] at fin
 rw [List.append_nil]
 obtain ⟨k1,hO,kh1,gg⟩:=fc _ H2 hs2 o2
 have dFc:∀ q,less h k1 q≠none→k1 q=none:=fun q z=>by
  cases y:k1 q with
  | none=>rfl
  | some s=>exact absurd (zR_ (H:=h) q (by rw [y]; exact Option.some_ne_none _)) z
 have sFc:Same (un (less G2 h) (less h k1)) H2:=fun q o z=>by
  unfold un at z
  cases y:less G2 h q with
  | some s=>rw [y] at z; rw [← z]; exact o2.1.2.1 _ _ y
  | none=>rw [y] at z; exact o2.2.2.1 _ _ (zba_ _ _ z)
 have djc:Dj (un (less G2 h) (less h k1)) k1:=fun q=>by
  by_cases z:k1 q=none
  ·exact .inr z
  ·left
   unfold un
   have:less G2 h q=none:=zR_ q fun y=>z (kh1.free y)
   rw [this]; exact zR_ q z
 refine ⟨un (less G2 h) (less h k1),k1,yp.1,c,.ref p,vs,rfl,sFc,djc,kh1.trans o2.2.2.1,(owI C ns P).mono z1_ hO,Q.mono z1_ (hC ht2 hvs),?_⟩
 have fin:Fin K ((g yp.1 c).noex.bind fun q=>k (yp.2 q.2)) E LS LB Or F0 H0 D:=fin
 cases e:g yp.1 c with
 | no=>rw [e] at fin; exact fin
 | ex cc=>rw [e] at fin; exact fin.elim
 | ok q =>
  rw [e] at fin
  rintro F' h' H' okc v ⟨hr,hs',j,_,hO2⟩
  have lo:∀ q',less h k1 q'≠none→h q'≠none:=fun q' z y=>z (by unfold less; split; exact y; rfl)
  have tp:Tups F' (less F' (less h k1)):=fun b xs z=>by
   cases y:less h k1 b with
   | none=>rw [zB_ y]; exact z
   | some s =>
    exfalso
    have y2:un (less G2 h) (less h k1) b=some s:=by
     unfold un
     have:less G2 h b=none:=zR_ b (lo b (by rw [y]; exact Option.some_ne_none _))
     rw [this]; exact y
    have:=okc.1.1 _ _ y2
    rw [z] at this
    injection this with this
    exact o2.2.2.2.2 b xs (by rw [this]; exact zba_ _ _ y)
  have PC:PutC (less G2 h) H2 h H0 k1 hs' (less F' (less h k1)) H':=by
   refine ⟨fun b o z=>?_,fun b o z=>okc.1.2.1 _ _ (zba_ _ _ z),okc.1.2.2.1,fun b a1 a2=>?_,j.r.trans okc.2.2.1,fun b=>?_,fun b a1 a2=>?_⟩
   ·have hb:h b=none:=by
     cases y:h b with
     | none=>rfl
     | some s=>rw [zR_ b (by rw [y]; exact Option.some_ne_none _)] at z; cases z
    have:less h k1 b=none:=zba_.free hb
    rw [zB_ this]
    exact okc.1.1 _ _ (z1_ _ _ z)
   ·have y:less h k1 b=none:=by
     cases y:less h k1 b with
     | none=>rfl
     | some s=>exact absurd (zR_ b (by rw [y]; exact Option.some_ne_none _)) a2
    rw [zB_ y] at a2
    have y2:un (less G2 h) (less h k1) b=none:=by unfold un; rw [a1]; exact y
    have y3:=okc.1.2.2.2 b y2 a2
    by_cases z:k1 b=none
    ·left; rw [zB_ z] at y3; exact y3
    ·exact .inr z
   ·by_cases z:hs' b=none
    ·exact .inr z
    ·left
     rcases okc.2.1 b with y | y
     ·exact zba_.free y
     ·exact absurd (j.r.free y) z
   ·have y:=okc.2.2.2.1 b fun y=>a2 (j.r.free y)
    rw [zB_ a1] at y
    exact ⟨o2.2.2.1.free y,o2.1.2.2.1.free y⟩
  obtain ⟨h3,a1,a2⟩:=gg q.2 hs' _ H' PC (hI tp hO2)
  exact hk _ F0 H0 σ _ h3 H' D a1 a2 fin
theorem zi5_ {Q:Cs γ}{Q2:Cs δ}{ta:TA}{r0:Mo γ}{ra:Mo δ}{g:γ×δ→Mo α}(hno:m∉ns) (he:EvF K te E L r0 (tyI C ns Q)) (ha:EvA K ta E L ra Q2) :
  EvF K (tMeth C m (Ct K (csCons (tyI C ns Q) Q2) g (owF T)) [] E0 te ta) E L (r0.bind fun x=>ra.bind fun c=>(g (x,c)).noex) T:=by
 intro σ F H R hL hs q
 refine he σ F H _ hL hs (q.bind.imp fun x F1 H1 x1 k1 v hv=>?_)
 obtain ⟨p,dx,vs,rfl,hp,hl,hc⟩:=id hv
 refine ⟨p,dx,_,rfl,x1.2.1 _ _ hp,zaI_ hno,?_⟩
 refine ha σ F1 H1 _ (hL.mono x1.1) x1.2.1 (k1.bind.imp fun c F2 H2 x2 k2 us hus=>?_)
 rw [List.append_nil]
 refine ⟨F2,(x,c),x2.2.1,⟨_,us,rfl,(tyI C ns Q).mono x2.1 hv,hus⟩,k2.noex.imp fun a F3 H3 x3 k3 w hw _ _ _ hv=>k3 w hv.2⟩
theorem zeV_ {Q:Cs γ}{r0:Mo γ}{g:γ→Mo α}(hno:m∉ns) (he:EvF K te E L r0 (tyI C ns Q)) :
  EvF K (tMeth C m (Ct K (csLast (tyI C ns Q)) g (owF T)) [] E0 te tNil) E L (r0.bind fun x=>(g x).noex) T:=by
 intro σ F H R hL hs q
 refine he σ F H _ hL hs (q.bind.imp fun x F1 H1 x1 k1 v hv=>?_)
 obtain ⟨p,dx,vs,rfl,hp,hl,hc⟩:=id hv
 refine ⟨p,dx,_,rfl,x1.2.1 _ _ hp,zaI_ hno,?_⟩
 exact ⟨F1,x,x1.2.1,⟨_,rfl,hv⟩,k1.noex.imp fun a F3 H3 x3 k3 w hw _ _ _ hv=>k3 w hv.2⟩
theorem zid_ {P:Ps γ}{Q:Cs δ}{ta:TA}{ra:Mo δ}{g:Unit→δ→Mo (Unit×γ)}(ha:EvA K ta E L ra Q) :
  EvO K (tMake C (CtM K (owI C [] psNil) (owI C ns P) Q g (owF tyNon)) [] E0 ta) E L (ra.bind fun c=>(g () c).noex.bind fun q=>.ok q.2) (owI C ns P):=by
 intro σ F H R hL hs q
 refine ha σ F H _ hL hs (q.bind.imp fun c F1 H1 x1 k1 vs hvs x dx hx hdx ndx=>?_)
 rw [List.append_nil]
 have new:∀ b,two x dx (.ins C dx []) b≠none→H1 b=none:=fun b z=>by
  unfold two at z
  split at z
  ·rename_i e; rw [e]; exact hx
  ·split at z
   ·rename_i e; rw [e]; exact hdx
   ·exact absurd rfl z
 have at1:∀ b,two x dx (.ins C dx []) b=none→upd (upd H1 dx (.own x)) x (.ins C dx []) b=H1 b:=fun b z=>by
  obtain ⟨a1,a2⟩:=zmA_ z
  rw [zah_ a1,zah_ a2]
 have at2:Same (two x dx (.ins C dx [])) (upd (upd H1 dx (.own x)) x (.ins C dx [])):=fun b o z=>by
  unfold two at z
  split at z
  ·rename_i e; rw [e,zat_]; exact z
  ·rename_i e0
   split at z
   ·rename_i e; rw [zah_ e0,e,zat_]; exact z
   ·cases z
 have dj:Dj F1 (two x dx (.ins C dx [])):=fun b=>by
  by_cases z:two x dx (.ins C dx []) b=none
  ·exact .inr z
  ·exact .inl (x1.2.1.free (new b z))
 have sF:Same F1 (upd (upd H1 dx (.own x)) x (.ins C dx [])):=fun b o z=>by
  have hb:=x1.2.1 _ _ z
  rw [at1 b ?_]
  ·exact hb
  ·cases y:two x dx (.ins C dx []) b with
   | none=>rfl
   | some s=>rw [new b (by rw [y]; exact Option.some_ne_none _)] at hb; cases hb
 have eH:∀ b,less (upd (upd H1 dx (.own x)) x (.ins C dx [])) (two x dx (.ins C dx [])) b=H1 b:=fun b=>by
  by_cases z:two x dx (.ins C dx []) b=none
  ·rw [zB_ z,at1 b z]
  ·rw [zR_ b z,new b z]
 refine ⟨F1,two x dx (.ins C dx []),(),c,.ref x,vs,rfl,sF,dj,at2,⟨x,dx,[],fun _=>none,rfl,ndx,fun _=>.inr ⟨rfl,rfl⟩,rfl,rfl,fun _=>rfl⟩,hvs,?_⟩
 cases e:g () c with
 | no=>rw [e] at k1; exact k1
 | ex cc=>rw [e] at k1; exact k1.elim
 | ok q0 =>
  rw [e] at k1
  rintro F' h' H' okc v ⟨hr,hs',j,⟨_,hv⟩,hO2⟩
  refine ⟨hv,?_⟩
  have xx:Ext F1 H1 F' H':=⟨okc.1.1,okc.1.2.1,fun b o z=>okc.1.2.2.1 b o (by rw [eH]; exact z),fun b a1 a2=>by rw [← eH b]; exact okc.1.2.2.2 b a1 a2⟩
  refine k1 F' H' xx (.ref x) hs' (fun b z=>?_) (fun b=>?_) (j.r.trans okc.2.2.1) hO2
  ·have:=okc.2.2.2.1 b fun y=>z (j.r.free y)
   rw [eH] at this
   exact x1.2.2.1.free this
  ·rcases okc.2.1 b with y | y
   ·exact .inl y
   ·exact .inr (j.r.free y)
end
end L2
namespace L2
open PySem PySem.Spec PyProof.Rows
section
variable {K:Fgg}{E:XK}{α β γ δ ρ ρ' S B:Type}{F0 H0 F h H:Hp}{L:List Sl}{e te ei:TE}{T:Ty α}{r:Mo α}{Or:Own ρ}{t u:TS}{LS:S→List Sl}{LB:B→List Sl}{σ:St}{C:Addr}{ns:List Str}{f m:Str}{i n:Nat}
def ImmP (P:Ps γ):Prop:=∀ {c vs F F' h},Tups F F'→P.P c vs F h→P.P c vs F' h
theorem zE_:ImmP psNil:=fun _ q=>q
theorem zh_ {O:Own α}{P:Ps γ}(a:ImmO O) (b:ImmP P):ImmP (psO O P):=fun g ⟨v,us,h1,h2,e,j,x,y⟩=>⟨v,us,h1,h2,e,j,a g x,b g y⟩
theorem zaE_ {P:Ps γ}(b:ImmP P):ImmO (owI C ns P):=fun g ⟨p,dx,vs,k,e,nd,j,l,q⟩=>⟨p,dx,vs,k,e,nd,j,l,b g q⟩
theorem ze1_ {O:Own β}{P:Ps γ}{st:γ→α→γ}{r0:Mo (γ×(γ→β))}{k:β→Mo (Out ρ B S)}(nd:ns.Nodup) (hf:ns[n]?=some f) (hsm:ns.length<1000) (pp:PsPut P n (owF T) st) (hT:Imm T) (he:EvF K e E L r T) (hp:EvPt K te E L i O (owI C ns P) r0) (hk:∀ x',EvS K u E (L.set i (.ow O x')) (k x') LS LB Or) :
  EvS K (tSeq (mSFld C te e f) u) E L (r.bind fun a=>r0.bind fun yp=>(Mo.ok (yp.2 (st yp.1 a))).bind k) LS LB Or:=zoP_ nd hf hsm pp hT he hp hk
theorem zfu_ {P:Ps γ}{P':Ps δ}{ad:γ→α→δ}{x:γ}{w:V}{k:δ→Mo (Out ρ B S)}(hi:L[i]?=some (.ow (owAt w (owI C ns P)) x)) (hf:f∉ns) (hsm:ns.length<900) (pp:PsAdd P (owF T) P' ad) (hT:Imm T) (he:EvF K e E L r T) (hk:∀ x',EvS K u E (L.set i (.ow (owAt w (owI C (ns++[f]) P')) x')) (k x') LS LB Or) :
  EvS K (tSeq (mSFld C (mVar i) e f) u) E L (r.bind fun a=>(Mo.ok (ad x a)).bind k) LS LB Or:=zo5_ hi hf hsm pp hT he hk
theorem zl4_ {O:Own α}{P:Ps β}{r0:Mo (β×(β→α))}{Q:Cs γ}{ta:TA}{ra:Mo γ}{g:β→γ→Mo (ρ'×β)}{Or':Own ρ'}{k:α→Mo (Out ρ B S)}(hno:m∉ns) (hI:ImmO (owI C ns P)) (hp:EvPt K te E L i O (owI C ns P) r0) (hC:ImmC Q) (ha:EvA K ta E L ra Q)
  (hk:∀ x',EvS K u E (L.set i (.ow O x')) (k x') LS LB Or) :
  EvS K (tSeq (tDrop (tMeth C m (CtM K (owI C ns P) (owI C ns P) Q g Or') [] E0 te ta)) u) E L (r0.bind fun yp=>ra.bind fun c=>(g yp.1 c).noex.bind fun q=>(Mo.ok (yp.2 q.2)).bind k) LS LB Or:=zk5_ hno hI hp hC ha hk
theorem zhN_ {hn:Hp}(ok:Okk F0 H0 F h H) (fr:∀ p,hn p≠none→H0 p=none∧h p=none) (s:Same hn H):Okk F0 H0 (un F hn) h H:=by
 refine ⟨⟨ok.1.1.trans z1_,fun p o z=>?_,ok.1.2.2.1,fun p a b=>?_⟩,fun p=>?_,ok.2.2.1,ok.2.2.2.1,ok.2.2.2.2⟩
 ·unfold un at z
  cases y:F p with
  | some w=>rw [y] at z; rw [← z]; exact ok.1.2.1 _ _ y
  | none=>rw [y] at z; exact s _ _ z
 ·unfold un at b
  cases y:F p with
  | some w=>exact ok.1.2.2.2 p a (by rw [y]; exact Option.some_ne_none _)
  | none=>rw [y] at b; exact (fr p b).1
 ·unfold un
  cases y:F p with
  | some w =>
   right
   rcases ok.2.1 p with z | z
   ·rw [z] at y; cases y
   ·exact z
  | none =>
   by_cases z:hn p=none
   ·exact .inl z
   ·exact .inr (fr p z).2
end
end L2
namespace L2
open PySem PySem.Spec PyProof.Rows
section
variable {K:Fgg}{E:XK}{γ:Type}{L:List Sl}{C:Addr}{ns:List Str}
theorem zaL_ (i:Nat) {P:Ps γ}{x:γ}{w:V}(h:L[i]?=some (.ow (owAt w (owI C ns P)) x)):EvF K (mVar i) E L (.ok x) (tyI C ns P.fr):=zgV_ i h
end
end L2
namespace L2
open PySem PySem.Spec PyProof.Rows
def joinL (sep:List Nat):List (List Nat)→List Nat
 | []=>[]
 | [p]=>p
 | p::q::r=>p++sep++joinL sep (q::r)
theorem zeu_ (y:Str):∀ ps:List Str,(Str.join y ps).cps.toList=joinL y.cps.toList (ps.map fun p=>p.cps.toList)
 | []=>rfl
 | [p]=>rfl
 | p::q::r=>by
  show (p++y++Str.join y (q::r)).cps.toList=_
  rw [zij_,zij_,zeu_ y (q::r)]
  rfl
theorem zey_ (sep:List Nat) (ps:List (List Nat)):joinS sep (strsL ps)=joinL sep ps:=by
 have:=zeu_ ⟨sep.toArray⟩ (strsL ps)
 unfold joinS
 refine Eq.trans ?_ (this.trans ?_)
 ·rw [eq_of_beq (PyProof.Rows.join_closes (sep:=⟨sep.toArray⟩) (ys:=strsL ps) rfl)]
 ·unfold strsL
  rw [List.map_map]
  congr 1
  exact (List.map_congr_left fun p _=>rfl).trans (List.map_id _)
end L2
namespace L2
open PySem PySem.Spec PyProof.Rows
section
variable {X:Cx}
end
section
variable {K:Fgg}{E:XK}{α β:Type}{L:List Sl}{e:TE}{T:Ty α}
theorem zie_ {r:Mo (Option α)}(h:EvF K e E L r (tyOpt T)):EvF K e E L (r.bind fun o=>Mo.opt o) T:=by
 intro σ F H Q hL hs q
 refine h σ F H _ hL hs (q.bind.imp fun o F1 H1 x k v hv=>?_)
 cases o with
 | none=>exact k.elim
 | some a=>exact k.ok x.2.1 v hv.1
def EvJ (K:Fgg) (k:Nat) (tj:TJ) (E:XK) (L:List Sl) (r:Mo (List Nat)):Prop :=
 ∀ (n:Nat) (acc:List Nat) σ F H (R:Str→Hp→Prop),acc.length≤1000*n→n+k≤90→HoldF L σ F→Same F H→After K r E F H (fun l F' H'=>l.length≤1000*k→R ⟨(acc++l).toArray⟩ H')→tj ⟨acc.toArray⟩ σ H R
theorem zpg_:EvJ K 0 tJ0 E L (.ok []):=fun n acc σ F H R ha hn hL hs q=>by
 have:=q.ok hs (Nat.zero_le _)
 rwa [List.append_nil] at this
theorem zif_ {ta:TE}{tr:TJ}{k:Nat}{r r':Mo (List Nat)}(h:EvF K ta E L r tyStr) (hr:EvJ K k tr E L r'):EvJ K (k+1) (tJ1 ta tr) E L (r.bind fun a=>.grd (a.length≤1000) (r'.bind fun l=>.ok (a++l))):=by
 intro n acc σ F H R ha hn hL hs q
 refine h σ F H _ hL hs (q.bind.imp fun a F1 H1 x1 k1 v hv=>?_)
 cases hv
 obtain ⟨hz,k1⟩:=k1.grd
 have e:((⟨acc.toArray⟩:Str)++(⟨a.toArray⟩:Str))=⟨(acc++a).toArray⟩:=by
  show (⟨acc.toArray++a.toArray⟩:Str)=_
  simp
 show ((⟨acc.toArray⟩:Str)++(⟨a.toArray⟩:Str)).length≤sizeLine∧tr ((⟨acc.toArray⟩:Str)++(⟨a.toArray⟩:Str)) σ H1 R
 rw [e]
 refine ⟨by show (acc++a).toArray.size≤sizeLine; rw [List.size_toArray,List.length_append,sizeLine_eq]; lia,hr (n+1) (acc++a) σ F1 H1 R (by rw [List.length_append]; lia) (by lia) (hL.mono x1.1) x1.2.1 (k1.bind.imp fun l F2 H2 x2 k2 hl=>?_)⟩
 have:=k2.ok x2.2.1 (by rw [List.length_append]; lia)
 rwa [← List.append_assoc] at this
theorem zkd_ {tj:TJ}{k:Nat}{r:Mo (List Nat)}(h:EvJ K k tj E L r) (hk:k≤80:=by decide):EvF K (tJoin tj) E L r tyStr:=by
 intro σ F H Q hL hs q
 refine h 0 [] σ F H _ (by simp) (by lia) hL hs (q.imp fun l F' H' x k1 hl=>?_)
 rw [List.nil_append]
 exact ⟨by show l.toArray.size≤sizeLine; rw [List.size_toArray,sizeLine_eq]; lia,k1 _ rfl⟩
theorem zkN_ {r:Mo (List Nat)}(h:EvF K e E L r tyStr):EvF K (tUn mFmt e) E L (r.bind fun l=>.lim l.length (.ok l)) tyStr:=by
 intro σ F H Q hL hs q
 refine h σ F H _ hL hs (q.bind.imp fun l F1 H1 x1 k1 v hv=>?_)
 cases hv
 obtain ⟨hz,k1⟩:=k1.lim
 exact ⟨by show l.toArray.size≤sizeLine; rw [List.size_toArray]; exact hz,k1.ok x1.2.1 _ rfl⟩
end
end L2
namespace L2
open PySem PySem.Spec PyProof.Rows
end L2
namespace L2
open PySem PySem.Spec PyProof.Rows
section
variable {prog:Program}{w:World}{A:Around}{E:Value→Shared→Prop}{s:Shared}
end
section
variable {X:Cx}
end
section
variable {K:Fgg}{E:XK}{α β γ ρ S B:Type}{F H:Hp}{L:List Sl}{e:TE}{T:Ty α}
end
end L2
namespace L2
open PySem PySem.Spec PyProof.Rows
section
variable {α β γ:Type}
abbrev owPn (u:V) (O':Own β) (put:β→α) (O:Own α):Own β:=⟨fun z v F k=>∃ k1 k2,Jn k1 k2 k∧O'.O z u F k1∧∀ z' k1' k' F3,Same F F3→O'.O z' u F3 k1'→Jn k1' k2 k'→O.O (put z') v F3 k',
 ⟨fun z v H=>O.fr.R (put z) v H∧O'.fr.R z u H,fun g q=>⟨O.fr.mono g q.1,O'.fr.mono g q.2⟩⟩,
 fun g ⟨k1,k2,j,a,b⟩=>⟨k1,k2,j,O'.mono g a,fun z' k1' k' F3 s=>b z' k1' k' F3 (g.trans s)⟩,
 fun d ⟨k1,k2,j,a,b⟩=>⟨O.frz d (b _ k1 _ _ (Same.refl _) a j),O'.fr.mono (zds_ d j.l) (O'.frz (dj_l d j) a)⟩,
 fun ⟨k1,k2,j,a,b⟩=>O.notup (b _ k1 _ _ (Same.refl _) a j)⟩
theorem zfC_ {u v:V}{O':Own β}{put:β→α}{O:Own α}{z:β}{F k:Hp}(h:(owPn u O' put O).O z v F k):O.O (put z) v F k:=by
 obtain ⟨k1,k2,j,a,b⟩:=h
 exact b _ k1 _ _ (Same.refl _) a j
theorem ziI_ {k1 k2 kb m k:Hp}(jm:Jn k2 kb m) (j:Jn k1 m k):Dj k1 k2∧Jn (un k1 k2) kb k:=by
 refine ⟨fun p=>?_,fun p=>?_⟩
 ·rcases j.dj p with z | z
  ·exact .inl z
  ·exact .inr (jm.l.free z)
 ·unfold un
  rcases j p with ⟨a,b⟩ | ⟨a,b⟩
  ·rw [a,b]
   rcases jm p with ⟨c,e⟩ | ⟨c,e⟩
   ·exact .inl ⟨c,e⟩
   ·exact .inr ⟨c,e⟩
  ·right
   refine ⟨jm.r.free a,?_⟩
   rw [b]
   cases z:k1 p with
   | some w=>rfl
   | none=>exact (jm.l.free a).symm
theorem zpr_ {k:Hp}:Jn k (fun _=>none) k:=fun p=>.inr ⟨rfl,rfl⟩
theorem zjT_ {k k':Hp}(j:Jn k (fun _=>none) k'):k'=k:=by
 funext p
 rcases j p with ⟨a,b⟩ | ⟨a,b⟩
 ·rw [a,b]
 ·exact b
end
section
variable {K:Fgg}{E:XK}{α β γ δ ρ ρ' S B:Type}{F0 H0 F h H:Hp}{L:List Sl}{e te ei:TE}{T:Ty α}{r:Mo α}{Or:Own ρ}{t u:TS}{LS:S→List Sl}{LB:B→List Sl}{σ:St}{C:Addr}{ns:List Str}{f m:Str}{i n w:Nat}
theorem zbX_ {O1:Own α}{O2:Own β}{x:α}{x2:β}(hL:Hold L σ F h) (hi:L[i]?=some (.ow O1 x)) (g:∀ v k,σ[i]?=some (some v)→Same k h→O1.O x v F k→O2.O x2 v F k):Hold (L.set i (.ow O2 x2)) σ F h:=by
 obtain ⟨o,k,hr,e1,j,⟨v,e2,ho⟩,f⟩:=hL.at i hi
 subst e2
 have:=f (.ow O2 x2) (some v) k h j ⟨v,rfl,g v k e1 j.l ho⟩
 rwa [zaM_ e1] at this
def EvPw (K:Fgg) (te:TE) (E:XK) (L:List Sl) (i:Nat) (O:Own α) (O':Own β) (r:Mo (β×(β→α))):Prop :=
 ∀ F0 H0 σ F h H (Q:VK),Hold L σ F h→Okk F0 H0 F h H→After K r E (un F h) H (fun yp G1 H1=>∀ u,i<L.length→Hold (L.set i (.ow (owPn u O' yp.2 O) yp.1)) σ (less G1 h) h→Q u H1)→te σ H Q
theorem zbB_ {O:Own α}{x:α}(hi:L[i]?=some (.ow O x)):EvPw K (mVar i) E L i O O (.ok (x,fun z=>z)):=by
 intro F0 H0 σ F h H Q hL ok q
 obtain ⟨o,hs,_⟩:=ok.back (Ext.refl ok.thaw)
 obtain ⟨_,k,hr,e1,j,⟨v,e2,ho⟩,f⟩:=(hL.mono hs).at i hi
 subst e2
 refine za6_ e1 (q.ok ok.thaw v (List.getElem?_eq_some_iff.mp hi).1 (zbX_ (hL.mono hs) hi fun v' k ev kh ho=>?_))
 rw [e1] at ev; cases ev
 exact ⟨k,fun _=>none,zpr_,ho,fun z' k1' k' F3 s o' j'=>by rw [zjT_ j']; exact o'⟩
theorem zku_ {O:Own α}{O1:Own β}{O2:Own γ}{uu v w:V}{put:β→α}{y:β}{z:γ}{st:γ→β}{k:Hp}(pt:∀ ka,Same ka k→O1.O y uu F ka→∃ k1 k2,Jn k1 k2 ka∧O2.O z w F k1∧∀ z' k1' k' F3,Same F F3→O2.O z' w F3 k1'→Jn k1' k2 k'→O1.O (st z') uu F3 k')
  (h:(owPn uu O1 put O).O y v F k):(owPn w O2 (fun z'=>put (st z')) O).O z v F k:=by
 obtain ⟨ka,kb,jk,ho,wand⟩:=h
 obtain ⟨k1,k2,j1,o1,g⟩:=pt ka jk.l ho
 obtain ⟨mm,jm,jh⟩:=zcz_ j1 jk
 refine ⟨k1,mm,jh,o1,fun z' k1' k' F3 s oz j'=>?_⟩
 obtain ⟨d,jg⟩:=ziI_ jm j'
 exact wand (st z') _ k' F3 s (g z' k1' _ F3 s oz (zck_ d)) jg
theorem zkW_ {O:Own α}{P:Ps γ}{O':Own β}{pr:γ→β}{st:γ→β→γ}{r:Mo (γ×(γ→α))}(nd:ns.Nodup) (hf:ns[n]?=some f) (pa:PsAt P n O' pr st) (hp:EvPw K te E L i O (owI C ns P) r) :
  EvPw K (mFld C te f) E L i O O' (r.bind fun yp=>.ok (pr yp.1,fun z'=>yp.2 (st yp.1 z'))):=by
 intro F0 H0 σ F h H Q hL ok q
 refine hp F0 H0 σ F h H _ hL ok (q.bind.imp fun yp G1 H1 x1 k1 uu il hh=>?_)
 obtain ⟨o1,_,_⟩:=ok.back x1
 have hi:(L.set i (.ow (owPn uu (owI C ns P) yp.2 O) yp.1))[i]?=some (.ow (owPn uu (owI C ns P) yp.2 O) yp.1):=by rw [List.getElem?_set_self (by exact il)]
 obtain ⟨_,k,hr,e1,j,⟨v,e2,ka,kb,jk,⟨p,dx,vs,mm,rfl,ndx,jn,hl,ps⟩,wand⟩,_⟩:=hh.at i hi
 have hp1:h p=some (.ins C dx (ns.zip vs)):=j.l _ _ (jk.l _ _ (jn.l _ _ zhB_))
 obtain ⟨w,_,_,ew,_⟩:=pa ps
 refine ⟨dx,_,w,o1.2.2.1 _ _ hp1,zcK_ nd hf ew,?_⟩
 have:=zbX_ (O2:=owPn w O' (fun z'=>yp.2 (st yp.1 z')) O) (x2:=pr yp.1) hh hi fun v k ev kh ho=>zku_ (st:=st yp.1) (fun ka ks ho=>zne_ pa hp1 hl ew _ ka (ks.trans kh) ho) ho
 rw [List.set_set] at this
 exact k1.ok x1.2.1 w il this
theorem zly_ {O:Own α}{O':Own β}{r:Mo (List β×(List β→α))}{rj:Mo Int}(hp:EvPw K te E L i O (owLO O') r) (hj:EvF K ei E L rj tyInt) :
  EvPw K (tOp (mIx K) te ei) E L i O O' (r.bind fun yp=>rj.bind fun j=>(Mo.opt (ixN yp.1.length j)).bind fun n=>(Mo.opt (yp.1[n]?)).bind fun z=>.ok (z,fun z'=>yp.2 (yp.1.set n z'))):=by
 intro F0 H0 σ F h H Q hL ok q
 refine hp F0 H0 σ F h H _ hL ok (q.bind.imp fun yp G1 H1 x1 k1 uu il hh=>?_)
 refine hj σ G1 H1 _ ((hL.froz ok.2.1).mono x1.1) x1.2.1 (k1.bind.imp fun j G2 H2 x2 k2 v2 hv2=>?_)
 cases hv2
 obtain ⟨n,en,k3⟩:=k2.bind.opt
 obtain ⟨z,ez,k4⟩:=(k3.ok x2.2.1).bind.opt
 have k5:=(k4.ok x2.2.1).ok x2.2.1
 obtain ⟨o2,_,_⟩:=ok.back (x1.trans x2)
 have hh:=hh.mono (zgt_ (h:=h) x2.1)
 have hi:(L.set i (.ow (owPn uu (owLO O') yp.2 O) yp.1))[i]?=some (.ow (owPn uu (owLO O') yp.2 O) yp.1):=by rw [List.getElem?_set_self (by exact il)]
 obtain ⟨_,k,hr,e1,jj,⟨v,e2,ka,kb,jk,⟨p,vs,mm,rfl,jn,all⟩,wand⟩,_⟩:=hh.at i hi
 have hp1:h p=some (.lst vs):=jj.l _ _ (jk.l _ _ (jn.l _ _ zaA_))
 refine ⟨vs,.inl (.of (o2.2.2.1 _ _ hp1)),?_⟩
 have hl:=all.len
 have hn:=zl1_ en
 have hw:vs[n]?=some vs[n]:=List.getElem?_eq_getElem (by omega)
 have en':ixN vs.length j=some n:=by rw [← hl]; exact en
 have ea:atI vs j=some vs[n]:=by unfold atI; rw [en']; exact hw
 rw [ea]
 have:=zbX_ (O2:=owPn vs[n] O' (fun z'=>yp.2 (yp.1.set n z')) O) (x2:=z) hh hi fun v k ev kh ho=>zku_ (st:=fun z'=>yp.1.set n z') (fun ka ks ho=>zkV_ hp1 hw ez _ ka (ks.trans kh) ho) ho
 rw [List.set_set] at this
 exact k5 _ il this
abbrev tyIs (u:V):Ty Unit:=⟨fun _ v _=>v=u,fun _ q=>q⟩
theorem zmX_ {O:Own α}{O':Own β}{r0:Mo (β×(β→α))}{k:β×(β→α)→Mo (Out ρ B S)}{s0:Sl}(hw:L[w]?=some s0) (hne:i≠w) (hp:EvPw K te E L i O O' r0)
  (hk:∀ uu yp,EvS K u E ((L.set i (.ow (owPn uu O' yp.2 O) yp.1)).set w (.fz (tyIs uu) ())) (k yp) LS LB Or):EvS K (tSeq (tAsg te (gName w)) u) E L (r0.bind k) LS LB Or:=by
 intro F0 H0 σ F h H D hL ok fin
 refine hp F0 H0 σ F h H _ hL ok (zag_ (G:=F) ok _ (.inl rfl) fin fun yp G1 H1 hr0 x1 uu il hh=>?_)
 obtain ⟨o1,_,_⟩:=ok.back x1
 rw [hr0] at fin
 refine hk uu yp F0 H0 _ _ h H1 D (zcC_ (T:=tyIs uu) (a:=()) (s:=s0) ?_ hh rfl) o1 fin
 rw [List.getElem?_set_ne hne]; exact hw
theorem zgF_ {O:Own α}{O':Own β}{put:β→α}{uu:V}{z:β}(hi:L[i]?=some (.ow (owPn uu O' put O) z)) (hw:L[w]?=some (.fz (tyIs uu) ())):EvPt K (mVar w) E L i (owPn uu O' put O) O' (.ok (z,fun z'=>z')):=by
 intro F0 H0 σ F h H Q hL ok q
 obtain ⟨o,hs,_⟩:=ok.back (Ext.refl ok.thaw)
 obtain ⟨v,ev,fc⟩:=ziL_ (F0:=F0) (H0:=H0) (hL.mono hs) hi
 obtain ⟨_,_,_,e1,_,⟨v',e2,e3⟩,_⟩:=hL.at w hw
 subst e2
 obtain rfl:v'=uu:=e3
 refine za6_ e1 (q.ok ok.thaw v' (Foc.part (put:=fun z'=>z') fc fun F2 k s kh hq_=>?_))
 obtain ⟨k1,k2,j,a,b⟩:=hq_
 exact ⟨k1,k2,j,a,fun z' k1' k' F3 s o' j'=>⟨k1',k2,j',o',fun z' k1' k' F3 s'=>b z' k1' k' F3 (s.trans s')⟩⟩
theorem zmo_ {O:Own α}{O':Own β}{put:β→α}{uu:V}{z:β}(hi:L[i]?=some (.ow (owPn uu O' put O) z)) (hw:L[w]?=some (.fz (tyIs uu) ())):EvF K (mVar w) E L (.ok z) O'.fr:=by
 intro σ F H Q hL hs q
 obtain ⟨v,e1,a,b⟩:=hL i _ hi
 obtain ⟨v',e2,e3⟩:=hL w _ hw
 obtain rfl:v'=uu:=e3
 unfold mVar
 cases z:σ[w]? with
 | none=>rw [z] at e2; cases e2
 | some o=>rw [z] at e2; cases e2; exact q.ok hs v' b
theorem znn_ {O:Own α}{O':Own β}{put:β→α}{uu:V}{z:β}{r:Mo (Out ρ B S)}(hi:L[i]?=some (.ow (owPn uu O' put O) z)) (hk:EvS K u E (L.set i (.ow O (put z))) r LS LB Or):EvS K u E L r LS LB Or:=by
 intro F0 H0 σ F h H D hL ok fin
 exact hk F0 H0 σ F h H D (zbX_ hL hi fun v k _ _ ho=>zfC_ ho) ok fin
theorem zkJ_ {r:Mo α}{k:α→Mo ρ}{kk':ρ→Hp→Hp→Hp→Prop}{kk:α→Hp→Hp→Prop}(ok:Okk F0 H0 F h H) (fin:FinM K (r.bind k) E F0 H0 kk') (hk:∀ a F' H',r=.ok a→Ext (un F h) H F' H'→kk a F' H'):After K r E (un F h) H kk:=by
 cases r with
 | ok a=>exact fun F' H' x=>hk a F' H' rfl x
 | no=>exact fin
 | ex c=>exact fun F' H' x=>fin _ _ _ (ok.back x).1
def EvM (K:Fgg) (t:TE) (E:XK) (L:List Sl) (i:Nat) (O:Own α) (Or':Own ρ') (r:Mo (ρ'×α)):Prop :=
 ∀ F0 H0 σ F h H (Q:VK),Hold L σ F h→Okk F0 H0 F h H→FinM K r E F0 H0 (fun q F' h' H'=>∀ v h1 h2,Jn h1 h2 h'→Hold (L.set i (.ow O q.2)) σ F' h1→Or'.O q.1 v F' h2→Q v H')→t σ H Q
theorem zi0_ {G2 H2 ka kb hrest hs' hr F' h' H' k:Hp}(o2:Okk F0 H0 (less G2 h) h H2) (j:Jn k hrest h) (jk:Jn ka kb k) (okc:Okk (un (less G2 h) (less h ka)) (less H2 ka) F' h' H') (j':Jn hr hs' h') :
  Same (less G2 h) (less F' (less h ka))∧Tups F' (less F' (less h ka))∧Dj hs' kb∧Dj (un hs' kb) hrest∧Dj (un (un hs' kb) hrest) hr∧Okk F0 H0 (less F' (less h ka)) (un (un (un hs' kb) hrest) hr) H':=by
 have kah:Same ka h:=jk.l.trans j.l
 have kab:∀ q,kb q≠none→h q=kb q∧ka q=none:=fun q z=>by
  cases y:kb q with
  | none=>exact absurd y z
  | some o =>
   refine ⟨j.l _ _ (jk.r _ _ y),?_⟩
   rcases jk.dj q with x | x
   ·exact x
   ·rw [x] at y; cases y
 have rst:∀ q,hrest q≠none→h q=hrest q∧ka q=none:=fun q z=>by
  cases y:hrest q with
  | none=>exact absurd y z
  | some o =>
   refine ⟨j.r _ _ y,?_⟩
   rcases j.dj q with x | x
   ·exact jk.l.free x
   ·rw [x] at y; cases y
 have key:∀ q,h' q≠none→h q≠none→ka q=none→False:=fun q z1 z2 z3=>by
  have:=okc.2.2.2.1 q z1
  rw [zB_ z3] at this
  exact z2 (o2.2.2.1.free this)
 have h0:∀ q,less H2 ka q=none→H0 q=none:=fun q z=>by
  by_cases y:ka q=none
  ·rw [zB_ y] at z; exact o2.1.2.2.1.free z
  ·exact o2.2.2.2.1 q fun x=>y (kah.free x)
 have old:∀ q o,h q=some o→ka q=none→H' q=some o:=fun q o z1 z2=>okc.1.2.2.1 q o (by rw [zB_ z2]; exact o2.2.2.1 _ _ z1)
 have d1:Dj hs' kb:=fun q=>by
  by_cases z:hs' q=none
  ·exact .inl z
  ·by_cases y:kb q=none
   ·exact .inr y
   ·obtain ⟨a,b⟩:=kab q y
    exact (key q (fun x=>z (j'.r.free x)) (by rw [a]; exact y) b).elim
 have d2:Dj (un hs' kb) hrest:=fun q=>by
  by_cases y:hrest q=none
  ·exact .inr y
  ·left
   obtain ⟨a,b⟩:=rst q y
   have z1:hs' q=none:=by
    by_cases z:hs' q=none
    ·exact z
    ·exact (key q (fun x=>z (j'.r.free x)) (by rw [a]; exact y) b).elim
   have z2:kb q=none:=by
    rcases j.dj q with x | x
    ·exact jk.r.free x
    ·exact absurd x y
   unfold un; rw [z1]; exact z2
 have d3:Dj (un (un hs' kb) hrest) hr:=fun q=>by
  by_cases y:hr q=none
  ·exact .inr y
  ·left
   have hq:h' q≠none:=fun x=>y (j'.l.free x)
   have z1:hs' q=none:=by
    rcases j'.dj q with x | x
    ·exact absurd x y
    ·exact x
   have z2:kb q=none:=by
    by_cases z:kb q=none
    ·exact z
    ·obtain ⟨a,b⟩:=kab q z
     exact (key q hq (by rw [a]; exact z) b).elim
   have z3:hrest q=none:=by
    by_cases z:hrest q=none
    ·exact z
    ·obtain ⟨a,b⟩:=rst q z
     exact (key q hq (by rw [a]; exact z) b).elim
   unfold un; rw [z1]; simp only; rw [z2]; exact z3
 have parts:∀ q o,un (un (un hs' kb) hrest) hr q=some o→h' q=some o∨(h q=some o∧ka q=none):=fun q o z=>by
  unfold un at z
  cases z1:hs' q with
  | some a=>rw [z1] at z; left; rw [← z]; exact j'.r _ _ z1
  | none =>
   rw [z1] at z; simp only at z
   cases z2:kb q with
   | some a=>rw [z2] at z; right; obtain ⟨x,y⟩:=kab q (by rw [z2]; exact Option.some_ne_none _); exact ⟨by rw [x,z2]; exact z,y⟩
   | none =>
    rw [z2] at z; simp only at z
    cases z3:hrest q with
    | some a=>rw [z3] at z; right; obtain ⟨x,y⟩:=rst q (by rw [z3]; exact Option.some_ne_none _); exact ⟨by rw [x,z3]; exact z,y⟩
    | none=>rw [z3] at z; left; exact j'.l _ _ z
 have ff:Same (less G2 h) (less F' (less h ka)):=fun b o z=>by
  have hb:h b=none:=by
   cases y:h b with
   | none=>rfl
   | some s=>rw [zR_ b (by rw [y]; exact Option.some_ne_none _)] at z; cases z
  have:less h ka b=none:=zba_.free hb
  rw [zB_ this]
  exact okc.1.1 _ _ (z1_ _ _ z)
 have lo:∀ q',less h ka q'≠none→h q'≠none:=fun q' z y=>z (by unfold less; split; exact y; rfl)
 have tp:Tups F' (less F' (less h ka)):=fun b xs z=>by
  cases y:less h ka b with
  | none=>rw [zB_ y]; exact z
  | some s =>
   exfalso
   have y2:un (less G2 h) (less h ka) b=some s:=by
    unfold un
    have:less G2 h b=none:=zR_ b (lo b (by rw [y]; exact Option.some_ne_none _))
    rw [this]; exact y
   have:=okc.1.1 _ _ y2
   rw [z] at this
   injection this with this
   exact o2.2.2.2.2 b xs (by rw [this]; exact zba_ _ _ y)
 refine ⟨ff,tp,d1,d2,d3,⟨o2.1.1.trans ff,fun b o z=>okc.1.2.1 _ _ (zba_ _ _ z),fun b o z=>?_,fun b a1 a2=>?_⟩,fun b=>?_,fun b o z=>?_,fun b z=>?_,fun b xs z=>?_⟩
 ·have kb0:ka b=none:=by
   by_cases y:ka b=none
   ·exact y
   ·have:=o2.2.2.2.1 b fun x=>y (kah.free x)
    rw [z] at this; cases this
  exact okc.1.2.2.1 b o (by rw [zB_ kb0]; exact o2.1.2.2.1 _ _ z)
 ·by_cases y0:less G2 h b=none
  ·have y:less h ka b=none:=by
    cases y:less h ka b with
    | none=>rfl
    | some s=>exact absurd (zR_ b (by rw [y]; exact Option.some_ne_none _)) a2
   rw [zB_ y] at a2
   exact h0 b (okc.1.2.2.2 b (by unfold un; rw [y0]; exact y) a2)
  ·exact o2.1.2.2.2 b a1 y0
 ·cases z:un (un (un hs' kb) hrest) hr b with
  | none=>exact .inr rfl
  | some o =>
   left
   rcases parts b o z with y | ⟨y1,y2⟩
   ·rcases okc.2.1 b with x | x
    ·exact zba_.free x
    ·rw [x] at y; cases y
   ·exact zR_ b (by rw [zB_ y2,y1]; exact Option.some_ne_none _)
 ·rcases parts b o z with y | ⟨y1,y2⟩
  ·exact okc.2.2.1 _ _ y
  ·exact old b o y1 y2
 ·cases y:un (un (un hs' kb) hrest) hr b with
  | none=>exact absurd y z
  | some o =>
   rcases parts b o y with x | ⟨x,_⟩
   ·exact h0 b (okc.2.2.2.1 b (by rw [x]; exact Option.some_ne_none _))
   ·exact o2.2.2.2.1 b (by rw [x]; exact Option.some_ne_none _)
 ·rcases parts b _ z with y | ⟨y,_⟩
  ·exact okc.2.2.2.2 b xs y
  ·exact o2.2.2.2.2 b xs y
end
end L2
namespace L2
open PySem PySem.Spec PyProof.Rows
section
variable {K:Fgg}{E:XK}{α β γ δ ρ ρ' S B:Type}{F0 H0 F h H:Hp}{L:List Sl}{e te ei tc:TE}{T:Ty α}{r:Mo α}{Or:Own ρ}{Or':Own ρ'}{t u:TS}{LS:S→List Sl}{LB:B→List Sl}{σ:St}{C:Addr}{ns:List Str}{f m:Str}{i n w j:Nat}
theorem zcS_ {r:Mo ρ'}{k:ρ'→Mo (Out ρ B S)}{D:Ends}{kk:ρ'→Hp→Hp→Hp→Prop}(fin:Fin K (r.bind k) E LS LB Or F0 H0 D) (hk:∀ q F' h' H',r=.ok q→Okk F0 H0 F' h' H'→kk q F' h' H'):FinM K r E F0 H0 kk:=by
 cases r with
 | ok q=>exact fun F h H o=>hk q F h H rfl o
 | ex c=>exact fin
 | no=>exact fin
theorem zfl_ {O:Own α}{O':Own β}{w:V}{r:Mo (β×(β→α))}(hp:EvPw K te E L i O (owAt w O') r):EvPw K te E L i O O' r:=by
 intro F0 H0 σ F h H Q hL ok q
 refine hp F0 H0 σ F h H _ hL ok (q.imp fun yp G1 H1 x1 k1 uu il hh=>k1 uu il ?_)
 have hi:(L.set i (.ow (owPn uu (owAt w O') yp.2 O) yp.1))[i]?=some (.ow (owPn uu (owAt w O') yp.2 O) yp.1):=by rw [List.getElem?_set_self (by exact il)]
 have:=zbX_ (O2:=owPn uu O' yp.2 O) (x2:=yp.1) hh hi fun v k ev kh ⟨ka,kb,jk,⟨e,ho⟩,wand⟩=>⟨ka,kb,jk,ho,fun z' k1' k' F3 s oz j'=>wand z' k1' k' F3 s ⟨e,oz⟩ j'⟩
 rwa [List.set_set] at this
theorem zm8_ {O:Own α}{r:Mo (ρ'×α)}{s0:Sl}{k:ρ'×α→Mo (Out ρ B S)}(hw:L[w]?=some s0) (hne:i≠w) (hm:EvM K tc E L i O Or' r) (hk:∀ q,EvS K u E ((L.set i (.ow O q.2)).set w (.ow Or' q.1)) (k q) LS LB Or) :
  EvS K (tSeq (tAsg tc (gName w)) u) E L (r.bind k) LS LB Or:=by
 intro F0 H0 σ F h H D hL ok fin
 refine hm F0 H0 σ F h H _ hL ok (zcS_ fin fun q F' h' H' hr o v h1 h2 j hold res=>?_)
 rw [hr] at fin
 have hw':(L.set i (.ow O q.2))[w]?=some s0:=by rw [List.getElem?_set_ne hne]; exact hw
 obtain ⟨_,kw,hrest,e1,jw,_,f⟩:=hold.atM w hw'
 have d:Dj h2 hrest:=fun p=>by
  rcases j.dj p with z | z
  ·exact .inr (jw.r.free z)
  ·exact .inl z
 refine hk q F0 H0 (σ.set w (some v)) F' (un h2 hrest) H' D (f F' (.ow Or' q.1) (some v) h2 _ (Same.refl _) (zck_ d) ⟨v,rfl,res⟩) (zbW_ o fun p s z=>?_) fin
 unfold un at z
 cases y:h2 p with
 | some w=>rw [y] at z; rw [← z]; exact j.r _ _ y
 | none=>rw [y] at z; exact j.l _ _ (jw.r _ _ z)
theorem zoT_ {O:Own α}{T:Ty β}{r:Mo (β×α)}{xs:List β}{k:β×α→Mo (Out ρ B S)}(hw:L[w]?=some (.ow (owL T) xs)) (hne:i≠w) (hm:EvM K tc E L i O (owF T) r) (hk:∀ q,EvS K u E ((L.set i (.ow O q.2)).set w (.ow (owL T) (xs++[q.1]))) (k q) LS LB Or) :
  EvS K (tSeq (tDrop (tBM K "list" rAppend (mVar w) (tCons tc tNil))) u) E L (r.bind fun q=>.lim (xs.length+1) (k q)) LS LB Or:=by
 intro F0 H0 σ F h H D hL ok fin
 obtain ⟨p,vs,e1,hp,hr,_⟩:=zar_ hL hw ok
 show mVar w σ H fun x H1=>tyV K "list" x H1∧tCons tc tNil σ H1 fun xs H2=>rAppend x xs H2 (fun _ H3=>u D σ H3)
 refine za6_ e1 ⟨.inl ⟨rfl,vs,.of hp⟩,?_⟩
 refine hm F0 H0 σ F h H _ hL ok (zcS_ fin fun q F' h' H' hra o v h1 h2 j hold res=>?_)
 rw [hra] at fin
 obtain ⟨hz,fin⟩:=zdj_ (show Fin K (Mo.lim (xs.length+1) (k q)) E LS LB Or F0 H0 D from fin)
 have hw':(L.set i (.ow O q.2))[w]?=some (.ow (owL T) xs):=by rw [List.getElem?_set_ne hne]; exact hw
 obtain ⟨p',vs',e1',hp',hr',mm⟩:=zar_ hold hw' (zbW_ o j.l)
 rw [e1] at e1'; cases e1'
 obtain ⟨h',a1,a2⟩:=mm (xs++[q.1]) (vs'++[v]) (hr'.append (.cons res.2 .nil))
 exact ⟨p,vs',v,rfl,rfl,hp',by rw [← hr'.len]; lia,hk q F0 H0 σ _ h' _ D a1 a2 fin⟩
theorem zh0_ {O:Own α}{x:α}{v0:V}(hi:i<L.length) (hL:Hold (L.set i (.ow (owAt v0 O) x)) σ F h):∃ k,Same k h∧O.O x v0 F k:=by
 obtain ⟨_,k,_,_,j,⟨v',_,e3,ho⟩,_⟩:=hL.at i (by rw [List.getElem?_set_self (by exact hi)])
 subst e3
 exact ⟨k,j.l,ho⟩
theorem zmI_ {O2:Own α}{v0:V}{r:Mo (ρ×α)}(hi:i<L.length) (hm:EvM K tc E L i (owAt v0 O2) Or r):EvS K (tRet tc) E L (r.bind fun q=>.ok (.rt q)) LS LB (owRM v0 O2 Or):=by
 intro F0 H0 σ F h H D hL ok fin
 refine hm F0 H0 σ F h H _ hL ok (zcS_ fin fun q F' h' H' hr o v h1 h2 j hold res=>?_)
 rw [hr] at fin
 obtain ⟨k,kh,ho⟩:=zh0_ hi hold
 have d:Dj h2 k:=fun p=>by
  rcases j.dj p with z | z
  ·exact .inr (kh.free z)
  ·exact .inl z
 refine fin v F' (un h2 k) H' (zbW_ o fun p s z=>?_) ⟨h2,k,zck_ d,res,ho⟩
 unfold un at z
 cases y:h2 p with
 | some w=>rw [y] at z; rw [← z]; exact j.r _ _ y
 | none=>rw [y] at z; exact j.l _ _ (kh _ _ z)
theorem zlV_ {O2:Own α}{T:Ty β}{v0:V}{r:Mo (β×α)}(hi:i<L.length) (hm:EvM K tc E L i (owAt v0 O2) (owF T) r):EvS K (tRet (tLst (tCons tc tNil))) E L (r.bind fun q=>.ok (.rt ([q.1],q.2))) LS LB (owRM v0 O2 (owL T)):=by
 intro F0 H0 σ F h H D hL ok fin
 show tc σ H fun v H1=>[v].length≤sizeLine∧∀ p,H1 p=none→D.rt (.ref p) (upd H1 p (.lst [v]))
 refine hm F0 H0 σ F h H _ hL ok (zcS_ fin fun q F' h' H' hr o v h1 h2 j hold res=>⟨zdm_ (by simp),fun p hp=>?_⟩)
 rw [hr] at fin
 obtain ⟨k,kh,ho⟩:=zh0_ hi hold
 have o1:=zbW_ o (kh.trans j.l)
 have hp0:k p=none:=o1.2.2.1.free hp
 have Fp:F' p=none:=o1.1.2.1.free hp
 have H0p:H0 p=none:=o1.1.2.2.1.free hp
 have d:Dj (one p (.lst [v])) k:=fun q=>by
  by_cases z:q=p
  ·rw [z]; exact .inr hp0
  ·left; unfold one; rw [if_neg z]
 have up:∀ b (s:HO) (X:Hp),X p=none→X b=some s→b≠p:=fun b s X z1 z2 z3=>by rw [z3,z1] at z2; cases z2
 refine fin (.ref p) F' (un (one p (.lst [v])) k) _ ⟨⟨o1.1.1,fun b s z=>by rw [zah_ (up b s F' Fp z)]; exact o1.1.2.1 _ _ z,fun b s z=>by rw [zah_ (up b s H0 H0p z)]; exact o1.1.2.2.1 _ _ z,o1.1.2.2.2⟩,fun b=>?_,fun b s z=>?_,fun b z=>?_,fun b xs z=>?_⟩ ⟨_,k,zck_ d,⟨p,[v],rfl,rfl,.cons res.2 .nil⟩,ho⟩
 ·by_cases z:b=p
  ·rw [z]; exact .inl Fp
  ·unfold un one; rw [if_neg z]; exact o1.2.1 b
 ·unfold un one at z
  by_cases y:b=p
  ·rw [y,zat_]; rw [if_pos y] at z; exact z
  ·rw [if_neg y] at z; rw [zah_ y]; exact o1.2.2.1 _ _ z
 ·unfold un one at z
  by_cases y:b=p
  ·rw [y]; exact H0p
  ·rw [if_neg y] at z; exact o1.2.2.2.1 b z
 ·unfold un one at z
  by_cases y:b=p
  ·rw [if_pos y] at z; cases z
  ·rw [if_neg y] at z; exact o1.2.2.2.2 b xs z
theorem ziU_ {O2:Own α}{v0:V}{x:α}{a:ρ}(hij:i≠j) (hi:L[i]?=some (.ow (owAt v0 O2) x)) (hj:L[j]?=some (.ow Or a)):EvS K (tRet (mVar j)) E L (.ok (.rt (a,x))) LS LB (owRM v0 O2 Or):=by
 intro F0 H0 σ F h H D hL ok fin
 obtain ⟨_,kj,hr,ej,jj,⟨v,e2,ha⟩,f⟩:=hL.at j hj
 subst e2
 have hd:=f .dead (some v) (fun _=>none) hr (fun p=>.inl ⟨rfl,rfl⟩) trivial
 obtain ⟨_,ki,_,_,ji,⟨v',_,e3,hx⟩,_⟩:=hd.at i (by rw [List.getElem?_set_ne (Ne.symm hij)]; exact hi)
 subst e3
 have d:Dj kj ki:=fun p=>by
  rcases jj.dj p with z | z
  ·exact .inl z
  ·exact .inr (ji.l.free z)
 refine za6_ ej (fin v F (un kj ki) H (zbW_ ok fun p s z=>?_) ⟨kj,ki,zck_ d,ha,hx⟩)
 unfold un at z
 cases y:kj p with
 | some w=>rw [y] at z; rw [← z]; exact jj.l _ _ y
 | none=>rw [y] at z; exact jj.r _ _ (ji.l _ _ z)
end
end L2
namespace L2
open PySem PySem.Spec PyProof.Rows
section
variable {K:Fgg}{E:XK}{α β γ δ ρ ρ' S B:Type}{F0 H0 F h H:Hp}{L:List Sl}{e te ei tc:TE}{T:Ty α}{r:Mo α}{Or:Own ρ}{Or':Own ρ'}{t u:TS}{LS:S→List Sl}{LB:B→List Sl}{σ:St}{C:Addr}{ns:List Str}{f m:Str}{i n w j:Nat}
theorem zf4_ {lv:List Str}{fr:List (Str×Nat)}{wi:TI}{g:TG}{tt:TT}{te:TE}{r:Mo (List α)}{ss:α→List (Nat×Sl)}{c:α→Mo Bool}{f:α→Mo β}{O':Own β}
  (hi:EvI K wi E L r T) (hg:TgR K g T ss) (hd:∀ a,DeadAt (cL lv fr L) ((ss a).map (·.1))) (ht:∀ a,EvT K tt E0 (setL (cL lv fr L) (ss a)) (c a)) (he:∀ a,EvO K te E0 (setL (cL lv fr L) (ss a)) (f a) O') :
  EvO K (tComp lv fr wi g tt te) E L (r.bind fun xs=>compM (fun x=>cond1 (c x) (f x)) xs []) (owLO O'):=by
 intro σ F0 H0 Q hL hs q
 refine hi σ F0 H0 _ hL hs (q.bind.imp fun xs F1 H1 x1 k1 J Y D hD=>?_)
 have hL1:=hL.mono x1.1
 refine ⟨fun i m ys σ' H'=>m=xs.length-i∧i≤xs.length∧∃ acc Fi hh,Ext F1 H1 Fi H'∧Fi D=none∧hh D=none∧H' D=some (.lst ys)∧OwAll O' Fi acc ys hh∧Dj Fi hh∧Same hh H'∧(∀ p,hh p≠none→H1 p=none)∧HoldF (cL lv fr L) σ' F1∧σ'.length=(cL lv fr L).length∧After K (compM (fun x=>cond1 (c x) (f x)) (xs.drop i) acc) E F1 H1 (OwnK (owLO O') H0 Q),
  ⟨_,rfl,Nat.zero_le _,[],F1,fun _=>none,.heap x1.2.1 (zcm_ hD _),x1.2.1.free hD,rfl,zat_,fun _=>rfl,fun _=>.inr rfl,(fun p o z=>by cases z),fun p z=>absurd rfl z,ziG_ hL1,zlg_.symm,k1⟩,?_⟩
 rintro i m ys σ' H' ⟨rfl,hi,acc,Fi,hh,xi,hDi,hDh,hy,hp,dj,sh,fresh,hσ,hln,A⟩
 by_cases hlt:i<xs.length
 ·right
  have ex:xs[i]?=some xs[i]:=List.getElem?_eq_getElem hlt
  obtain ⟨g1,g2⟩:=Y.go i H' xs[i] (xi.1.trans xi.2.1) ex
  refine ⟨g1,fun ys' σ'' H''=>i+1≤xs.length∧∃ acc Fi hh,Ext F1 H1 Fi H''∧Fi D=none∧hh D=none∧H'' D=some (.lst ys')∧OwAll O' Fi acc ys' hh∧Dj Fi hh∧Same hh H''∧(∀ p,hh p≠none→H1 p=none)∧HoldF (cL lv fr L) σ'' F1∧σ''.length=(cL lv fr L).length∧After K (compM (fun x=>cond1 (c x) (f x)) (xs.drop (i+1)) acc) E F1 H1 (OwnK (owLO O') H0 Q),fun ys' σ'' H'' z=>⟨xs.length-(i+1),by omega,rfl,z⟩,fun v H2 hyl=>?_⟩
  obtain ⟨F2,x2,hv⟩:=g2 v H2 hyl Fi xi.1 xi.2.1
  have keep:∀ {Fa Ha Fb Hb:Hp},Ext Fa Ha Fb Hb→Fa D=none→Ha D=some (.lst ys)→Dj Fa hh→Same hh Ha→(Fb D=none∧Hb D=some (.lst ys))∧Dj Fb hh∧Same hh Hb:=by
   intro Fa Ha Fb Hb x h1 h2 h3 h4
   refine ⟨⟨?_,x.2.2.1 _ _ h2⟩,fun p=>?_,h4.trans x.2.2.1⟩
   ·cases z:Fb D with
    | none=>rfl
    | some o=>have:=x.2.2.2 D h1 (by rw [z]; exact Option.some_ne_none _); rw [h2] at this; cases this
   ·cases y:hh p with
    | none=>exact .inr rfl
    | some w =>
     left
     rcases h3 p with z | z
     ·cases zz:Fb p with
      | none=>rfl
      | some o=>have:=x.2.2.2 p z (by rw [zz]; exact Option.some_ne_none _); rw [h4 _ _ y] at this; cases this
     ·rw [z] at y; cases y
  obtain ⟨⟨hD2,hy2⟩,dj2,sh2⟩:=keep x2 hDi hy dj sh
  refine hg xs[i] v σ' F2 H2 _ x2.2.1 hv fun vs hpl=>?_
  have hσ2:HoldF (cL lv fr L) σ' F2:=hσ.mono (xi.1.trans x2.1)
  obtain ⟨a1,a2,a3⟩:=zhe_ hpl hln.symm hσ2
  have hσd:HoldF (cL lv fr L) (setS σ' vs) F1:=by
   have hdead:=hd xs[i]
   refine fun j s e=>?_
   by_cases hj:∃ q∈(ss xs[i]).map (·.1),q=j
   ·obtain ⟨q,hq,rfl⟩:=hj
    rw [hdead q hq s e]; trivial
   ·have:((setS σ' vs)[j]?)=σ'[j]?:=zmg_ hpl (fun hq=>hj ⟨j,hq,rfl⟩)
    rw [this]; exact hσ j s e
  have hdrop:xs.drop i=xs[i]::xs.drop (i+1):=List.drop_eq_getElem_cons hlt
  rw [hdrop] at A
  unfold compM at A
  cases ec:c xs[i] with
  | no=>unfold cond1 at A; rw [ec] at A; exact A.elim
  | ex cc=>unfold cond1 at A; rw [ec] at A; exact A.elim
  | ok bb =>
   refine ht xs[i] _ F2 H2 _ a1 x2.2.1 ?_
   rw [ec]
   intro F3 H3 x3
   obtain ⟨⟨hD3,hy3⟩,dj3,sh3⟩:=keep x3 hD2 hy2 dj2 sh2
   have x13:=(xi.trans x2).trans x3
   cases bb with
   | false =>
    rw [if_neg (by decide)]
    refine ⟨hlt,acc,F3,hh,x13,hD3,hDh,hy3,hp.mono (x2.1.trans x3.1),dj3,sh3,fresh,hσd,by rw [a2]; exact hln,?_⟩
    unfold cond1 at A; rw [ec] at A
    exact A
   | true =>
    rw [if_pos rfl]
    cases ef:f xs[i] with
    | no=>unfold cond1 at A; rw [ec,ef] at A; exact A.elim
    | ex cc=>unfold cond1 at A; rw [ec,ef] at A; exact A.elim
    | ok y =>
     unfold cond1 at A; rw [ec,ef] at A
     have A':After K (Mo.lim (acc.length+1) (compM (fun x=>cond1 (c x) (f x)) (xs.drop (i+1)) (acc++[y]))) E F1 H1 (OwnK (owLO O') H0 Q):=A
     obtain ⟨hz,A'⟩:=A'.lim
     refine he xs[i] _ F3 H3 _ (a1.mono x3.1) x3.2.1 ?_
     rw [ef]
     intro F4 H4 x4 v4 hn fr4 dj4n sn4 hv4
     obtain ⟨⟨hD4,hy4⟩,dj4,sh4⟩:=keep x4 hD3 hy3 dj3 sh3
     have hlen:=hp.len
     have hnD:hn D=none:=by
      cases z:hn D with
      | none=>rfl
      | some w=>have:=fr4 D (by rw [z]; exact Option.some_ne_none _); rw [hy3] at this; cases this
     have djn:Dj hh hn:=fun p=>by
      cases z:hn p with
      | none=>exact .inr rfl
      | some w=>exact .inl (sh3.free (fr4 p (by rw [z]; exact Option.some_ne_none _)))
     have x14:=x13.trans x4
     refine ⟨hy4,by omega,hlt,acc++[y],F4,un hh hn,?_,hD4,by unfold un; rw [hDh]; exact hnD,zat_,(hp.mono ((x2.1.trans x3.1).trans x4.1)).snoc hv4 djn,fun p=>?_,fun p o z=>?_,fun p z=>?_,hσd,by rw [a2]; exact hln,A'⟩
     ·refine ⟨x14.1,fun b o z=>?_,fun b o z=>?_,x14.2.2.2⟩
      ·unfold upd; split
       ·rename_i w; rw [w,hD4] at z; cases z
       ·exact x14.2.1 _ _ z
      ·unfold upd; split
       ·rename_i w; rw [w,hD] at z; cases z
       ·exact x14.2.2.1 _ _ z
     ·unfold un
      cases z:hh p with
      | some w =>
       rcases dj4 p with y | y
       ·exact .inl y
       ·rw [y] at z; cases z
      | none=>exact dj4n p
     ·have hpD:p≠D:=fun w=>by
       unfold un at z; rw [w,hDh,hnD] at z; cases z
      unfold upd; rw [if_neg hpD]
      unfold un at z
      cases w:hh p with
      | some o'=>rw [w] at z; cases z; exact sh4 _ _ w
      | none=>rw [w] at z; exact sn4 _ _ z
     ·unfold un at z
      cases w:hh p with
      | some o'=>exact fresh p (by rw [w]; exact Option.some_ne_none _)
      | none=>rw [w] at z; exact x13.2.2.1.free (fr4 p z)
 ·left
  have e:i=xs.length:=by omega
  subst e
  refine ⟨Y.stop H' (xi.1.trans xi.2.1),?_⟩
  rw [List.drop_length] at A
  have A':OwnK (owLO O') H0 Q acc Fi H':=A Fi H' xi
  have dD:Dj (one D (.lst ys)) hh:=fun p=>by
   unfold one; split
   ·rename_i w; rw [w]; exact .inr hDh
   ·exact .inl rfl
  refine A' (.ref D) (un (one D (.lst ys)) hh) (fun p z=>?_) (fun p=>?_) (fun p o z=>?_) ⟨D,ys,hh,rfl,zck_ dD,hp⟩
  ·unfold un one at z
   by_cases w:p=D
   ·rw [w]; exact x1.2.2.1.free hD
   ·simp only [if_neg w] at z; exact x1.2.2.1.free (fresh p z)
  ·by_cases w:p=D
   ·rw [w]; exact .inl hDi
   ·unfold un one; simp only [if_neg w]; exact dj p
  ·unfold un one at z
   by_cases w:p=D
   ·simp only [if_pos w] at z; rw [w]; cases z; exact hy
   ·simp only [if_neg w] at z; exact sh _ _ z
theorem EvO.weak {O O2:Own α}{e:TE}{r:Mo α}(h:∀ {a v F h},O.O a v F h→O2.O a v F h) (he:EvO K e E L r O):EvO K e E L r O2:=by
 intro σ F H Q hL hs q
 exact he σ F H Q hL hs (q.imp fun a F1 H1 x1 k1 v hp fresh d s o=>k1 v hp fresh d s (h o))
theorem zoB_ {h1 h2 h:Hp}(j:Jn h1 h2 h) (n:∀ p,h2 p=none):h=h1:=funext fun p=>by
 rcases j p with ⟨a,b⟩ | ⟨_,b⟩
 ·rw [b,n,a]
 ·exact b
theorem OwAll.plain {T':Ty β}:∀ {xs:List β}{vs:List V}{F h:Hp},OwAll (owF T') F xs vs h→(∀ p,h p=none)∧Prs T' F xs vs
 | [],[],_,_,q=>⟨q,.nil⟩
 | x::xs,v::vs,_,_,⟨h1,h2,j,⟨e,r⟩,q⟩=>have z:=OwAll.plain q; ⟨fun p=>by rw [zoB_ j z.1]; exact e p,.cons r z.2⟩
 | [],_::_,_,_,q=>q.elim
 | _::_,[],_,_,q=>q.elim
theorem zbp_ {lv:List Str}{fr:List (Str×Nat)}{wi:TI}{g:TG}{tt:TT}{te:TE}{r:Mo (List α)}{ss:α→List (Nat×Sl)}{c:α→Mo Bool}{f:α→Mo β}{T':Ty β}
  (hi:EvI K wi E L r T) (hg:TgR K g T ss) (hd:∀ a,DeadAt (cL lv fr L) ((ss a).map (·.1))) (ht:∀ a,EvT K tt E0 (setL (cL lv fr L) (ss a)) (c a)) (he:∀ a,EvF K te E0 (setL (cL lv fr L) (ss a)) (f a) T') :
  EvO K (tComp lv fr wi g tt te) E L (r.bind fun xs=>compM (fun x=>cond1 (c x) (f x)) xs []) (owL T') :=
 EvO.weak (O:=owLO (owF T')) (O2:=owL T') (fun ⟨p,vs,k,e,j,q⟩=>have z:=OwAll.plain q; ⟨p,vs,e,zoB_ j z.1,z.2⟩) (zf4_ hi hg hd ht fun a=>EvF.ow (he a))
section
open PySem PySem.Spec PyProof.Rows PySem.W
variable {κ:Type}
end
theorem zfB_ {r:Mo (List α)}{ta:TA}(h:EvA K ta E L r (csLast (tyL T))):EvI K (iEnumL K ta) E L (r.bind fun l=>.ok (enumL l)) (tyTup (csCons tyInt (csLast T))):=by
 intro σ F H R hL hs q
 refine h σ F H _ hL hs (q.bind.imp fun l F1 H1 x1 k1 vs hv=>?_)
 obtain ⟨v,rfl,p,us,rfl,hp,hr⟩:=hv
 refine ⟨p,rfl,⟨us,.of (x1.2.1 _ _ hp)⟩,k1.ok x1.2.1 _ ⟨fun i H x hH hx=>?_,fun H hH=>?_⟩⟩
 ·rw [zgA_] at hx
  rcases hr.get i with ⟨a,_⟩ | ⟨y,u,a,b,c⟩
  ·rw [a] at hx; cases hx
  ·rw [a] at hx; cases hx
   refine ⟨⟨us,u,.of (hH _ _ hp),b⟩,?_⟩
   rintro v H' ⟨p2,w,z,hp2,rfl,rfl⟩ F hF hF'
   have e:=z us (.of (hH _ _ hp))
   rw [b] at e; cases e
   have x:=Ext.new (o:=.tup [.int i,u]) hF' hp2
   exact ⟨_,x,p2,_,rfl,zat_,_,_,rfl,rfl,u,rfl,T.mono (hF.trans x.1) c⟩
 ·exact ⟨us,.of (hH _ _ hp),by rw [zcQ_,hr.len]; exact Nat.le_refl _⟩
def mListL (K:Fgg):List V→Hp→VK→Prop:=fun xs H Q=>∃ p ys,xs=[.ref p]∧(SqL K H p ys∨SqT K H p ys)∧∀ l,H l=none→Q (.ref l) (upd H l (.lst ys))
theorem za2_ {X:Cx}:CallR X (.type "list") (mListL X.K):=zgf_
theorem zcn_:BlO K (mListL K) E (csLast (tyL T)) (fun l=>.ok l) (owL T):=by
 rintro c vs F H Q hs ⟨v,rfl,p,us,rfl,h,r⟩ q
 exact ⟨p,us,rfl,.inl (.of (hs _ _ h)),fun l hl=>zd3_ hs hl r q⟩
theorem z5_ {α:Type}{us:List α}{n:Nat}(h:us.length=n+1):∃ a t,us=a::t∧t.length=n:=by
 cases us with
 | nil=>cases h
 | cons a t=>exact ⟨a,t,rfl,Nat.succ.inj h⟩
theorem Fun.binds1 {x qual:Str}{st:Stmt}{f:Addr}{fd:FuncData}{ps:List Str}(hp:ps.length=1) (F:Fun K x qual st f fd) (h:∀ (kV doc pm:Value) (an:Option Addr) (cdv ct:Value) (ua:Value),bindArgs (PySem.W.fnOf x qual (defArgs st) (defBody st) (defScope st) .none kV doc pm an cdv ct) ⟨[ua],[]⟩=pure (ps.zip [ua])):Binds K fd ps []:=by
 refine F.binds fun kV doc pm an cdv ct us hl=>?_
 have h0:=hl.trans hp
 obtain ⟨ua,t1,rfl,h1⟩:=z5_ h0
 cases List.length_eq_zero_iff.mp h1
 exact h kV doc pm an cdv ct ua
theorem Fun.binds2 {x qual:Str}{st:Stmt}{f:Addr}{fd:FuncData}{ps:List Str}(hp:ps.length=2) (F:Fun K x qual st f fd) (h:∀ (kV doc pm:Value) (an:Option Addr) (cdv ct:Value) (ua ub:Value),bindArgs (PySem.W.fnOf x qual (defArgs st) (defBody st) (defScope st) .none kV doc pm an cdv ct) ⟨[ua,ub],[]⟩=pure (ps.zip [ua,ub])):Binds K fd ps []:=by
 refine F.binds fun kV doc pm an cdv ct us hl=>?_
 have h0:=hl.trans hp
 obtain ⟨ua,t1,rfl,h1⟩:=z5_ h0
 obtain ⟨ub,t2,rfl,h2⟩:=z5_ h1
 cases List.length_eq_zero_iff.mp h2
 exact h kV doc pm an cdv ct ua ub
theorem Fun.binds3 {x qual:Str}{st:Stmt}{f:Addr}{fd:FuncData}{ps:List Str}(hp:ps.length=3) (F:Fun K x qual st f fd) (h:∀ (kV doc pm:Value) (an:Option Addr) (cdv ct:Value) (ua ub uc:Value),bindArgs (PySem.W.fnOf x qual (defArgs st) (defBody st) (defScope st) .none kV doc pm an cdv ct) ⟨[ua,ub,uc],[]⟩=pure (ps.zip [ua,ub,uc])):Binds K fd ps []:=by
 refine F.binds fun kV doc pm an cdv ct us hl=>?_
 have h0:=hl.trans hp
 obtain ⟨ua,t1,rfl,h1⟩:=z5_ h0
 obtain ⟨ub,t2,rfl,h2⟩:=z5_ h1
 obtain ⟨uc,t3,rfl,h3⟩:=z5_ h2
 cases List.length_eq_zero_iff.mp h3
 exact h kV doc pm an cdv ct ua ub uc
theorem Fun.binds5 {x qual:Str}{st:Stmt}{f:Addr}{fd:FuncData}{ps:List Str}(hp:ps.length=5) (F:Fun K x qual st f fd) (h:∀ (kV doc pm:Value) (an:Option Addr) (cdv ct:Value) (ua ub uc ud ue:Value),bindArgs (PySem.W.fnOf x qual (defArgs st) (defBody st) (defScope st) .none kV doc pm an cdv ct) ⟨[ua,ub,uc,ud,ue],[]⟩=pure (ps.zip [ua,ub,uc,ud,ue])):Binds K fd ps []:=by
 refine F.binds fun kV doc pm an cdv ct us hl=>?_
 have h0:=hl.trans hp
 obtain ⟨ua,t1,rfl,h1⟩:=z5_ h0
 obtain ⟨ub,t2,rfl,h2⟩:=z5_ h1
 obtain ⟨uc,t3,rfl,h3⟩:=z5_ h2
 obtain ⟨ud,t4,rfl,h4⟩:=z5_ h3
 obtain ⟨ue,t5,rfl,h5⟩:=z5_ h4
 cases List.length_eq_zero_iff.mp h5
 exact h kV doc pm an cdv ct ua ub uc ud ue
theorem Fun.binds7 {x qual:Str}{st:Stmt}{f:Addr}{fd:FuncData}{ps:List Str}(hp:ps.length=7) (F:Fun K x qual st f fd) (h:∀ (kV doc pm:Value) (an:Option Addr) (cdv ct:Value) (ua ub uc ud ue uf ug:Value),bindArgs (PySem.W.fnOf x qual (defArgs st) (defBody st) (defScope st) .none kV doc pm an cdv ct) ⟨[ua,ub,uc,ud,ue,uf,ug],[]⟩=pure (ps.zip [ua,ub,uc,ud,ue,uf,ug])):Binds K fd ps []:=by
 refine F.binds fun kV doc pm an cdv ct us hl=>?_
 have h0:=hl.trans hp
 obtain ⟨ua,t1,rfl,h1⟩:=z5_ h0
 obtain ⟨ub,t2,rfl,h2⟩:=z5_ h1
 obtain ⟨uc,t3,rfl,h3⟩:=z5_ h2
 obtain ⟨ud,t4,rfl,h4⟩:=z5_ h3
 obtain ⟨ue,t5,rfl,h5⟩:=z5_ h4
 obtain ⟨uf,t6,rfl,h6⟩:=z5_ h5
 obtain ⟨ug,t7,rfl,h7⟩:=z5_ h6
 cases List.length_eq_zero_iff.mp h7
 exact h kV doc pm an cdv ct ua ub uc ud ue uf ug
theorem zfw_ {P:Ps γ}{P':Ps δ}{O1:Own α}{ad:γ→α→δ}{x:γ}{w:V}{k:δ→Mo (Out ρ B S)}(hi:L[i]?=some (.ow (owAt w (owI C ns P)) x)) (hf:f∉ns) (hsm:ns.length<900) (pp:PsAdd P O1 P' ad) (hO:ImmO O1) (he:EvO K e E L r O1) (hk:∀ x',EvS K u E (L.set i (.ow (owAt w (owI C (ns++[f]) P')) x')) (k x') LS LB Or) :
  EvS K (tSeq (mSFld C (mVar i) e f) u) E L (r.bind fun a=>(Mo.ok (ad x a)).bind k) LS LB Or:=by
 intro F0 H0 σ F h H D hL ok fin
 refine he σ (un F h) H _ (hL.froz ok.2.1) ok.thaw (zag_ (G:=F) ok _ (.inl rfl) fin fun a F' H' hra x1 v hn fresh dj hsn hv=>?_)
 obtain ⟨o,hs,ht⟩:=ok.back x1
 rw [hra] at fin
 obtain ⟨v0,k0,e1,⟨ew,p,dx,vs,m,rfl,ndx,jn,hl,ps⟩,kH,kh,_,g⟩:=zfV_ (hL.mono hs) hi o
 have hp1:H' p=some (.ins C dx (ns.zip vs)):=kH _ _ (jn.l _ _ zhB_)
 refine za6_ e1 ⟨dx,_,hp1,by rw [List.length_zip]; lia,?_⟩
 rw [zgh_ v hf hl]
 have fr:∀ q,hn q≠none→less F' h q=none∧h q=none∧H0 q=none:=fun q z=>⟨by
  rcases dj q with y | y
  ·exact zba_.free y
  ·exact absurd y z,ok.2.2.1.free (fresh q z),ok.1.2.2.1.free (fresh q z)⟩
 have dn:Dj hn m:=fun q=>by
  by_cases z:hn q=none
  ·exact .inl z
  ·exact .inr (jn.r.free (kh.free (fr q z).2.1))
 obtain ⟨j',PC⟩:=zim_ (o':=.ins C dx ((ns++[f]).zip (vs++[v]))) (hn:=hn) o kh ndx jn (Same.refl m) fr hsn dn
 obtain ⟨h',a1,a2⟩:=g (owAt w (owI C (ns++[f]) P')) (ad x a) (.ref p) _ _ _ PC ⟨ew,p,dx,vs++[v],un hn m,rfl,ndx,j',by rw [List.length_append,List.length_append,hl]; rfl,pp ps a v hn _ _ (Same.refl _) (hO ht hv) (zck_ dn)⟩
 rw [zaM_ e1] at a1
 exact hk _ F0 H0 σ _ h' _ D a1 a2 fin
theorem zm4_ {κ:Type} [DecidableEq κ] {KY:KyT κ}{O:Own β}{mm:Mo (List (κ×α)×(List (κ×α)→β))}{r2:Mo κ}{e2:TE}{k:β→Mo (Out ρ B S)}(hp:EvPt K te E L i O (owD KY T) mm) (hT:Imm T) (hKT:Imm KY.T) (he:EvF K e E L r T) (he2:EvF K e2 E L r2 KY.T) (hk:∀ x',EvS K u E (L.set i (.ow O x')) (k x') LS LB Or) :
  EvS K (tSeq (mDPut te e2 e) u) E L (r.bind fun a=>mm.bind fun yp=>r2.bind fun y=>.lim (yp.1.length+1) ((Mo.ok (yp.2 (putA yp.1 y a))).bind k)) LS LB Or:=by
 intro F0 H0 σ F h H D hL ok fin
 show e σ H fun v H1=>te σ H1 fun x H2=>e2 σ H2 fun y H3=>atD x y H3 fun a kvs k=>kvs.length<sizeLine∧u D σ (upd H3 a (.dK (putK kvs k v)))
 refine he σ (un F h) H _ (hL.froz ok.2.1) ok.thaw (zag_ (G:=F) ok _ (.inl rfl) fin fun a F1 H1 hra x1 v hv=>?_)
 obtain ⟨o,hs,ht⟩:=ok.back x1
 rw [hra] at fin
 have hL':=hL.mono hs
 have hv':=hT ht hv
 refine hp F0 H0 σ _ h H1 _ hL' o (zag_ (G:=F) o _ (.inl rfl) fin fun yp G1 H2 hr0 x2 u0 fc=>?_)
 obtain ⟨o1,hs1,_⟩:=o.back x2
 rw [hr0] at fin
 refine he2 σ (un (less G1 h) h) H2 _ ((hL'.mono hs1).froz o1.2.1) o1.thaw (zag_ (G:=F) o1 _ (.inl rfl) fin fun y F2 H3 hry x3 v2 hv2=>?_)
 obtain ⟨o2,hs2,ht2⟩:=o1.back x3
 rw [hry] at fin
 obtain ⟨hz,fin⟩:=zdj_ (show Fin K (Mo.lim (yp.1.length+1) (k (yp.2 (putA yp.1 y a)))) E LS LB Or F0 H0 D from fin)
 obtain ⟨k1,⟨p,kvs,rfl,rfl,pr⟩,kh',g⟩:=fc _ H3 hs2 o2
 obtain ⟨h',a1,a2⟩:=g (putA yp.1 y a) (one p (.dK (putK kvs (KY.key y) v))) _ (upd H3 p (.dK (putK kvs (KY.key y) v))) (PutC.one o2 kh') ⟨p,_,rfl,rfl,zkP_ pr y (T.mono (hs1.trans hs2) hv')⟩
 unfold atD
 simp only
 rw [KY.of hv2]
 refine ⟨kvs,o2.2.2.1 _ _ (kh' _ _ zaA_),?_,hk _ F0 H0 σ _ h' _ D a1 a2 fin⟩
 have:=Paired.length pr
 omega
end
end L2
namespace L2
open PySem PySem.Spec PyProof.Rows
section
variable {K:Fgg}{E:XK}{L:List Sl}
def rngD (hi:Int) (n:Nat):List Int:=(List.range n).map fun (i:Nat)=>hi+i*(-1)
theorem zkF_ {hi:Int}{n:Nat}{F1:Hp}:Yl K (Itp n fun k=>.int (hi+k*(-1))) (rngD hi n) tyInt F1:=by
 refine ⟨fun i H x hH hx=>?_,fun H hH=>?_⟩
 ·unfold rngD at hx
  rw [List.getElem?_map] at hx
  cases e:(List.range n)[i]? with
  | none=>rw [e] at hx; cases hx
  | some c =>
   rw [e] at hx; cases hx
   obtain ⟨hi,e⟩:=List.getElem?_eq_some_iff.mp e
   rw [List.getElem_range] at e; subst e
   rw [List.length_range] at hi
   refine ⟨hi,?_⟩
   rintro v H' ⟨rfl,rfl⟩ F _ hF
   exact ⟨F,.refl hF,rfl⟩
 ·show n≤_
  unfold rngD; rw [List.length_map,List.length_range]; exact Nat.le_refl _
theorem zn2_ {r:Mo (Int×Int×Int)}{ta:TA}(h:EvA K ta E L r (csCons tyInt (csCons tyInt (csLast tyInt)))):EvI K (mRng3 ta) E L (r.bind fun c=>.grd (c.2.2 = -1 ∧ -(2 ^ 61)≤c.1∧c.1<2 ^ 61 ∧ -(2 ^ 61)≤c.2.1∧c.2.1<2 ^ 61) (.ok (rngD c.1 (c.1-c.2.1).toNat))) tyInt:=by
 intro σ F H R hL hs q
 refine h σ F H _ hL hs (q.bind.imp fun l F1 H1 x1 k1 v hv=>?_)
 obtain ⟨u,us,rfl,rfl,u2,us2,rfl,rfl,w,rfl,rfl⟩:=hv
 obtain ⟨z,k1⟩:=k1.grd
 exact ⟨z.1,z.2,k1.ok x1.2.1 _ zkF_⟩
end
section
variable {K:Fgg}{E:XK}{α β ρ B:Type}{F0 H0 F h H:Hp}{L:List Sl}{te:TE}{Or:Own ρ}{tb:TS}{LB:B→List Sl}{i w:Nat}
def mapX (step:β→Mo β):List β→Mo (List β)
 | []=>.ok []
 | x::xs=>(step x).bind fun y=>(mapX step xs).bind fun ys=>.ok (y::ys)
theorem zpi_ {O:Own α}{O':Own β}{r0:Mo (List β×(List β→α))}{step:β→Mo β}{s0:Sl}(hw:L[w]?=some s0) (hne:i≠w) (hp:EvPw K te E L i O (owLO O') r0)
  (hb:∀ (uu v:V) (put:List β→α) (xs:List β) (k:Nat) (z:β),EvS K tb E ((L.set i (.ow (owPn v O' (fun z'=>xs.set k z') (owPn uu (owLO O') put O)) z)).set w (.fz (tyIs v) ())) ((step z).bind fun z'=>.ok (.nx z'))
   (fun z'=>(L.set i (.ow (owPn v O' (fun z'=>xs.set k z') (owPn uu (owLO O') put O)) z')).set w .dead) (fun z':β=>(L.set i (.ow (owPn v O' (fun z'=>xs.set k z') (owPn uu (owLO O') put O)) z')).set w .dead) Or) :
  EvS K (tFor (iAny K te) (gName w) tb) E L (r0.bind fun yp=>(mapX step yp.1).bind fun xs=>.ok (.nx (yp.2 xs))) (fun x'=>(L.set i (.ow O x')).set w .dead) LB Or:=by
 intro F0 H0 σ F h H D hL ok fin
 have dd:∀ {s:Sl}{σ F h},Hold (L.set i s) σ F h→Hold ((L.set i s).set w .dead) σ F h:=fun {s σ F h} hL=>by
  have hw':(L.set i s)[w]?=some s0:=by rw [List.getElem?_set_ne hne]; exact hw
  obtain ⟨o,k,hr,e1,j,_,f⟩:=hL.at w hw'
  have:=f .dead o k h j trivial
  rwa [zaM_ e1] at this
 unfold tFor iAny
 refine hp F0 H0 σ F h H _ hL ok (zag_ (G:=F) ok _ (.inl rfl) fin fun yp G1 H1 hr0 x1 uu il hh=>?_)
 obtain ⟨o1,_,_⟩:=ok.back x1
 rw [hr0] at fin
 have hi:∀ {xs},((L.set i (.ow (owPn uu (owLO O') yp.2 O) xs)).set w .dead)[i]?=some (.ow (owPn uu (owLO O') yp.2 O) xs):=fun {xs}=>by rw [List.getElem?_set_ne (Ne.symm hne),List.getElem?_set_self (by exact il)]
 have ss:∀ {s1 s2:Sl},((L.set i s1).set w .dead).set i s2=(L.set i s2).set w .dead:=fun {s1 s2}=>by rw [List.set_comm _ _ (Ne.symm hne),List.set_set]
 have at0:∀ {xs σ F h H},Hold ((L.set i (.ow (owPn uu (owLO O') yp.2 O) xs)).set w .dead) σ F h→Okk F0 H0 F h H→∃ p vs,uu=.ref p∧h p=some (.lst vs)∧H p=some (.lst vs)∧vs.length=xs.length:=fun {xs σ F h H} hL ok=>by
  obtain ⟨_,_,_,_,j,⟨_,_,ka,kb,jk,⟨p,vs,m,e,jn,all⟩,_⟩,_⟩:=hL.at i hi
  have hp:=j.l _ _ (jk.l _ _ (jn.l _ _ zaA_))
  exact ⟨p,vs,e,hp,ok.2.2.1 _ _ hp,all.len.symm⟩
 obtain ⟨p,vs0,rfl,_,hp0,_⟩:=at0 (dd hh) o1
 refine .inl ⟨⟨vs0,.of hp0⟩,?_⟩
 refine ⟨fun k m σ H=>∃ (ys rest:List β) (F h:Hp),m=rest.length∧ys.length=k∧Hold ((L.set i (.ow (owPn (.ref p) (owLO O') yp.2 O) (ys++rest))).set w .dead) σ F h∧Okk F0 H0 F h H∧Fin K ((mapX step rest).bind fun zs=>.ok (.nx (yp.2 (ys++zs)))) E (fun x'=>(L.set i (.ow O x')).set w .dead) LB Or F0 H0 D,⟨_,[],yp.1,_,h,rfl,rfl,dd hh,o1,fin⟩,?_⟩
 rintro k m σ H ⟨ys,rest,F,h,rfl,rfl,hL,ok,fin⟩
 obtain ⟨p',vs,e,hv,hH,hlen⟩:=at0 hL ok
 cases e
 cases rest with
 | nil =>
  left
  refine ⟨⟨vs,.of hH,by rw [hlen]; simp⟩,fin σ F h H ?_ ok⟩
  have:=zbX_ (O2:=O) (x2:=yp.2 (ys++[])) hL hi fun v k _ _ ho=>zfC_ ho
  rwa [ss] at this
 | cons z rest =>
  right
  have hlt:ys.length<vs.length:=by rw [hlen]; simp
  have ek:vs[ys.length]?=some vs[ys.length]:=List.getElem?_eq_getElem hlt
  refine ⟨⟨vs,vs[ys.length],.of hH,ek⟩,fun σ' H'=>∃ (ys' rest':List β) (F h:Hp),rest'.length=rest.length∧ys'.length=ys.length+1∧Hold ((L.set i (.ow (owPn (.ref p) (owLO O') yp.2 O) (ys'++rest'))).set w .dead) σ' F h∧Okk F0 H0 F h H'∧Fin K ((mapX step rest').bind fun zs=>.ok (.nx (yp.2 (ys'++zs)))) E (fun x'=>(L.set i (.ow O x')).set w .dead) LB Or F0 H0 D,
   fun σ' H' ⟨ys',rest',F,h,a,b,c⟩=>⟨rest'.length,by rw [List.length_cons,a]; exact Nat.lt_succ_self _,ys',rest',F,h,rfl,b,c⟩,fun v H2 hy=>?_⟩
  obtain ⟨rfl,zz⟩:=hy
  have ev:=zz vs (.of hH)
  rw [ek] at ev
  injection ev with ev
  subst ev
  have ez:(ys++z::rest)[ys.length]?=some z:=by simp
  have hin:=zbX_ (O2:=owPn vs[ys.length] O' (fun z'=>(ys++z::rest).set ys.length z') (owPn (.ref p) (owLO O') yp.2 O)) (x2:=z) hL hi fun v0 k ev kh ⟨ka,kb,jk,hlo,wand⟩=>by
   obtain ⟨k1,k2,j1,o1,g⟩:=zkV_ hv ek ez F ka (jk.l.trans kh) hlo
   obtain ⟨mm,jm,jh⟩:=zcz_ j1 jk
   refine ⟨k1,mm,jh,o1,fun z' k1' k' F3 s oz j'=>?_⟩
   obtain ⟨d,jg⟩:=ziI_ jm j'
   exact ⟨un k1' k2,kb,jg,g z' k1' _ F3 s oz (zck_ d),fun z'' k1'' k'' F4 s'=>wand z'' k1'' k'' F4 (s.trans s')⟩
  rw [ss] at hin
  have hw2:∀ {s:Sl},((L.set i s).set w .dead)[w]?=some .dead:=fun {s}=>by rw [List.getElem?_set_self]; rw [List.length_set]; exact (List.getElem?_eq_some_iff.mp hw).1
  have hin2:=zcC_ (T:=tyIs vs[ys.length]) (a:=()) (v:=vs[ys.length]) hw2 hin rfl
  rw [List.set_set] at hin2
  refine hb (.ref p) vs[ys.length] yp.2 (ys++z::rest) ys.length z F0 H0 (σ.set w (some vs[ys.length])) F h H2 _ hin2 ok ?_
  have em:∀ z',step z=.ok z'→((mapX step (z::rest)).bind fun zs=>(.ok (.nx (yp.2 (ys++zs))):Mo (Out ρ B α)))=(mapX step rest).bind fun zs=>.ok (.nx (yp.2 (ys++[z']++zs))):=fun z' e=>by
   show ((step z).bind fun y=>(mapX step rest).bind fun ys=>.ok (y::ys)).bind _=_
   rw [e]
   cases mapX step rest with
   | ok zs=>show Mo.ok (Out.nx (yp.2 (ys++(z'::zs))))=Mo.ok (Out.nx (yp.2 (ys++[z']++zs))); rw [List.append_assoc]; rfl
   | ex c=>rfl
   | no=>rfl
  cases e:step z with
  | no=>unfold mapX at fin; rw [e] at fin; exact fin
  | ex c=>unfold mapX at fin; rw [e] at fin; exact fin
  | ok z' =>
   rw [em z' e] at fin
   intro σ' F' h' H' hL' ok'
   refine ⟨ys++[z'],rest,F',h',rfl,by simp,?_,ok',fin⟩
   have hi2:((L.set i (.ow (owPn vs[ys.length] O' (fun z'=>(ys++z::rest).set ys.length z') (owPn (.ref p) (owLO O') yp.2 O)) z')).set w .dead)[i]?=some (.ow (owPn vs[ys.length] O' (fun z'=>(ys++z::rest).set ys.length z') (owPn (.ref p) (owLO O') yp.2 O)) z'):=by rw [List.getElem?_set_ne (Ne.symm hne),List.getElem?_set_self (by exact il)]
   have:=zbX_ (O2:=owPn (.ref p) (owLO O') yp.2 O) (x2:=ys++[z']++rest) hL' hi2 fun v k _ _ ho=>by
    have:=zfC_ ho
    rwa [show (ys++z::rest).set ys.length z'=ys++[z']++rest by simp] at this
   rwa [ss] at this
end
end L2
namespace L2
open PySem PySem.Spec PyProof.Rows
section
variable {K:Fgg}{E:XK}{α β γ δ ρ ρ' S B:Type}{F0 H0 F h H:Hp}{L:List Sl}{e te ei tc:TE}{ta:TA}{T:Ty α}{r:Mo α}{Or:Own ρ}{Or':Own ρ'}{t u:TS}{LS:S→List Sl}{LB:B→List Sl}{σ:St}{C:Addr}{ns:List Str}{f m:Str}{i n w j:Nat}
def EvN (K:Fgg) (e:TE) (E:XK) (L:List Sl) (r:Mo α) (T:Ty α):Prop :=
 ∀ σ F H (Q:VK),HoldF L σ F→Same F H→After K r E F H (fun a G H'=>∀ v,(∀ h,Same h F→(∀ p xs,h p≠some (.tup xs))→T.R a v (less G h))→Q v H')→e σ H Q
def EvAN (K:Fgg) (t:TA) (E:XK) (L:List Sl) (r:Mo γ) (C:Cs γ):Prop :=
 ∀ σ F H (Q:List V→Hp→Prop),HoldF L σ F→Same F H→After K r E F H (fun c G H'=>∀ vs,(∀ h,Same h F→(∀ p xs,h p≠some (.tup xs))→C.R c vs (less G h))→Q vs H')→t σ H Q
theorem zgJ_ {G:Hp}(s:Same h G) (nt:∀ p xs,h p≠some (.tup xs)):Tups G (less G h):=fun p xs z=>by
 cases y:h p with
 | none=>rw [zB_ y]; exact z
 | some o=>have:=s _ _ y; rw [z] at this; cases this; exact absurd y (nt p xs)
theorem zdk_ (hT:Imm T) (he:EvF K e E L r T):EvN K e E L r T:=by
 intro σ F H Q hL hs q
 exact he σ F H Q hL hs (q.imp fun a G H' x k v hv=>k v fun h sh nt=>hT (zgJ_ (sh.trans x.1) nt) hv)
theorem zkO_ {O1:Own α}(hO:ImmO O1) (he:EvO K e E L r O1):EvN K e E L r O1.fr:=by
 intro σ F H Q hL hs q
 refine he σ F H Q hL hs ?_
 cases r with
 | no=>exact q
 | ex c=>exact q
 | ok a =>
  intro F' H' x v hn fresh dj sn ho
  refine q (un F' hn) H' ⟨x.1.trans z1_,fun p o z=>?_,x.2.2.1,fun p a b=>?_⟩ v fun h sh nt=>?_
  ·unfold un at z
   cases y:F' p with
   | some w=>rw [y] at z; rw [← z]; exact x.2.1 _ _ y
   | none=>rw [y] at z; exact sn _ _ z
  ·unfold un at b
   cases y:F' p with
   | some w=>exact x.2.2.2 p a (by rw [y]; exact Option.some_ne_none _)
   | none=>rw [y] at b; exact fresh p b
  ·have d2:Dj (less F' h) hn:=fun p=>by
    rcases dj p with z | z
    ·exact .inl (zba_.free z)
    ·exact .inr z
   refine O1.fr.mono (fun p o z=>?_) (O1.frz d2 (hO (zgJ_ (sh.trans x.1) nt) ho))
   unfold un at z
   cases y:less F' h p with
   | some w =>
    rw [y] at z
    have hp:h p=none:=by
     cases y2:h p with
     | none=>rfl
     | some s=>rw [zR_ p (by rw [y2]; exact Option.some_ne_none _)] at y; cases y
    rw [zB_ hp] at y ⊢
    unfold un; rw [y]; exact z
   | none =>
    rw [y] at z
    have hp:h p=none:=by
     cases y2:h p with
     | none=>rfl
     | some s =>
      have z':hn p=some o:=z
      have:=fresh p (by rw [z']; exact Option.some_ne_none _)
      rw [hs _ _ (sh _ _ y2)] at this; cases this
    rw [zB_ hp] at y ⊢
    unfold un; rw [y]; exact z
theorem zkY_:EvAN K tNil E L (.ok ()) csNil:=fun σ F H Q hL hs q=>q.ok hs [] fun _ _ _=>rfl
theorem zbG_ (h:EvN K e E L r T):EvAN K (tCons e tNil) E L r (csLast T):=by
 intro σ F H Q hL hs q
 exact h σ F H _ hL hs (q.imp fun a G H' x k v hv=>k [v] fun h sh nt=>⟨v,rfl,hv h sh nt⟩)
theorem zjd_ {r2:Mo γ}{C:Cs γ}(h:EvN K e E L r T) (h2:EvAN K ta E L r2 C):EvAN K (tCons e ta) E L (r.bind fun a=>r2.bind fun c=>.ok (a,c)) (csCons T C):=by
 intro σ F H Q hL hs q
 refine h σ F H _ hL hs (q.bind.imp fun a G1 H1 x1 k1 v hv=>?_)
 refine h2 σ G1 H1 _ (hL.mono x1.1) x1.2.1 (k1.bind.imp fun c G2 H2 x2 k2 vs hvs=>?_)
 exact k2.ok x2.2.1 (v::vs) fun h sh nt=>⟨v,vs,rfl,T.mono (zgt_ x2.1) (hv h sh nt),hvs h (sh.trans x1.1) nt⟩
theorem zaG_ {O:Own α}{P:Ps β}{r0:Mo (β×(β→α))}{Q:Cs γ}{ta:TA}{ra:Mo γ}{g:β→γ→Mo (ρ'×β)}{Or':Own ρ'}(hno:m∉ns) (hI:ImmO (owI C ns P)) (hR:ImmO Or') (hp:EvPw K te E L i O (owI C ns P) r0) (ha:EvAN K ta E L ra Q) :
  EvM K (tMeth C m (CtM K (owI C ns P) (owI C ns P) Q g Or') [] E0 te ta) E L i O Or' (r0.bind fun yp=>ra.bind fun c=>(g yp.1 c).noex.bind fun q=>.ok (q.1,yp.2 q.2)):=by
 intro F0 H0 σ F h H R hL ok fin
 show te σ H fun x H1=>∃ a dx fs,x=.ref a∧H1 a=some (.ins C dx fs)∧fs.lookup m=none∧ta σ H1 fun vs H2=>CtM K (owI C ns P) (owI C ns P) Q g Or' (x::(vs++[])) H2 R E0
 refine hp F0 H0 σ F h H _ hL ok (zkJ_ ok fin fun yp G1 H1 hr0 x1 uu il hh=>?_)
 obtain ⟨o1,hs1,_⟩:=ok.back x1
 rw [hr0] at fin
 have hi:(L.set i (.ow (owPn uu (owI C ns P) yp.2 O) yp.1))[i]?=some (.ow (owPn uu (owI C ns P) yp.2 O) yp.1):=by rw [List.getElem?_set_self (by exact il)]
 obtain ⟨_,_,_,_,j0,⟨_,_,ka0,kb0,jk0,⟨p,dx,vs0,m0,rfl,ndx,jn,hl,ps⟩,_⟩,_⟩:=hh.at i hi
 refine ⟨p,dx,_,rfl,o1.2.2.1 _ _ (j0.l _ _ (jk0.l _ _ (jn.l _ _ zhB_))),zaI_ hno,?_⟩
 refine ha σ (un (less G1 h) h) H1 _ ((hL.mono hs1).froz o1.2.1) o1.thaw (zkJ_ o1 fin fun c G2 H2 hra x2 vs hvs=>?_)
 obtain ⟨o2,hs2,ht2⟩:=o1.back x2
 rw [hra] at fin
 rw [List.append_nil]
 obtain ⟨_,k,hrest,e1,j,⟨v0,rfl,ka,kb,jk,hO,wand⟩,f⟩:=(hh.mono hs2).atM i hi
 have kh1:Same ka h:=jk.l.trans j.l
 have sFc:Same (un (less G2 h) (less h ka)) H2:=fun q o z=>by
  unfold un at z
  cases y:less G2 h q with
  | some s=>rw [y] at z; rw [← z]; exact o2.1.2.1 _ _ y
  | none=>rw [y] at z; exact o2.2.2.1 _ _ (zba_ _ _ z)
 have djc:Dj (un (less G2 h) (less h ka)) ka:=fun q=>by
  by_cases z:ka q=none
  ·exact .inr z
  ·left
   unfold un
   have:less G2 h q=none:=zR_ q fun y=>z (kh1.free y)
   rw [this]; exact zR_ q z
 refine ⟨un (less G2 h) (less h ka),ka,yp.1,c,.ref p,vs,rfl,sFc,djc,kh1.trans o2.2.2.1,(owI C ns P).mono z1_ hO,Q.mono z1_ (hvs h (zfN_ o1.2.1) o1.2.2.2.2),?_⟩
 have fin:FinM K ((g yp.1 c).noex.bind fun q=>.ok (q.1,yp.2 q.2)) E F0 H0 _:=fin
 cases e:g yp.1 c with
 | no=>rw [e] at fin; exact fin
 | ex cc=>rw [e] at fin; exact fin.elim
 | ok q =>
  rw [e] at fin
  rintro F' h' H' okc v ⟨hr,hs',j',hRes,hO2⟩
  obtain ⟨ff,tp,d1,d2,d3,okk⟩:=zi0_ o2 j jk okc j'
  have hold:=f (less F' (less h ka)) (.ow O (yp.2 q.2)) (some v0) (un hs' kb) _ ff (zck_ d2) ⟨v0,rfl,wand q.2 hs' _ _ ff (hI tp hO2) (zck_ d1)⟩
  rw [zaM_ e1,List.set_set] at hold
  exact fin _ _ H' okk v _ hr (zck_ d3) hold (hR tp hRes)
theorem zkD_ {O:Own α}{r:Mo (ρ'×α)}{k:ρ'×α→Mo (Out ρ B S)}(hm:EvM K tc E L i O Or' r) (hk:∀ q,EvS K u E (L.set i (.ow O q.2)) (k q) LS LB Or):EvS K (tSeq (tDrop tc) u) E L (r.bind k) LS LB Or:=by
 intro F0 H0 σ F h H D hL ok fin
 show tc σ H fun _ H3=>u D σ H3
 refine hm F0 H0 σ F h H _ hL ok (zcS_ fin fun q F' h' H' hr o v h1 h2 j hold res=>?_)
 rw [hr] at fin
 exact hk q F0 H0 σ F' h1 H' D hold (zbW_ o j.l) fin
theorem zkC_ {O:Own α}{O1:Own β}{r:Mo (β×α)}{xs:List β}{k:β×α→Mo (Out ρ B S)}(hw:L[w]?=some (.ow (owL O1.fr) xs)) (hne:i≠w) (hm:EvM K tc E L i O O1 r) (hk:∀ q,EvS K u E ((L.set i (.ow O q.2)).set w (.ow (owL O1.fr) (xs++[q.1]))) (k q) LS LB Or) :
  EvS K (tSeq (tDrop (tBM K "list" rAppend (mVar w) (tCons tc tNil))) u) E L (r.bind fun q=>.lim (xs.length+1) (k q)) LS LB Or:=by
 intro F0 H0 σ F h H D hL ok fin
 obtain ⟨p,vs,e1,hp,hr,_⟩:=zar_ hL hw ok
 show mVar w σ H fun x H1=>tyV K "list" x H1∧tCons tc tNil σ H1 fun xs H2=>rAppend x xs H2 (fun _ H3=>u D σ H3)
 refine za6_ e1 ⟨.inl ⟨rfl,vs,.of hp⟩,?_⟩
 refine hm F0 H0 σ F h H _ hL ok (zcS_ fin fun q F' h' H' hra o v h1 h2 j hold res=>?_)
 rw [hra] at fin
 obtain ⟨hz,fin⟩:=zdj_ (show Fin K (Mo.lim (xs.length+1) (k q)) E LS LB Or F0 H0 D from fin)
 have hw':(L.set i (.ow O q.2))[w]?=some (.ow (owL O1.fr) xs):=by rw [List.getElem?_set_ne hne]; exact hw
 have o2:Okk F0 H0 (un F' h2) h1 H':=zhN_ (zbW_ o j.l) (fun p z=>⟨o.2.2.2.1 p fun y=>z (j.r.free y),by
  rcases j.dj p with y | y
  ·exact y
  ·exact absurd y z⟩) (j.r.trans o.2.2.1)
 have d2:Dj F' h2:=fun p=>by
  rcases o.2.1 p with z | z
  ·exact .inl z
  ·exact .inr (j.r.free z)
 obtain ⟨p',vs',e1',hp',hr',mm⟩:=zar_ (hold.mono z1_) hw' o2
 rw [e1] at e1'; cases e1'
 obtain ⟨h',a1,a2⟩:=mm (xs++[q.1]) (vs'++[v]) (hr'.append (.cons (O1.frz d2 res) .nil))
 exact ⟨p,vs',v,rfl,rfl,hp',by rw [← hr'.len]; lia,hk q F0 H0 σ _ h' _ D a1 a2 fin⟩
def EvIr (K:Fgg) (wi:TI) (E:XK) (L:List Sl) (r:Mo (List Int)):Prop :=
 ∀ σ F H (R:It→Hp→Prop),HoldF L σ F→Same F H→After K r E F H (fun xs F' H'=>∀ J,(∀ F1,Yl K J xs tyInt F1)→R J H')→wi σ H R
theorem eir_3 {r:Mo (Int×Int×Int)}(h:EvA K ta E L r (csCons tyInt (csCons tyInt (csLast tyInt)))):EvIr K (mRng3 ta) E L (r.bind fun c=>.grd (c.2.2 = -1 ∧ -(2 ^ 61)≤c.1∧c.1<2 ^ 61 ∧ -(2 ^ 61)≤c.2.1∧c.2.1<2 ^ 61) (.ok (rngD c.1 (c.1-c.2.1).toNat))):=by
 intro σ F H R hL hs q
 refine h σ F H _ hL hs (q.bind.imp fun l F1 H1 x1 k1 v hv=>?_)
 obtain ⟨u,us,rfl,rfl,u2,us2,rfl,rfl,w,rfl,rfl⟩:=hv
 obtain ⟨z,k1⟩:=k1.grd
 exact ⟨z.1,z.2,k1.ok x1.2.1 _ fun _=>zkF_⟩
theorem zo3_ {wi:TI}{g:TG}{tb:TS}{s0:S}{r:Mo (List Int)}{ss:Int→List (Nat×Sl)}{step:S→Int→Mo (Out ρ S S)}(hi:EvIr K wi E (LS s0) r) (hg:TgR K g tyInt ss)
  (hb:∀ s a,EvS K tb E (setL (LS s) (ss a)) (step s a) LS LS Or):EvS K (tFor wi g tb) E (LS s0) (r.bind fun xs=>forO step xs s0) LS LB Or:=by
 intro F0 H0 σ F h H D hL ok fin
 refine hi σ (un F h) H _ (hL.froz ok.2.1) ok.thaw (zag_ (G:=F) ok _ (.inl rfl) fin fun xs G1 H1 hr x1 J Y=>?_)
 rw [hr] at fin
 obtain ⟨o1,hs1,_⟩:=ok.back x1
 refine ⟨fun i m σ H=>m=xs.length-i∧i≤xs.length∧∃ s F h,Hold (LS s) σ F h∧Okk F0 H0 F h H∧Fin K (forO (B:=B) step (xs.drop i) s) E LS LB Or F0 H0 D,
  ⟨_,rfl,Nat.zero_le _,s0,_,h,hL.mono hs1,o1,fin⟩,?_⟩
 rintro i m σ H ⟨rfl,hi,s,F,h,hL,ok,fin⟩
 by_cases hlt:i<xs.length
 ·right
  obtain ⟨g1,g2⟩:=(Y F).go i H xs[i] ok.1.2.1 (List.getElem?_eq_getElem hlt)
  refine ⟨g1,fun σ' H'=>i+1≤xs.length∧∃ s F h,Hold (LS s) σ' F h∧Okk F0 H0 F h H'∧Fin K (forO (B:=B) step (xs.drop (i+1)) s) E LS LB Or F0 H0 D,fun σ' H' z=>⟨xs.length-(i+1),by omega,rfl,z⟩,fun v H2 hy=>?_⟩
  obtain ⟨F2,x2,hv⟩:=g2 v H2 hy F (Same.refl _) ok.1.2.1
  refine hg xs[i] v σ F2 H2 _ x2.2.1 hv fun vs hp=>?_
  refine hb s xs[i] F0 H0 _ F2 h H2 _ (ze2_ hp (hL.mono x2.1)) (ok.cold x2) ?_
  rw [List.drop_eq_getElem_cons hlt] at fin
  unfold forO at fin
  cases e:step s xs[i] with
  | no=>rw [e] at fin; exact fin
  | ex c=>rw [e] at fin; exact fin
  | ok o =>
   rw [e] at fin
   cases o with
   | nx s'=>exact fun σ' F' h' H' hL' ok'=>⟨hlt,s',F',h',hL',ok',fin⟩
   | ct s'=>exact fun σ' F' h' H' hL' ok'=>⟨hlt,s',F',h',hL',ok',fin⟩
   | bk s'=>exact fin
   | rt a=>exact fin
 ·left
  have e:i=xs.length:=by omega
  subst e
  rw [List.drop_length] at fin
  exact ⟨(Y F).stop H ok.1.2.1,fin σ F h H hL ok⟩
end
end L2
namespace L2
open PySem PySem.Spec PyProof.Rows
section
variable {K:Fgg}{E:XK}{α κ:Type} [DecidableEq κ] {KY:KyT κ}{L:List Sl}{e1 e2 e3:TE}{T:Ty α}
theorem zlW_ {r1:Mo (List (κ×α))}{r2:Mo κ}{r3:Mo α}(h1:EvF K e1 E L r1 (tyD KY T)) (h2:EvF K e2 E L r2 KY.T) (h3:EvF K e3 E L r3 T):EvF K (mDGet2 e1 e2 e3) E L (r1.bind fun m=>r2.bind fun k=>r3.bind fun d=>.ok ((getA m k).getD d)) T:=by
 intro σ F H Q hL hs q
 refine h1 σ F H _ hL hs (q.bind.imp fun m F1 H1 x1 k1 v1 hv1=>?_)
 obtain ⟨p0,kvs0,rfl,hp0,hd0⟩:=id hv1
 refine ⟨⟨kvs0,x1.2.1 _ _ hp0⟩,?_⟩
 refine h2 σ F1 H1 _ (hL.mono x1.1) x1.2.1 (k1.bind.imp fun k F2 H2 x2 k2 v2 hv2=>?_)
 refine h3 σ F2 H2 _ ((hL.mono x1.1).mono x2.1) x2.2.1 (k2.bind.imp fun d F3 H3 x3 k3 v3 hv3=>?_)
 refine at_d ((tyD KY T).mono (x2.1.trans x3.1) hv1) (KY.T.mono x3.1 hv2) x3.2.1 fun p kvs hp hd=>?_
 rcases znP_ hd k with ⟨z,z2⟩ | ⟨a',v,z1,z2,z3⟩
 ·rw [z] at k3; rw [z2]; exact k3.ok x3.2.1 _ hv3
 ·rw [z1] at k3; rw [z2]; exact k3.ok x3.2.1 _ z3
end
section
variable {K:Fgg}{E:XK}{α β ρ ρ' B:Type}{L:List Sl}{te:TE}{Or:Own ρ}{Or':Own ρ'}{LB:B→List Sl}{C:Addr}{ns:List Str}{m:Str}{i w:Nat}
theorem zov_ {O:Own α}{P:Ps β}{g:β→Unit→Mo (ρ'×β)}{r0:Mo (List β×(List β→α))}{s0:Sl}(hi:i<L.length) (hw:L[w]?=some s0) (hne:i≠w) (hno:m∉ns) (hI:ImmO (owI C ns P)) (hp:EvPw K te E L i O (owLO (owI C ns P)) r0) :
  EvS K (tFor (iAny K te) (gName w) (tDrop (tMeth C m (CtM K (owI C ns P) (owI C ns P) csNil g Or') [] E0 (mVar w) tNil))) E L (r0.bind fun yp=>(mapX (fun z=>(g z ()).noex.bind fun q=>.ok q.2) yp.1).bind fun xs=>.ok (.nx (yp.2 xs))) (fun x'=>(L.set i (.ow O x')).set w .dead) LB Or:=by
 refine zpi_ hw hne hp fun uu v put xs k z=>?_
 have h1:∀ s1 s2:Sl,((L.set i s1).set w s2)[i]?=some s1:=fun s1 s2=>by rw [List.getElem?_set_ne (Ne.symm hne),List.getElem?_set_self (by exact hi)]
 have h2:∀ s1 s2:Sl,((L.set i s1).set w s2)[w]?=some s2:=fun s1 s2=>by rw [List.getElem?_set_self]; rw [List.length_set]; exact (List.getElem?_eq_some_iff.mp hw).1
 have e:((((g z ()).noex.bind fun q=>Mo.ok q.2).bind fun z'=>.ok (.nx z')):Mo (Out ρ β β))=(Mo.ok (z,fun z':β=>z')).bind fun yp=>(Mo.ok ()).bind fun c=>(g yp.1 c).noex.bind fun q=>.ok (.nx (yp.2 q.2)):=by
  cases e0:g z () with
  | ok q=>simp only [Mo.bind,Mo.noex,e0]
  | ex c=>simp only [Mo.bind,Mo.noex,e0]
  | no=>simp only [Mo.bind,Mo.noex,e0]
 rw [e]
 refine zch_ (zk5_ (k:=fun x=>.ok (.nx x)) (P:=P) hno hI (zgF_ (h1 _ _) (h2 _ _)) zlN_ zom_ fun x'=>?_)
 intro F0 H0 σ F h H D hL ok fin
 have:=fin σ F h H
 refine fin σ F h H ?_ ok
 rw [List.set_comm _ _ (Ne.symm hne),List.set_set] at hL
 obtain ⟨o,k,hr,e1,j,_,f⟩:=hL.at w (h2 _ _)
 have:=f .dead o k h j trivial
 rw [zaM_ e1,List.set_set] at this
 exact this
end
end L2
namespace L2
open PySem PySem.Spec PyProof.Rows
section
variable {K:Fgg}{E:XK}{α β γ δ ρ ρ' S B:Type}{F0 H0 F h H:Hp}{L:List Sl}{e te te2 tc:TE}{ta:TA}{T:Ty α}{r:Mo α}{Or:Own ρ}{Or':Own ρ'}{t u:TS}{LS:S→List Sl}{LB:B→List Sl}{σ:St}{C:Addr}{ns:List Str}{f m:Str}{i n w j:Nat}
theorem zfj_ {s:Sl}{o:Option V}(hl:L.length=σ.length) (h:HoldF L σ F) (hs:s.Z o F):HoldF (L++[s]) (σ++[o]) F:=by
 intro j t e
 by_cases hj:j<L.length
 ·rw [List.getElem?_append_left hj] at e
  rw [List.getElem?_append_left (by lia)]
  exact h j t e
 ·rw [List.getElem?_append_right (by lia)] at e
  rw [List.getElem?_append_right (by lia)]
  have hj0:j-L.length=0:=by
   by_cases z:j-L.length=0
   ·exact z
   ·rw [List.getElem?_eq_none (by simp; lia)] at e; cases e
  rw [hj0] at e
  cases e
  rw [← hl,hj0]
  exact hs
theorem zpc_ {O:Own α}{T:Ty ρ}{r:Mo (ρ'×α)}{k:ρ'×α→Mo ρ}(hT:Imm T) (hm:EvM K tc E L i O Or' r) (hk:∀ q,EvF K te2 E ((L.set i (.ow O q.2))++[.fz Or'.fr q.1]) (k q) T)
  (hte:∀ (σ:St),σ.length=L.length→∀ (H:Hp) (Q:VK),(tc σ H fun v H1=>te2 (σ++[some v]) H1 Q)→te σ H Q):EvS K (tRet te) E L (r.bind fun q=>(k q).bind fun a=>.ok (.rt a)) LS LB (owF T):=by
 intro F0 H0 σ F h H D hL ok fin
 show te σ H D.rt
 refine hte σ hL.len.symm H D.rt (hm F0 H0 σ F h H _ hL ok (zcS_ fin fun q F' h' H' hr o v h1 h2 j hold res=>?_))
 rw [hr] at fin
 have o2:Okk F0 H0 (un F' h2) h1 H':=zhN_ (zbW_ o j.l) (fun p z=>⟨o.2.2.2.1 p fun y=>z (j.r.free y),by
  rcases j.dj p with y | y
  ·exact y
  ·exact absurd y z⟩) (j.r.trans o.2.2.1)
 have d2:Dj F' h2:=fun p=>by
  rcases o.2.1 p with z | z
  ·exact .inl z
  ·exact .inr (j.r.free z)
 have fin:Fin K ((k q).bind fun a=>.ok (.rt a)) E LS LB (owF T) F0 H0 D:=fin
 have hv:Or'.fr.R q.1 v (un (un F' h2) h1):=Or'.fr.mono z1_ (Or'.frz d2 res)
 refine hk q _ (un (un F' h2) h1) H' _ (zfj_ (by rw [hold.len]) ((hold.mono z1_).froz o2.2.1) ⟨v,rfl,hv⟩) o2.thaw (zag_ (G:=F') o2 _ (.inl rfl) fin fun a G2 H2 hra x2 w hw=>?_)
 obtain ⟨o3,_,ht⟩:=o2.back x2
 rw [hra] at fin
 exact fin w _ (fun _=>none) H2 ⟨o3.1,fun p=>.inr rfl,(fun p o z=>by cases z),fun p z=>absurd rfl z,fun p xs z=>by cases z⟩ ⟨fun _=>rfl,hT ht hw⟩
end
theorem atF {K:Fgg}{E:XK}{α:Type}{e:TE}{r:Mo α}{T:Ty α}(L:List Sl) (h:EvF K e E L r T):EvF K e E L r T:=h
end L2
namespace L2
open PySem PySem.Spec PyProof.Rows
section
variable {X:Cx}{tg:Expr}
end
section
variable {K:Fgg}{E:XK}{α β:Type}{L:List Sl}{T:Ty α}
end
section
variable {X:Cx}{o e f:Expr}{apos cpos:Pos}{td ty tz:TE}
end
section
variable {K:Fgg}{E:XK}{α β γ ρ κ S B:Type}{F0 H0 F h H:Hp}{L:List Sl}{T:Ty α}{O:Own ρ}{t u:TS}{LS:S→List Sl}{LB:B→List Sl}{KY:KyT κ} [DecidableEq κ]
end
end L2
namespace L2
open PySem PySem.Spec PyProof.Rows
section
variable {X:Cx}{pins:Pnn}{σ:St}{H:Hp}{s:Shared}{d:Addr}{o:Obj}{kvs:List (Key×V)}
end
section
variable {X:Cx}{e:Expr}{te:TE}{apos cpos pos tpos:Pos}{elts:List Expr}{kk:Nat}
end
abbrev hpE:Hp:=fun _=>none
section
variable {F0 H0 F1 H1 F h H:Hp}{d:Addr}{o:Obj}{u:HO}
end
section
variable {K:Fgg}{E:XK}{α β γ ρ κ S B:Type}{L Li:List Sl}{T:Ty α}{O:Own ρ}{LB:B→List Sl}{KY:KyT κ}
end
end L2
namespace L2
open PySem PySem.Spec PyProof.Rows
section
variable {K:Fgg}{E:XK}{α β γ ρ κ S B:Type}{F0 H0 F h H:Hp}{L:List Sl}{T:Ty α}{O:Own ρ}{t u:TS}{e e1 e2:TE}{LS:S→List Sl}{LB:B→List Sl}{KY:KyT κ}
theorem zmc_ {rc:Mo Bool}{r2:Mo (Out Bool B S)}(hc:EvF K e1 E L rc tyBl) (h2:EvS K (tRet e2) E L r2 LS LB (owF tyBl)):EvS K (tRet (mAndV e1 e2)) E L (rc.bind fun b=>if b then r2 else .ok (.rt false)) LS LB (owF tyBl):=by
 intro F0 H0 σ F h H D hL ok fin
 refine hc σ (un F h) H _ (hL.froz ok.2.1) ok.thaw (zag_ (G:=F) ok _ (.inl rfl) fin fun a F' H' hr x v hv=>?_)
 cases hv
 obtain ⟨o,hs,ht⟩:=ok.back x
 rw [hr] at fin
 have fin':Fin K (if a then r2 else .ok (.rt false)) E LS LB (owF tyBl) F0 H0 D:=fin
 refine ⟨fun z=>?_,fun z=>?_⟩
 ·rw [if_pos z] at fin'; exact h2 F0 H0 σ _ h H' D (hL.mono hs) o fin'
 ·rw [if_neg (by rw [z]; decide)] at fin'
  exact fin' _ _ (fun _=>none) H' ⟨o.1,fun p=>.inr rfl,(fun p o z=>by cases z),fun p z=>absurd rfl z,fun p xs z=>by cases z⟩ ⟨fun _=>rfl,rfl⟩
theorem zot_ {c1 c2:TT}{rc:Mo Bool}{r1 r2:Mo (Out ρ B S)}(hc:EvT K c1 E L rc) (h1:EvS K t E L r1 LS LB O) (h2:EvS K (mIfS c2 t u) E L r2 LS LB O):EvS K (mIfS (mOr c1 c2) t u) E L (rc.bind fun b=>if b then r1 else r2) LS LB O:=by
 intro F0 H0 σ F h H D hL ok fin
 refine hc σ (un F h) H _ (hL.froz ok.2.1) ok.thaw (zag_ (G:=F) ok _ (.inl rfl) fin fun a F' H' hr x=>?_)
 obtain ⟨o,hs,ht⟩:=ok.back x
 rw [hr] at fin
 have fin':Fin K (if a then r1 else r2) E LS LB O F0 H0 D:=fin
 refine ⟨fun z=>?_,fun z=>?_⟩
 ·rw [if_pos z] at fin'; exact ⟨fun _=>h1 F0 H0 σ _ h H' D (hL.mono hs) o fin',fun y=>by cases y⟩
 ·rw [if_neg (by rw [z]; decide)] at fin'; exact h2 F0 H0 σ _ h H' D (hL.mono hs) o fin'
variable [DecidableEq κ]
end
section
variable {K:Fgg}{E:XK}{α κ:Type}{T:Ty α}{KY:KyT κ} [DecidableEq κ]
end
end L2
namespace L2
open PySem PySem.Spec PyProof.Rows
section
variable {X:Cx}{pins:Pnn}{σ:St}{H:Hp}{s:Shared}{A:Around}{p q:Addr}{ka kb:List (Key×V)}
end
section
variable {K:Fgg}{E:XK}
end
end L2
namespace L2
open PySem PySem.Spec PyProof.Rows
section
variable {K:Fgg}{E:XK}{L:List Sl}{e:TE}
end
end L2
namespace L2
open PySem PySem.Spec PyProof.Rows
section
variable {K:Fgg}{E:XK}{α β γ ρ ρ' S B:Type}{F0 H0 F h H:Hp}{L:List Sl}{T:Ty α}{Or:Own ρ}{t u:TS}{e e1 e2 te:TE}{LS:S→List Sl}{LB:B→List Sl}{i j:Nat}{σ:St}
end
section
variable {K:Fgg}{E:XK}{α β γ ρ κ S B:Type}{T:Ty α}{O:Own ρ}{LB:B→List Sl}{KY:KyT κ}
end
end L2
namespace L2
open PySem PySem.Spec PyProof.Rows
section
variable {K:Fgg}{E E0:XK}{α β γ ρ ρ' S B:Type}{F0 H0 F h H:Hp}{L:List Sl}{T:Ty α}{Or:Own ρ}{t u:TS}{e te:TE}{LS:S→List Sl}{LB:B→List Sl}{i j n:Nat}{σ:St}
def putL.{uu} {α:Type uu}:Nat→α→List α→List α
 | 0,x,l=>x::l
 | n+1,x,y::l=>y::putL n x l
 | _+1,x,[]=>[x]
theorem putL_len.{uu} {α:Type uu}(x:α):∀ (n:Nat) (l:List α),(putL n x l).length=l.length+1
 | 0,l=>rfl
 | n+1,y::l=>by show (putL n x l).length+1=_; rw [putL_len x n l]; rfl
 | n+1,[]=>rfl
theorem zil_ {α β:Type}(f:α→β) (x:α):∀ (n:Nat) (l:List α),(putL n x l).map f=putL n (f x) (l.map f)
 | 0,l=>rfl
 | n+1,y::l=>by show f y::(putL n x l).map f=f y::putL n (f x) (l.map f); rw [zil_ f x n l]
 | n+1,[]=>rfl
theorem ziX_ {α:Type}(x:α):∀ (n:Nat) (l l':List α),n≤l.length→putL n x l++l'=putL n x (l++l')
 | 0,l,l',_=>rfl
 | n+1,y::l,l',h=>by show y::(putL n x l++l')=y::putL n x (l++l'); rw [ziX_ x n l l' (Nat.le_of_succ_le_succ h)]
 | n+1,[],l',h=>by cases h
def CtMk (K:Fgg) (n:Nat) (O:Own α) (O2:Own β) (Q:Cs γ) (g:α→γ→Mo (ρ×β)) (Or:Own ρ):Sp:=fun vs H R E=>∃ F h x c w ws,vs=putL n w ws∧Same F H∧Dj F h∧Same h H∧O.O x w F h∧Q.R c ws F ∧
 FinM K (g x c) E F (less H h) fun r F' h' H'=>∀ v,(owRM w O2 Or).O r v F' h'→R v H'
theorem zlI_ {h1 h2:Hp}(j:Jn h1 h2 hpE):h1=hpE∧h2=hpE:=by
 refine ⟨funext fun p=>?_,funext fun p=>?_⟩
 ·rcases j p with ⟨a,_⟩ | ⟨_,b⟩
  ·exact a
  ·exact b.symm
 ·rcases j p with ⟨_,b⟩ | ⟨a,_⟩
  ·exact b.symm
  ·exact a
theorem zhU_ {s:Sl}{o:Option V}(hp:s.P o F h):∀ (n:Nat) {L:List Sl}{σ:St},Hold L σ F hpE→Hold (putL n s L) (putL n o σ) F h
 | 0,L,σ,q=>⟨h,hpE,fun _=>.inr ⟨rfl,rfl⟩,hp,q⟩
 | n+1,[],[],q=>⟨h,hpE,fun _=>.inr ⟨rfl,rfl⟩,hp,q⟩
 | n+1,s'::L,o'::σ,⟨h1,h2,jj,p,r⟩=>by
  obtain ⟨e1,e2⟩:=zlI_ jj
  subst e1; subst e2
  exact ⟨hpE,h,fun _=>.inl ⟨rfl,rfl⟩,p,zhU_ hp n r⟩
 | n+1,[],_::_,q=>q.elim
 | n+1,_::_,[],q=>q.elim
theorem zma_ {t:XK→TS}{O:Own α}{O2:Own β}{Q:Cs γ}{ss:γ→List Sl}{g:α→γ→Mo (Out (ρ×β) Unit Unit)}{N:List Str}(k n m:Nat) (hk:k≤n) (hn:CsN Q n) (hm:N.length-(n+1)=m) (hC:CsS Q ss)
  (hb:∀ w x c E,EvS K (t E) E (putL k (.ow (owAt w O) x) (ss c++List.replicate m .dead)) (g x c) (fun _:Unit=>[]) (fun _:Unit=>[]) (owRM w O2 Or)) :
  ∀ vs H R E,CtMk K k O O2 Q (fun x c=>fnMR (g x c)) Or vs H R E→t E { nx:=fun _ H'=>R .non H',rt:=R } (start N vs) H:=by
 rintro vs H R E ⟨F,h,x,c,w,ws,rfl,hs,dj,hh,hO,hc,q⟩
 have hstart:start N (putL k w ws)=putL k (some w) (ws.map some++List.replicate m none):=by
  unfold start
  rw [putL_len,hn hc,hm,zil_,ziX_ _ _ _ _ (by rw [List.length_map,hn hc]; exact hk)]
 rw [hstart]
 refine hb w x c E F (less H h) _ F h H _ (zhU_ (s:=.ow (owAt w O) x) ⟨w,rfl,rfl,hO⟩ k ((hC hc).hold m)) (zgj_ hs dj hh (O.notup hO)) ?_
 cases e:g x c with
 | no=>simp only [fnMR,e] at q; exact q
 | ex cc=>simp only [fnMR,e] at q; exact q
 | ok o =>
  simp only [fnMR,e] at q
  cases o with
  | nx s=>exact q.elim
  | bk s=>exact q.elim
  | ct s=>exact q.elim
  | rt a=>exact fun v F' h' H' ok hv=>q F' h' H' ok v hv
inductive TaIn (i:Nat):Nat→TA→TA→Prop
 | zero {ta:TA}:TaIn i 0 ta (tCons (mVar i) ta)
 | succ {n:Nat}{e:TE}{ta ta':TA}(h:TaIn i n ta ta'):TaIn i (n+1) (tCons e ta) (tCons e ta')
theorem zm6_ {w:V}(e:σ[i]?=some (some w)) (H:Hp) (Q:VK):mVar i σ H Q=Q w H:=by unfold mVar; rw [e]
theorem TaIn.eq {ta ta':TA}{w:V}(h:TaIn i n ta ta') (e:σ[i]?=some (some w)):∀ (H:Hp) (Q:List V→Hp→Prop),ta' σ H Q=ta σ H fun vs H1=>Q (putL n w vs) H1:=by
 induction h with
 | zero=>intro H Q; exact zm6_ e H _
 | succ _ ih =>
  intro H Q
  unfold tCons
  congr 1
  funext x H1
  exact ih H1 _
theorem zn1_ (d:Dj F h):less F h=F:=funext fun p=>by
 cases y:h p with
 | none=>exact zB_ y
 | some w =>
  rw [zR_ p (by rw [y]; exact Option.some_ne_none _)]
  rcases d p with z | z
  ·exact z.symm
  ·rw [y] at z; cases z
theorem ziy_ {O':Own β}{x:β}{Q:Cs γ}{ta ta':TA}{ra:Mo γ}{g:β→γ→Mo (ρ'×β)}{Or':Own ρ'}(hi:L[i]?=some (.ow O' x)) (hI:ImmO O') (hR:ImmO Or') (ht:TaIn i n ta ta') (ha:EvA K ta E (L.map Sl.cold) ra Q) :
  EvM K (tCall (CtMk K n O' O' Q g Or') [] E0 ta') E L i O' Or' (ra.bind fun c=>(g x c).noex.bind fun q=>.ok (q.1,q.2)):=by
 intro F0 H0 σ F h H R hL ok fin
 obtain ⟨_,_,_,e0,_,⟨v0,rfl,_⟩,_⟩:=hL.at i hi
 show ta' σ H fun vs H1=>CtMk K n O' O' Q g Or' (vs++[]) H1 R E0
 rw [ht.eq e0]
 have aft:∀ {kk:γ→Hp→Hp→Prop},(∀ c F' H',ra=.ok c→Ext F H F' H'→kk c F' H')→After K ra E F H kk:=fun {kk} hk=>by
  cases e:ra with
  | ok c=>exact fun F' H' x=>hk c F' H' e x
  | no=>rw [e] at fin; exact fin
  | ex cc=>rw [e] at fin; exact fun F' H' x=>fin _ _ _ (ok.cold x)
 refine ha σ F H _ hL.coldF ok.1.2.1 (aft fun c F2 H2 hra x2 vs hvs=>?_)
 rw [hra] at fin
 have o2:=ok.cold x2
 rw [List.append_nil]
 obtain ⟨_,k,hrest,e1,j,⟨v1,e2,hO⟩,f⟩:=(hL.mono x2.1).atM i hi
 rw [e0] at e1
 cases e1
 cases e2
 have kh1:Same k h:=j.l
 have sFc:Same (un F2 (less h k)) H2:=fun q o z=>by
  unfold un at z
  cases y:F2 q with
  | some s=>rw [y] at z; rw [← z]; exact o2.1.2.1 _ _ y
  | none=>rw [y] at z; exact o2.2.2.1 _ _ (zba_ _ _ z)
 have djc:Dj (un F2 (less h k)) k:=fun q=>by
  by_cases z:k q=none
  ·exact .inr z
  ·left
   unfold un
   have:F2 q=none:=by
    rcases o2.2.1 q with y | y
    ·exact y
    ·exact absurd (kh1.free y) z
   rw [this]; exact zR_ q z
 refine ⟨un F2 (less h k),k,x,c,v0,vs,rfl,sFc,djc,kh1.trans o2.2.2.1,O'.mono z1_ hO,Q.mono z1_ hvs,?_⟩
 have fin:FinM K ((g x c).noex.bind fun q=>.ok (q.1,q.2)) E F0 H0 _:=fin
 cases e:g x c with
 | no=>rw [e] at fin; exact fin
 | ex cc=>rw [e] at fin; exact fin.elim
 | ok q =>
  rw [e] at fin
  rintro F' h' H' okc v ⟨hr,hs',j',hRes,hO2⟩
  have el:=zn1_ o2.2.1
  have jk:Jn k hpE k:=fun _=>.inr ⟨rfl,rfl⟩
  obtain ⟨ff,tp,d1,d2,d3,okk⟩:=zi0_ (G2:=F2) (by rw [el]; exact o2) j jk (by rw [el]; exact okc) j'
  rw [el] at ff
  have eh:un hs' hpE=hs':=zoB_ (zck_ d1) fun _=>rfl
  have hold:=f (less F' (less h k)) (.ow O' q.2) (some v0) (un hs' hpE) _ ff (zck_ d2) ⟨v0,rfl,by rw [eh]; exact hI tp hO2⟩
  rw [zaM_ e0] at hold
  exact fin _ _ H' okk v _ hr (zck_ d3) hold (hR tp hRes)
theorem znT_ {O:Own β}{r0:Mo (List α×(List α→β))}{r:Mo α}{ri:Mo Int}{ei:TE}{k:β→Mo (Out ρ B S)}(hp:EvPt K te E L i O (owL T) r0) (hT:Imm T) (he:EvF K e E L r T) (hei:EvF K ei E L ri tyInt) (hk:∀ x',EvS K u E (L.set i (.ow O x')) (k x') LS LB Or) :
  EvS K (tSeq (tAsg e (gSub te ei mSet)) u) E L (r.bind fun a=>r0.bind fun yp=>ri.bind fun j=>(Mo.opt ((ixN yp.1.length j).map fun n=>yp.1.set n a)).bind fun xs=>(Mo.ok (yp.2 xs)).bind k) LS LB Or:=by
 intro F0 H0 σ F h H D hL ok fin
 refine he σ (un F h) H _ (hL.froz ok.2.1) ok.thaw (zag_ (G:=F) ok _ (.inl rfl) fin fun a G0 H3 hra x0 v hv=>?_)
 obtain ⟨o0,hs0,ht0⟩:=ok.back x0
 rw [hra] at fin
 refine hp F0 H0 σ _ h H3 _ (hL.mono hs0) o0 (zag_ (G:=F) o0 _ (.inl rfl) fin fun yp G1 H1 hr0 x1 u0 fc=>?_)
 obtain ⟨o1,hs1,ht1⟩:=o0.back x1
 rw [hr0] at fin
 refine hei σ (un (less G1 h) h) H1 _ (((hL.mono hs0).mono hs1).froz o1.2.1) o1.thaw (zag_ (G:=F) o1 _ (.inl rfl) fin fun j G2 H2 hrj x2 v2 hv2=>?_)
 cases hv2
 obtain ⟨o2,hs2,ht2⟩:=o1.back x2
 rw [hrj] at fin
 obtain ⟨ys,ey,fin⟩:=zkI_ fin
 obtain ⟨k1,⟨p,vs,rfl,rfl,pr⟩,kh,g⟩:=fc _ H2 hs2 o2
 cases ej:ixN yp.1.length j with
 | none=>rw [ej] at ey; cases ey
 | some n =>
  rw [ej] at ey; cases ey
  obtain ⟨h',a1,a2⟩:=g (yp.1.set n a) (one p (.lst (vs.set n v))) _ (upd H2 p (.lst (vs.set n v))) (PutC.one o2 kh) ⟨p,_,rfl,rfl,pr.set n (T.mono (hs1.trans hs2) (hT ht0 hv))⟩
  refine ⟨vs,o2.2.2.1 _ _ (kh _ _ zaA_),?_⟩
  rw [← pr.len,ej]
  exact hk _ F0 H0 σ _ h' _ D a1 a2 fin
variable {tc te2:TE}{w:Nat}
theorem ziJ_ {Or':Own ρ'}{a:ρ'}{v:V}{F' h' h1 h2 H':Hp}(o:Okk F0 H0 F' h' H') (j:Jn h1 h2 h') (res:Or'.O a v F' h2):Okk F0 H0 (un F' h2) h1 H'∧Or'.fr.R a v (un F' h2):=by
 refine ⟨zhN_ (zbW_ o j.l) (fun p z=>⟨o.2.2.2.1 p fun y=>z (j.r.free y),?_⟩) (j.r.trans o.2.2.1),Or'.frz (fun p=>?_) res⟩
 ·rcases j.dj p with y | y
  ·exact y
  ·exact absurd y z
 ·rcases o.2.1 p with z | z
  ·exact .inl z
  ·exact .inr (j.r.free z)
theorem s_ifH {O:Own α}{Or':Own ρ'}{r:Mo (ρ'×α)}{kb:ρ'×α→Mo Bool}{r1 r2:ρ'×α→Mo (Out ρ B S)}(hm:EvM K tc E L i O Or' r) (hk:∀ q,EvF K te2 E ((L.set i (.ow O q.2))++[.fz Or'.fr q.1]) (kb q) tyBl)
  (hte:∀ (σ:St),σ.length=L.length→∀ (H:Hp) (Q:VK),(tc σ H fun v H1=>te2 (σ++[some v]) H1 Q)→te σ H Q) (h1:∀ q,EvS K t E (L.set i (.ow O q.2)) (r1 q) LS LB Or) (h2:∀ q,EvS K u E (L.set i (.ow O q.2)) (r2 q) LS LB Or) :
  EvS K (mIfS (mTest te) t u) E L (r.bind fun q=>(kb q).bind fun b=>if b then r1 q else r2 q) LS LB Or:=by
 intro F0 H0 σ F h H D hL ok fin
 refine hte σ hL.len.symm H _ (hm F0 H0 σ F h H _ hL ok (zcS_ fin fun q F' h' H' hr o v k1 k2 j hold res=>?_))
 rw [hr] at fin
 obtain ⟨o2,hv⟩:=ziJ_ o j res
 have fin:Fin K ((kb q).bind fun b=>if b then r1 q else r2 q) E LS LB Or F0 H0 D:=fin
 refine hk q _ (un (un F' k2) k1) H' _ (zfj_ (by rw [hold.len]) ((hold.mono z1_).froz o2.2.1) ⟨v,rfl,Or'.fr.mono z1_ hv⟩) o2.thaw (zag_ (G:=F') o2 _ (.inl rfl) fin fun b G2 H2 hra x2 w hw=>?_)
 cases hw
 obtain ⟨o3,hs3,_⟩:=o2.back x2
 rw [hra] at fin
 have fin':Fin K (if b then r1 q else r2 q) E LS LB Or F0 H0 D:=fin
 have hold3:=(hold.mono z1_).mono hs3
 refine ⟨fun z=>?_,fun z=>?_⟩
 ·rw [if_pos z] at fin'; exact h1 q F0 H0 σ _ k1 H2 D hold3 o3 fin'
 ·rw [if_neg (by rw [z]; decide)] at fin'; exact h2 q F0 H0 σ _ k1 H2 D hold3 o3 fin'
theorem zjB_ {O:Own α}{O1:Own β}{xs:List β}{r:Mo (β×α)}(hw:L[w]?=some (.ow (owL O1.fr) xs)) (hne:i≠w) (hm:EvM K tc E L i O O1 r) :
  EvS K (tRet (tOp mAdd (mVar w) (tLst (tCons tc tNil)))) E L (r.bind fun q=>.lim (xs.length+1) (.ok (.rt (xs++[q.1])))) LS LB (owL O1.fr):=by
 intro F0 H0 σ F h H D hL ok fin
 obtain ⟨p,vs,e1,hp,hr,_⟩:=zar_ hL hw ok
 show mVar w σ H fun x H1=>tc σ H1 fun v H2=>[v].length≤sizeLine∧∀ p2,H2 p2=none→mAdd x (.ref p2) (upd H2 p2 (.lst [v])) D.rt
 refine za6_ e1 ?_
 refine hm F0 H0 σ F h H _ hL ok (zcS_ fin fun q F' h' H' hra o v h1 h2 j hold res=>⟨zdm_ (by show 1≤100000; decide),fun p2 hp2=>?_⟩)
 rw [hra] at fin
 obtain ⟨hz,fin⟩:=zdj_ (show Fin K (Mo.lim (xs.length+1) (.ok (.rt (xs++[q.1])))) E LS LB (owL O1.fr) F0 H0 D from fin)
 obtain ⟨o2,hv⟩:=ziJ_ o j res
 have hw':(L.set i (.ow O q.2))[w]?=some (.ow (owL O1.fr) xs):=by rw [List.getElem?_set_ne hne]; exact hw
 obtain ⟨p',vs',e1',hp',hr',_⟩:=zar_ (hold.mono z1_) hw' o2
 rw [e1] at e1'; cases e1'
 have hne2:p≠p2:=fun z=>by rw [z,hp2] at hp'; cases hp'
 refine ⟨vs',[v],by rw [zah_ hne2]; exact hp',zat_,by rw [← hr'.len]; exact hz,fun p3 hp3=>?_⟩
 have h3:H' p3=none:=by
  by_cases z:p3=p2
  ·rw [z]; exact hp2
  ·rw [zah_ z] at hp3; exact hp3
 have sn:Same H' (upd (upd H' p2 (.lst [v])) p3 (.lst (vs'++[v]))):=(zcm_ hp2 _).trans (zcm_ hp3 _)
 refine fin (.ref p3) (un F' h2) (one p3 (.lst (vs'++[v]))) _ ⟨o2.1.trans (.heap o2.1.2.1 sn),fun b=>?_,fun b oo z=>?_,fun b z=>?_,fun b ys z=>?_⟩ ⟨p3,_,rfl,rfl,hr'.append (.cons hv .nil)⟩
 ·unfold one; split
  ·rename_i z; rw [z]; exact .inl (o2.1.2.1.free h3)
  ·exact .inr rfl
 ·unfold one at z; split at z
  ·rename_i y; rw [y]; cases z; exact zat_
  ·cases z
 ·unfold one at z; split at z
  ·rename_i y; rw [y]; exact o2.1.2.2.1.free h3
  ·exact absurd rfl z
 ·unfold one at z; split at z<;>cases z
end
end L2
namespace L2
open PySem PySem.Spec PyProof.Rows
def Fi (K:Fgg) (x q:Str) (st:Stmt) (f:Addr):Prop:=∃ (oc:Value) (od:Option Addr) (kV doc pm:Value) (an:Option Addr) (cdv ct:Value) (osl:Array (Option Value)),
 K.lookup f=some ⟨oc,od,.func (PySem.W.fnOf x q (defArgs st) (defBody st) (defScope st) .none kV doc pm an cdv ct),osl⟩∧PySem.W.codeIn K cdv q=true∧PySem.W.keepIn K (.ref f)=true
def Fg (K:Fgg) (x:Str) (st:Stmt):Prop:=∃ f,PySem.W.nsIn K mainGlobals x=some (some (.ref f))∧Fi K x x st f
def Fm (K:Fgg) (c m q:Str) (st:Stmt):Prop:=∃ cw f,PySem.W.nsIn K mainGlobals c=some (some (.ref cw))∧PySem.W.findIn K (.ref cw) m=some (some (.ref f))∧PySem.W.isFn K (.ref f)=true∧Fi K m q st f
def Fc (K:Fgg) (c:Str):Prop:=∃ cw,PySem.W.nsIn K mainGlobals c=some (some (.ref cw))∧PySem.W.plainGet K cw Str.empty=true∧PySem.W.hasDictIn K cw=true∧PySem.W.plainOver K cw=true ∧
 PySem.W.findIn K (.ref cw) "__setattr__" = some (some (.builtin "object.__setattr__"))∧PySem.W.makesIn K cw=true∧PySem.W.keepIn K (.ref cw)=true
def Fa (K:Fgg) (c a:Str):Prop:=∃ cw,PySem.W.nsIn K mainGlobals c=some (some (.ref cw))∧PySem.W.findIn K (.ref cw) a=some none
def Fb (K:Fgg) (x:Str):Prop:=PySem.W.nsIn K mainGlobals x=some none
def Fv (K:Fgg) (x:Str) (v:V):Prop:=∃ u,PySem.W.nsIn K mainGlobals x=some (some u)∧RelV v u
def Fk (K:Fgg) (x:Str):Prop:=∃ c,PySem.W.nsIn K mainGlobals x=some (some (.ref c))
def Mgo (K:Fgg) (mg:Str→Option Value):Prop:=∃ h:Heap,K.In h∧h.Ns mainGlobals mg
section
variable {P:Program}{w:World}{K:Fgg}{mg:Str→Option Value}{base:Heap}{CX:CXT}{x q c m a:Str}{st:Stmt}{f:Addr}{fd:FuncData}{N ps:List Str}{k j:Nat}{sp:Sp}{A:Around}{v:V}
theorem Fg.mk_ {oc:Value}{od:Option Addr}{kV doc pm:Value}{an:Option Addr}{cdv ct:Value}{osl:Array (Option Value)}(h:PySem.W.nsIn K mainGlobals x=some (some (.ref f))) (l:K.lookup f=some ⟨oc,od,.func (PySem.W.fnOf x x (defArgs st) (defBody st) (defScope st) .none kV doc pm an cdv ct),osl⟩) (c:PySem.W.codeIn K cdv x=true) (k:PySem.W.keepIn K (.ref f)=true):Fg K x st:=⟨f,h,oc,od,kV,doc,pm,an,cdv,ct,osl,l,c,k⟩
theorem Fm.mk_ {cw:Addr}{oc:Value}{od:Option Addr}{kV doc pm:Value}{an:Option Addr}{cdv ct:Value}{osl:Array (Option Value)}(h:PySem.W.nsIn K mainGlobals c=some (some (.ref cw))) (h1:PySem.W.findIn K (.ref cw) m=some (some (.ref f))) (h2:PySem.W.isFn K (.ref f)=true) (l:K.lookup f=some ⟨oc,od,.func (PySem.W.fnOf m q (defArgs st) (defBody st) (defScope st) .none kV doc pm an cdv ct),osl⟩) (h3:PySem.W.codeIn K cdv q=true) (k:PySem.W.keepIn K (.ref f)=true):Fm K c m q st:=⟨cw,f,h,h1,h2,oc,od,kV,doc,pm,an,cdv,ct,osl,l,h3,k⟩
theorem Fc.mk_ {cw:Addr}(h:PySem.W.nsIn K mainGlobals c=some (some (.ref cw))) (h1:PySem.W.plainGet K cw Str.empty=true) (h2:PySem.W.hasDictIn K cw=true) (h3:PySem.W.plainOver K cw=true) (h4:PySem.W.findIn K (.ref cw) "__setattr__" = some (some (.builtin "object.__setattr__"))) (h5:PySem.W.makesIn K cw=true) (h6:PySem.W.keepIn K (.ref cw)=true):Fc K c:=⟨cw,h,h1,h2,h3,h4,h5,h6⟩
theorem Fa.mk_ {cw:Addr}(h:PySem.W.nsIn K mainGlobals c=some (some (.ref cw))) (h1:PySem.W.findIn K (.ref cw) a=some none):Fa K c a:=⟨cw,h,h1⟩
theorem Fv.mk_ {u:Value}(h:PySem.W.nsIn K mainGlobals x=some (some u)) (h1:RelV v u):Fv K x v:=⟨u,h,h1⟩
theorem Fk.mk_ {cw:Addr}(h:PySem.W.nsIn K mainGlobals x=some (some (.ref cw))):Fk K x:=⟨cw,h⟩
theorem Fi.fun_ (h:Fi K x q st f):∃ fd,Fun K x q st f fd:=by
 obtain ⟨oc,od,kV,doc,pm,an,cdv,ct,osl,l,c,k⟩:=h
 exact ⟨_,zmP_ l c k⟩
theorem Mgo.gb (M:Mgo K mg) (h:Fb K x):Gb mg x:=by
 obtain ⟨_,X,G⟩:=M
 exact PySem.W.mg_none_of X G h
theorem Mgo.gv (M:Mgo K mg) (h:Fv K x v):Gc mg x v:=by
 obtain ⟨_,X,G⟩:=M; obtain ⟨u,e,r⟩:=h
 exact ⟨u,PySem.W.mg_of X G e,r⟩
theorem Mgo.gk (M:Mgo K mg) (h:Fk K x):mg x=some (.ref (gA K x)):=by
 obtain ⟨_,X,G⟩:=M; obtain ⟨u,e⟩:=h
 rw [znm_ e]; exact PySem.W.mg_of X G e
theorem Fc.cls (h:Fc K c):Cls K (gA K c):=by
 obtain ⟨cw,e,h1,h2,h3,h4,_⟩:=h
 rw [znm_ e]; exact ⟨h1,h2,h3,h4⟩
theorem Fa.no (h:Fa K c a):NoAttr K (gA K c) a:=by
 obtain ⟨cw,e,h⟩:=h
 rw [znm_ e]; exact h
abbrev OkF (P:Program) (w:World) (K:Fgg) (mg:Str→Option Value) (base:Heap) (CX:CXT) (k:Nat) (x q:Str) (st:Stmt) (ps:List Str) (sp:Sp):Prop:=∀ f fd,Fun K x q st f fd→FnOk P w K mg base CX k f fd ps sp∧Binds K fd ps []
theorem zd8_ (M:Mgo K mg) (F:Fg K x st) (h:OkF P w K mg base CX k x x st ps sp):Gd P w K mg base CX k x ps sp:=by
 obtain ⟨_,X,G⟩:=M; obtain ⟨f,e,i⟩:=F; obtain ⟨fd,F⟩:=i.fun_
 exact ⟨f,fd,(h f fd F).1,PySem.W.mg_of X G e,F.kp,(h f fd F).2⟩
theorem zhI_ (C:Fc K c) (F:Fm K c m q st) (h:OkF P w K mg base CX k m q st ps sp):Gm P w K mg base CX k (gA K c) m ps sp:=by
 obtain ⟨cw,f,e,e2,e3,i⟩:=F; obtain ⟨fd,F⟩:=i.fun_
 exact ⟨f,fd,(h f fd F).1,C.cls,by rw [znm_ e]; exact ⟨e2,e3,F.kp⟩,(h f fd F).2⟩
theorem gk_of (M:Mgo K mg) (C:Fc K c) (F:Fm K c "__init__" q st) (h:OkF P w K mg base CX k "__init__" q st ps sp):Gk P w K mg base CX k c (gA K c) ps sp:=by
 obtain ⟨cw,f,e,e2,e3,i⟩:=F; obtain ⟨fd,F⟩:=i.fun_
 obtain ⟨cw',e',_,_,_,_,h5,h6⟩:=C
 cases e.symm.trans e'
 refine ⟨f,fd,(h f fd F).1,by rw [znm_ e]; exact ⟨h5,e2,e3,h6⟩,M.gk ⟨_,e⟩,(h f fd F).2⟩
theorem hm (hr:Room k A) (h:j≤k:=by decide):Room j A:=hr.mono h
end
section
variable {P:Program}{w:World}{K:Fgg}{mg:Str→Option Value}{base:Heap}{x q:Str}{st:Stmt}{N ps:List Str}{k:Nat}{α β γ ρ:Type}
abbrev Tm (P:Program) (w:World) (K:Fgg) (mg:Str→Option Value) (base:Heap) (k:Nat) (N:List Str) (q:Str) (st:Stmt) (t:XK→TS):Prop :=
 ∀ (cdv:Value) (A:Around) (outer:List Env) (s:Shared) (H:Hp) (f:Addr) (E:XK),N.Nodup→Room k (A.deeper (envOfC q (defScope st) s.heap.objs.size f cdv))→PSs (cxOf CX0 P w K mg base N q (defScope st) f cdv A outer s H E).nox (defBody st) (t E)
abbrev Bnd (K:Fgg) (x q:Str) (st:Stmt) (ps:List Str):Prop:=∀ f fd,Fun K x q st f fd→Binds K fd ps []
theorem okC {C:Cs γ}{O:Own ρ}{ss:γ→List Sl}{g:γ→Mo (Out ρ Unit Unit)}{t:XK→TS}(n m:Nat) (hC:CsS C ss) (tm:Tm P w K mg base k N q st t)
  (ev:∀ c E,EvS K (t E) E (ss c++List.replicate m .dead) (g c) (fun _:Unit=>[]) (fun _:Unit=>[]) O) (hn:CsN C n:=by repeat first | exact z6_ | exact zgK_ | refine zad_ ?_) (S:FnScope N ps (defScope st):=by exact ⟨rfl,rfl,rfl,by decide +kernel,rfl,by decide +kernel,by decide +kernel⟩) (b:Bnd K x q st ps:=by first | exact fun _ _ F=>Fun.binds1 rfl F fun _ _ _ _ _ _ _=>rfl | exact fun _ _ F=>Fun.binds2 rfl F fun _ _ _ _ _ _ _ _=>rfl | exact fun _ _ F=>Fun.binds3 rfl F fun _ _ _ _ _ _ _ _ _=>rfl | exact fun _ _ F=>Fun.binds4 rfl F fun _ _ _ _ _ _ _ _ _ _=>rfl | exact fun _ _ F=>Fun.binds5 rfl F fun _ _ _ _ _ _ _ _ _ _ _=>rfl | exact fun _ _ F=>Fun.binds6 rfl F fun _ _ _ _ _ _ _ _ _ _ _ _=>rfl | exact fun _ _ F=>Fun.binds7 rfl F fun _ _ _ _ _ _ _ _ _ _ _ _ _=>rfl) (hp:ps.length=n:=by rfl) (hm:N.length-n=m:=by rfl):OkF P w K mg base CX0 (k+1) x q st ps (Ct K C (fun c=>fnO (g c)) O):=fun f fd F =>
 ⟨F.ok S (fun vs H Q E h=>by obtain ⟨F,c,_,hc,_⟩:=h; exact (hn hc).trans hp.symm) fun cdv A outer s H vs Q E hr h=>⟨t E,tm cdv A outer s H f E S.nd hr,fn_rd (N:=N) (t:=t) n m hn hm hC ev vs H Q E h⟩,b f fd F⟩
theorem okU {O:Own α}{O2:Own β}{C:Cs γ}{ss:γ→List Sl}{g:α→γ→Mo (Out (Unit×β) Unit β)}{t:XK→TS}{LS:V→β→List Sl}(n m:Nat) (hC:CsS C ss) (tm:Tm P w K mg base k N q st t)
  (ev:∀ w x c E,EvS K (t E) E (.ow (owAt w O) x::(ss c++List.replicate m .dead)) (g x c) (LS w) (fun _:Unit=>[]) (owRM w O2 (owF tyNon))) (hn:CsN C n:=by repeat first | exact z6_ | exact zgK_ | refine zad_ ?_) (S:FnScope N ps (defScope st):=by exact ⟨rfl,rfl,rfl,by decide +kernel,rfl,by decide +kernel,by decide +kernel⟩) (b:Bnd K x q st ps:=by first | exact fun _ _ F=>Fun.binds1 rfl F fun _ _ _ _ _ _ _=>rfl | exact fun _ _ F=>Fun.binds2 rfl F fun _ _ _ _ _ _ _ _=>rfl | exact fun _ _ F=>Fun.binds3 rfl F fun _ _ _ _ _ _ _ _ _=>rfl | exact fun _ _ F=>Fun.binds4 rfl F fun _ _ _ _ _ _ _ _ _ _=>rfl | exact fun _ _ F=>Fun.binds5 rfl F fun _ _ _ _ _ _ _ _ _ _ _=>rfl | exact fun _ _ F=>Fun.binds6 rfl F fun _ _ _ _ _ _ _ _ _ _ _ _=>rfl | exact fun _ _ F=>Fun.binds7 rfl F fun _ _ _ _ _ _ _ _ _ _ _ _ _=>rfl) (hp:ps.length=n+1:=by rfl) (hm:N.length-(n+1)=m:=by rfl) (hLS:∀ w x,(LS w x)[0]?=some (.ow (owAt w O2) x):=by exact fun _ _=>rfl):OkF P w K mg base CX0 (k+1) x q st ps (CtM K O O2 C (fun x c=>fnMU (g x c)) (owF tyNon)):=fun f fd F =>
 ⟨F.ok S (fun vs H Q E h=>by obtain ⟨F,h,x,c,w,ws,rfl,_,_,_,_,hc,_⟩:=h; rw [List.length_cons,hn hc,hp]) fun cdv A outer s H vs Q E hr h=>⟨t E,tm cdv A outer s H f E S.nd hr,zm3_ (N:=N) (t:=t) n m hn hm hC hLS ev vs H Q E h⟩,b f fd F⟩
theorem okR {O:Own α}{O2:Own β}{Or:Own ρ}{C:Cs γ}{ss:γ→List Sl}{g:α→γ→Mo (Out (ρ×β) Unit Unit)}{t:XK→TS}(n m:Nat) (hC:CsS C ss) (tm:Tm P w K mg base k N q st t)
  (ev:∀ w x c E,EvS K (t E) E (.ow (owAt w O) x::(ss c++List.replicate m .dead)) (g x c) (fun _:Unit=>[]) (fun _:Unit=>[]) (owRM w O2 Or)) (hn:CsN C n:=by repeat first | exact z6_ | exact zgK_ | refine zad_ ?_) (S:FnScope N ps (defScope st):=by exact ⟨rfl,rfl,rfl,by decide +kernel,rfl,by decide +kernel,by decide +kernel⟩) (b:Bnd K x q st ps:=by first | exact fun _ _ F=>Fun.binds1 rfl F fun _ _ _ _ _ _ _=>rfl | exact fun _ _ F=>Fun.binds2 rfl F fun _ _ _ _ _ _ _ _=>rfl | exact fun _ _ F=>Fun.binds3 rfl F fun _ _ _ _ _ _ _ _ _=>rfl | exact fun _ _ F=>Fun.binds4 rfl F fun _ _ _ _ _ _ _ _ _ _=>rfl | exact fun _ _ F=>Fun.binds5 rfl F fun _ _ _ _ _ _ _ _ _ _ _=>rfl | exact fun _ _ F=>Fun.binds6 rfl F fun _ _ _ _ _ _ _ _ _ _ _ _=>rfl | exact fun _ _ F=>Fun.binds7 rfl F fun _ _ _ _ _ _ _ _ _ _ _ _ _=>rfl) (hp:ps.length=n+1:=by rfl) (hm:N.length-(n+1)=m:=by rfl):OkF P w K mg base CX0 (k+1) x q st ps (CtM K O O2 C (fun x c=>fnMR (g x c)) Or):=fun f fd F =>
 ⟨F.ok S (fun vs H Q E h=>by obtain ⟨F,h,x,c,w,ws,rfl,_,_,_,_,hc,_⟩:=h; rw [List.length_cons,hn hc,hp]) fun cdv A outer s H vs Q E hr h=>⟨t E,tm cdv A outer s H f E S.nd hr,znH_ (N:=N) (t:=t) n m hn hm hC ev vs H Q E h⟩,b f fd F⟩
theorem okRk {O:Own α}{O2:Own β}{Or:Own ρ}{C:Cs γ}{ss:γ→List Sl}{g:α→γ→Mo (Out (ρ×β) Unit Unit)}{t:XK→TS}(j n m:Nat) (hC:CsS C ss) (tm:Tm P w K mg base k N q st t)
  (ev:∀ w x c E,EvS K (t E) E (putL j (.ow (owAt w O) x) (ss c++List.replicate m .dead)) (g x c) (fun _:Unit=>[]) (fun _:Unit=>[]) (owRM w O2 Or)) (hn:CsN C n:=by repeat first | exact z6_ | exact zgK_ | refine zad_ ?_) (S:FnScope N ps (defScope st):=by exact ⟨rfl,rfl,rfl,by decide +kernel,rfl,by decide +kernel,by decide +kernel⟩) (b:Bnd K x q st ps:=by first | exact fun _ _ F=>Fun.binds1 rfl F fun _ _ _ _ _ _ _=>rfl | exact fun _ _ F=>Fun.binds2 rfl F fun _ _ _ _ _ _ _ _=>rfl | exact fun _ _ F=>Fun.binds3 rfl F fun _ _ _ _ _ _ _ _ _=>rfl | exact fun _ _ F=>Fun.binds4 rfl F fun _ _ _ _ _ _ _ _ _ _=>rfl | exact fun _ _ F=>Fun.binds5 rfl F fun _ _ _ _ _ _ _ _ _ _ _=>rfl | exact fun _ _ F=>Fun.binds6 rfl F fun _ _ _ _ _ _ _ _ _ _ _ _=>rfl | exact fun _ _ F=>Fun.binds7 rfl F fun _ _ _ _ _ _ _ _ _ _ _ _ _=>rfl) (hp:ps.length=n+1:=by rfl) (hm:N.length-(n+1)=m:=by rfl) (hj:j≤n:=by decide):OkF P w K mg base CX0 (k+1) x q st ps (CtMk K j O O2 C (fun x c=>fnMR (g x c)) Or):=fun f fd F =>
 ⟨F.ok S (fun vs H Q E h=>by obtain ⟨F,h,x,c,w,ws,rfl,_,_,_,_,hc,_⟩:=h; rw [putL_len,hn hc,hp]) fun cdv A outer s H vs Q E hr h=>⟨t E,tm cdv A outer s H f E S.nd hr,zma_ (N:=N) (t:=t) j n m hj hn hm hC ev vs H Q E h⟩,b f fd F⟩
end
section
variable {l:PySem.W.OpenLaw}{w:World}{K:Fgg}{mg:Str→Option Value}{st:Stmt}{x:Str}{k:Nat}{sp:Sp}{fa:Addr}
theorem okLaw (M:Mgo K mg) (F:Fg K "law" st) (hfa:mg "law" = some (.ref fa)) (hb:∀ (kV doc pm:Value) (an:Option Addr) (cdv ct:Value) (s:Shared) (v:Value),bindArgs (PySem.W.fnOf "law" "law" (defArgs st) (defBody st) (defScope st) .none kV doc pm an cdv ct) ⟨[v],[]⟩=pure [(x,v)])
  (h:∀ (base:Heap) (f:Addr) (fd:FuncData),Fun K "law" "law" st f fd→FnOk l.prog w K mg base CX0 k f fd [x] sp) :
  ∃ fd:FuncData,(∀ (s:Shared) (v:Value),BindsTo s fd ⟨[v],[]⟩ [(x,v)])∧∀ base:Heap,K.In base→base.Ns mainGlobals mg→FnOk l.prog w K mg base CX0 k fa fd [x] sp:=by
 obtain ⟨_,X,G⟩:=M
 obtain ⟨f,e,oc,od,kV,doc,pm,an,cdv,ct,osl,l',c,kk⟩:=F
 cases hfa.symm.trans (PySem.W.mg_of X G e)
 exact ⟨_,fun s v=>.of_eq (hb kV doc pm an cdv ct s v),fun base _ _=>h base _ _ (zmP_ l' c kk)⟩
def spL (K:Fgg):Sp:=fun vs H Q _=>∃ (a:Addr) (ns:List Int),vs=[.ref a]∧SqL K H a (ns.map V.int)∧ns.length≤63∧BitsOk ns∧∀ H',Q (.bl true) H'
theorem okL {base:Heap}{N:List Str}{g:List Int→Mo (Out Bool Unit Unit)}{t:XK→TS}(m:Nat) (tm:Tm l.prog w K mg base k N "law" st t)
  (hf:∀ ns:List Int,ns.length≤63→BitsOk ns→fnO (g ns)=.ok true)
  (ev:∀ c E,EvS K (t E) E (.fz (tySc K) c::List.replicate m .dead) (g c) (fun _:Unit=>[]) (fun _:Unit=>[]) (owF tyBl)) (f:Addr) (fd:FuncData) (F:Fun K "law" "law" st f fd) (S:FnScope N [x] (defScope st):=by exact ⟨rfl,rfl,rfl,by decide +kernel,rfl,by decide +kernel,by decide +kernel⟩) (hm:N.length-1=m:=by rfl):FnOk l.prog w K mg base CX0 (k+1) f fd [x] (spL K) :=
 F.ok S (fun vs H Q E h=>by obtain ⟨a,ns,rfl,_⟩:=h; rfl) fun cdv A outer s H vs Q E hr h=>⟨t E,tm cdv A outer s H f E S.nd hr,by
  obtain ⟨a,ns,rfl,hS,hl,hb,q⟩:=h
  refine fn_rd (K:=K) (N:=N) (C:=csLast (tySc K)) (O:=owF tyBl) (t:=t) (ss:=fun c=>[.fz (tySc K) c]) (f:=g) 1 m z6_ hm zt_ ev _ H Q E ⟨H,ns,Same.refl _,⟨_,rfl,a,rfl,hS⟩,?_⟩
  show After K (fnO (g ns)) E H H _
  rw [hf ns hl hb]
  rintro F' H' x v h _ _ _ ⟨_,rfl⟩
  exact q H'⟩
end
section
variable {X:Cx}{x:Str}{pos pos':Pos}{e:Expr}{te:TE}
abbrev FrP (X:Cx) (scope:Scope) (q:Str×Nat):Prop:=X.N[q.2]?=some q.1∧(q.1,NameKind.free)∈scope.names∧(X.env.kindOf q.1=some .cell∨X.env.kindOf q.1=some .free)∧((relabel scope X.env).names.lookup q.1=some .cell∨(relabel scope X.env).names.lookup q.1=some .free)
theorem pgn (i:Nat) (hN:X.N.Nodup:=by assumption) (hi:X.N[i]?=some x:=by rfl) (hx:Loc X.env.scope x:=by first | exact Or.inl rfl | exact Or.inr rfl) (hf:X.fn x=true∨X.env.scope.names.lookup x=some .local:=by first | exact .inl rfl | exact .inr rfl | assumption):PG X (.Name x pos) (gName i):=zkq_ hN hi hx hf
theorem pst (i:Nat) (he:PE X e te) (hN:X.N.Nodup:=by assumption) (hi:X.N[i]?=some x:=by rfl) (hx:Loc X.env.scope x:=by first | exact Or.inl rfl | exact Or.inr rfl) (hs:swapsWith e (some (.Name x pos')) pos.line X.env=pure false:=by rfl) (hf:X.fn x=true∨X.env.scope.names.lookup x=some .local:=by first | exact .inl rfl | exact .inr rfl | assumption) :
  PS X (.Assign [.Name x pos'] e pos) (tAsg te (gName i)):=zo8_ hN hi hx he hs hf
theorem csm {scope:Scope}{cl:List (Str×Addr)}{lv:List Str}{fr:List (Str×Nat)}(h:closeL X.env.cells scope.names []=some cl) (f:∀ q∈fr,FrP X scope q) (h2:∀ y∈scope.names,y.2≠.cell:=by decide +kernel) (h3:scope.kind=.function:=by rfl) (h4:∀ z∈scope.names,z.2=.local→scope.names.lookup z.1=some .local:=by decide +kernel):CScope X scope cl lv fr:=⟨h,h2,h3,h4,f⟩
theorem frc {scope:Scope}{q:Str×Nat}{fr:List (Str×Nat)}(t:∀ q∈fr,FrP X scope q) (h:FrP X scope q:=by refine ⟨rfl,by decide +kernel,?_,?_⟩<;>first | exact Or.inl rfl | exact Or.inr rfl):∀ z∈q::fr,FrP X scope z:=zmU_ h t
theorem fr0 {scope:Scope}:∀ q∈([]:List (Str×Nat)),FrP X scope q:=fun _ h=>by cases h
theorem pgc {scope:Scope}{cl:List (Str×Addr)}{C:Addr}{lv:List Str}{fr:List (Str×Nat)}{fp:List Addr}{s2:Shared}{H2:Hp}(i:Nat) (hN:(cN lv fr).Nodup:=by decide +kernel) (hi:(cN lv fr)[i]?=some x:=by rfl) (hx:Loc (cxComp X scope cl C (cN lv fr) fp s2 H2).env.scope x:=by exact Or.inl rfl) (hf:(cxComp X scope cl C (cN lv fr) fp s2 H2).fn x=true∨(cxComp X scope cl C (cN lv fr) fp s2 H2).env.scope.names.lookup x=some .local:=by first | exact .inl rfl | exact .inr rfl | assumption):PG (cxComp X scope cl C (cN lv fr) fp s2 H2) (.Name x pos) (gName i):=zkq_ hN hi hx hf
end
abbrev zfX_:=@PySem.F.slot_str_zfill
abbrev zfQ_:=@PySem.F.type_str_zfill
abbrev zhl_:=@PySem.F.slot_str_find
abbrev zhz_:=@PySem.F.type_str_find
abbrev zgi_:=@PySem.F.slot_str_index
abbrev zfE_:=@PySem.F.type_str_index
abbrev zc6_:=@PySem.F.slot_str_join
abbrev zdc_:=@PySem.F.type_str_join
abbrev zbk_:=@PySem.F.plainAttrs_list
abbrev zJ_:=@PySem.F.slot_list_append
abbrev zH_:=@PySem.F.type_list_append
abbrev zcN_:=@PySem.F.slot_list_extend
abbrev zcE_:=@PySem.F.type_list_extend
abbrev ze8_:=@PySem.F.slot_list_clear
abbrev zfi_:=@PySem.F.type_list_clear
end L2
namespace K34
open PySem PySem.Spec PyProof.Rows L2
theorem S4 {a b c d:Sl}{L L':List Sl}(h:Sub L L'):Sub (a::b::c::d::L) (a::b::c::d::L'):=.same (.same (.same (.same h)))
abbrev Qn0:List Str:=["breaks", "sums", "board", "levels", "before", "run_over"]
abbrev Qn1:List Str:=["figures", "power", "kept", "over"]
abbrev Qq0 (K:Fgg):=(owI (gA K "Counter") Qn0 (psO (owL (tyTup (csCons tyInt (csLast tyInt)))) (psO (owL (tyTup (csCons tyInt (csLast tyInt)))) (psO (owL (tyTup (csCons tyInt (csLast tyInt)))) (psO (owLO (owLO (owI (gA K "Wheel") Qn1 (psO (owF tyInt) (psO (owF tyInt) (psO (owF tyInt) (psO (owF tyBl) psNil))))))) (psO (owF (tyOpt tyStr)) (psO (owD kInt tyBl) psNil)))))))
abbrev Qq1:=(tyTup (csCons tyInt (csLast tyInt)))
abbrev Qq2:=((List (Int×Int))×((List (Int×Int))×((List (Int×Int))×((List (List (Int×(Int×(Int×(Bool×Unit))))))×((Option (List Nat))×((List (Int×Bool))×Unit))))))
abbrev Qq3 (K:Fgg):=(owI (gA K "Wheel") Qn1 (psO (owF tyInt) (psO (owF tyInt) (psO (owF tyInt) (psO (owF tyBl) psNil)))))
abbrev Qq4 (K:Fgg):=(tyI (gA K "Counter") Qn0 (csCons (tyL Qq1) (csCons (tyL Qq1) (csCons (tyL Qq1) (csCons (tyL (tyL (tyI (gA K "Wheel") Qn1 (csCons tyInt (csCons tyInt (csCons tyInt (csCons tyBl csNil))))))) (csCons (tyOpt tyStr) (csCons (tyD kInt tyBl) csNil)))))))
abbrev Qq5:=(Int×(Int×(Int×(Bool×Unit))))
abbrev Qq6 (K:Fgg):=(psO (owL Qq1) (psO (owL Qq1) (psO (owL Qq1) (psO (owLO (owLO (Qq3 K))) (psO (owF (tyOpt tyStr)) (psO (owD kInt tyBl) psNil))))))
abbrev Qq7 (K:Fgg):=(tyI (gA K "Wheel") Qn1 (csCons tyInt (csCons tyInt (csCons tyInt (csCons tyBl csNil)))))
def zfL_ (p_power:Int):Mo (Out Int Unit Unit) :=
 (Mo.bind (Mo.ok (1:Int)) fun value_1=>(thenO (S:=Int) (Mo.bind (Mo.bind (Mo.ok p_power) fun c_3=>Mo.grd (-(2 ^ 62)≤c_3∧c_3<2 ^ 62) (Mo.ok (rngI 0 c_3.toNat))) fun xs_8=>forO (fun (s_2:Int) x_4=>(Mo.bind (Mo.bind (Mo.ok s_2) fun a_6=>Mo.bind (Mo.ok (10:Int)) fun b_7=>Mo.grd (IntMulOk a_6 b_7) (Mo.ok (a_6*b_7))) fun value_5=>(Mo.ok (.nx value_5)))) xs_8 value_1) fun s_2=>(Mo.bind (Mo.ok s_2) fun r_9=>Mo.ok (.rt r_9))))
def zeN_ (p_power:Int):Mo Int:=fnO (zfL_ p_power)
def zaY_ (p_self:Unit) (p_figures:Int):Mo (Out (Unit×Qq5) Unit Qq5) :=
 (Mo.bind (Mo.ok p_figures) fun a_1=>Mo.bind (Mo.ok (a_1,())) fun x_2=>(Mo.bind (Mo.bind (Mo.ok p_figures) fun c_9=>Mo.noex (zeN_ c_9)) fun a_3=>Mo.bind (Mo.ok (x_2.1,(a_3,()))) fun x_4=>(Mo.bind (Mo.ok (0:Int)) fun a_5=>Mo.bind (Mo.ok (x_4.1,(x_4.2.1,(a_5,())))) fun x_6=>(Mo.bind (Mo.ok false) fun a_7=>Mo.bind (Mo.ok (x_6.1,(x_6.2.1,(x_6.2.2.1,(a_7,()))))) fun x_8=>(Mo.ok (.nx x_8))))))
def zL_ (p_self:Unit) (p_figures:Int):Mo (Unit×Qq5):=fnMU (zaY_ p_self p_figures)
def zaC_ (p_self:Unit) (p_breaks:(List (Int×Int))) (p_sums:(List (Int×Int))) (p_figures:Int) (p_board:(List (Int×Int))):Mo (Out (Unit×Qq2) Unit Qq2) :=
 (Mo.bind (Mo.bind (Mo.ok p_breaks) fun c_25=>Mo.ok c_25) fun a_1=>Mo.bind (Mo.ok (a_1,())) fun x_2=>(Mo.bind (Mo.bind (Mo.ok p_sums) fun c_24=>Mo.ok c_24) fun a_3=>Mo.bind (Mo.ok (x_2.1,(a_3,()))) fun x_4=>(Mo.bind (Mo.bind (Mo.ok p_board) fun c_23=>Mo.ok c_23) fun a_5=>Mo.bind (Mo.ok (x_4.1,(x_4.2.1,(a_5,())))) fun x_6=>(Mo.bind (Mo.bind (Mo.bind (Mo.bind (Mo.bind (Mo.ok p_breaks) fun c_13=>Mo.ok (c_13.length:Int)) fun a_14=>Mo.bind (Mo.ok (1:Int)) fun b_15=>Mo.ok (a_14+b_15)) fun c_16=>Mo.grd (-(2 ^ 62)≤c_16∧c_16<2 ^ 62) (Mo.ok (rngI 0 c_16.toNat))) fun xs_22=>compM (fun x_17=>cond1 (Mo.ok true) (Mo.bind (Mo.ok p_sums) fun xs_21=>compM (fun x_18=>cond1 (Mo.ok true) (Mo.bind (Mo.ok p_figures) fun c_19=>Mo.bind (Mo.noex (zL_ () c_19)) fun q_20=>Mo.ok q_20.2)) xs_21 [])) xs_22 []) fun a_7=>Mo.bind (Mo.ok (x_6.1,(x_6.2.1,(x_6.2.2.1,(a_7,()))))) fun x_8=>(Mo.bind (Mo.ok (none:(Option (List Nat)))) fun a_9=>Mo.bind (Mo.ok (x_8.1,(x_8.2.1,(x_8.2.2.1,(x_8.2.2.2.1,(a_9,())))))) fun x_10=>(Mo.bind (Mo.ok ([]:(List (Int×Bool)))) fun a_11=>Mo.bind (Mo.ok (x_10.1,(x_10.2.1,(x_10.2.2.1,(x_10.2.2.2.1,(x_10.2.2.2.2.1,(a_11,()))))))) fun x_12=>(Mo.ok (.nx x_12))))))))
def zF_ (p_self:Unit) (p_breaks:(List (Int×Int))) (p_sums:(List (Int×Int))) (p_figures:Int) (p_board:(List (Int×Int))):Mo (Unit×Qq2):=fnMU (zaC_ p_self p_breaks p_sums p_figures p_board)
def zcq_ (p_cell:Int) (p_many:Int):Mo (Out (List Int) Unit Unit) :=
 (Mo.bind (Mo.ok ([]:List Int)) fun found_1=>(Mo.bind (Mo.bind (Mo.bind (Mo.ok p_cell) fun a_3=>Mo.bind (Mo.ok (2147483647:Int)) fun b_4=>Mo.grd (0<b_4) (Mo.ok (a_3 % b_4))) fun a_5=>Mo.bind (Mo.ok (48271:Int)) fun b_6=>Mo.ok (a_5+b_6)) fun number_here_2=>(thenO (S:=(Int×(List Int))) (Mo.bind (Mo.bind (Mo.ok p_many) fun c_8=>Mo.grd (-(2 ^ 62)≤c_8∧c_8<2 ^ 62) (Mo.ok (rngI 0 c_8.toNat))) fun xs_22=>forO (fun (s_7:(Int×(List Int))) x_9=>(Mo.bind (Mo.bind (Mo.bind (Mo.bind (Mo.bind (Mo.ok s_7.1) fun a_11=>Mo.bind (Mo.ok s_7.1) fun b_12=>Mo.grd (IntMulOk a_11 b_12) (Mo.ok (a_11*b_12))) fun a_15=>Mo.bind (Mo.bind (Mo.ok (48271:Int)) fun a_13=>Mo.bind (Mo.ok s_7.1) fun b_14=>Mo.grd (IntMulOk a_13 b_14) (Mo.ok (a_13*b_14))) fun b_16=>Mo.ok (a_15+b_16)) fun a_17=>Mo.bind (Mo.ok x_9) fun b_18=>Mo.ok (a_17+b_18)) fun a_19=>Mo.bind (Mo.ok (2147483647:Int)) fun b_20=>Mo.grd (0<b_20) (Mo.ok (a_19 % b_20))) fun number_here_10=>(Mo.bind (Mo.ok number_here_10) fun a_21=>Mo.lim (s_7.2.length+1) (Mo.ok (.nx (number_here_10,(s_7.2++[a_21]))))))) xs_22 (number_here_2,found_1)) fun s_7=>(Mo.ok (.rt s_7.2)))))
def zac_ (p_cell:Int) (p_many:Int):Mo (List Int):=fnO (zcq_ p_cell p_many)
def zdd_ (p_cell:Int):Mo (Out (List Int) Unit Unit) :=
 (Mo.bind (Mo.bind (Mo.bind (Mo.bind (Mo.ok p_cell) fun a_1=>Mo.bind (Mo.ok (36:Int)) fun c_2=>Mo.ok (a_1,c_2)) fun c_3=>Mo.noex (zac_ c_3.1 c_3.2)) fun xs_7=>compM (fun x_4=>cond1 (Mo.ok true) (Mo.bind (Mo.ok x_4) fun a_5=>Mo.bind (Mo.ok (11:Int)) fun b_6=>Mo.grd (CDivG a_5 b_6) (Mo.ok (a_5 / b_6)))) xs_7 []) fun r_8=>Mo.ok (.rt r_8))
def zb5_ (p_cell:Int):Mo (List Int):=fnO (zdd_ p_cell)
def zbS_ (p_script:(List Int)) (p_k:Int):Mo (Out Int Unit Unit) :=
 (thenO (S:=Unit) (Mo.bind (Mo.bind (Mo.ok p_k) fun a_2=>Mo.bind (Mo.bind (Mo.ok p_script) fun c_1=>Mo.ok (c_1.length:Int)) fun b_3=>Mo.ok (decide (a_2<b_3))) fun c_4=>if c_4 then (Mo.bind (Mo.bind (Mo.ok p_script) fun a_6=>Mo.bind (Mo.ok p_k) fun b_7=>Mo.opt (atI a_6 b_7)) fun r_8=>Mo.ok (.rt r_8)) else (Mo.ok (.nx ()))) fun _=>(Mo.bind (Mo.ok (0:Int)) fun r_9=>Mo.ok (.rt r_9)))
def zK_ (p_script:(List Int)) (p_k:Int):Mo Int:=fnO (zbS_ p_script p_k)
def zc2_ (p_cell:Int):Mo (Out (List (Int×Int)) Unit Unit) :=
 (Mo.bind (Mo.ok ([]:List (Int×Int))) fun wires_1=>(Mo.bind (Mo.bind (Mo.bind (Mo.ok p_cell) fun a_3=>Mo.bind (Mo.ok (36:Int)) fun c_4=>Mo.ok (a_3,c_4)) fun c_5=>Mo.noex (zac_ c_5.1 c_5.2)) fun numbers_2=>(thenO (S:=(List (Int×Int))) (Mo.bind (Mo.bind (Mo.bind (Mo.ok (1:Int)) fun a_7=>Mo.bind (Mo.ok (37:Int)) fun c_8=>Mo.ok (a_7,c_8)) fun c_9=>Mo.grd (-(2 ^ 62)≤c_9.1∧c_9.1<2 ^ 62 ∧ -(2 ^ 62)≤c_9.2∧c_9.2<2 ^ 62) (Mo.ok (rngI c_9.1 (c_9.2-c_9.1).toNat))) fun xs_38=>forO (fun (s_6:(List (Int×Int))) x_10=>(thenO (S:=(List (Int×Int))) (Mo.bind (Mo.bind (Mo.bind (Mo.bind (Mo.bind (Mo.ok numbers_2) fun a_13=>Mo.bind (Mo.bind (Mo.ok x_10) fun a_11=>Mo.bind (Mo.ok (1:Int)) fun b_12=>Mo.ok (a_11-b_12)) fun b_14=>Mo.opt (atI a_13 b_14)) fun a_15=>Mo.bind (Mo.ok (3:Int)) fun b_16=>Mo.grd (CDivG a_15 b_16) (Mo.ok (a_15 / b_16))) fun a_17=>Mo.bind (Mo.ok (4:Int)) fun b_18=>Mo.grd (0<b_18) (Mo.ok (a_17 % b_18))) fun a_21=>Mo.bind (Mo.bind (Mo.ok p_cell) fun a_19=>Mo.bind (Mo.ok (5:Int)) fun b_20=>Mo.grd (0<b_20) (Mo.ok (a_19 % b_20))) fun b_22=>Mo.ok (decide (a_21<b_22))) fun c_23=>if c_23 then (Mo.bind (Mo.bind (Mo.bind (Mo.ok (1:Int)) fun a_33=>Mo.bind (Mo.bind (Mo.bind (Mo.bind (Mo.ok numbers_2) fun a_27=>Mo.bind (Mo.bind (Mo.ok x_10) fun a_25=>Mo.bind (Mo.ok (1:Int)) fun b_26=>Mo.ok (a_25-b_26)) fun b_28=>Mo.opt (atI a_27 b_28)) fun a_29=>Mo.bind (Mo.ok (12:Int)) fun b_30=>Mo.grd (CDivG a_29 b_30) (Mo.ok (a_29 / b_30))) fun a_31=>Mo.bind (Mo.ok (40:Int)) fun b_32=>Mo.grd (0<b_32) (Mo.ok (a_31 % b_32))) fun b_34=>Mo.ok (a_33+b_34)) fun a_35=>Mo.bind (Mo.ok x_10) fun c_36=>Mo.ok (a_35,c_36)) fun a_37=>Mo.lim (s_6.length+1) (Mo.ok (.nx (s_6++[a_37])))) else (Mo.ok (.nx s_6))) fun s_24=>(Mo.ok (.nx s_24)))) xs_38 wires_1) fun s_6=>(Mo.ok (.rt s_6)))))
def zb9_ (p_cell:Int):Mo (List (Int×Int)):=fnO (zc2_ p_cell)
def zdV_ (p_card_here:(List Nat)) (p_field_here:(Int×Int)):Mo (Out (List Nat) Unit Unit) :=
 (Mo.bind (Mo.bind (Mo.ok p_card_here) fun a_7=>Mo.bind (Mo.bind (Mo.bind (Mo.bind (Mo.ok p_field_here) fun a_1=>Mo.ok a_1.1) fun a_2=>Mo.bind (Mo.ok (1:Int)) fun b_3=>Mo.ok (a_2-b_3)) fun i_4=>Mo.ok (some i_4)) fun b_8=>Mo.bind (Mo.bind (Mo.bind (Mo.ok p_field_here) fun a_5=>Mo.ok a_5.2) fun i_6=>Mo.ok (some i_6)) fun d_9=>Mo.lim a_7.length (Mo.ok (cutG a_7 b_8 d_9))) fun r_10=>Mo.ok (.rt r_10))
def zb1_ (p_card_here:(List Nat)) (p_field_here:(Int×Int)):Mo (List Nat):=fnO (zdV_ p_card_here p_field_here)
def zcs_ (p_card_here:(List Nat)) (p_other:(List Nat)) (p_breaks:(List (Int×Int))):Mo (Out Int Unit Unit) :=
 (thenO (S:=Unit) (Mo.bind (Mo.bind (Mo.bind (Mo.ok p_breaks) fun c_2=>Mo.ok (c_2.length:Int)) fun c_3=>Mo.grd (-(2 ^ 62)≤c_3∧c_3<2 ^ 62) (Mo.ok (rngI 0 c_3.toNat))) fun xs_21=>forO (fun (_:Unit) x_4=>(Mo.bind (Mo.bind (Mo.bind (Mo.bind (Mo.ok p_card_here) fun a_7=>Mo.bind (Mo.bind (Mo.ok p_breaks) fun a_5=>Mo.bind (Mo.ok x_4) fun b_6=>Mo.opt (atI a_5 b_6)) fun c_8=>Mo.ok (a_7,c_8)) fun c_9=>Mo.noex (zb1_ c_9.1 c_9.2)) fun a_15=>Mo.bind (Mo.bind (Mo.bind (Mo.ok p_other) fun a_12=>Mo.bind (Mo.bind (Mo.ok p_breaks) fun a_10=>Mo.bind (Mo.ok x_4) fun b_11=>Mo.opt (atI a_10 b_11)) fun c_13=>Mo.ok (a_12,c_13)) fun c_14=>Mo.noex (zb1_ c_14.1 c_14.2)) fun b_16=>Mo.ok (!decide (a_15=b_16))) fun c_17=>if c_17 then (Mo.bind (Mo.bind (Mo.ok x_4) fun a_18=>Mo.bind (Mo.ok (1:Int)) fun b_19=>Mo.ok (a_18+b_19)) fun r_20=>Mo.ok (.rt r_20)) else (Mo.ok (.nx ())))) xs_21 ()) fun _=>(Mo.bind (Mo.bind (Mo.bind (Mo.ok p_breaks) fun c_22=>Mo.ok (c_22.length:Int)) fun a_23=>Mo.bind (Mo.ok (1:Int)) fun b_24=>Mo.ok (a_23+b_24)) fun r_25=>Mo.ok (.rt r_25)))
def zbx_ (p_card_here:(List Nat)) (p_other:(List Nat)) (p_breaks:(List (Int×Int))):Mo Int:=fnO (zcs_ p_card_here p_other p_breaks)
def zb7_ (p_number_here:Int) (p_figures:Int):Mo (Out (List Nat) Unit Unit) :=
 (Mo.bind (Mo.ok ([]:List Nat)) fun found_1=>(thenO (S:=((List Nat)×Int)) (Mo.bind (Mo.bind (Mo.ok p_figures) fun c_3=>Mo.grd (-(2 ^ 62)≤c_3∧c_3<2 ^ 62) (Mo.ok (rngI 0 c_3.toNat))) fun xs_15=>forO (fun (s_2:((List Nat)×Int)) x_4=>(Mo.bind (Mo.bind (Mo.bind (Mo.ok ([48,49,50,51,52,53,54,55,56,57]:List Nat)) fun a_8=>Mo.bind (Mo.bind (Mo.ok s_2.2) fun a_6=>Mo.bind (Mo.ok (10:Int)) fun b_7=>Mo.grd (0<b_7) (Mo.ok (a_6 % b_7))) fun b_9=>Mo.lim a_8.length (Mo.opt ((atI a_8 b_9).map fun c=>[c]))) fun a_10=>Mo.bind (Mo.ok s_2.1) fun b_11=>Mo.lim (a_10.length+b_11.length) (Mo.ok (a_10++b_11))) fun found_5=>(Mo.bind (Mo.bind (Mo.ok s_2.2) fun a_13=>Mo.bind (Mo.ok (10:Int)) fun b_14=>Mo.grd (CDivG a_13 b_14) (Mo.ok (a_13 / b_14))) fun number_here_12=>(Mo.ok (.nx (found_5,number_here_12)))))) xs_15 (found_1,p_number_here)) fun s_2=>(Mo.bind (Mo.ok s_2.1) fun r_16=>Mo.ok (.rt r_16))))
def zaX_ (p_number_here:Int) (p_figures:Int):Mo (List Nat):=fnO (zb7_ p_number_here p_figures)
def zcv_ (p_card_here:(List Nat)) (p_field_here:(Int×Int)):Mo (Out Int Unit Unit) :=
 (Mo.bind (Mo.ok (0:Int)) fun total_here_1=>(thenO (S:=Int) (Mo.bind (Mo.bind (Mo.bind (Mo.ok p_card_here) fun a_9=>Mo.bind (Mo.bind (Mo.bind (Mo.bind (Mo.ok p_field_here) fun a_3=>Mo.ok a_3.1) fun a_4=>Mo.bind (Mo.ok (1:Int)) fun b_5=>Mo.ok (a_4-b_5)) fun i_6=>Mo.ok (some i_6)) fun b_10=>Mo.bind (Mo.bind (Mo.bind (Mo.ok p_field_here) fun a_7=>Mo.ok a_7.2) fun i_8=>Mo.ok (some i_8)) fun d_11=>Mo.lim a_9.length (Mo.ok (cutG a_9 b_10 d_11))) fun a_12=>Mo.ok (a_12.map fun c=>[c])) fun xs_24=>forO (fun (s_2:Int) x_13=>(Mo.bind (Mo.bind (Mo.bind (Mo.ok (10:Int)) fun a_15=>Mo.bind (Mo.ok s_2) fun b_16=>Mo.grd (IntMulOk a_15 b_16) (Mo.ok (a_15*b_16))) fun a_22=>Mo.bind (Mo.bind (Mo.bind (Mo.ok (0:Int)) fun a_19=>Mo.bind (Mo.bind (Mo.ok ([48,49,50,51,52,53,54,55,56,57]:List Nat)) fun a_17=>Mo.bind (Mo.ok x_13) fun b_18=>Mo.ok (findS a_17 b_18)) fun c_20=>Mo.ok (a_19,c_20)) fun c_21=>Mo.ok (max c_21.1 c_21.2)) fun b_23=>Mo.ok (a_22+b_23)) fun total_here_14=>(Mo.ok (.nx total_here_14)))) xs_24 total_here_1) fun s_2=>(Mo.bind (Mo.ok s_2) fun r_25=>Mo.ok (.rt r_25))))
def zbv_ (p_card_here:(List Nat)) (p_field_here:(Int×Int)):Mo Int:=fnO (zcv_ p_card_here p_field_here)
def zc3_ (p_level:Int) (p_cards:(List (List Nat))) (p_breaks:(List (Int×Int))) (p_sums:(List (Int×Int))) (p_figures:Int):Mo (Out (List Nat) Unit Unit) :=
 (Mo.bind (Mo.bind (Mo.ok ([42]:List Nat)) fun a_7=>Mo.bind (Mo.bind (Mo.bind (Mo.bind (Mo.ok p_breaks) fun c_2=>Mo.ok (c_2.length:Int)) fun a_3=>Mo.bind (Mo.ok (1:Int)) fun b_4=>Mo.ok (a_3+b_4)) fun a_5=>Mo.bind (Mo.ok p_level) fun b_6=>Mo.ok (a_5-b_6)) fun b_8=>Mo.grd (CRep a_7.length b_8) (Mo.ok (repL a_7 b_8))) fun line_1=>(thenO (S:=(List Nat)) (Mo.bind (Mo.bind (Mo.ok p_breaks) fun a_11=>Mo.bind (Mo.ok none) fun b_12=>Mo.bind (Mo.bind (Mo.ok p_level) fun i_10=>Mo.ok (some i_10)) fun d_13=>Mo.ok (cutG a_11 b_12 d_13)) fun xs_32=>forO (fun (s_9:(List Nat)) x_14=>(Mo.bind (Mo.bind (Mo.bind (Mo.ok s_9) fun a_16=>Mo.bind (Mo.ok ([32]:List Nat)) fun b_17=>Mo.lim (a_16.length+b_17.length) (Mo.ok (a_16++b_17))) fun a_30=>Mo.bind (Mo.bind (Mo.bind (Mo.ok p_cards) fun a_19=>Mo.bind (Mo.bind (Mo.ok (1:Int)) fun a_18=>Mo.ok (-a_18)) fun b_20=>Mo.opt (atI a_19 b_20)) fun a_27=>Mo.bind (Mo.bind (Mo.bind (Mo.bind (Mo.ok x_14) fun a_21=>Mo.ok a_21.1) fun a_22=>Mo.bind (Mo.ok (1:Int)) fun b_23=>Mo.ok (a_22-b_23)) fun i_24=>Mo.ok (some i_24)) fun b_28=>Mo.bind (Mo.bind (Mo.bind (Mo.ok x_14) fun a_25=>Mo.ok a_25.2) fun i_26=>Mo.ok (some i_26)) fun d_29=>Mo.lim a_27.length (Mo.ok (cutG a_27 b_28 d_29))) fun b_31=>Mo.lim (a_30.length+b_31.length) (Mo.ok (a_30++b_31))) fun line_15=>(Mo.ok (.nx line_15)))) xs_32 line_1) fun s_9=>(thenO (S:=(List Nat)) (Mo.bind (Mo.ok p_sums) fun xs_53=>forO (fun (s_33:(List Nat)) x_34=>(Mo.bind (Mo.ok (0:Int)) fun total_here_35=>(thenO (S:=Int) (Mo.bind (Mo.ok p_cards) fun xs_44=>forO (fun (s_36:Int) x_37=>(Mo.bind (Mo.bind (Mo.ok s_36) fun a_42=>Mo.bind (Mo.bind (Mo.bind (Mo.ok x_37) fun a_39=>Mo.bind (Mo.ok x_34) fun c_40=>Mo.ok (a_39,c_40)) fun c_41=>Mo.noex (zbv_ c_41.1 c_41.2)) fun b_43=>Mo.ok (a_42+b_43)) fun total_here_38=>(Mo.ok (.nx total_here_38)))) xs_44 total_here_35) fun s_36=>(Mo.bind (Mo.bind (Mo.bind (Mo.ok s_33) fun a_46=>Mo.bind (Mo.ok ([32]:List Nat)) fun b_47=>Mo.lim (a_46.length+b_47.length) (Mo.ok (a_46++b_47))) fun a_51=>Mo.bind (Mo.bind (Mo.bind (Mo.ok s_36) fun a_48=>Mo.bind (Mo.ok p_figures) fun c_49=>Mo.ok (a_48,c_49)) fun c_50=>Mo.noex (zaX_ c_50.1 c_50.2)) fun b_52=>Mo.lim (a_51.length+b_52.length) (Mo.ok (a_51++b_52))) fun line_45=>(Mo.ok (.nx line_45)))))) xs_53 s_9) fun s_33=>(Mo.bind (Mo.ok s_33) fun r_54=>Mo.ok (.rt r_54)))))
def zaW_ (p_level:Int) (p_cards:(List (List Nat))) (p_breaks:(List (Int×Int))) (p_sums:(List (Int×Int))) (p_figures:Int):Mo (List Nat):=fnO (zc3_ p_level p_cards p_breaks p_sums p_figures)
def zcr_ (p_deck:(List (List Nat))) (p_k:Int) (p_level:Int) (p_begins:(List Int)) (p_breaks:(List (Int×Int))) (p_sums:(List (Int×Int))) (p_figures:Int):Mo (Out ((List (List Nat))×(List Int)) Unit Unit) :=
 (Mo.bind (Mo.ok ([]:List (List Nat))) fun lines_1=>(thenO (S:=((List (List Nat))×(List Int))) (Mo.bind (Mo.bind (Mo.bind (Mo.bind (Mo.ok p_breaks) fun c_3=>Mo.ok (c_3.length:Int)) fun a_9=>Mo.bind (Mo.bind (Mo.bind (Mo.ok p_level) fun a_4=>Mo.bind (Mo.ok (1:Int)) fun b_5=>Mo.ok (a_4-b_5)) fun a_7=>Mo.bind (Mo.bind (Mo.ok (1:Int)) fun a_6=>Mo.ok (-a_6)) fun c_8=>Mo.ok (a_7,c_8)) fun c_10=>Mo.ok (a_9,c_10)) fun c_11=>Mo.grd (c_11.2.2 = -1 ∧ -(2 ^ 61)≤c_11.1∧c_11.1<2 ^ 61 ∧ -(2 ^ 61)≤c_11.2.1∧c_11.2.1<2 ^ 61) (Mo.ok (rngD c_11.1 (c_11.1-c_11.2.1).toNat))) fun xs_35=>forO (fun (s_2:((List (List Nat))×(List Int))) x_12=>(Mo.bind (Mo.bind (Mo.bind (Mo.ok x_12) fun a_26=>Mo.bind (Mo.bind (Mo.bind (Mo.ok p_deck) fun a_17=>Mo.bind (Mo.bind (Mo.bind (Mo.ok s_2.2) fun a_13=>Mo.bind (Mo.ok x_12) fun b_14=>Mo.opt (atI a_13 b_14)) fun i_15=>Mo.ok (some i_15)) fun b_18=>Mo.bind (Mo.bind (Mo.ok p_k) fun i_16=>Mo.ok (some i_16)) fun d_19=>Mo.ok (cutG a_17 b_18 d_19)) fun a_24=>Mo.bind (Mo.bind (Mo.ok p_breaks) fun a_22=>Mo.bind (Mo.bind (Mo.ok p_sums) fun a_20=>Mo.bind (Mo.ok p_figures) fun c_21=>Mo.ok (a_20,c_21)) fun c_23=>Mo.ok (a_22,c_23)) fun c_25=>Mo.ok (a_24,c_25)) fun c_27=>Mo.ok (a_26,c_27)) fun c_28=>Mo.noex (zaW_ c_28.1 c_28.2.1 c_28.2.2.1 c_28.2.2.2.1 c_28.2.2.2.2)) fun a_29=>Mo.lim (s_2.1.length+1) (Mo.bind (Mo.ok p_k) fun a_30=>Mo.bind (Mo.ok (s_2.2,fun (z:(List Int))=>z)) fun y_31=>Mo.bind (Mo.ok x_12) fun j_32=>Mo.bind (Mo.opt ((ixN y_31.1.length j_32).map fun n=>y_31.1.set n a_30)) fun xs_33=>Mo.bind (Mo.ok (y_31.2 xs_33)) fun x_34=>(Mo.ok (.nx ((s_2.1++[a_29]),x_34)))))) xs_35 (lines_1,p_begins)) fun s_2=>(Mo.ok (.rt (s_2.1,s_2.2)))))
def zas_ (p_deck:(List (List Nat))) (p_k:Int) (p_level:Int) (p_begins:(List Int)) (p_breaks:(List (Int×Int))) (p_sums:(List (Int×Int))) (p_figures:Int):Mo ((List (List Nat))×(List Int)):=fnMR (zcr_ p_deck p_k p_level p_begins p_breaks p_sums p_figures)
def zbg_ (p_card_here:(List Nat)) (p_board_here:(List (Int×Int))):Mo (Out (List Nat) Unit Unit) :=
 (Mo.bind (Mo.ok ([]:(List (Int×(List Nat))))) fun signs_1=>(thenO (S:=(List (Int×(List Nat)))) (Mo.bind (Mo.ok p_board_here) fun xs_10=>forO (fun (s_2:(List (Int×(List Nat)))) x_3=>(Mo.bind (Mo.bind (Mo.ok p_card_here) fun a_6=>Mo.bind (Mo.bind (Mo.ok x_3.1) fun a_4=>Mo.bind (Mo.ok (1:Int)) fun b_5=>Mo.ok (a_4-b_5)) fun b_7=>Mo.lim a_6.length (Mo.opt ((atI a_6 b_7).map fun c=>[c]))) fun a_8=>Mo.bind (Mo.ok x_3.2) fun y_9=>Mo.lim (s_2.length+1) (Mo.ok (.nx (putA s_2 y_9 a_8))))) xs_10 signs_1) fun s_2=>(Mo.bind (Mo.bind (Mo.bind (Mo.ok p_card_here) fun a_13=>Mo.bind (Mo.bind (Mo.ok (36:Int)) fun i_12=>Mo.ok (some i_12)) fun b_14=>Mo.bind (Mo.ok none) fun d_15=>Mo.lim a_13.length (Mo.ok (cutG a_13 b_14 d_15))) fun a_16=>Mo.bind (Mo.ok ([32]:List Nat)) fun b_17=>Mo.lim (a_16.length+b_17.length) (Mo.ok (a_16++b_17))) fun text_11=>(thenO (S:=(List Nat)) (Mo.bind (Mo.bind (Mo.bind (Mo.ok (1:Int)) fun a_19=>Mo.bind (Mo.ok (37:Int)) fun c_20=>Mo.ok (a_19,c_20)) fun c_21=>Mo.grd (-(2 ^ 62)≤c_21.1∧c_21.1<2 ^ 62 ∧ -(2 ^ 62)≤c_21.2∧c_21.2<2 ^ 62) (Mo.ok (rngI c_21.1 (c_21.2-c_21.1).toNat))) fun xs_29=>forO (fun (s_18:(List Nat)) x_22=>(Mo.bind (Mo.bind (Mo.ok s_18) fun a_27=>Mo.bind (Mo.bind (Mo.ok s_2) fun m_24=>Mo.bind (Mo.ok x_22) fun k_25=>Mo.bind (Mo.ok ([32]:List Nat)) fun d_26=>Mo.ok ((getA m_24 k_25).getD d_26)) fun b_28=>Mo.lim (a_27.length+b_28.length) (Mo.ok (a_27++b_28))) fun text_23=>(Mo.ok (.nx text_23)))) xs_29 text_11) fun s_18=>(Mo.bind (Mo.ok s_18) fun r_30=>Mo.ok (.rt r_30))))))
def zao_ (p_card_here:(List Nat)) (p_board_here:(List (Int×Int))):Mo (List Nat):=fnO (zbg_ p_card_here p_board_here)
def zeK_ (p_deck:(List (List Nat))) (p_breaks:(List (Int×Int))) (p_sums:(List (Int×Int))) (p_figures:Int) (p_board_here:(List (Int×Int))):Mo (Out (List (List (List Nat))) Unit Unit) :=
 (Mo.bind (Mo.bind (Mo.bind (Mo.ok (0:Int)) fun c_2=>Mo.ok [c_2]) fun a_6=>Mo.bind (Mo.bind (Mo.bind (Mo.ok p_breaks) fun c_3=>Mo.ok (c_3.length:Int)) fun a_4=>Mo.bind (Mo.ok (1:Int)) fun b_5=>Mo.ok (a_4+b_5)) fun b_7=>Mo.grd (CRep a_6.length b_7) (Mo.ok (repL a_6 b_7))) fun begins_1=>(Mo.bind (Mo.ok ([]:List (List (List Nat)))) fun due_here_8=>(thenO (S:=((List Int)×(List (List (List Nat))))) (Mo.bind (Mo.bind (Mo.bind (Mo.ok p_deck) fun c_10=>Mo.ok (c_10.length:Int)) fun c_11=>Mo.grd (-(2 ^ 62)≤c_11∧c_11<2 ^ 62) (Mo.ok (rngI 0 c_11.toNat))) fun xs_52=>forO (fun (s_9:((List Int)×(List (List (List Nat))))) x_12=>(Mo.bind (Mo.ok ([]:List (List Nat))) fun lines_13=>(thenO (S:=((List (List Nat))×(List Int))) (Mo.bind (Mo.bind (Mo.ok x_12) fun a_14=>Mo.bind (Mo.ok (0:Int)) fun b_15=>Mo.ok (decide (b_15<a_14))) fun c_16=>if c_16 then (Mo.bind (Mo.bind (Mo.bind (Mo.bind (Mo.ok p_deck) fun a_21=>Mo.bind (Mo.bind (Mo.ok x_12) fun a_19=>Mo.bind (Mo.ok (1:Int)) fun b_20=>Mo.ok (a_19-b_20)) fun b_22=>Mo.opt (atI a_21 b_22)) fun a_27=>Mo.bind (Mo.bind (Mo.bind (Mo.ok p_deck) fun a_23=>Mo.bind (Mo.ok x_12) fun b_24=>Mo.opt (atI a_23 b_24)) fun a_25=>Mo.bind (Mo.ok p_breaks) fun c_26=>Mo.ok (a_25,c_26)) fun c_28=>Mo.ok (a_27,c_28)) fun c_29=>Mo.noex (zbx_ c_29.1 c_29.2.1 c_29.2.2)) fun level_18=>(Mo.bind (Mo.bind (Mo.bind (Mo.ok p_deck) fun a_38=>Mo.bind (Mo.bind (Mo.ok x_12) fun a_36=>Mo.bind (Mo.bind (Mo.ok level_18) fun a_34=>Mo.bind (Mo.bind (Mo.ok p_breaks) fun a_32=>Mo.bind (Mo.bind (Mo.ok p_sums) fun a_30=>Mo.bind (Mo.ok p_figures) fun c_31=>Mo.ok (a_30,c_31)) fun c_33=>Mo.ok (a_32,c_33)) fun c_35=>Mo.ok (a_34,c_35)) fun c_37=>Mo.ok (a_36,c_37)) fun c_39=>Mo.ok (a_38,c_39)) fun c_40=>Mo.bind (Mo.noex (zas_ c_40.1 c_40.2.1 c_40.2.2.1 s_9.1 c_40.2.2.2.1 c_40.2.2.2.2.1 c_40.2.2.2.2.2)) fun q_41=>Mo.ok (q_41.1,q_41.2)) fun q_42=>(Mo.ok (.nx (q_42.1,q_42.2))))) else (Mo.ok (.nx (lines_13,s_9.1)))) fun s_17=>(Mo.bind (Mo.bind (Mo.ok s_17.1) fun a_49=>Mo.bind (Mo.bind (Mo.bind (Mo.bind (Mo.bind (Mo.ok p_deck) fun a_43=>Mo.bind (Mo.ok x_12) fun b_44=>Mo.opt (atI a_43 b_44)) fun a_45=>Mo.bind (Mo.ok p_board_here) fun c_46=>Mo.ok (a_45,c_46)) fun c_47=>Mo.noex (zao_ c_47.1 c_47.2)) fun c_48=>Mo.ok [c_48]) fun b_50=>Mo.lim (a_49.length+b_50.length) (Mo.ok (a_49++b_50))) fun a_51=>Mo.lim (s_9.2.length+1) (Mo.ok (.nx (s_17.2,(s_9.2++[a_51])))))))) xs_52 (begins_1,due_here_8)) fun s_9=>(thenO (S:=Unit) (Mo.bind (Mo.bind (Mo.ok p_deck) fun a_53=>Mo.bind (Mo.ok ([]:List (List Nat))) fun b_54=>Mo.ok (((eqL (fun a b=>decide (a=b))) a_53 b_54))) fun c_55=>if c_55 then (Mo.bind (Mo.bind (Mo.bind (Mo.bind (Mo.bind (Mo.ok (0:Int)) fun a_75=>Mo.bind (Mo.bind (Mo.ok ([]:List (List Nat))) fun a_73=>Mo.bind (Mo.bind (Mo.ok p_breaks) fun a_71=>Mo.bind (Mo.bind (Mo.ok p_sums) fun a_69=>Mo.bind (Mo.ok p_figures) fun c_70=>Mo.ok (a_69,c_70)) fun c_72=>Mo.ok (a_71,c_72)) fun c_74=>Mo.ok (a_73,c_74)) fun c_76=>Mo.ok (a_75,c_76)) fun c_77=>Mo.noex (zaW_ c_77.1 c_77.2.1 c_77.2.2.1 c_77.2.2.2.1 c_77.2.2.2.2)) fun c_78=>Mo.ok [c_78]) fun c_79=>Mo.ok [c_79]) fun r_68=>Mo.ok (.rt r_68)) else (Mo.ok (.nx ()))) fun _=>(Mo.bind (Mo.bind (Mo.bind (Mo.ok p_deck) fun a_89=>Mo.bind (Mo.bind (Mo.bind (Mo.ok p_deck) fun c_80=>Mo.ok (c_80.length:Int)) fun a_87=>Mo.bind (Mo.bind (Mo.ok (0:Int)) fun a_85=>Mo.bind (Mo.bind (Mo.ok p_breaks) fun a_83=>Mo.bind (Mo.bind (Mo.ok p_sums) fun a_81=>Mo.bind (Mo.ok p_figures) fun c_82=>Mo.ok (a_81,c_82)) fun c_84=>Mo.ok (a_83,c_84)) fun c_86=>Mo.ok (a_85,c_86)) fun c_88=>Mo.ok (a_87,c_88)) fun c_90=>Mo.ok (a_89,c_90)) fun c_91=>Mo.bind (Mo.noex (zas_ c_91.1 c_91.2.1 c_91.2.2.1 s_9.1 c_91.2.2.2.1 c_91.2.2.2.2.1 c_91.2.2.2.2.2)) fun q_92=>Mo.ok (q_92.1,q_92.2)) fun q_93=>Mo.lim (s_9.2.length+1) (Mo.ok (.rt (s_9.2++[q_93.1]))))))))
def zdA_ (p_deck:(List (List Nat))) (p_breaks:(List (Int×Int))) (p_sums:(List (Int×Int))) (p_figures:Int) (p_board_here:(List (Int×Int))):Mo (List (List (List Nat))):=fnO (zeK_ p_deck p_breaks p_sums p_figures p_board_here)
def zbP_ (p_self:Qq5):Mo (Out (List Nat) Unit Unit) :=
 (Mo.bind (Mo.bind (Mo.bind (Mo.bind (Mo.ok p_self) fun a_1=>Mo.ok a_1.2.2.1) fun c_2=>Mo.grd (c_2.natAbs.log2<1920) (Mo.ok (strI c_2))) fun a_4=>Mo.bind (Mo.bind (Mo.ok p_self) fun a_3=>Mo.ok a_3.1) fun b_5=>Mo.grd (PadOk b_5=true) (Mo.ok (zfL a_4 b_5))) fun r_6=>Mo.ok (.rt r_6))
def zW_ (p_self:Qq5):Mo (List Nat):=fnO (zbP_ p_self)
def zeH_ (p_card:(List Nat)) (p_field:(Int×Int)):Mo (Out (List Nat) Unit Unit) :=
 (Mo.bind (Mo.bind (Mo.ok p_card) fun a_7=>Mo.bind (Mo.bind (Mo.bind (Mo.bind (Mo.ok p_field) fun a_1=>Mo.ok a_1.1) fun a_2=>Mo.bind (Mo.ok (1:Int)) fun b_3=>Mo.ok (a_2-b_3)) fun i_4=>Mo.ok (some i_4)) fun b_8=>Mo.bind (Mo.bind (Mo.bind (Mo.ok p_field) fun a_5=>Mo.ok a_5.2) fun i_6=>Mo.ok (some i_6)) fun d_9=>Mo.lim a_7.length (Mo.ok (cutG a_7 b_8 d_9))) fun r_10=>Mo.ok (.rt r_10))
def zaH_ (p_card:(List Nat)) (p_field:(Int×Int)):Mo (List Nat):=fnO (zeH_ p_card p_field)
def z0_ (p_self:Qq2) (p_level:Int):Mo (Out (List Nat) Unit Unit) :=
 (Mo.bind (Mo.bind (Mo.bind (Mo.ok ([42]:List Nat)) fun a_8=>Mo.bind (Mo.bind (Mo.bind (Mo.ok (1:Int)) fun a_4=>Mo.bind (Mo.bind (Mo.bind (Mo.ok p_self) fun a_2=>Mo.ok a_2.1) fun c_3=>Mo.ok (c_3.length:Int)) fun b_5=>Mo.ok (a_4+b_5)) fun a_6=>Mo.bind (Mo.ok p_level) fun b_7=>Mo.ok (a_6-b_7)) fun b_9=>Mo.grd (CRep a_8.length b_9) (Mo.ok (repL a_8 b_9))) fun c_10=>Mo.ok [c_10]) fun words_1=>(Mo.bind (Mo.bind (Mo.bind (Mo.bind (Mo.ok p_self) fun a_11=>Mo.ok a_11.1) fun a_13=>Mo.bind (Mo.ok none) fun b_14=>Mo.bind (Mo.bind (Mo.ok p_level) fun i_12=>Mo.ok (some i_12)) fun d_15=>Mo.ok (cutG a_13 b_14 d_15)) fun xs_22=>compM (fun x_16=>cond1 (Mo.ok true) (Mo.bind (Mo.bind (Mo.bind (Mo.bind (Mo.ok p_self) fun a_17=>Mo.ok a_17.2.2.2.2.1) fun a_18=>Mo.opt a_18) fun a_19=>Mo.bind (Mo.ok x_16) fun c_20=>Mo.ok (a_19,c_20)) fun c_21=>Mo.noex (zaH_ c_21.1 c_21.2))) xs_22 []) fun a_23=>Mo.lim (words_1.length+a_23.length) (Mo.bind (Mo.bind (Mo.bind (Mo.bind (Mo.ok p_self) fun a_24=>Mo.ok a_24.2.2.2.1) fun a_25=>Mo.bind (Mo.ok p_level) fun b_26=>Mo.opt (atI a_25 b_26)) fun xs_29=>compM (fun x_27=>cond1 (Mo.ok true) (Mo.bind (Mo.ok x_27) fun o_28=>Mo.noex (zW_ o_28))) xs_29 []) fun a_30=>Mo.lim ((words_1++a_23).length+a_30.length) (Mo.bind (Mo.bind (Mo.ok ([32]:List Nat)) fun a_31=>Mo.bind (Mo.ok ((words_1++a_23)++a_30)) fun b_32=>Mo.grd (JoinOk ⟨a_31.toArray⟩ (strsL b_32)=true) (Mo.ok (joinS a_31 (strsL b_32)))) fun r_33=>Mo.ok (.rt r_33)))))
def zA_ (p_self:Qq2) (p_level:Int):Mo (List Nat):=fnO (z0_ p_self p_level)
def zcp_ (p_self:Qq5) (p_value:Int):Mo (Out (Unit×Qq5) Unit Qq5) :=
 (Mo.bind (Mo.bind (Mo.bind (Mo.ok p_self) fun a_2=>Mo.ok a_2.2.2.1) fun a_3=>Mo.bind (Mo.ok p_value) fun b_4=>Mo.ok (a_3+b_4)) fun risen_1=>(thenO (S:=Qq5) (Mo.bind (Mo.bind (Mo.ok risen_1) fun a_6=>Mo.bind (Mo.bind (Mo.ok p_self) fun a_5=>Mo.ok a_5.2.1) fun b_7=>Mo.ok (decide (b_7≤a_6))) fun c_8=>if c_8 then (Mo.bind (Mo.ok true) fun a_10=>Mo.bind (Mo.ok (p_self,fun (z:Qq5)=>z)) fun y_12=>Mo.bind (Mo.ok (y_12.2 (y_12.1.1,(y_12.1.2.1,(y_12.1.2.2.1,(a_10,y_12.1.2.2.2.2)))))) fun x_11=>(Mo.ok (.nx x_11))) else (Mo.ok (.nx p_self))) fun s_9=>(Mo.bind (Mo.bind (Mo.ok risen_1) fun a_17=>Mo.bind (Mo.bind (Mo.ok s_9) fun a_16=>Mo.ok a_16.2.1) fun b_18=>Mo.grd (0<b_18) (Mo.ok (a_17 % b_18))) fun a_13=>Mo.bind (Mo.ok (s_9,fun (z:Qq5)=>z)) fun y_15=>Mo.bind (Mo.ok (y_15.2 (y_15.1.1,(y_15.1.2.1,(a_13,y_15.1.2.2.2))))) fun x_14=>(Mo.ok (.nx x_14)))))
def zbs_ (p_self:Qq5) (p_value:Int):Mo (Unit×Qq5):=fnMU (zcp_ p_self p_value)
def zbU_ (p_self:Qq5):Mo (Out Bool Unit Unit) :=
 (Mo.bind (Mo.bind (Mo.ok p_self) fun a_1=>Mo.ok a_1.2.2.2.1) fun r_2=>Mo.ok (.rt r_2))
def za3_ (p_self:Qq5):Mo Bool:=fnO (zbU_ p_self)
def zam_ (p_self:Qq2) (p_level:Int) (p_numbers:(List Int)):Mo (Out (Unit×Qq2) Unit Qq2) :=
 (thenO (S:=Qq2) (Mo.bind (Mo.bind (Mo.ok p_numbers) fun c_2=>Mo.ok (enumL c_2)) fun xs_27=>forO (fun (s_1:Qq2) x_3=>(Mo.bind (Mo.bind (Mo.bind (Mo.bind (Mo.ok (s_1,fun (z:Qq2)=>z)) fun y_4=>Mo.ok (y_4.1.2.2.2.1,fun (z':(List (List Qq5)))=>y_4.2 (y_4.1.1,(y_4.1.2.1,(y_4.1.2.2.1,(z',y_4.1.2.2.2.2)))))) fun y_5=>Mo.bind (Mo.ok p_level) fun j_6=>Mo.bind (Mo.opt (ixN y_5.1.length j_6)) fun n_7=>Mo.bind (Mo.opt (y_5.1[n_7]?)) fun z_8=>Mo.ok (z_8,fun (z':(List Qq5))=>y_5.2 (y_5.1.set n_7 z'))) fun y_9=>Mo.bind (Mo.ok x_3.1) fun j_10=>Mo.bind (Mo.opt (ixN y_9.1.length j_10)) fun n_11=>Mo.bind (Mo.opt (y_9.1[n_11]?)) fun z_12=>Mo.ok (z_12,fun (z':Qq5)=>y_9.2 (y_9.1.set n_11 z'))) fun y_13=>(Mo.bind (Mo.ok (y_13.1,fun (z:Qq5)=>z)) fun y_15=>Mo.bind (Mo.ok x_3.2) fun c_16=>Mo.bind (Mo.noex (zbs_ y_15.1 c_16)) fun q_17=>Mo.bind (Mo.ok (y_15.2 q_17.2)) fun x_18=>(thenO (S:=Qq2) (Mo.bind (Mo.bind (Mo.ok x_18) fun o_19=>Mo.noex (za3_ o_19)) fun c_20=>if c_20 then (Mo.bind (Mo.ok true) fun a_23=>Mo.bind (Mo.bind (Mo.ok ((y_13.2 x_18),fun (z:Qq2)=>z)) fun y_22=>Mo.ok (y_22.1.2.2.2.2.2.1,fun (z':(List (Int×Bool)))=>y_22.2 (y_22.1.1,(y_22.1.2.1,(y_22.1.2.2.1,(y_22.1.2.2.2.1,(y_22.1.2.2.2.2.1,(z',y_22.1.2.2.2.2.2.2)))))))) fun y_24=>Mo.bind (Mo.ok x_3.1) fun z_25=>Mo.lim (y_24.1.length+1) (Mo.bind (Mo.ok (y_24.2 (putA y_24.1 z_25 a_23))) fun x_26=>(Mo.ok (.nx x_26)))) else (Mo.ok (.nx (y_13.2 x_18)))) fun s_21=>(Mo.ok (.nx s_21)))))) xs_27 p_self) fun s_1=>(Mo.ok (.nx s_1)))
def zN_ (p_self:Qq2) (p_level:Int) (p_numbers:(List Int)):Mo (Unit×Qq2):=fnMU (zam_ p_self p_level p_numbers)
def zdq_ (p_self:Qq5):Mo (Out (Unit×Qq5) Unit Qq5) :=
 (Mo.bind (Mo.ok (0:Int)) fun a_1=>Mo.bind (Mo.ok (p_self,fun (z:Qq5)=>z)) fun y_3=>Mo.bind (Mo.ok (y_3.2 (y_3.1.1,(y_3.1.2.1,(a_1,y_3.1.2.2.2))))) fun x_2=>(Mo.bind (Mo.ok false) fun a_4=>Mo.bind (Mo.ok (x_2,fun (z:Qq5)=>z)) fun y_6=>Mo.bind (Mo.ok (y_6.2 (y_6.1.1,(y_6.1.2.1,(y_6.1.2.2.1,(a_4,y_6.1.2.2.2.2)))))) fun x_5=>(Mo.ok (.nx x_5))))
def zX_ (p_self:Qq5):Mo (Unit×Qq5):=fnMU (zdq_ p_self)
def zcJ_ (p_self:Qq5):Mo (Out Int Unit Unit) :=
 (Mo.bind (Mo.bind (Mo.ok p_self) fun a_1=>Mo.ok a_1.2.2.1) fun r_2=>Mo.ok (.rt r_2))
def zaV_ (p_self:Qq5):Mo Int:=fnO (zcJ_ p_self)
def zT_ (p_self:Qq2) (p_level:Int):Mo (Out ((List Nat)×Qq2) Unit Unit) :=
 (Mo.bind (Mo.bind (Mo.ok p_self) fun o_2=>Mo.bind (Mo.ok p_level) fun c_3=>Mo.noex (zA_ o_2 c_3)) fun line_1=>(thenO (S:=Qq2) (Mo.bind (Mo.bind (Mo.ok p_level) fun a_4=>Mo.bind (Mo.ok (0:Int)) fun b_5=>Mo.ok (decide (b_5<a_4))) fun c_6=>if c_6 then (Mo.bind (Mo.bind (Mo.ok (p_self,fun (z:Qq2)=>z)) fun y_18=>Mo.bind (Mo.bind (Mo.bind (Mo.ok p_level) fun a_8=>Mo.bind (Mo.ok (1:Int)) fun b_9=>Mo.ok (a_8-b_9)) fun a_16=>Mo.bind (Mo.bind (Mo.bind (Mo.bind (Mo.ok p_self) fun a_10=>Mo.ok a_10.2.2.2.1) fun a_11=>Mo.bind (Mo.ok p_level) fun b_12=>Mo.opt (atI a_11 b_12)) fun xs_15=>compM (fun x_13=>cond1 (Mo.ok true) (Mo.bind (Mo.ok x_13) fun o_14=>Mo.noex (zaV_ o_14))) xs_15 []) fun c_17=>Mo.ok (a_16,c_17)) fun c_19=>Mo.bind (Mo.noex (zN_ y_18.1 c_19.1 c_19.2)) fun q_20=>Mo.ok (q_20.1,y_18.2 q_20.2)) fun q_21=>(Mo.ok (.nx q_21.2))) else (Mo.ok (.nx p_self))) fun s_7=>(thenO (S:=Qq2) (Mo.bind (Mo.bind (Mo.bind (Mo.ok (s_7,fun (z:Qq2)=>z)) fun y_22=>Mo.ok (y_22.1.2.2.2.1,fun (z':(List (List Qq5)))=>y_22.2 (y_22.1.1,(y_22.1.2.1,(y_22.1.2.2.1,(z',y_22.1.2.2.2.2)))))) fun y_23=>Mo.bind (Mo.ok p_level) fun j_24=>Mo.bind (Mo.opt (ixN y_23.1.length j_24)) fun n_25=>Mo.bind (Mo.opt (y_23.1[n_25]?)) fun z_26=>Mo.ok (z_26,fun (z':(List Qq5))=>y_23.2 (y_23.1.set n_25 z'))) fun y_27=>Mo.bind (mapX (fun z_28=>Mo.bind (Mo.noex (zX_ z_28)) fun q_29=>Mo.ok q_29.2) y_27.1) fun xs_30=>Mo.ok (.nx (y_27.2 xs_30))) fun s_31=>(Mo.bind (Mo.ok line_1) fun r_32=>Mo.ok (.rt (r_32,s_31))))))
def zz_ (p_self:Qq2) (p_level:Int):Mo ((List Nat)×Qq2):=fnMR (zT_ p_self p_level)
def zae_ (p_self:Qq2) (p_outermost:Int):Mo (Out ((List (List Nat))×Qq2) Unit Unit) :=
 (Mo.bind (Mo.ok ([]:List (List Nat))) fun lines_1=>(thenO (S:=((List (List Nat))×Qq2)) (Mo.bind (Mo.bind (Mo.bind (Mo.bind (Mo.bind (Mo.ok p_self) fun a_3=>Mo.ok a_3.1) fun c_4=>Mo.ok (c_4.length:Int)) fun a_10=>Mo.bind (Mo.bind (Mo.bind (Mo.ok p_outermost) fun a_5=>Mo.bind (Mo.ok (1:Int)) fun b_6=>Mo.ok (a_5-b_6)) fun a_8=>Mo.bind (Mo.bind (Mo.ok (1:Int)) fun a_7=>Mo.ok (-a_7)) fun c_9=>Mo.ok (a_8,c_9)) fun c_11=>Mo.ok (a_10,c_11)) fun c_12=>Mo.grd (c_12.2.2 = -1 ∧ -(2 ^ 61)≤c_12.1∧c_12.1<2 ^ 61 ∧ -(2 ^ 61)≤c_12.2.1∧c_12.2.1<2 ^ 61) (Mo.ok (rngD c_12.1 (c_12.1-c_12.2.1).toNat))) fun xs_18=>forO (fun (s_2:((List (List Nat))×Qq2)) x_13=>(Mo.bind (Mo.bind (Mo.ok (s_2.2,fun (z:Qq2)=>z)) fun y_14=>Mo.bind (Mo.ok x_13) fun c_15=>Mo.bind (Mo.noex (zz_ y_14.1 c_15)) fun q_16=>Mo.ok (q_16.1,y_14.2 q_16.2)) fun q_17=>Mo.lim (s_2.1.length+1) (Mo.ok (.nx ((s_2.1++[q_17.1]),q_17.2))))) xs_18 (lines_1,p_self)) fun s_2=>(Mo.ok (.rt (s_2.1,s_2.2)))))
def zu_ (p_self:Qq2) (p_outermost:Int):Mo ((List (List Nat))×Qq2):=fnMR (zae_ p_self p_outermost)
def zax_ (p_self:Qq2):Mo (Out ((List (List Nat))×Qq2) Unit Unit) :=
 (thenO (S:=Unit) (Mo.bind (Mo.bind (Mo.bind (Mo.ok p_self) fun a_1=>Mo.ok a_1.2.2.2.2.1) fun a_2=>Mo.bind (Mo.ok ()) fun b_3=>Mo.ok a_2.isNone) fun c_4=>if c_4 then (Mo.bind (Mo.bind (Mo.ok (p_self,fun (z:Qq2)=>z)) fun y_6=>Mo.bind (Mo.ok (0:Int)) fun c_7=>Mo.bind (Mo.noex (zz_ y_6.1 c_7)) fun q_8=>Mo.ok (q_8.1,y_6.2 q_8.2)) fun q_9=>Mo.ok (.rt ([q_9.1],q_9.2))) else (Mo.ok (.nx ()))) fun _=>(Mo.bind (Mo.bind (Mo.ok (p_self,fun (z:Qq2)=>z)) fun y_10=>Mo.bind (Mo.ok (0:Int)) fun c_11=>Mo.bind (Mo.noex (zu_ y_10.1 c_11)) fun q_12=>Mo.ok (q_12.1,y_10.2 q_12.2)) fun q_13=>Mo.ok (.rt q_13)))
def zC_ (p_self:Qq2):Mo ((List (List Nat))×Qq2):=fnMR (zax_ p_self)
def zb3_ (p_number_here:Int) (p_most:Int):Mo (Out (Int×Int) Unit Unit) :=
 (Mo.bind (Mo.bind (Mo.ok (1:Int)) fun a_6=>Mo.bind (Mo.bind (Mo.bind (Mo.ok p_number_here) fun a_2=>Mo.bind (Mo.ok (5:Int)) fun b_3=>Mo.grd (CDivG a_2 b_3) (Mo.ok (a_2 / b_3))) fun a_4=>Mo.bind (Mo.ok (36:Int)) fun b_5=>Mo.grd (0<b_5) (Mo.ok (a_4 % b_5))) fun b_7=>Mo.ok (a_6+b_7)) fun first_1=>(Mo.bind (Mo.bind (Mo.ok first_1) fun a_17=>Mo.bind (Mo.bind (Mo.bind (Mo.ok (36:Int)) fun a_14=>Mo.bind (Mo.bind (Mo.ok first_1) fun a_12=>Mo.bind (Mo.bind (Mo.bind (Mo.ok p_number_here) fun a_8=>Mo.bind (Mo.ok (180:Int)) fun b_9=>Mo.grd (CDivG a_8 b_9) (Mo.ok (a_8 / b_9))) fun a_10=>Mo.bind (Mo.ok p_most) fun b_11=>Mo.grd (0<b_11) (Mo.ok (a_10 % b_11))) fun b_13=>Mo.ok (a_12+b_13)) fun c_15=>Mo.ok (a_14,c_15)) fun c_16=>Mo.ok (min c_16.1 c_16.2)) fun c_18=>Mo.ok (a_17,c_18)) fun r_19=>Mo.ok (.rt r_19)))
def zU_ (p_number_here:Int) (p_most:Int):Mo (Int×Int):=fnO (zb3_ p_number_here p_most)
def zeQ_ (p_card:(List Nat)):Mo (Out (List Nat) Unit Unit) :=
 (Mo.bind (Mo.bind (Mo.ok p_card) fun a_2=>Mo.bind (Mo.bind (Mo.ok (36:Int)) fun i_1=>Mo.ok (some i_1)) fun b_3=>Mo.bind (Mo.ok none) fun d_4=>Mo.lim a_2.length (Mo.ok (cutG a_2 b_3 d_4))) fun r_5=>Mo.ok (.rt r_5))
def zdy_ (p_card:(List Nat)):Mo (List Nat):=fnO (zeQ_ p_card)
def zeE_ (p_card:(List Nat)) (p_column:Int):Mo (Out (List Nat) Unit Unit) :=
 (Mo.bind (Mo.bind (Mo.ok p_card) fun a_3=>Mo.bind (Mo.bind (Mo.ok p_column) fun a_1=>Mo.bind (Mo.ok (1:Int)) fun b_2=>Mo.ok (a_1-b_2)) fun b_4=>Mo.lim a_3.length (Mo.opt ((atI a_3 b_4).map fun c=>[c]))) fun r_5=>Mo.ok (.rt r_5))
def zdz_ (p_card:(List Nat)) (p_column:Int):Mo (List Nat):=fnO (zeE_ p_card p_column)
def zeI_ (p_card:(List Nat)) (p_board:(List (Int×Int))):Mo (Out (List Nat) Unit Unit) :=
 (Mo.bind (Mo.bind (Mo.bind (Mo.ok (36:Int)) fun c_2=>Mo.grd (-(2 ^ 62)≤c_2∧c_2<2 ^ 62) (Mo.ok (rngI 0 c_2.toNat))) fun xs_4=>compM (fun x_3=>cond1 (Mo.ok true) (Mo.ok ([32]:List Nat))) xs_4 []) fun signs_1=>(thenO (S:=(List (List Nat))) (Mo.bind (Mo.ok p_board) fun xs_21=>forO (fun (s_5:(List (List Nat))) x_6=>(Mo.bind (Mo.bind (Mo.bind (Mo.ok p_card) fun a_12=>Mo.bind (Mo.bind (Mo.ok x_6) fun a_11=>Mo.ok a_11.1) fun c_13=>Mo.ok (a_12,c_13)) fun c_14=>Mo.noex (zdz_ c_14.1 c_14.2)) fun a_18=>Mo.bind (Mo.bind (Mo.bind (Mo.ok x_6) fun a_15=>Mo.ok a_15.2) fun a_16=>Mo.bind (Mo.ok (1:Int)) fun b_17=>Mo.ok (a_16-b_17)) fun j_19=>Mo.bind (Mo.opt ((ixN (s_5).length j_19).map fun n=>(s_5).set n a_18)) fun signs_20=>(Mo.ok (.nx signs_20)))) xs_21 signs_1) fun s_5=>(Mo.bind (Mo.bind (Mo.ok ([]:List Nat)) fun a_22=>Mo.bind (Mo.ok s_5) fun b_23=>Mo.grd (JoinOk ⟨a_22.toArray⟩ (strsL b_23)=true) (Mo.ok (joinS a_22 (strsL b_23)))) fun r_24=>Mo.ok (.rt r_24))))
def zdw_ (p_card:(List Nat)) (p_board:(List (Int×Int))):Mo (List Nat):=fnO (zeI_ p_card p_board)
def z7_ (p_self:Qq2) (p_card:(List Nat)):Mo (Out Int Unit Unit) :=
 (thenO (S:=Unit) (Mo.bind (Mo.bind (Mo.bind (Mo.ok p_self) fun a_2=>Mo.ok a_2.1) fun c_3=>Mo.ok (enumL c_3)) fun xs_19=>forO (fun (_:Unit) x_4=>(Mo.bind (Mo.bind (Mo.bind (Mo.bind (Mo.ok p_card) fun a_5=>Mo.bind (Mo.ok x_4.2) fun c_6=>Mo.ok (a_5,c_6)) fun c_7=>Mo.noex (zaH_ c_7.1 c_7.2)) fun a_13=>Mo.bind (Mo.bind (Mo.bind (Mo.bind (Mo.bind (Mo.ok p_self) fun a_8=>Mo.ok a_8.2.2.2.2.1) fun a_9=>Mo.opt a_9) fun a_10=>Mo.bind (Mo.ok x_4.2) fun c_11=>Mo.ok (a_10,c_11)) fun c_12=>Mo.noex (zaH_ c_12.1 c_12.2)) fun b_14=>Mo.ok (!decide (a_13=b_14))) fun c_15=>if c_15 then (Mo.bind (Mo.bind (Mo.ok x_4.1) fun a_16=>Mo.bind (Mo.ok (1:Int)) fun b_17=>Mo.ok (a_16+b_17)) fun r_18=>Mo.ok (.rt r_18)) else (Mo.ok (.nx ())))) xs_19 ()) fun _=>(Mo.bind (Mo.bind (Mo.bind (Mo.bind (Mo.ok p_self) fun a_20=>Mo.ok a_20.1) fun c_21=>Mo.ok (c_21.length:Int)) fun a_22=>Mo.bind (Mo.ok (1:Int)) fun b_23=>Mo.ok (a_22+b_23)) fun r_24=>Mo.ok (.rt r_24)))
def zD_ (p_self:Qq2) (p_card:(List Nat)):Mo Int:=fnO (z7_ p_self p_card)
def zc4_ (p_figures:(List Nat)):Mo (Out Int Unit Unit) :=
 (Mo.bind (Mo.ok (0:Int)) fun value_1=>(thenO (S:=Int) (Mo.bind (Mo.bind (Mo.ok p_figures) fun a_3=>Mo.ok (a_3.map fun c=>[c])) fun xs_12=>forO (fun (s_2:Int) x_4=>(Mo.bind (Mo.bind (Mo.bind (Mo.ok s_2) fun a_6=>Mo.bind (Mo.ok (10:Int)) fun b_7=>Mo.grd (IntMulOk a_6 b_7) (Mo.ok (a_6*b_7))) fun a_10=>Mo.bind (Mo.bind (Mo.ok ([48,49,50,51,52,53,54,55,56,57]:List Nat)) fun a_8=>Mo.bind (Mo.ok x_4) fun b_9=>Mo.grd (findS a_8 b_9 ≠ -1) (Mo.ok (findS a_8 b_9))) fun b_11=>Mo.ok (a_10+b_11)) fun value_5=>(Mo.ok (.nx value_5)))) xs_12 value_1) fun s_2=>(Mo.bind (Mo.ok s_2) fun r_13=>Mo.ok (.rt r_13))))
def zca_ (p_figures:(List Nat)):Mo Int:=fnO (zc4_ p_figures)
def zc9_ (p_card:(List Nat)) (p_field:(Int×Int)):Mo (Out Int Unit Unit) :=
 (Mo.bind (Mo.bind (Mo.bind (Mo.bind (Mo.bind (Mo.ok p_card) fun a_2=>Mo.bind (Mo.ok p_field) fun c_3=>Mo.ok (a_2,c_3)) fun c_4=>Mo.noex (zaH_ c_4.1 c_4.2)) fun a_5=>Mo.ok (a_5.map fun c=>[c])) fun xs_10=>compM (fun x_6=>cond1 (Mo.ok true) (Mo.bind (Mo.bind (Mo.ok x_6) fun a_7=>Mo.bind (Mo.ok ([48,49,50,51,52,53,54,55,56,57]:List Nat)) fun b_8=>Mo.ok (inS a_7 b_8)) fun c_9=>if c_9 then (Mo.ok x_6) else (Mo.ok ([48]:List Nat)))) xs_10 []) fun figures_1=>(Mo.bind (Mo.bind (Mo.bind (Mo.ok ([]:List Nat)) fun a_11=>Mo.bind (Mo.ok figures_1) fun b_12=>Mo.grd (JoinOk ⟨a_11.toArray⟩ (strsL b_12)=true) (Mo.ok (joinS a_11 (strsL b_12)))) fun c_13=>Mo.noex (zca_ c_13)) fun r_14=>Mo.ok (.rt r_14)))
def zbj_ (p_card:(List Nat)) (p_field:(Int×Int)):Mo Int:=fnO (zc9_ p_card p_field)
def zbq_ (p_self:Qq2) (p_card:(List Nat)):Mo (Out ((List (List Nat))×Qq2) Unit Unit) :=
 (Mo.bind (Mo.ok ([]:List (List Nat))) fun lines_1=>(thenO (S:=((List (List Nat))×Qq2)) (Mo.bind (Mo.bind (Mo.bind (Mo.ok p_self) fun a_2=>Mo.ok a_2.2.2.2.2.1) fun a_3=>Mo.bind (Mo.ok ()) fun b_4=>Mo.ok a_3.isSome) fun c_5=>if c_5 then (Mo.bind (Mo.bind (Mo.ok (p_self,fun (z:Qq2)=>z)) fun y_9=>Mo.bind (Mo.bind (Mo.ok p_self) fun o_7=>Mo.bind (Mo.ok p_card) fun c_8=>Mo.noex (zD_ o_7 c_8)) fun c_10=>Mo.bind (Mo.noex (zu_ y_9.1 c_10)) fun q_11=>Mo.ok (q_11.1,y_9.2 q_11.2)) fun q_12=>(Mo.ok (.nx (q_12.1,q_12.2)))) else (Mo.ok (.nx (lines_1,p_self)))) fun s_6=>(Mo.bind (Mo.bind (Mo.ok p_card) fun c_14=>Mo.noex (zdy_ c_14)) fun mark_13=>(Mo.bind (Mo.bind (Mo.bind (Mo.ok p_card) fun a_17=>Mo.bind (Mo.bind (Mo.ok s_6.2) fun a_16=>Mo.ok a_16.2.2.1) fun c_18=>Mo.ok (a_17,c_18)) fun c_19=>Mo.noex (zdw_ c_19.1 c_19.2)) fun laid_15=>(Mo.bind (Mo.bind (Mo.bind (Mo.ok mark_13) fun a_25=>Mo.lim a_25.length (Mo.ok a_25)) fun a_26=>Mo.grd (a_26.length≤1000) (Mo.bind (Mo.bind (Mo.ok ([32]:List Nat)) fun a_23=>Mo.grd (a_23.length≤1000) (Mo.bind (Mo.bind (Mo.bind (Mo.ok laid_15) fun a_20=>Mo.lim a_20.length (Mo.ok a_20)) fun a_21=>Mo.grd (a_21.length≤1000) (Mo.bind (Mo.ok ([]:List Nat)) fun l_22=>Mo.ok (a_21++l_22))) fun l_24=>Mo.ok (a_23++l_24))) fun l_27=>Mo.ok (a_26++l_27))) fun a_28=>Mo.lim (s_6.1.length+1) (Mo.bind (Mo.bind (Mo.ok (s_6.2,fun (z:Qq2)=>z)) fun y_39=>Mo.bind (Mo.bind (Mo.bind (Mo.bind (Mo.ok s_6.2) fun a_29=>Mo.ok a_29.1) fun c_30=>Mo.ok (c_30.length:Int)) fun a_37=>Mo.bind (Mo.bind (Mo.bind (Mo.ok s_6.2) fun a_31=>Mo.ok a_31.2.1) fun xs_36=>compM (fun x_32=>cond1 (Mo.ok true) (Mo.bind (Mo.bind (Mo.ok p_card) fun a_33=>Mo.bind (Mo.ok x_32) fun c_34=>Mo.ok (a_33,c_34)) fun c_35=>Mo.noex (zbj_ c_35.1 c_35.2))) xs_36 []) fun c_38=>Mo.ok (a_37,c_38)) fun c_40=>Mo.bind (Mo.noex (zN_ y_39.1 c_40.1 c_40.2)) fun q_41=>Mo.ok (q_41.1,y_39.2 q_41.2)) fun q_42=>(Mo.bind (Mo.bind (Mo.ok p_card) fun a_46=>Mo.ok (some a_46)) fun a_43=>Mo.bind (Mo.ok (q_42.2,fun (z:Qq2)=>z)) fun y_45=>Mo.bind (Mo.ok (y_45.2 (y_45.1.1,(y_45.1.2.1,(y_45.1.2.2.1,(y_45.1.2.2.2.1,(a_43,y_45.1.2.2.2.2.2))))))) fun x_44=>(Mo.ok (.rt ((s_6.1++[a_28]),x_44))))))))))
def zI_ (p_self:Qq2) (p_card:(List Nat)):Mo ((List (List Nat))×Qq2):=fnMR (zbq_ p_self p_card)
def zc1_ (p_found:(List (List Nat))) (p_due_here:(List (List Nat))):Mo (Out Bool Unit Unit) :=
 (thenO (S:=Unit) (Mo.bind (Mo.bind (Mo.bind (Mo.bind (Mo.ok p_found) fun a_1=>Mo.ok true) fun a_2=>Mo.ok (!a_2)) fun c_5=>if c_5 then Mo.ok true else (Mo.bind (Mo.ok p_found) fun a_3=>Mo.bind (Mo.ok p_due_here) fun b_4=>Mo.ok (!((eqL (fun a b=>decide (a=b))) a_3 b_4)))) fun c_6=>if c_6 then (Mo.bind (Mo.ok false) fun r_8=>Mo.ok (.rt r_8)) else (Mo.ok (.nx ()))) fun _=>(thenO (S:=Unit) (Mo.bind (Mo.ok p_found) fun xs_15=>forO (fun (_:Unit) x_10=>(Mo.bind (Mo.bind (Mo.bind (Mo.ok x_10) fun a_11=>Mo.ok true) fun a_12=>Mo.ok (!a_12)) fun c_13=>if c_13 then (Mo.bind (Mo.ok false) fun r_14=>Mo.ok (.rt r_14)) else (Mo.ok (.nx ())))) xs_15 ()) fun _=>(Mo.bind (Mo.ok true) fun r_16=>Mo.ok (.rt r_16))))
def zbi_ (p_found:(List (List Nat))) (p_due_here:(List (List Nat))):Mo Bool:=fnO (zc1_ p_found p_due_here)
def zd4_ (p_cell:Int) (p_k:Int) (p_kinds_here:(List Int)):Mo (Out (List Nat) Unit Unit) :=
 (Mo.bind (Mo.ok (SG:List Nat)) fun signs_1=>(Mo.bind (Mo.bind (Mo.bind (Mo.ok p_cell) fun a_3=>Mo.bind (Mo.ok (36:Int)) fun c_4=>Mo.ok (a_3,c_4)) fun c_5=>Mo.noex (zac_ c_5.1 c_5.2)) fun numbers_2=>(Mo.bind (Mo.ok ([]:List Nat)) fun text_6=>(thenO (S:=(List Nat)) (Mo.bind (Mo.bind (Mo.ok (36:Int)) fun c_8=>Mo.grd (-(2 ^ 62)≤c_8∧c_8<2 ^ 62) (Mo.ok (rngI 0 c_8.toNat))) fun xs_62=>forO (fun (s_7:(List Nat)) x_9=>(Mo.bind (Mo.bind (Mo.bind (Mo.ok numbers_2) fun a_11=>Mo.bind (Mo.ok x_9) fun b_12=>Mo.opt (atI a_11 b_12)) fun a_13=>Mo.bind (Mo.ok (7:Int)) fun b_14=>Mo.grd (CDivG a_13 b_14) (Mo.ok (a_13 / b_14))) fun step_10=>(Mo.bind (Mo.bind (Mo.bind (Mo.ok p_kinds_here) fun a_16=>Mo.bind (Mo.ok x_9) fun b_17=>Mo.opt (atI a_16 b_17)) fun a_18=>Mo.bind (Mo.ok (5:Int)) fun b_19=>Mo.grd (CDivG a_18 b_19) (Mo.ok (a_18 / b_19))) fun low_15=>(Mo.bind (Mo.bind (Mo.ok low_15) fun a_23=>Mo.bind (Mo.bind (Mo.ok step_10) fun a_21=>Mo.bind (Mo.ok (2:Int)) fun b_22=>Mo.grd (0<b_22) (Mo.ok (a_21 % b_22))) fun b_24=>Mo.ok (a_23+b_24)) fun two_20=>(Mo.bind (Mo.bind (Mo.bind (Mo.bind (Mo.ok (1:Int)) fun a_28=>Mo.bind (Mo.bind (Mo.ok low_15) fun a_26=>Mo.bind (Mo.ok (10:Int)) fun b_27=>Mo.grd (0<b_27) (Mo.ok (a_26 % b_27))) fun b_29=>Mo.ok (a_28+b_29)) fun a_48=>Mo.bind (Mo.bind (Mo.bind (Mo.ok (1:Int)) fun a_32=>Mo.bind (Mo.bind (Mo.ok step_10) fun a_30=>Mo.bind (Mo.ok (10:Int)) fun b_31=>Mo.grd (0<b_31) (Mo.ok (a_30 % b_31))) fun b_33=>Mo.ok (a_32+b_33)) fun a_46=>Mo.bind (Mo.bind (Mo.bind (Mo.ok two_20) fun a_34=>Mo.bind (Mo.ok (37:Int)) fun b_35=>Mo.grd (0<b_35) (Mo.ok (a_34 % b_35))) fun a_44=>Mo.bind (Mo.bind (Mo.bind (Mo.ok step_10) fun a_36=>Mo.bind (Mo.ok (37:Int)) fun b_37=>Mo.grd (0<b_37) (Mo.ok (a_36 % b_37))) fun a_42=>Mo.bind (Mo.bind (Mo.ok (1:Int)) fun a_40=>Mo.bind (Mo.bind (Mo.ok two_20) fun a_38=>Mo.bind (Mo.ok (10:Int)) fun b_39=>Mo.grd (0<b_39) (Mo.ok (a_38 % b_39))) fun b_41=>Mo.ok (a_40+b_41)) fun c_43=>Mo.ok (a_42,c_43)) fun c_45=>Mo.ok (a_44,c_45)) fun c_47=>Mo.ok (a_46,c_47)) fun c_49=>Mo.ok (a_48,c_49)) fun c_50=>Mo.ok [c_50.1,c_50.2.1,c_50.2.2.1,c_50.2.2.2.1,c_50.2.2.2.2]) fun some_25=>(Mo.bind (Mo.bind (Mo.ok s_7) fun a_60=>Mo.bind (Mo.bind (Mo.ok signs_1) fun a_58=>Mo.bind (Mo.bind (Mo.ok some_25) fun a_56=>Mo.bind (Mo.bind (Mo.bind (Mo.ok p_kinds_here) fun a_52=>Mo.bind (Mo.ok x_9) fun b_53=>Mo.opt (atI a_52 b_53)) fun a_54=>Mo.bind (Mo.ok (5:Int)) fun b_55=>Mo.grd (0<b_55) (Mo.ok (a_54 % b_55))) fun b_57=>Mo.opt (atI a_56 b_57)) fun b_59=>Mo.lim a_58.length (Mo.opt ((atI a_58 b_59).map fun c=>[c]))) fun b_61=>Mo.lim (a_60.length+b_61.length) (Mo.ok (a_60++b_61))) fun text_51=>(Mo.ok (.nx text_51)))))))) xs_62 text_6) fun s_7=>(Mo.bind (Mo.bind (Mo.bind (Mo.bind (Mo.ok signs_1) fun a_66=>Mo.bind (Mo.bind (Mo.ok p_cell) fun a_64=>Mo.bind (Mo.ok (37:Int)) fun b_65=>Mo.grd (0<b_65) (Mo.ok (a_64 % b_65))) fun b_67=>Mo.lim a_66.length (Mo.opt ((atI a_66 b_67).map fun c=>[c]))) fun a_72=>Mo.bind (Mo.bind (Mo.ok signs_1) fun a_70=>Mo.bind (Mo.bind (Mo.ok p_k) fun a_68=>Mo.bind (Mo.ok (37:Int)) fun b_69=>Mo.grd (0<b_69) (Mo.ok (a_68 % b_69))) fun b_71=>Mo.lim a_70.length (Mo.opt ((atI a_70 b_71).map fun c=>[c]))) fun b_73=>Mo.lim (a_72.length+b_73.length) (Mo.ok (a_72++b_73))) fun a_80=>Mo.bind (Mo.bind (Mo.ok signs_1) fun a_78=>Mo.bind (Mo.bind (Mo.bind (Mo.ok numbers_2) fun a_74=>Mo.bind (Mo.ok (0:Int)) fun b_75=>Mo.opt (atI a_74 b_75)) fun a_76=>Mo.bind (Mo.ok (37:Int)) fun b_77=>Mo.grd (0<b_77) (Mo.ok (a_76 % b_77))) fun b_79=>Mo.lim a_78.length (Mo.opt ((atI a_78 b_79).map fun c=>[c]))) fun b_81=>Mo.lim (a_80.length+b_81.length) (Mo.ok (a_80++b_81))) fun mark_63=>(Mo.bind (Mo.bind (Mo.bind (Mo.ok s_7) fun a_82=>Mo.bind (Mo.ok mark_63) fun b_83=>Mo.lim (a_82.length+b_83.length) (Mo.ok (a_82++b_83))) fun a_90=>Mo.bind (Mo.bind (Mo.ok signs_1) fun a_88=>Mo.bind (Mo.bind (Mo.bind (Mo.ok p_cell) fun a_84=>Mo.bind (Mo.ok (37:Int)) fun b_85=>Mo.grd (CDivG a_84 b_85) (Mo.ok (a_84 / b_85))) fun a_86=>Mo.bind (Mo.ok (37:Int)) fun b_87=>Mo.grd (0<b_87) (Mo.ok (a_86 % b_87))) fun b_89=>Mo.lim a_88.length (Mo.opt ((atI a_88 b_89).map fun c=>[c]))) fun b_91=>Mo.lim (a_90.length+b_91.length) (Mo.ok (a_90++b_91))) fun r_92=>Mo.ok (.rt r_92)))))))
def zcR_ (p_cell:Int) (p_k:Int) (p_kinds_here:(List Int)):Mo (List Nat):=fnO (zd4_ p_cell p_k p_kinds_here)
def zoE_ (p_script:(List Int)):Mo (Out Bool Unit Unit) :=
 (Mo.bind (Mo.bind (Mo.bind (Mo.bind (Mo.ok p_script) fun a_2=>Mo.bind (Mo.ok (0:Int)) fun c_3=>Mo.ok (a_2,c_3)) fun c_4=>Mo.noex (zK_ c_4.1 c_4.2)) fun c_5=>Mo.noex (zb5_ c_5)) fun kinds_here_1=>(Mo.bind (Mo.bind (Mo.bind (Mo.bind (Mo.ok p_script) fun a_7=>Mo.bind (Mo.ok (1:Int)) fun c_8=>Mo.ok (a_7,c_8)) fun c_9=>Mo.noex (zK_ c_9.1 c_9.2)) fun a_10=>Mo.bind (Mo.ok (4:Int)) fun b_11=>Mo.grd (0<b_11) (Mo.ok (a_10 % b_11))) fun many_6=>(Mo.bind (Mo.bind (Mo.bind (Mo.bind (Mo.ok (2:Int)) fun a_17=>Mo.bind (Mo.bind (Mo.ok (2:Int)) fun a_15=>Mo.bind (Mo.bind (Mo.ok (6:Int)) fun a_13=>Mo.bind (Mo.ok (36:Int)) fun c_14=>Mo.ok (a_13,c_14)) fun c_16=>Mo.ok (a_15,c_16)) fun c_18=>Mo.ok (a_17,c_18)) fun c_19=>Mo.ok [c_19.1,c_19.2.1,c_19.2.2.1,c_19.2.2.2]) fun a_27=>Mo.bind (Mo.bind (Mo.bind (Mo.bind (Mo.bind (Mo.ok p_script) fun a_20=>Mo.bind (Mo.ok (3:Int)) fun c_21=>Mo.ok (a_20,c_21)) fun c_22=>Mo.noex (zK_ c_22.1 c_22.2)) fun a_23=>Mo.bind (Mo.ok (3:Int)) fun b_24=>Mo.grd (CDivG a_23 b_24) (Mo.ok (a_23 / b_24))) fun a_25=>Mo.bind (Mo.ok (4:Int)) fun b_26=>Mo.grd (0<b_26) (Mo.ok (a_25 % b_26))) fun b_28=>Mo.opt (atI a_27 b_28)) fun most_12=>(Mo.bind (Mo.bind (Mo.bind (Mo.bind (Mo.bind (Mo.bind (Mo.ok p_script) fun a_30=>Mo.bind (Mo.ok (1:Int)) fun c_31=>Mo.ok (a_30,c_31)) fun c_32=>Mo.noex (zK_ c_32.1 c_32.2)) fun a_33=>Mo.bind (Mo.ok many_6) fun c_34=>Mo.ok (a_33,c_34)) fun c_35=>Mo.noex (zac_ c_35.1 c_35.2)) fun xs_40=>compM (fun x_36=>cond1 (Mo.ok true) (Mo.bind (Mo.bind (Mo.ok x_36) fun a_37=>Mo.bind (Mo.ok most_12) fun c_38=>Mo.ok (a_37,c_38)) fun c_39=>Mo.noex (zU_ c_39.1 c_39.2))) xs_40 []) fun breaks_29=>(thenO (S:=(List (Int×Int))) (Mo.bind (Mo.bind (Mo.bind (Mo.ok many_6) fun a_41=>Mo.bind (Mo.ok (1:Int)) fun b_42=>Mo.ok (decide (b_42<a_41))) fun c_52=>if c_52 then (Mo.bind (Mo.bind (Mo.bind (Mo.bind (Mo.bind (Mo.ok p_script) fun a_43=>Mo.bind (Mo.ok (1:Int)) fun c_44=>Mo.ok (a_43,c_44)) fun c_45=>Mo.noex (zK_ c_45.1 c_45.2)) fun a_46=>Mo.bind (Mo.ok (4:Int)) fun b_47=>Mo.grd (CDivG a_46 b_47) (Mo.ok (a_46 / b_47))) fun a_48=>Mo.bind (Mo.ok (9:Int)) fun b_49=>Mo.grd (0<b_49) (Mo.ok (a_48 % b_49))) fun a_50=>Mo.bind (Mo.ok (1:Int)) fun b_51=>Mo.ok (decide (a_50=b_51))) else Mo.ok false) fun c_53=>if c_53 then (Mo.bind (Mo.bind (Mo.ok breaks_29) fun a_57=>Mo.bind (Mo.ok (0:Int)) fun b_58=>Mo.opt (atI a_57 b_58)) fun a_61=>Mo.bind (Mo.bind (Mo.ok many_6) fun a_59=>Mo.bind (Mo.ok (1:Int)) fun b_60=>Mo.ok (a_59-b_60)) fun j_62=>Mo.bind (Mo.opt ((ixN (breaks_29).length j_62).map fun n=>(breaks_29).set n a_61)) fun breaks_63=>(Mo.ok (.nx breaks_63))) else (Mo.ok (.nx breaks_29))) fun s_54=>(Mo.bind (Mo.bind (Mo.bind (Mo.ok p_script) fun a_65=>Mo.bind (Mo.ok (2:Int)) fun c_66=>Mo.ok (a_65,c_66)) fun c_67=>Mo.noex (zK_ c_67.1 c_67.2)) fun cell_64=>(Mo.bind (Mo.bind (Mo.bind (Mo.bind (Mo.ok cell_64) fun a_71=>Mo.bind (Mo.bind (Mo.ok cell_64) fun a_69=>Mo.bind (Mo.ok (4:Int)) fun b_70=>Mo.grd (0<b_70) (Mo.ok (a_69 % b_70))) fun c_72=>Mo.ok (a_71,c_72)) fun c_73=>Mo.noex (zac_ c_73.1 c_73.2)) fun xs_78=>compM (fun x_74=>cond1 (Mo.ok true) (Mo.bind (Mo.bind (Mo.ok x_74) fun a_75=>Mo.bind (Mo.ok (9:Int)) fun c_76=>Mo.ok (a_75,c_76)) fun c_77=>Mo.noex (zU_ c_77.1 c_77.2))) xs_78 []) fun sums_68=>(Mo.bind (Mo.bind (Mo.bind (Mo.bind (Mo.ok p_script) fun a_80=>Mo.bind (Mo.ok (4:Int)) fun c_81=>Mo.ok (a_80,c_81)) fun c_82=>Mo.noex (zK_ c_82.1 c_82.2)) fun c_83=>Mo.noex (zb9_ c_83)) fun board_here_79=>(Mo.bind (Mo.ok ([]:List (List Nat))) fun deck_84=>(thenO (S:=(List (List Nat))) (Mo.bind (Mo.bind (Mo.bind (Mo.ok p_script) fun a_88=>Mo.bind (Mo.bind (Mo.ok (5:Int)) fun i_86=>Mo.ok (some i_86)) fun b_89=>Mo.bind (Mo.bind (Mo.ok (65:Int)) fun i_87=>Mo.ok (some i_87)) fun d_90=>Mo.ok (cutG a_88 b_89 d_90)) fun c_91=>Mo.ok (enumL c_91)) fun xs_112=>forO (fun (s_85:(List (List Nat))) x_92=>(Mo.bind (Mo.bind (Mo.bind (Mo.ok x_92.2) fun a_95=>Mo.bind (Mo.bind (Mo.ok x_92.1) fun a_93=>Mo.bind (Mo.ok kinds_here_1) fun c_94=>Mo.ok (a_93,c_94)) fun c_96=>Mo.ok (a_95,c_96)) fun c_97=>Mo.noex (zcR_ c_97.1 c_97.2.1 c_97.2.2)) fun a_98=>Mo.lim (s_85.length+1) (thenO (S:=(List (List Nat))) (Mo.bind (Mo.bind (Mo.bind (Mo.bind (Mo.bind (Mo.ok p_script) fun a_99=>Mo.bind (Mo.ok (3:Int)) fun c_100=>Mo.ok (a_99,c_100)) fun c_101=>Mo.noex (zK_ c_101.1 c_101.2)) fun a_102=>Mo.bind (Mo.ok (3:Int)) fun b_103=>Mo.grd (0<b_103) (Mo.ok (a_102 % b_103))) fun a_104=>Mo.bind (Mo.ok (1:Int)) fun b_105=>Mo.ok (decide (a_104=b_105))) fun c_106=>if c_106 then (Mo.bind (Mo.bind (Mo.ok (s_85++[a_98])) fun a_109=>Mo.bind (Mo.bind (Mo.ok (1:Int)) fun a_108=>Mo.ok (-a_108)) fun b_110=>Mo.opt (atI a_109 b_110)) fun a_111=>Mo.lim ((s_85++[a_98]).length+1) (Mo.ok (.nx ((s_85++[a_98])++[a_111])))) else (Mo.ok (.nx (s_85++[a_98])))) fun s_107=>(Mo.ok (.nx s_107))))) xs_112 deck_84) fun s_85=>(Mo.bind (Mo.bind (Mo.bind (Mo.ok s_85) fun a_129=>Mo.bind (Mo.bind (Mo.ok s_54) fun a_127=>Mo.bind (Mo.bind (Mo.ok sums_68) fun a_125=>Mo.bind (Mo.bind (Mo.ok (12:Int)) fun a_123=>Mo.bind (Mo.ok board_here_79) fun c_124=>Mo.ok (a_123,c_124)) fun c_126=>Mo.ok (a_125,c_126)) fun c_128=>Mo.ok (a_127,c_128)) fun c_130=>Mo.ok (a_129,c_130)) fun c_131=>Mo.noex (zdA_ c_131.1 c_131.2.1 c_131.2.2.1 c_131.2.2.2.1 c_131.2.2.2.2)) fun due_here_113=>(Mo.bind (Mo.bind (Mo.ok s_54) fun c_133=>Mo.ok c_133) fun handed_132=>(Mo.bind (Mo.bind (Mo.bind (Mo.ok handed_132) fun a_141=>Mo.bind (Mo.bind (Mo.bind (Mo.ok sums_68) fun c_135=>Mo.ok c_135) fun a_139=>Mo.bind (Mo.bind (Mo.ok (12:Int)) fun a_137=>Mo.bind (Mo.bind (Mo.ok board_here_79) fun c_136=>Mo.ok c_136) fun c_138=>Mo.ok (a_137,c_138)) fun c_140=>Mo.ok (a_139,c_140)) fun c_142=>Mo.ok (a_141,c_142)) fun c_143=>Mo.bind (Mo.noex (zF_ () c_143.1 c_143.2.1 c_143.2.2.1 c_143.2.2.2)) fun q_144=>Mo.ok q_144.2) fun counter_134=>(Mo.bind (Mo.bind (Mo.bind (Mo.bind (Mo.ok s_54) fun c_146=>Mo.ok c_146) fun a_151=>Mo.bind (Mo.bind (Mo.ok ([]:List (Int×Int))) fun a_149=>Mo.bind (Mo.bind (Mo.ok (1:Int)) fun a_147=>Mo.bind (Mo.ok ([]:List (Int×Int))) fun c_148=>Mo.ok (a_147,c_148)) fun c_150=>Mo.ok (a_149,c_150)) fun c_152=>Mo.ok (a_151,c_152)) fun c_153=>Mo.bind (Mo.noex (zF_ () c_153.1 c_153.2.1 c_153.2.2.1 c_153.2.2.2)) fun q_154=>Mo.ok q_154.2) fun beside_145=>(Mo.bind (Mo.ok ([]:List (List (List Nat)))) fun told_155=>(thenO (S:=((List (List (List Nat)))×(Qq2×Qq2))) (Mo.bind (Mo.bind (Mo.bind (Mo.ok s_85) fun c_157=>Mo.ok (c_157.length:Int)) fun c_158=>Mo.grd (-(2 ^ 62)≤c_158∧c_158<2 ^ 62) (Mo.ok (rngI 0 c_158.toNat))) fun xs_190=>forO (fun (s_156:((List (List (List Nat)))×(Qq2×Qq2))) x_159=>(Mo.bind (Mo.bind (Mo.ok (s_156.2.1,fun (z:Qq2)=>z)) fun y_162=>Mo.bind (Mo.bind (Mo.ok s_85) fun a_160=>Mo.bind (Mo.ok x_159) fun b_161=>Mo.opt (atI a_160 b_161)) fun c_163=>Mo.bind (Mo.noex (zI_ y_162.1 c_163)) fun q_164=>Mo.ok (q_164.1,y_162.2 q_164.2)) fun q_165=>Mo.lim (s_156.1.length+1) (Mo.bind (Mo.bind (Mo.bind (Mo.bind (Mo.bind (Mo.ok (s_156.1++[q_165.1])) fun a_169=>Mo.bind (Mo.ok x_159) fun b_170=>Mo.opt (atI a_169 b_170)) fun a_173=>Mo.bind (Mo.bind (Mo.ok due_here_113) fun a_171=>Mo.bind (Mo.ok x_159) fun b_172=>Mo.opt (atI a_171 b_172)) fun c_174=>Mo.ok (a_173,c_174)) fun c_175=>Mo.noex (zbi_ c_175.1 c_175.2)) fun a_176=>Mo.ok (!a_176)) fun c_166=>if c_166 then (Mo.bind (Mo.ok false) fun r_177=>Mo.ok (.rt r_177)) else (Mo.bind (Mo.bind (Mo.ok (s_156.2.2,fun (z:Qq2)=>z)) fun y_180=>Mo.bind (Mo.bind (Mo.ok s_85) fun a_178=>Mo.bind (Mo.ok x_159) fun b_179=>Mo.opt (atI a_178 b_179)) fun c_181=>Mo.bind (Mo.noex (zI_ y_180.1 c_181)) fun q_182=>Mo.ok (q_182.1,y_180.2 q_182.2)) fun q_167=>Mo.bind (Mo.bind (Mo.bind (Mo.ok q_167.1) fun c_183=>Mo.ok (c_183.length:Int)) fun a_187=>Mo.bind (Mo.bind (Mo.bind (Mo.ok due_here_113) fun a_184=>Mo.bind (Mo.ok x_159) fun b_185=>Mo.opt (atI a_184 b_185)) fun c_186=>Mo.ok (c_186.length:Int)) fun b_188=>Mo.ok (!decide (a_187=b_188))) fun b_168=>if b_168 then (Mo.bind (Mo.ok false) fun r_189=>Mo.ok (.rt r_189)) else (Mo.ok (.nx ((s_156.1++[q_165.1]),q_165.2,q_167.2))))))) xs_190 (told_155,counter_134,beside_145)) fun s_156=>(Mo.bind (Mo.bind (Mo.ok (s_156.2.1,fun (z:Qq2)=>z)) fun y_191=>Mo.bind (Mo.ok ()) fun c_192=>Mo.bind (Mo.noex (zC_ y_191.1)) fun q_193=>Mo.ok (q_193.1,y_191.2 q_193.2)) fun q_194=>Mo.lim (s_156.1.length+1) (Mo.bind (Mo.bind (Mo.bind (Mo.bind (Mo.ok (s_156.1++[q_194.1])) fun a_196=>Mo.bind (Mo.bind (Mo.ok (1:Int)) fun a_195=>Mo.ok (-a_195)) fun b_197=>Mo.opt (atI a_196 b_197)) fun a_201=>Mo.bind (Mo.bind (Mo.ok due_here_113) fun a_199=>Mo.bind (Mo.bind (Mo.ok (1:Int)) fun a_198=>Mo.ok (-a_198)) fun b_200=>Mo.opt (atI a_199 b_200)) fun c_202=>Mo.ok (a_201,c_202)) fun c_203=>Mo.noex (zbi_ c_203.1 c_203.2)) fun c_219=>if c_219 then (Mo.bind (Mo.bind (Mo.ok (s_156.2.2,fun (z:Qq2)=>z)) fun y_204=>Mo.bind (Mo.ok ()) fun c_205=>Mo.bind (Mo.noex (zC_ y_204.1)) fun q_206=>Mo.ok (q_206.1,y_204.2 q_206.2)) fun q_207=>Mo.bind (Mo.bind (Mo.bind (Mo.bind (Mo.ok q_207.1) fun c_208=>Mo.ok (c_208.length:Int)) fun a_213=>Mo.bind (Mo.bind (Mo.bind (Mo.ok due_here_113) fun a_210=>Mo.bind (Mo.bind (Mo.ok (1:Int)) fun a_209=>Mo.ok (-a_209)) fun b_211=>Mo.opt (atI a_210 b_211)) fun c_212=>Mo.ok (c_212.length:Int)) fun b_214=>Mo.ok (decide (a_213=b_214))) fun c_217=>if c_217 then (Mo.bind (Mo.ok (s_156.1++[q_194.1])) fun a_215=>Mo.bind (Mo.ok due_here_113) fun b_216=>Mo.ok (((eqL (eqL (fun a b=>decide (a=b)))) a_215 b_216))) else Mo.ok false) fun r_218=>Mo.ok (.rt r_218)) else (Mo.ok (.rt false))))))))))))))))))))
def f_law (p_script:(List Int)):Mo Bool:=fnO (zoE_ p_script)
end K34
namespace K34
open PySem PySem.Spec PyProof.Rows L2
def top (i:Nat):Stmt:=PySem.Challenge.pw_cardshop_k34_totals_at_breaks.main.body.getD i (.Pass ⟨0,0,0,0⟩)
abbrev zlU_:Stmt:=top 7
abbrev zdF_:Stmt:=inClass (top 15) 0
abbrev zda_:Stmt:=inClass (top 17) 0
abbrev zgg_:Stmt:=top 20
abbrev zhG_:Stmt:=top 21
abbrev zfv_:Stmt:=top 19
abbrev zhf_:Stmt:=top 24
abbrev zjb_:Stmt:=top 29
abbrev zf8_:Stmt:=top 30
abbrev zhp_:Stmt:=top 27
abbrev zgn_:Stmt:=top 26
abbrev zhC_:Stmt:=top 28
abbrev zfA_:Stmt:=top 31
abbrev zd9_:Stmt:=top 25
abbrev zjX_:Stmt:=top 32
abbrev zfk_:Stmt:=inClass (top 15) 5
abbrev zjR_:Stmt:=top 12
abbrev zcw_:Stmt:=inClass (top 17) 7
abbrev zfH_:Stmt:=inClass (top 15) 1
abbrev zdX_:Stmt:=inClass (top 15) 3
abbrev zcg_:Stmt:=inClass (top 17) 8
abbrev zeW_:Stmt:=inClass (top 15) 4
abbrev zeJ_:Stmt:=inClass (top 15) 2
abbrev zcf_:Stmt:=inClass (top 17) 6
abbrev zb0_:Stmt:=inClass (top 17) 5
abbrev zd6_:Stmt:=inClass (top 17) 2
abbrev zhh_:Stmt:=top 23
abbrev zjY_:Stmt:=top 3
abbrev zj5_:Stmt:=top 4
abbrev zjS_:Stmt:=top 10
abbrev zbC_:Stmt:=inClass (top 17) 4
abbrev zhj_:Stmt:=top 8
abbrev zhA_:Stmt:=top 13
abbrev zeD_:Stmt:=inClass (top 17) 1
abbrev zht_:Stmt:=top 33
abbrev zhV_:Stmt:=top 22
abbrev zoz_:Stmt:=top 34
def zgW_ (K:Fgg):Sp:=Ct K (csLast tyInt) (fun c=>zeN_ c) (owF tyInt)
def zbz_ (K:Fgg):Sp:=CtM K (owI (gA K "Wheel") [] psNil) (Qq3 K) (csLast tyInt) (fun x c=>zL_ x c) (owF tyNon)
def zav_ (K:Fgg):Sp:=CtM K (owI (gA K "Counter") [] psNil) (Qq0 K) (csCons (tyL Qq1) (csCons (tyL Qq1) (csCons tyInt (csLast (tyL Qq1))))) (fun x c=>zF_ x c.1 c.2.1 c.2.2.1 c.2.2.2) (owF tyNon)
def zau_ (K:Fgg):Sp:=Ct K (csCons tyInt (csLast tyInt)) (fun c=>zac_ c.1 c.2) (owL tyInt)
def zdK_ (K:Fgg):Sp:=Ct K (csLast tyInt) (fun c=>zb5_ c) (owL tyInt)
def zO_ (K:Fgg):Sp:=Ct K (csCons (tySc K) (csLast tyInt)) (fun c=>zK_ c.1 c.2) (owF tyInt)
def zdO_ (K:Fgg):Sp:=Ct K (csLast tyInt) (fun c=>zb9_ c) (owL Qq1)
def zc8_ (K:Fgg):Sp:=Ct K (csCons tyStr (csLast Qq1)) (fun c=>zb1_ c.1 c.2) (owF tyStr)
def zdp_ (K:Fgg):Sp:=Ct K (csCons tyStr (csCons tyStr (csLast (tyL Qq1)))) (fun c=>zbx_ c.1 c.2.1 c.2.2) (owF tyInt)
def zd5_ (K:Fgg):Sp:=Ct K (csCons tyInt (csLast tyInt)) (fun c=>zaX_ c.1 c.2) (owF tyStr)
def zdg_ (K:Fgg):Sp:=Ct K (csCons tyStr (csLast Qq1)) (fun c=>zbv_ c.1 c.2) (owF tyInt)
def zcl_ (K:Fgg):Sp:=Ct K (csCons tyInt (csCons (tyL tyStr) (csCons (tyL Qq1) (csCons (tyL Qq1) (csLast tyInt))))) (fun c=>zaW_ c.1 c.2.1 c.2.2.1 c.2.2.2.1 c.2.2.2.2) (owF tyStr)
def zbH_ (K:Fgg):Sp:=CtMk K 3 (owL tyInt) (owL tyInt) (csCons (tyL tyStr) (csCons tyInt (csCons tyInt (csCons (tyL Qq1) (csCons (tyL Qq1) (csLast tyInt)))))) (fun x c=>zas_ c.1 c.2.1 c.2.2.1 x c.2.2.2.1 c.2.2.2.2.1 c.2.2.2.2.2) (owL tyStr)
def zbR_ (K:Fgg):Sp:=Ct K (csCons tyStr (csLast (tyL Qq1))) (fun c=>zao_ c.1 c.2) (owF tyStr)
def zfp_ (K:Fgg):Sp:=Ct K (csCons (tyL tyStr) (csCons (tyL Qq1) (csCons (tyL Qq1) (csCons tyInt (csLast (tyL Qq1)))))) (fun c=>zdA_ c.1 c.2.1 c.2.2.1 c.2.2.2.1 c.2.2.2.2) (owL (tyL tyStr))
def zcT_ (K:Fgg):Sp:=Ct K (csLast (Qq7 K)) (fun c=>zW_ c) (owF tyStr)
def zbQ_ (K:Fgg):Sp:=Ct K (csCons tyStr (csLast Qq1)) (fun c=>zaH_ c.1 c.2) (owF tyStr)
def zaS_ (K:Fgg):Sp:=Ct K (csCons (Qq4 K) (csLast tyInt)) (fun c=>zA_ c.1 c.2) (owF tyStr)
def zdr_ (K:Fgg):Sp:=CtM K (Qq3 K) (Qq3 K) (csLast tyInt) (fun x c=>zbs_ x c) (owF tyNon)
def zbA_ (K:Fgg):Sp:=Ct K (csLast (Qq7 K)) (fun c=>za3_ c) (owF tyBl)
def zaa_ (K:Fgg):Sp:=CtM K (Qq0 K) (Qq0 K) (csCons tyInt (csLast (tyL tyInt))) (fun x c=>zN_ x c.1 c.2) (owF tyNon)
def zcV_ (K:Fgg):Sp:=CtM K (Qq3 K) (Qq3 K) csNil (fun x c=>zX_ x) (owF tyNon)
def zcj_ (K:Fgg):Sp:=Ct K (csLast (Qq7 K)) (fun c=>zaV_ c) (owF tyInt)
def zab_ (K:Fgg):Sp:=CtM K (Qq0 K) (Qq0 K) (csLast tyInt) (fun x c=>zz_ x c) (owF tyStr)
def z4_ (K:Fgg):Sp:=CtM K (Qq0 K) (Qq0 K) (csLast tyInt) (fun x c=>zu_ x c) (owL tyStr)
def zaq_ (K:Fgg):Sp:=CtM K (Qq0 K) (Qq0 K) csNil (fun x c=>zC_ x) (owL tyStr)
def zcu_ (K:Fgg):Sp:=Ct K (csCons tyInt (csLast tyInt)) (fun c=>zU_ c.1 c.2) (owF Qq1)
def ze9_ (K:Fgg):Sp:=Ct K (csLast tyStr) (fun c=>zdy_ c) (owF tyStr)
def zfh_ (K:Fgg):Sp:=Ct K (csCons tyStr (csLast tyInt)) (fun c=>zdz_ c.1 c.2) (owF tyStr)
def zfr_ (K:Fgg):Sp:=Ct K (csCons tyStr (csLast (tyL Qq1))) (fun c=>zdw_ c.1 c.2) (owF tyStr)
def zaw_ (K:Fgg):Sp:=Ct K (csCons (Qq4 K) (csLast tyStr)) (fun c=>zD_ c.1 c.2) (owF tyInt)
def zdQ_ (K:Fgg):Sp:=Ct K (csLast tyStr) (fun c=>zca_ c) (owF tyInt)
def zdG_ (K:Fgg):Sp:=Ct K (csCons tyStr (csLast Qq1)) (fun c=>zbj_ c.1 c.2) (owF tyInt)
def zaF_ (K:Fgg):Sp:=CtM K (Qq0 K) (Qq0 K) (csLast tyStr) (fun x c=>zI_ x c) (owL tyStr)
def zcy_ (K:Fgg):Sp:=Ct K (csCons (tyL tyStr) (csLast (tyL tyStr))) (fun c=>zbi_ c.1 c.2) (owF tyBl)
def zei_ (K:Fgg):Sp:=Ct K (csCons tyInt (csCons tyInt (csLast (tyL tyInt)))) (fun c=>zcR_ c.1 c.2.1 c.2.2) (owF tyStr)
def zlj_ (K:Fgg):TS:=(tSeq (tAsg (tC (.int 1)) (gName 1)) (tSeq (tFor (mRng1 (tCons (mVar 0) tNil)) (gName 2) (tAsg (tOp mMulX (mVar 1) (tC (.int 10))) (gName 1))) (tRet (mVar 1))))
def zdL_ (K:Fgg):TS:=(tSeq (mSFld (gA K "Wheel") (mVar 0) (mVar 1) "figures") (tSeq (mSFld (gA K "Wheel") (mVar 0) (tCall (zgW_ K) [] E0 (tCons (mVar 1) tNil)) "power") (tSeq (mSFld (gA K "Wheel") (mVar 0) (tC (.int 0)) "kept") (mSFld (gA K "Wheel") (mVar 0) (tC (.bl false)) "over"))))
def zc7_ (K:Fgg):TS:=(tSeq (mSFld (gA K "Counter") (mVar 0) (tCB (mListL K) (tCons (mVar 1) tNil)) "breaks") (tSeq (mSFld (gA K "Counter") (mVar 0) (tCB (mListL K) (tCons (mVar 2) tNil)) "sums") (tSeq (mSFld (gA K "Counter") (mVar 0) (tCB (mListL K) (tCons (mVar 4) tNil)) "board") (tSeq (mSFld (gA K "Counter") (mVar 0) (tComp ["level"] [("figures",3),("sums",2)] (mRng1 (tCons (tOp mAdd (tCB (mLen K) (tCons (mVar 1) tNil)) (tC (.int 1))) tNil)) (gName 0) tTrue (tComp ["field"] [("figures",1)] (iAny K (mVar 2)) (gName 0) tTrue (tMake (gA K "Wheel") (zbz_ K) [] E0 (tCons (mVar 1) tNil)))) "levels") (tSeq (mSFld (gA K "Counter") (mVar 0) (tC .non) "before") (mSFld (gA K "Counter") (mVar 0) tDNewK "run_over"))))))
def zf3_ (K:Fgg):TS:=(tSeq (tAsg (tLst tNil) (gName 2)) (tSeq (tAsg (tOp mAdd (tOp mMod (mVar 0) (tC (.int 2147483647))) (tC (.int 48271))) (gName 3)) (tSeq (tFor (mRng1 (tCons (mVar 1) tNil)) (gName 4) (tSeq (tAsg (tOp mMod (tOp mAdd (tOp mAdd (tOp mMulX (mVar 3) (mVar 3)) (tOp mMulX (tC (.int 48271)) (mVar 3))) (mVar 4)) (tC (.int 2147483647))) (gName 3)) (tDrop (tBM K "list" rAppend (mVar 2) (tCons (mVar 3) tNil))))) (tRet (mVar 2)))))
def zhg_ (K:Fgg):TS:=(tRet (tComp ["_law_number_here"] [] (iAny K (tCall (zau_ K) [] E0 (tCons (mVar 0) (tCons (tC (.int 36)) tNil)))) (gName 0) tTrue (tOp mDivG (mVar 0) (tC (.int 11)))))
def zfg_ (K:Fgg):TS:=(tSeq (mIfS (mTest (tOp mLt (mVar 1) (tCB (mLen K) (tCons (mVar 0) tNil)))) (tRet (tOp (mIx K) (mVar 0) (mVar 1))) tNext) (tRet (tC (.int 0))))
def zhF_ (K:Fgg):TS:=(tSeq (tAsg (tLst tNil) (gName 1)) (tSeq (tAsg (tCall (zau_ K) [] E0 (tCons (mVar 0) (tCons (tC (.int 36)) tNil))) (gName 2)) (tSeq (tFor (mRng2 (tCons (tC (.int 1)) (tCons (tC (.int 37)) tNil))) (gName 3) (mIfS (mTest (tOp mLt (tOp mMod (tOp mDivG (tOp (mIx K) (mVar 2) (tOp mSub (mVar 3) (tC (.int 1)))) (tC (.int 3))) (tC (.int 4))) (tOp mMod (mVar 0) (tC (.int 5))))) (tDrop (tBM K "list" rAppend (mVar 1) (tCons (tTup (tCons (tOp mAdd (tC (.int 1)) (tOp mMod (tOp mDivG (tOp (mIx K) (mVar 2) (tOp mSub (mVar 3) (tC (.int 1)))) (tC (.int 12))) (tC (.int 40)))) (tCons (mVar 3) tNil))) tNil))) tNext)) (tRet (mVar 1)))))
def ziN_ (K:Fgg):TS:=(tRet (tSl (mSl K) (mVar 0) (mPart (tOp mSub (tOp (mIx K) (mVar 1) (tC (.int 0))) (tC (.int 1)))) (mPart (tOp (mIx K) (mVar 1) (tC (.int 1))))))
def zfM_ (K:Fgg):TS:=(tSeq (tFor (mRng1 (tCons (tCB (mLen K) (tCons (mVar 2) tNil)) tNil)) (gName 3) (mIfS (mTest (tOp (mNeK K) (tCall (zc8_ K) [] E0 (tCons (mVar 0) (tCons (tOp (mIx K) (mVar 2) (mVar 3)) tNil))) (tCall (zc8_ K) [] E0 (tCons (mVar 1) (tCons (tOp (mIx K) (mVar 2) (mVar 3)) tNil))))) (tRet (tOp mAdd (mVar 3) (tC (.int 1)))) tNext)) (tRet (tOp mAdd (tCB (mLen K) (tCons (mVar 2) tNil)) (tC (.int 1)))))
def zha_ (K:Fgg):TS:=(tSeq (tAsg (tC (tx [])) (gName 2)) (tSeq (tFor (mRng1 (tCons (mVar 1) tNil)) (gName 3) (tSeq (tAsg (tOp mAdd (tOp (mIx K) (tC (tx [48,49,50,51,52,53,54,55,56,57])) (tOp mMod (mVar 0) (tC (.int 10)))) (mVar 2)) (gName 2)) (tAsg (tOp mDivG (mVar 0) (tC (.int 10))) (gName 0)))) (tRet (mVar 2))))
def zgl_ (K:Fgg):TS:=(tSeq (tAsg (tC (.int 0)) (gName 2)) (tSeq (tFor (iAny K (tSl (mSl K) (mVar 0) (mPart (tOp mSub (tOp (mIx K) (mVar 1) (tC (.int 0))) (tC (.int 1)))) (mPart (tOp (mIx K) (mVar 1) (tC (.int 1)))))) (gName 3) (tAsg (tOp mAdd (tOp mMulX (tC (.int 10)) (mVar 2)) (tCB (mTwo max) (tCons (tC (.int 0)) (tCons (tBM K "str" mFind (tC (tx [48,49,50,51,52,53,54,55,56,57])) (tCons (mVar 3) tNil)) tNil)))) (gName 2))) (tRet (mVar 2))))
def zhu_ (K:Fgg):TS:=(tSeq (tAsg (tOp mMulX (tC (tx [42])) (tOp mSub (tOp mAdd (tCB (mLen K) (tCons (mVar 2) tNil)) (tC (.int 1))) (mVar 0))) (gName 5)) (tSeq (tFor (iAny K (tSl (mSl K) (mVar 2) tNoPart (mPart (mVar 0)))) (gName 6) (tAsg (tOp mAdd (tOp mAdd (mVar 5) (tC (tx [32]))) (tSl (mSl K) (tOp (mIx K) (mVar 1) (mNeg (tC (.int 1)))) (mPart (tOp mSub (tOp (mIx K) (mVar 6) (tC (.int 0))) (tC (.int 1)))) (mPart (tOp (mIx K) (mVar 6) (tC (.int 1)))))) (gName 5))) (tSeq (tFor (iAny K (mVar 3)) (gName 6) (tSeq (tAsg (tC (.int 0)) (gName 7)) (tSeq (tFor (iAny K (mVar 1)) (gName 8) (tAsg (tOp mAdd (mVar 7) (tCall (zdg_ K) [] E0 (tCons (mVar 8) (tCons (mVar 6) tNil)))) (gName 7))) (tAsg (tOp mAdd (tOp mAdd (mVar 5) (tC (tx [32]))) (tCall (zd5_ K) [] E0 (tCons (mVar 7) (tCons (mVar 4) tNil)))) (gName 5))))) (tRet (mVar 5)))))
def zgk_ (K:Fgg):TS:=(tSeq (tAsg (tLst tNil) (gName 7)) (tSeq (tFor (mRng3 (tCons (tCB (mLen K) (tCons (mVar 4) tNil)) (tCons (tOp mSub (mVar 2) (tC (.int 1))) (tCons (mNeg (tC (.int 1))) tNil)))) (gName 8) (tSeq (tDrop (tBM K "list" rAppend (mVar 7) (tCons (tCall (zcl_ K) [] E0 (tCons (mVar 8) (tCons (tSl (mSl K) (mVar 0) (mPart (tOp (mIx K) (mVar 3) (mVar 8))) (mPart (mVar 1))) (tCons (mVar 4) (tCons (mVar 5) (tCons (mVar 6) tNil)))))) tNil))) (tAsg (mVar 1) (gSub (mVar 3) (mVar 8) mSet)))) (tRet (mVar 7))))
def zee_ (K:Fgg):TS:=(tSeq (tAsg tDNewK (gName 2)) (tSeq (tFor (iAny K (mVar 1)) (gTupM K 2 (gConsM (gName 3) (gConsM (gName 4) gNilM))) (mDPut (mVar 2) (mVar 4) (tOp (mIx K) (mVar 0) (tOp mSub (mVar 3) (tC (.int 1)))))) (tSeq (tAsg (tOp mAdd (tSl (mSl K) (mVar 0) (mPart (tC (.int 36))) tNoPart) (tC (tx [32]))) (gName 5)) (tSeq (tFor (mRng2 (tCons (tC (.int 1)) (tCons (tC (.int 37)) tNil))) (gName 6) (tAsg (tOp mAdd (mVar 5) (mDGet2 (mVar 2) (mVar 6) (tC (tx [32])))) (gName 5))) (tRet (mVar 5))))))
def zjs_ (K:Fgg):TS:=(tSeq (tAsg (tOp mMulX (tLst (tCons (tC (.int 0)) tNil)) (tOp mAdd (tCB (mLen K) (tCons (mVar 1) tNil)) (tC (.int 1)))) (gName 5)) (tSeq (tAsg (tLst tNil) (gName 6)) (tSeq (tFor (mRng1 (tCons (tCB (mLen K) (tCons (mVar 0) tNil)) tNil)) (gName 7) (tSeq (tAsg (tLst tNil) (gName 8)) (tSeq (mIfS (mTest (tOp mGt (mVar 7) (tC (.int 0)))) (tSeq (tAsg (tCall (zdp_ K) [] E0 (tCons (tOp (mIx K) (mVar 0) (tOp mSub (mVar 7) (tC (.int 1)))) (tCons (tOp (mIx K) (mVar 0) (mVar 7)) (tCons (mVar 1) tNil)))) (gName 9)) (tAsg (tCall (zbH_ K) [] E0 (tCons (mVar 0) (tCons (mVar 7) (tCons (mVar 9) (tCons (mVar 5) (tCons (mVar 1) (tCons (mVar 2) (tCons (mVar 3) tNil)))))))) (gName 8))) tNext) (tDrop (tBM K "list" rAppend (mVar 6) (tCons (tOp mAdd (mVar 8) (tLst (tCons (tCall (zbR_ K) [] E0 (tCons (tOp (mIx K) (mVar 0) (mVar 7)) (tCons (mVar 4) tNil))) tNil))) tNil)))))) (tSeq (mIfS (mTest (tOp (mEqK K) (mVar 0) (tLst tNil))) (tRet (tLst (tCons (tLst (tCons (tCall (zcl_ K) [] E0 (tCons (tC (.int 0)) (tCons (tLst tNil) (tCons (mVar 1) (tCons (mVar 2) (tCons (mVar 3) tNil)))))) tNil)) tNil))) tNext) (tRet (tOp mAdd (mVar 6) (tLst (tCons (tCall (zbH_ K) [] E0 (tCons (mVar 0) (tCons (tCB (mLen K) (tCons (mVar 0) tNil)) (tCons (tC (.int 0)) (tCons (mVar 5) (tCons (mVar 1) (tCons (mVar 2) (tCons (mVar 3) tNil)))))))) tNil))))))))
def zfo_ (K:Fgg):TS:=(tRet (tBM K "str" mZfill (tCB (mStr) (tCons (mFld (gA K "Wheel") (mVar 0) "kept") tNil)) (tCons (mFld (gA K "Wheel") (mVar 0) "figures") tNil)))
def zjU_ (K:Fgg):TS:=(tRet (tSl (mSl K) (mVar 0) (mPart (tOp mSub (tOp (mIx K) (mVar 1) (tC (.int 0))) (tC (.int 1)))) (mPart (tOp (mIx K) (mVar 1) (tC (.int 1))))))
def zct_ (K:Fgg):TS:=(tSeq (tAsg (tLst (tCons (tOp mMulX (tC (tx [42])) (tOp mSub (tOp mAdd (tC (.int 1)) (tCB (mLen K) (tCons (mFld (gA K "Counter") (mVar 0) "breaks") tNil))) (mVar 1))) tNil)) (gName 2)) (tSeq (tDrop (tBM K "list" rExtend (mVar 2) (tCons (tComp ["field"] [("self",0)] (iAny K (tSl (mSl K) (mFld (gA K "Counter") (mVar 0) "breaks") tNoPart (mPart (mVar 1)))) (gName 0) tTrue (tCall (zbQ_ K) [] E0 (tCons (mFld (gA K "Counter") (mVar 1) "before") (tCons (mVar 0) tNil)))) tNil))) (tSeq (tDrop (tBM K "list" rExtend (mVar 2) (tCons (tComp ["wheel"] [] (iAny K (tOp (mIx K) (mFld (gA K "Counter") (mVar 0) "levels") (mVar 1))) (gName 0) tTrue (tMeth (gA K "Wheel") "shown" (zcT_ K) [] E0 (mVar 0) tNil)) tNil))) (tRet (tBM K "str" (mJoin K) (tC (tx [32])) (tCons (mVar 2) tNil))))))
def zga_ (K:Fgg):TS:=(tSeq (tAsg (tOp mAdd (mFld (gA K "Wheel") (mVar 0) "kept") (mVar 1)) (gName 2)) (tSeq (mIfS (mTest (tOp mGe (mVar 2) (mFld (gA K "Wheel") (mVar 0) "power"))) (mSFld (gA K "Wheel") (mVar 0) (tC (.bl true)) "over") tNext) (mSFld (gA K "Wheel") (mVar 0) (tOp mMod (mVar 2) (mFld (gA K "Wheel") (mVar 0) "power")) "kept")))
def zdM_ (K:Fgg):TS:=(tRet (mFld (gA K "Wheel") (mVar 0) "over"))
def zce_ (K:Fgg):TS:=(tFor (iEnumL K (tCons (mVar 2) tNil)) (gTupM K 2 (gConsM (gName 3) (gConsM (gName 4) gNilM))) (tSeq (tAsg (tOp (mIx K) (tOp (mIx K) (mFld (gA K "Counter") (mVar 0) "levels") (mVar 1)) (mVar 3)) (gName 5)) (tSeq (tDrop (tMeth (gA K "Wheel") "rise" (zdr_ K) [] E0 (mVar 5) (tCons (mVar 4) tNil))) (mIfS (mTest (tMeth (gA K "Wheel") "ran_over" (zbA_ K) [] E0 (mVar 5) tNil)) (mDPut (mFld (gA K "Counter") (mVar 0) "run_over") (mVar 3) (tC (.bl true))) tNext))))
def ze0_ (K:Fgg):TS:=(tSeq (mSFld (gA K "Wheel") (mVar 0) (tC (.int 0)) "kept") (mSFld (gA K "Wheel") (mVar 0) (tC (.bl false)) "over"))
def zez_ (K:Fgg):TS:=(tRet (mFld (gA K "Wheel") (mVar 0) "kept"))
def zcc_ (K:Fgg):TS:=(tSeq (tAsg (tMeth (gA K "Counter") "total_line" (zaS_ K) [] E0 (mVar 0) (tCons (mVar 1) tNil)) (gName 2)) (tSeq (mIfS (mTest (tOp mGt (mVar 1) (tC (.int 0)))) (tDrop (tMeth (gA K "Counter") "raise_level" (zaa_ K) [] E0 (mVar 0) (tCons (tOp mSub (mVar 1) (tC (.int 1))) (tCons (tComp ["wheel"] [] (iAny K (tOp (mIx K) (mFld (gA K "Counter") (mVar 0) "levels") (mVar 1))) (gName 0) tTrue (tMeth (gA K "Wheel") "amount" (zcj_ K) [] E0 (mVar 0) tNil)) tNil)))) tNext) (tSeq (tFor (iAny K (tOp (mIx K) (mFld (gA K "Counter") (mVar 0) "levels") (mVar 1))) (gName 3) (tDrop (tMeth (gA K "Wheel") "reset" (zcV_ K) [] E0 (mVar 3) tNil))) (tRet (mVar 2)))))
def zbZ_ (K:Fgg):TS:=(tSeq (tAsg (tLst tNil) (gName 2)) (tSeq (tFor (mRng3 (tCons (tCB (mLen K) (tCons (mFld (gA K "Counter") (mVar 0) "breaks") tNil)) (tCons (tOp mSub (mVar 1) (tC (.int 1))) (tCons (mNeg (tC (.int 1))) tNil)))) (gName 3) (tDrop (tBM K "list" rAppend (mVar 2) (tCons (tMeth (gA K "Counter") "close_level" (zab_ K) [] E0 (mVar 0) (tCons (mVar 3) tNil)) tNil)))) (tRet (mVar 2))))
def zdE_ (K:Fgg):TS:=(tSeq (mIfS (mTest (tOp mIs (mFld (gA K "Counter") (mVar 0) "before") (tC .non))) (tRet (tLst (tCons (tMeth (gA K "Counter") "close_level" (zab_ K) [] E0 (mVar 0) (tCons (tC (.int 0)) tNil)) tNil))) tNext) (tRet (tMeth (gA K "Counter") "close_levels" (z4_ K) [] E0 (mVar 0) (tCons (tC (.int 0)) tNil))))
def zhd_ (K:Fgg):TS:=(tSeq (tAsg (tOp mAdd (tC (.int 1)) (tOp mMod (tOp mDivG (mVar 0) (tC (.int 5))) (tC (.int 36)))) (gName 2)) (tRet (tTup (tCons (mVar 2) (tCons (tCB (mTwo min) (tCons (tC (.int 36)) (tCons (tOp mAdd (mVar 2) (tOp mMod (tOp mDivG (mVar 0) (tC (.int 180))) (mVar 1))) tNil))) tNil)))))
def zj1_ (K:Fgg):TS:=(tRet (tSl (mSl K) (mVar 0) (mPart (tC (.int 36))) tNoPart))
def zj8_ (K:Fgg):TS:=(tRet (tOp (mIx K) (mVar 0) (tOp mSub (mVar 1) (tC (.int 1)))))
def zjE_ (K:Fgg):TS:=(tSeq (tAsg (tComp ["column"] [] (mRng1 (tCons (tC (.int 36)) tNil)) (gName 0) tTrue (tC (tx [32]))) (gName 2)) (tSeq (tFor (iAny K (mVar 1)) (gName 3) (tAsg (tCall (zfh_ K) [] E0 (tCons (mVar 0) (tCons (tOp (mIx K) (mVar 3) (tC (.int 0))) tNil))) (gSub (mVar 2) (tOp mSub (tOp (mIx K) (mVar 3) (tC (.int 1))) (tC (.int 1))) mSet))) (tRet (tBM K "str" (mJoin K) (tC (tx [])) (tCons (mVar 2) tNil)))))
def zbD_ (K:Fgg):TS:=(tSeq (tFor (iEnumL K (tCons (mFld (gA K "Counter") (mVar 0) "breaks") tNil)) (gTupM K 2 (gConsM (gName 2) (gConsM (gName 3) gNilM))) (mIfS (mTest (tOp (mNeK K) (tCall (zbQ_ K) [] E0 (tCons (mVar 1) (tCons (mVar 3) tNil))) (tCall (zbQ_ K) [] E0 (tCons (mFld (gA K "Counter") (mVar 0) "before") (tCons (mVar 3) tNil))))) (tRet (tOp mAdd (mVar 2) (tC (.int 1)))) tNext)) (tRet (tOp mAdd (tCB (mLen K) (tCons (mFld (gA K "Counter") (mVar 0) "breaks") tNil)) (tC (.int 1)))))
def zhs_ (K:Fgg):TS:=(tSeq (tAsg (tC (.int 0)) (gName 1)) (tSeq (tFor (iAny K (mVar 0)) (gName 2) (tAsg (tOp mAdd (tOp mMulX (mVar 1) (tC (.int 10))) (tBM K "str" mIndex (tC (tx [48,49,50,51,52,53,54,55,56,57])) (tCons (mVar 2) tNil))) (gName 1))) (tRet (mVar 1))))
def zhE_ (K:Fgg):TS:=(tSeq (tAsg (tComp ["sign"] [] (iAny K (tCall (zbQ_ K) [] E0 (tCons (mVar 0) (tCons (mVar 1) tNil)))) (gName 0) tTrue (mIf (mTest (tOp (mIn K false) (mVar 0) (tC (tx [48,49,50,51,52,53,54,55,56,57])))) (mVar 0) (tC (tx [48])))) (gName 2)) (tRet (tCall (zdQ_ K) [] E0 (tCons (tBM K "str" (mJoin K) (tC (tx [])) (tCons (mVar 2) tNil)) tNil))))
def zeC_ (K:Fgg):TS:=(tSeq (tAsg (tLst tNil) (gName 2)) (tSeq (mIfS (mTest (tOp mIsNot (mFld (gA K "Counter") (mVar 0) "before") (tC .non))) (tAsg (tMeth (gA K "Counter") "close_levels" (z4_ K) [] E0 (mVar 0) (tCons (tMeth (gA K "Counter") "changed_level" (zaw_ K) [] E0 (mVar 0) (tCons (mVar 1) tNil)) tNil)) (gName 2)) tNext) (tSeq (tAsg (tCall (ze9_ K) [] E0 (tCons (mVar 1) tNil)) (gName 3)) (tSeq (tAsg (tCall (zfr_ K) [] E0 (tCons (mVar 1) (tCons (mFld (gA K "Counter") (mVar 0) "board") tNil))) (gName 4)) (tSeq (tDrop (tBM K "list" rAppend (mVar 2) (tCons (tJoin (tJ1 (tUn mFmt (mVar 3)) (tJ1 (tC (tx [32])) (tJ1 (tUn mFmt (mVar 4)) tJ0)))) tNil))) (tSeq (tDrop (tMeth (gA K "Counter") "raise_level" (zaa_ K) [] E0 (mVar 0) (tCons (tCB (mLen K) (tCons (mFld (gA K "Counter") (mVar 0) "breaks") tNil)) (tCons (tComp ["field"] [("card",1)] (iAny K (mFld (gA K "Counter") (mVar 0) "sums")) (gName 0) tTrue (tCall (zdG_ K) [] E0 (tCons (mVar 1) (tCons (mVar 0) tNil)))) tNil)))) (tSeq (mSFld (gA K "Counter") (mVar 0) (mVar 1) "before") (tRet (mVar 2)))))))))
def zhw_ (K:Fgg):TS:=(tSeq (mIfS (mOr (tNot (mTest (tCB (mIsa K) (tCons (mVar 0) (tCons (tC (.ty "list")) tNil))))) (mTest (tOp (mNeK K) (mVar 0) (mVar 1)))) (tRet (tC (.bl false))) tNext) (tSeq (tFor (iAny K (mVar 0)) (gName 2) (mIfS (tNot (mTest (tCB (mIsa K) (tCons (mVar 2) (tCons (tC (.ty "str")) tNil))))) (tRet (tC (.bl false))) tNext)) (tRet (tC (.bl true)))))
def ziA_ (K:Fgg):TS:=(tSeq (tAsg (tC (tx SG)) (gName 3)) (tSeq (tAsg (tCall (zau_ K) [] E0 (tCons (mVar 0) (tCons (tC (.int 36)) tNil))) (gName 4)) (tSeq (tAsg (tC (tx [])) (gName 5)) (tSeq (tFor (mRng1 (tCons (tC (.int 36)) tNil)) (gName 6) (tSeq (tAsg (tOp mDivG (tOp (mIx K) (mVar 4) (mVar 6)) (tC (.int 7))) (gName 7)) (tSeq (tAsg (tOp mDivG (tOp (mIx K) (mVar 2) (mVar 6)) (tC (.int 5))) (gName 8)) (tSeq (tAsg (tOp mAdd (mVar 8) (tOp mMod (mVar 7) (tC (.int 2)))) (gName 9)) (tSeq (tAsg (tLst (tCons (tOp mAdd (tC (.int 1)) (tOp mMod (mVar 8) (tC (.int 10)))) (tCons (tOp mAdd (tC (.int 1)) (tOp mMod (mVar 7) (tC (.int 10)))) (tCons (tOp mMod (mVar 9) (tC (.int 37))) (tCons (tOp mMod (mVar 7) (tC (.int 37))) (tCons (tOp mAdd (tC (.int 1)) (tOp mMod (mVar 9) (tC (.int 10)))) tNil)))))) (gName 10)) (tAsg (tOp mAdd (mVar 5) (tOp (mIx K) (mVar 3) (tOp (mIx K) (mVar 10) (tOp mMod (tOp (mIx K) (mVar 2) (mVar 6)) (tC (.int 5)))))) (gName 5))))))) (tSeq (tAsg (tOp mAdd (tOp mAdd (tOp (mIx K) (mVar 3) (tOp mMod (mVar 0) (tC (.int 37)))) (tOp (mIx K) (mVar 3) (tOp mMod (mVar 1) (tC (.int 37))))) (tOp (mIx K) (mVar 3) (tOp mMod (tOp (mIx K) (mVar 4) (tC (.int 0))) (tC (.int 37))))) (gName 11)) (tRet (tOp mAdd (tOp mAdd (mVar 5) (mVar 11)) (tOp (mIx K) (mVar 3) (tOp mMod (tOp mDivG (mVar 0) (tC (.int 37))) (tC (.int 37)))))))))))
def t_law (K:Fgg):TS:=(tSeq (tAsg (tCall (zdK_ K) [] E0 (tCons (tCall (zO_ K) [] E0 (tCons (mVar 0) (tCons (tC (.int 0)) tNil))) tNil)) (gName 1)) (tSeq (tAsg (tOp mMod (tCall (zO_ K) [] E0 (tCons (mVar 0) (tCons (tC (.int 1)) tNil))) (tC (.int 4))) (gName 2)) (tSeq (tAsg (tOp (mIx K) (tLst (tCons (tC (.int 2)) (tCons (tC (.int 2)) (tCons (tC (.int 6)) (tCons (tC (.int 36)) tNil))))) (tOp mMod (tOp mDivG (tCall (zO_ K) [] E0 (tCons (mVar 0) (tCons (tC (.int 3)) tNil))) (tC (.int 3))) (tC (.int 4)))) (gName 3)) (tSeq (tAsg (tComp ["_law_number_here"] [("_law_most",3)] (iAny K (tCall (zau_ K) [] E0 (tCons (tCall (zO_ K) [] E0 (tCons (mVar 0) (tCons (tC (.int 1)) tNil))) (tCons (mVar 2) tNil)))) (gName 0) tTrue (tCall (zcu_ K) [] E0 (tCons (mVar 0) (tCons (mVar 1) tNil)))) (gName 4)) (tSeq (mIfS (mAnd (mTest (tOp mGt (mVar 2) (tC (.int 1)))) (mTest (tOp (mEqK K) (tOp mMod (tOp mDivG (tCall (zO_ K) [] E0 (tCons (mVar 0) (tCons (tC (.int 1)) tNil))) (tC (.int 4))) (tC (.int 9))) (tC (.int 1))))) (tAsg (tOp (mIx K) (mVar 4) (tC (.int 0))) (gSub (mVar 4) (tOp mSub (mVar 2) (tC (.int 1))) mSet)) tNext) (tSeq (tAsg (tCall (zO_ K) [] E0 (tCons (mVar 0) (tCons (tC (.int 2)) tNil))) (gName 5)) (tSeq (tAsg (tComp ["_law_number_here"] [] (iAny K (tCall (zau_ K) [] E0 (tCons (mVar 5) (tCons (tOp mMod (mVar 5) (tC (.int 4))) tNil)))) (gName 0) tTrue (tCall (zcu_ K) [] E0 (tCons (mVar 0) (tCons (tC (.int 9)) tNil)))) (gName 6)) (tSeq (tAsg (tCall (zdO_ K) [] E0 (tCons (tCall (zO_ K) [] E0 (tCons (mVar 0) (tCons (tC (.int 4)) tNil))) tNil)) (gName 7)) (tSeq (tAsg (tLst tNil) (gName 8)) (tSeq (tFor (iEnumL K (tCons (tSl (mSl K) (mVar 0) (mPart (tC (.int 5))) (mPart (tC (.int 65)))) tNil)) (gTupM K 2 (gConsM (gName 9) (gConsM (gName 10) gNilM))) (tSeq (tDrop (tBM K "list" rAppend (mVar 8) (tCons (tCall (zei_ K) [] E0 (tCons (mVar 10) (tCons (mVar 9) (tCons (mVar 1) tNil)))) tNil))) (mIfS (mTest (tOp (mEqK K) (tOp mMod (tCall (zO_ K) [] E0 (tCons (mVar 0) (tCons (tC (.int 3)) tNil))) (tC (.int 3))) (tC (.int 1)))) (tDrop (tBM K "list" rAppend (mVar 8) (tCons (tOp (mIx K) (mVar 8) (mNeg (tC (.int 1)))) tNil))) tNext))) (tSeq (tAsg (tCall (zfp_ K) [] E0 (tCons (mVar 8) (tCons (mVar 4) (tCons (mVar 6) (tCons (tC (.int 12)) (tCons (mVar 7) tNil)))))) (gName 11)) (tSeq (tAsg (tCB (mListL K) (tCons (mVar 4) tNil)) (gName 12)) (tSeq (tAsg (tMake (gA K "Counter") (zav_ K) [] E0 (tCons (mVar 12) (tCons (tCB (mListL K) (tCons (mVar 6) tNil)) (tCons (tC (.int 12)) (tCons (tCB (mListL K) (tCons (mVar 7) tNil)) tNil))))) (gName 13)) (tSeq (tDrop (tBM0 K "list" rClear (mVar 12))) (tSeq (tAsg (tMake (gA K "Counter") (zav_ K) [] E0 (tCons (tCB (mListL K) (tCons (mVar 4) tNil)) (tCons (tLst tNil) (tCons (tC (.int 1)) (tCons (tLst tNil) tNil))))) (gName 14)) (tSeq (tAsg (tLst tNil) (gName 15)) (tSeq (tFor (mRng1 (tCons (tCB (mLen K) (tCons (mVar 8) tNil)) tNil)) (gName 9) (tSeq (tDrop (tBM K "list" rAppend (mVar 15) (tCons (tMeth (gA K "Counter") "feed" (zaF_ K) [] E0 (mVar 13) (tCons (tOp (mIx K) (mVar 8) (mVar 9)) tNil)) tNil))) (mIfS (mOr (tNot (mTest (tCall (zcy_ K) [] E0 (tCons (tOp (mIx K) (mVar 15) (mVar 9)) (tCons (tOp (mIx K) (mVar 11) (mVar 9)) tNil))))) (mTest (tOp (mNeK K) (tCB (mLen K) (tCons (tMeth (gA K "Counter") "feed" (zaF_ K) [] E0 (mVar 14) (tCons (tOp (mIx K) (mVar 8) (mVar 9)) tNil)) tNil)) (tCB (mLen K) (tCons (tOp (mIx K) (mVar 11) (mVar 9)) tNil))))) (tRet (tC (.bl false))) tNext))) (tSeq (tDrop (tBM K "list" rAppend (mVar 15) (tCons (tMeth (gA K "Counter") "finish" (zaq_ K) [] E0 (mVar 13) tNil) tNil))) (tRet (mAndV (tCall (zcy_ K) [] E0 (tCons (tOp (mIx K) (mVar 15) (mNeg (tC (.int 1)))) (tCons (tOp (mIx K) (mVar 11) (mNeg (tC (.int 1)))) tNil))) (mAndV (tOp (mEqK K) (tCB (mLen K) (tCons (tMeth (gA K "Counter") "finish" (zaq_ K) [] E0 (mVar 14) tNil) tNil)) (tCB (mLen K) (tCons (tOp (mIx K) (mVar 11) (mNeg (tC (.int 1)))) tNil))) (tOp (mEqK K) (mVar 15) (mVar 11)))))))))))))))))))))))
abbrev zje_ (P:Program) (w:World) (K:Fgg) (mg:Str→Option Value) (base:Heap):Prop:=Gd P w K mg base CX0 1 "ten_to" ["power"] (zgW_ K)
abbrev zbJ_ (P:Program) (w:World) (K:Fgg) (mg:Str→Option Value) (base:Heap):Prop:=Gk P w K mg base CX0 2 "Wheel" (gA K "Wheel") ["self", "figures"] (zbz_ K)
abbrev zbm_ (P:Program) (w:World) (K:Fgg) (mg:Str→Option Value) (base:Heap):Prop:=Gk P w K mg base CX0 4 "Counter" (gA K "Counter") ["self", "breaks", "sums", "figures", "board"] (zav_ K)
abbrev zaZ_ (P:Program) (w:World) (K:Fgg) (mg:Str→Option Value) (base:Heap):Prop:=Gd P w K mg base CX0 1 "_law_stream" ["_law_cell", "_law_many"] (zau_ K)
abbrev zeq_ (P:Program) (w:World) (K:Fgg) (mg:Str→Option Value) (base:Heap):Prop:=Gd P w K mg base CX0 2 "_law_kinds" ["_law_cell"] (zdK_ K)
abbrev zdl_ (P:Program) (w:World) (K:Fgg) (mg:Str→Option Value) (base:Heap):Prop:=Gd P w K mg base CX0 1 "_law_cell_at" ["_law_script", "_law_k"] (zO_ K)
abbrev zep_ (P:Program) (w:World) (K:Fgg) (mg:Str→Option Value) (base:Heap):Prop:=Gd P w K mg base CX0 2 "_law_board" ["_law_cell"] (zdO_ K)
abbrev ze4_ (P:Program) (w:World) (K:Fgg) (mg:Str→Option Value) (base:Heap):Prop:=Gd P w K mg base CX0 1 "_law_part" ["_law_card_here", "_law_field_here"] (zc8_ K)
abbrev zdH_ (P:Program) (w:World) (K:Fgg) (mg:Str→Option Value) (base:Heap):Prop:=Gd P w K mg base CX0 2 "_law_broken" ["_law_card_here", "_law_other", "_law_breaks"] (zdp_ K)
abbrev zet_ (P:Program) (w:World) (K:Fgg) (mg:Str→Option Value) (base:Heap):Prop:=Gd P w K mg base CX0 1 "_law_shown" ["_law_number_here", "_law_figures"] (zd5_ K)
abbrev zdI_ (P:Program) (w:World) (K:Fgg) (mg:Str→Option Value) (base:Heap):Prop:=Gd P w K mg base CX0 1 "_law_number" ["_law_card_here", "_law_field_here"] (zdg_ K)
abbrev zc5_ (P:Program) (w:World) (K:Fgg) (mg:Str→Option Value) (base:Heap):Prop:=Gd P w K mg base CX0 2 "_law_total" ["_law_level", "_law_cards", "_law_breaks", "_law_sums", "_law_figures"] (zcl_ K)
abbrev zd1_ (P:Program) (w:World) (K:Fgg) (mg:Str→Option Value) (base:Heap):Prop:=Gd P w K mg base CX0 3 "_law_closed" ["_law_deck", "_law_k", "_law_level", "_law_begins", "_law_breaks", "_law_sums", "_law_figures"] (zbH_ K)
abbrev zci_ (P:Program) (w:World) (K:Fgg) (mg:Str→Option Value) (base:Heap):Prop:=Gd P w K mg base CX0 1 "_law_card_line" ["_law_card_here", "_law_board_here"] (zbR_ K)
abbrev zg1_ (P:Program) (w:World) (K:Fgg) (mg:Str→Option Value) (base:Heap):Prop:=Gd P w K mg base CX0 4 "_law_due" ["_law_deck", "_law_breaks", "_law_sums", "_law_figures", "_law_board_here"] (zfp_ K)
abbrev zdo_ (P:Program) (w:World) (K:Fgg) (mg:Str→Option Value) (base:Heap):Prop:=Gm P w K mg base CX0 1 (gA K "Wheel") "shown" ["self"] (zcT_ K)
abbrev zdx_ (P:Program) (w:World) (K:Fgg) (mg:Str→Option Value) (base:Heap):Prop:=Gd P w K mg base CX0 1 "part_of" ["card", "field"] (zbQ_ K)
abbrev za0_ (P:Program) (w:World) (K:Fgg) (mg:Str→Option Value) (base:Heap):Prop:=Gm P w K mg base CX0 2 (gA K "Counter") "total_line" ["self", "level"] (zaS_ K)
abbrev zdS_ (P:Program) (w:World) (K:Fgg) (mg:Str→Option Value) (base:Heap):Prop:=Gm P w K mg base CX0 1 (gA K "Wheel") "rise" ["self", "value"] (zdr_ K)
abbrev zbM_ (P:Program) (w:World) (K:Fgg) (mg:Str→Option Value) (base:Heap):Prop:=Gm P w K mg base CX0 1 (gA K "Wheel") "ran_over" ["self"] (zbA_ K)
abbrev zal_ (P:Program) (w:World) (K:Fgg) (mg:Str→Option Value) (base:Heap):Prop:=Gm P w K mg base CX0 2 (gA K "Counter") "raise_level" ["self", "level", "numbers"] (zaa_ K)
abbrev zdi_ (P:Program) (w:World) (K:Fgg) (mg:Str→Option Value) (base:Heap):Prop:=Gm P w K mg base CX0 1 (gA K "Wheel") "reset" ["self"] (zcV_ K)
abbrev zcW_ (P:Program) (w:World) (K:Fgg) (mg:Str→Option Value) (base:Heap):Prop:=Gm P w K mg base CX0 1 (gA K "Wheel") "amount" ["self"] (zcj_ K)
abbrev zak_ (P:Program) (w:World) (K:Fgg) (mg:Str→Option Value) (base:Heap):Prop:=Gm P w K mg base CX0 3 (gA K "Counter") "close_level" ["self", "level"] (zab_ K)
abbrev zaf_ (P:Program) (w:World) (K:Fgg) (mg:Str→Option Value) (base:Heap):Prop:=Gm P w K mg base CX0 4 (gA K "Counter") "close_levels" ["self", "outermost"] (z4_ K)
abbrev zbN_ (P:Program) (w:World) (K:Fgg) (mg:Str→Option Value) (base:Heap):Prop:=Gm P w K mg base CX0 5 (gA K "Counter") "finish" ["self"] (zaq_ K)
abbrev zeo_ (P:Program) (w:World) (K:Fgg) (mg:Str→Option Value) (base:Heap):Prop:=Gd P w K mg base CX0 1 "_law_field" ["_law_number_here", "_law_most"] (zcu_ K)
abbrev zgB_ (P:Program) (w:World) (K:Fgg) (mg:Str→Option Value) (base:Heap):Prop:=Gd P w K mg base CX0 1 "mark_of" ["card"] (ze9_ K)
abbrev zgu_ (P:Program) (w:World) (K:Fgg) (mg:Str→Option Value) (base:Heap):Prop:=Gd P w K mg base CX0 1 "sign_at" ["card", "column"] (zfh_ K)
abbrev zg7_ (P:Program) (w:World) (K:Fgg) (mg:Str→Option Value) (base:Heap):Prop:=Gd P w K mg base CX0 2 "lay_out" ["card", "board"] (zfr_ K)
abbrev zaz_ (P:Program) (w:World) (K:Fgg) (mg:Str→Option Value) (base:Heap):Prop:=Gm P w K mg base CX0 2 (gA K "Counter") "changed_level" ["self", "card"] (zaw_ K)
abbrev zev_ (P:Program) (w:World) (K:Fgg) (mg:Str→Option Value) (base:Heap):Prop:=Gd P w K mg base CX0 1 "number_by" ["figures"] (zdQ_ K)
abbrev zer_ (P:Program) (w:World) (K:Fgg) (mg:Str→Option Value) (base:Heap):Prop:=Gd P w K mg base CX0 2 "number_of" ["card", "field"] (zdG_ K)
abbrev zcY_ (P:Program) (w:World) (K:Fgg) (mg:Str→Option Value) (base:Heap):Prop:=Gm P w K mg base CX0 5 (gA K "Counter") "feed" ["self", "card"] (zaF_ K)
abbrev zem_ (P:Program) (w:World) (K:Fgg) (mg:Str→Option Value) (base:Heap):Prop:=Gd P w K mg base CX0 1 "_law_texts" ["_law_found", "_law_due_here"] (zcy_ K)
abbrev zfb_ (P:Program) (w:World) (K:Fgg) (mg:Str→Option Value) (base:Heap):Prop:=Gd P w K mg base CX0 2 "_law_card" ["_law_cell", "_law_k", "_law_kinds_here"] (zei_ K)
end K34
namespace K34
open PySem PySem.Spec PyProof.Rows L2
structure Ek (K:Fgg):Prop where
 w0:Fc K "Wheel"
 w1:Fc K "Counter"
 a0:Fa K "Wheel" "figures"
 a1:Fa K "Wheel" "power"
 a2:Fa K "Wheel" "kept"
 a3:Fa K "Wheel" "over"
 a4:Fa K "Counter" "breaks"
 a5:Fa K "Counter" "sums"
 a6:Fa K "Counter" "board"
 a7:Fa K "Counter" "levels"
 a8:Fa K "Counter" "before"
 a9:Fa K "Counter" "run_over"
 f0:Fg K "ten_to" zlU_
 f1:Fm K "Wheel" "__init__" "Wheel.__init__" zdF_
 f2:Fm K "Counter" "__init__" "Counter.__init__" zda_
 f3:Fg K "_law_stream" zgg_
 f4:Fg K "_law_kinds" zhG_
 f5:Fg K "_law_cell_at" zfv_
 f6:Fg K "_law_board" zhf_
 f7:Fg K "_law_part" zjb_
 f8:Fg K "_law_broken" zf8_
 f9:Fg K "_law_shown" zhp_
 f10:Fg K "_law_number" zgn_
 f11:Fg K "_law_total" zhC_
 f12:Fg K "_law_closed" zfA_
 f13:Fg K "_law_card_line" zd9_
 f14:Fg K "_law_due" zjX_
 f15:Fm K "Wheel" "shown" "Wheel.shown" zfk_
 f16:Fg K "part_of" zjR_
 f17:Fm K "Counter" "total_line" "Counter.total_line" zcw_
 f18:Fm K "Wheel" "rise" "Wheel.rise" zfH_
 f19:Fm K "Wheel" "ran_over" "Wheel.ran_over" zdX_
 f20:Fm K "Counter" "raise_level" "Counter.raise_level" zcg_
 f21:Fm K "Wheel" "reset" "Wheel.reset" zeW_
 f22:Fm K "Wheel" "amount" "Wheel.amount" zeJ_
 f23:Fm K "Counter" "close_level" "Counter.close_level" zcf_
 f24:Fm K "Counter" "close_levels" "Counter.close_levels" zb0_
 f25:Fm K "Counter" "finish" "Counter.finish" zd6_
 f26:Fg K "_law_field" zhh_
 f27:Fg K "mark_of" zjY_
 f28:Fg K "sign_at" zj5_
 f29:Fg K "lay_out" zjS_
 f30:Fm K "Counter" "changed_level" "Counter.changed_level" zbC_
 f31:Fg K "number_by" zhj_
 f32:Fg K "number_of" zhA_
 f33:Fm K "Counter" "feed" "Counter.feed" zeD_
 f34:Fg K "_law_texts" zht_
 f35:Fg K "_law_card" zhV_
 f36:Fg K "law" zoz_
 c0:Fv K "BODY_WIDTH" (.int 36)
 c1:Fv K "FIGURES" (tx [48,49,50,51,52,53,54,55,56,57])
 b0:Fb K "range"
 b1:Fb K "list"
 b2:Fb K "len"
 b3:Fb K "max"
 b4:Fb K "str"
 b5:Fb K "enumerate"
 b6:Fb K "min"
 b7:Fb K "isinstance"
structure En (K:Fgg) (mg:Str→Option Value):Prop extends Ek K where
 m:Mgo K mg
section
variable {K:Fgg}{mg:Str→Option Value}
end
section
variable {P:Program}{w:World}{K:Fgg}{mg:Str→Option Value}{base:Heap}
theorem zjz_ (e:En K mg):zje_ P w K mg base :=
 zd8_ e.m e.f0 (okC (N:=["power", "value", "step"]) (C:=(csLast tyInt)) (O:=(owF tyInt)) (t:=fun E=>zlj_ K) (g:=fun c=>zfL_ c) 1 2 zt_ (fun _ _ _ _ _ _ E nd hr=>(ze_ (pst 1 zi_) (ze_ (za7_ PassesOwn.never rfl (zbr_ (e.m.gb e.b0) (zb_ (za_ 0) zg_)) (pgn 2) (zn_ (pst 1 (zP_ zdn_ (za_ 1) zi_)))) (zn_ (zV_ (za_ 1)))))) fun c E=>at_ [(Sl.fz tyInt c),Sl.dead,Sl.dead]
 (zb6_ (i:=1) rfl zc_ (zj_ 1) fun value_1=>(at_ [(Sl.fz tyInt c),(Sl.fz tyInt value_1),Sl.dead] (zbY_ (LS:=(fun s_2:Int=>[(Sl.fz tyInt c),(Sl.fz tyInt s_2),Sl.dead])) (zaU_ (L':=[(Sl.fz tyInt c),(Sl.fz tyInt value_1),Sl.dead]) (.same (.same (.same .nil))) (zed_ (LS:=(fun s_2:Int=>[(Sl.fz tyInt c),(Sl.fz tyInt s_2),Sl.dead])) (s0:=value_1) (zcD_ (zf_ (zd_ 0 rfl))) (zM_ 2) fun s_2 x_4=>at_ [(Sl.fz tyInt c),(Sl.fz tyInt s_2),(Sl.fz tyInt x_4)] (zch_ (zb6_ (i:=1) rfl zc_ (zs_ zdP_ (zd_ 1 rfl) (zj_ 10)) fun value_5=>(at_ [(Sl.fz tyInt c),(Sl.fz tyInt value_5),(Sl.fz tyInt x_4)] (zw_ (.same (.same (.dead .nil))))))))) fun s_2=>(at_ [(Sl.fz tyInt c),(Sl.fz tyInt s_2),Sl.dead] (zcA_ (zo_ zc_) (EvF.ow (zd_ 1 rfl))))))))
theorem zdu_ (e:En K mg) (g0:zje_ P w K mg base):zbJ_ P w K mg base :=
 gk_of e.m e.w0 e.f1 (okU (N:=["self", "figures"]) (O:=(owI (gA K "Wheel") [] psNil)) (O2:=(Qq3 K)) (C:=(csLast tyInt)) (t:=fun E=>zdL_ K) (g:=fun x c=>zaY_ x c) (LS:=fun w_=>(fun x':Qq5=>[(Sl.ow (owAt w_ (Qq3 K)) x'),Sl.dead])) 1 0 zt_ (fun _ _ _ _ _ _ E nd hr=>(ze_ (za4_ e.w0.cls e.a0.no (za_ 0) (za_ 1)) (ze_ (za4_ e.w0.cls e.a1.no (za_ 0) (zq_ g0 (hm hr) (zb_ (za_ 1) zg_))) (ze_ (za4_ e.w0.cls e.a2.no (za_ 0) zi_) (zn_ (za4_ e.w0.cls e.a3.no (za_ 0) zkL_)))))) fun w_ x c E=>at_ [(Sl.ow (owAt w_ (owI (gA K "Wheel") [] psNil)) x),(Sl.fz tyInt c)]
 (zfu_ (P:=psNil) (P':=(psO (owF tyInt) psNil)) (ad:=fun c z=>(z,())) (ns:=[]) (i:=0) rfl (by decide +kernel) (by decide) zea_ zc_ (zd_ 1 rfl) fun x_2=>(at_ [(Sl.ow (owAt w_ (owI (gA K "Wheel") ["figures"] (psO (owF tyInt) psNil))) x_2),(Sl.fz tyInt c)] (zfu_ (P:=(psO (owF tyInt) psNil)) (P':=(psO (owF tyInt) (psO (owF tyInt) psNil))) (ad:=fun c z=>(c.1,(z,()))) (ns:=["figures"]) (i:=0) rfl (by decide +kernel) (by decide) (zbd_ zea_) zc_ (zr_ (zf_ (zd_ 1 rfl))) fun x_4=>(at_ [(Sl.ow (owAt w_ (owI (gA K "Wheel") ["figures", "power"] (psO (owF tyInt) (psO (owF tyInt) psNil)))) x_4),(Sl.fz tyInt c)] (zfu_ (P:=(psO (owF tyInt) (psO (owF tyInt) psNil))) (P':=(psO (owF tyInt) (psO (owF tyInt) (psO (owF tyInt) psNil)))) (ad:=fun c z=>(c.1,(c.2.1,(z,())))) (ns:=["figures", "power"]) (i:=0) rfl (by decide +kernel) (by decide) (zbd_ (zbd_ zea_)) zc_ (zj_ 0) fun x_6=>(at_ [(Sl.ow (owAt w_ (owI (gA K "Wheel") ["figures", "power", "kept"] (psO (owF tyInt) (psO (owF tyInt) (psO (owF tyInt) psNil))))) x_6),(Sl.fz tyInt c)] (zch_ (zfu_ (P:=(psO (owF tyInt) (psO (owF tyInt) (psO (owF tyInt) psNil)))) (P':=(psO (owF tyInt) (psO (owF tyInt) (psO (owF tyInt) (psO (owF tyBl) psNil))))) (ad:=fun c z=>(c.1,(c.2.1,(c.2.2.1,(z,()))))) (ns:=["figures", "power", "kept"]) (i:=0) rfl (by decide +kernel) (by decide) (zbd_ (zbd_ (zbd_ zea_))) zZ_ (zj4_ false) fun x_8=>(at_ [(Sl.ow (owAt w_ (Qq3 K)) x_8),(Sl.fz tyInt c)] (zw_ (.same (.dead .nil)))))))))))))
theorem zcH_ (e:En K mg) (g1:zbJ_ P w K mg base):zbm_ P w K mg base :=
 gk_of e.m e.w1 e.f2 (okU (N:=["self", "breaks", "sums", "figures", "board"]) (O:=(owI (gA K "Counter") [] psNil)) (O2:=(Qq0 K)) (C:=(csCons (tyL Qq1) (csCons (tyL Qq1) (csCons tyInt (csLast (tyL Qq1)))))) (t:=fun E=>zc7_ K) (g:=fun x c=>zaC_ x c.1 c.2.1 c.2.2.1 c.2.2.2) (LS:=fun w_=>(fun x':Qq2=>[(Sl.ow (owAt w_ (Qq0 K)) x'),Sl.dead,Sl.dead,Sl.dead,Sl.dead])) 4 0 (zx_ (zx_ (zx_ zt_))) (fun _ _ _ _ _ _ E nd hr=>(ze_ (za4_ e.w1.cls e.a4.no (za_ 0) (zkQ_ "list" za2_ (e.m.gb e.b1) (zb_ (za_ 1) zg_))) (ze_ (za4_ e.w1.cls e.a5.no (za_ 0) (zkQ_ "list" za2_ (e.m.gb e.b1) (zb_ (za_ 2) zg_))) (ze_ (za4_ e.w1.cls e.a6.no (za_ 0) (zkQ_ "list" za2_ (e.m.gb e.b1) (zb_ (za_ 4) zg_))) (ze_ (za4_ e.w1.cls e.a7.no (za_ 0) (zdR_ (cl:=_) (lv:=["level"]) (fr:=[("figures",3),("sums",2)]) rfl (csm rfl (frc (frc fr0))) (zbr_ (e.m.gb e.b0) (zb_ (zP_ zG_ (zd7_ zQ_ (e.m.gb e.b2) (zb_ (za_ 1) zg_)) zi_) zg_)) (fun _ _ _ _=>(pgc 0)) (fun _ _ _ _=>zbK_) (fun _ _ _ _=>(zdR_ (cl:=_) (lv:=["field"]) (fr:=[("figures",1)]) rfl (csm rfl (frc fr0)) (zbE_ (za_ 2)) (fun _ _ _ _=>(pgc 0)) (fun _ _ _ _=>zbK_) (fun _ _ _ _=>(zfR_ g1 (hm hr) (zb_ (za_ 1) zg_))))))) (ze_ (za4_ e.w1.cls e.a8.no (za_ 0) zlr_) (zn_ (za4_ e.w1.cls e.a9.no (za_ 0) zii_)))))))) fun w_ x c E=>at_ [(Sl.ow (owAt w_ (owI (gA K "Counter") [] psNil)) x),(Sl.fz (tyL Qq1) c.1),(Sl.fz (tyL Qq1) c.2.1),(Sl.fz tyInt c.2.2.1),(Sl.fz (tyL Qq1) c.2.2.2)]
 (zfw_ (P:=psNil) (P':=(psO (owL Qq1) psNil)) (ad:=fun c z=>(z,())) (ns:=[]) (O1:=(owL Qq1)) (i:=0) rfl (by decide +kernel) (by decide) zea_ (zy_ (zv_ (zl_ zc_ (zk_ zc_)))) (zfP_ zcn_ (zf_ (zd_ 1 rfl))) fun x_2=>(at_ [(Sl.ow (owAt w_ (owI (gA K "Counter") ["breaks"] (psO (owL Qq1) psNil))) x_2),(Sl.fz (tyL Qq1) c.1),(Sl.fz (tyL Qq1) c.2.1),(Sl.fz tyInt c.2.2.1),(Sl.fz (tyL Qq1) c.2.2.2)] (zfw_ (P:=(psO (owL Qq1) psNil)) (P':=(psO (owL Qq1) (psO (owL Qq1) psNil))) (ad:=fun c z=>(c.1,(z,()))) (ns:=["breaks"]) (O1:=(owL Qq1)) (i:=0) rfl (by decide +kernel) (by decide) (zbd_ zea_) (zy_ (zv_ (zl_ zc_ (zk_ zc_)))) (zfP_ zcn_ (zf_ (zd_ 2 rfl))) fun x_4=>(at_ [(Sl.ow (owAt w_ (owI (gA K "Counter") ["breaks", "sums"] (psO (owL Qq1) (psO (owL Qq1) psNil)))) x_4),(Sl.fz (tyL Qq1) c.1),(Sl.fz (tyL Qq1) c.2.1),(Sl.fz tyInt c.2.2.1),(Sl.fz (tyL Qq1) c.2.2.2)] (zfw_ (P:=(psO (owL Qq1) (psO (owL Qq1) psNil))) (P':=(psO (owL Qq1) (psO (owL Qq1) (psO (owL Qq1) psNil)))) (ad:=fun c z=>(c.1,(c.2.1,(z,())))) (ns:=["breaks", "sums"]) (O1:=(owL Qq1)) (i:=0) rfl (by decide +kernel) (by decide) (zbd_ (zbd_ zea_)) (zy_ (zv_ (zl_ zc_ (zk_ zc_)))) (zfP_ zcn_ (zf_ (zd_ 4 rfl))) fun x_6=>(at_ [(Sl.ow (owAt w_ (owI (gA K "Counter") ["breaks", "sums", "board"] (psO (owL Qq1) (psO (owL Qq1) (psO (owL Qq1) psNil))))) x_6),(Sl.fz (tyL Qq1) c.1),(Sl.fz (tyL Qq1) c.2.1),(Sl.fz tyInt c.2.2.1),(Sl.fz (tyL Qq1) c.2.2.2)] (zfw_ (P:=(psO (owL Qq1) (psO (owL Qq1) (psO (owL Qq1) psNil)))) (P':=(psO (owL Qq1) (psO (owL Qq1) (psO (owL Qq1) (psO (owLO (owLO (Qq3 K))) psNil))))) (ad:=fun c z=>(c.1,(c.2.1,(c.2.2.1,(z,()))))) (ns:=["breaks", "sums", "board"]) (O1:=(owLO (owLO (Qq3 K)))) (i:=0) rfl (by decide +kernel) (by decide) (zbd_ (zbd_ (zbd_ zea_))) (zY_ (zY_ (zaE_ (zh_ (zo_ zc_) (zh_ (zo_ zc_) (zh_ (zo_ zc_) (zh_ (zo_ zZ_) zE_))))))) (zf4_ (zcD_ (zf_ (zs_ zaj_ (zeb_ zaK_ (zf_ (zd_ 1 rfl))) (zj_ 1)))) (zM_ 0) (fun _=>dead1) (fun x_17=>zbL_) (fun x_17=>(zf4_ (ei_l (zd_ 2 rfl)) (zM_ 0) (fun _=>dead1) (fun x_18=>zbL_) (fun x_18=>(zid_ (zf_ (zd_ 1 rfl))))))) fun x_8=>(at_ [(Sl.ow (owAt w_ (owI (gA K "Counter") ["breaks", "sums", "board", "levels"] (psO (owL Qq1) (psO (owL Qq1) (psO (owL Qq1) (psO (owLO (owLO (Qq3 K))) psNil)))))) x_8),(Sl.fz (tyL Qq1) c.1),(Sl.fz (tyL Qq1) c.2.1),(Sl.fz tyInt c.2.2.1),(Sl.fz (tyL Qq1) c.2.2.2)] (zfu_ (P:=(psO (owL Qq1) (psO (owL Qq1) (psO (owL Qq1) (psO (owLO (owLO (Qq3 K))) psNil))))) (P':=(psO (owL Qq1) (psO (owL Qq1) (psO (owL Qq1) (psO (owLO (owLO (Qq3 K))) (psO (owF (tyOpt tyStr)) psNil)))))) (ad:=fun c z=>(c.1,(c.2.1,(c.2.2.1,(c.2.2.2.1,(z,())))))) (ns:=["breaks", "sums", "board", "levels"]) (i:=0) rfl (by decide +kernel) (by decide) (zbd_ (zbd_ (zbd_ (zbd_ zea_)))) (zbb_ zp_) zmY_ fun x_10=>(at_ [(Sl.ow (owAt w_ (owI (gA K "Counter") ["breaks", "sums", "board", "levels", "before"] (psO (owL Qq1) (psO (owL Qq1) (psO (owL Qq1) (psO (owLO (owLO (Qq3 K))) (psO (owF (tyOpt tyStr)) psNil))))))) x_10),(Sl.fz (tyL Qq1) c.1),(Sl.fz (tyL Qq1) c.2.1),(Sl.fz tyInt c.2.2.1),(Sl.fz (tyL Qq1) c.2.2.2)] (zch_ (zfw_ (P:=(psO (owL Qq1) (psO (owL Qq1) (psO (owL Qq1) (psO (owLO (owLO (Qq3 K))) (psO (owF (tyOpt tyStr)) psNil)))))) (P':=(Qq6 K)) (ad:=fun c z=>(c.1,(c.2.1,(c.2.2.1,(c.2.2.2.1,(c.2.2.2.2.1,(z,()))))))) (ns:=["breaks", "sums", "board", "levels", "before"]) (O1:=(owD kInt tyBl)) (i:=0) rfl (by decide +kernel) (by decide) (zbd_ (zbd_ (zbd_ (zbd_ (zbd_ zea_))))) (zcU_ zZ_) (zkE_ kInt tyBl) fun x_12=>(at_ [(Sl.ow (owAt w_ (Qq0 K)) x_12),(Sl.fz (tyL Qq1) c.1),(Sl.fz (tyL Qq1) c.2.1),(Sl.fz tyInt c.2.2.1),(Sl.fz (tyL Qq1) c.2.2.2)] (zw_ (.same (.dead (.dead (.dead (.dead .nil))))))))))))))))))))
theorem ze6_ (e:En K mg):zaZ_ P w K mg base :=
 zd8_ e.m e.f3 (okC (N:=["_law_cell", "_law_many", "_law_found", "_law_number_here", "_law_k"]) (C:=(csCons tyInt (csLast tyInt))) (O:=(owL tyInt)) (t:=fun E=>zf3_ K) (g:=fun c=>zcq_ c.1 c.2) 2 3 (zx_ zt_) (fun _ _ _ _ _ _ E nd hr=>(ze_ (pst 2 (za8_ zg_)) (ze_ (pst 3 (zP_ zG_ (zP_ z2_ (za_ 0) zi_) zi_)) (ze_ (za7_ PassesOwn.never rfl (zbr_ (e.m.gb e.b0) (zb_ (za_ 1) zg_)) (pgn 4) (ze_ (pst 3 (zP_ z2_ (zP_ zG_ (zP_ zG_ (zP_ zdn_ (za_ 3) (za_ 3)) (zP_ zdn_ zi_ (za_ 3))) (za_ 4)) zi_)) (zn_ (zaJ_ (zhv_ zbk_ zJ_ zH_ zay_ (za_ 2) (zb_ (za_ 3) zg_)))))) (zn_ (zV_ (za_ 2))))))) fun c E=>at_ [(Sl.fz tyInt c.1),(Sl.fz tyInt c.2),Sl.dead,Sl.dead,Sl.dead]
 (za9_ (i:=2) rfl (zy_ zc_) (zbn_ tyInt) fun found_1=>(at_ [(Sl.fz tyInt c.1),(Sl.fz tyInt c.2),(Sl.ow (owL tyInt) found_1),Sl.dead,Sl.dead] (zb6_ (i:=3) rfl zc_ (zs_ zaj_ (zs_ z3_ (zd_ 0 rfl) (zj_ 2147483647)) (zj_ 48271)) fun number_here_2=>(at_ [(Sl.fz tyInt c.1),(Sl.fz tyInt c.2),(Sl.ow (owL tyInt) found_1),(Sl.fz tyInt number_here_2),Sl.dead] (zbY_ (LS:=(fun s_7:(Int×(List Int))=>[(Sl.fz tyInt c.1),(Sl.fz tyInt c.2),(Sl.ow (owL tyInt) s_7.2),(Sl.fz tyInt s_7.1),Sl.dead])) (zaU_ (L':=[(Sl.fz tyInt c.1),(Sl.fz tyInt c.2),(Sl.ow (owL tyInt) found_1),(Sl.fz tyInt number_here_2),Sl.dead]) (S4 (.same .nil)) (zed_ (LS:=(fun s_7:(Int×(List Int))=>[(Sl.fz tyInt c.1),(Sl.fz tyInt c.2),(Sl.ow (owL tyInt) s_7.2),(Sl.fz tyInt s_7.1),Sl.dead])) (s0:=(number_here_2,found_1)) (zcD_ (zf_ (zd_ 1 rfl))) (zM_ 4) fun s_7 x_9=>at_ [(Sl.fz tyInt c.1),(Sl.fz tyInt c.2),(Sl.ow (owL tyInt) s_7.2),(Sl.fz tyInt s_7.1),(Sl.fz tyInt x_9)] (zb6_ (i:=3) rfl zc_ (zs_ z3_ (zs_ zaj_ (zs_ zaj_ (zs_ zdP_ (zd_ 3 rfl) (zd_ 3 rfl)) (zs_ zdP_ (zj_ 48271) (zd_ 3 rfl))) (zd_ 4 rfl)) (zj_ 2147483647)) fun number_here_10=>(at_ [(Sl.fz tyInt c.1),(Sl.fz tyInt c.2),(Sl.ow (owL tyInt) s_7.2),(Sl.fz tyInt number_here_10),(Sl.fz tyInt x_9)] (zch_ (zdb_ (i:=2) rfl zc_ (zd_ 3 rfl) fun a_21=>(at_ [(Sl.fz tyInt c.1),(Sl.fz tyInt c.2),(Sl.ow (owL tyInt) (s_7.2++[a_21])),(Sl.fz tyInt number_here_10),(Sl.fz tyInt x_9)] (zw_ (S4 (.dead .nil)))))))))) fun s_7=>(at_ [(Sl.fz tyInt c.1),(Sl.fz tyInt c.2),(Sl.ow (owL tyInt) s_7.2),(Sl.fz tyInt s_7.1),Sl.dead] (znk_ (i:=2) rfl))))))))
theorem zfS_ (e:En K mg) (g3:zaZ_ P w K mg base):zeq_ P w K mg base :=
 zd8_ e.m e.f4 (okC (N:=["_law_cell"]) (C:=(csLast tyInt)) (O:=(owL tyInt)) (t:=fun E=>zhg_ K) (g:=fun c=>zdd_ c) 1 0 zt_ (fun _ _ _ _ _ _ E nd hr=>(zn_ (zV_ (zdR_ (cl:=[]) (lv:=["_law_number_here"]) (fr:=[]) rfl (csm rfl fr0) (zbE_ (zq_ g3 (hm hr) (zb_ (za_ 0) (zb_ zi_ zg_)))) (fun _ _ _ _=>(pgc 0)) (fun _ _ _ _=>zbK_) (fun _ _ _ _=>(zP_ zbV_ (za_ 0) zi_)))))) fun c E=>at_ [(Sl.fz tyInt c)]
 (zcA_ (zy_ zc_) (zbp_ (ei_l (EvO.fr (zbo_ (zm_ (zd_ 0 rfl) (zf_ (zj_ 36)))))) (zM_ 0) (fun _=>dead1) (fun x_4=>zbL_) (fun x_4=>(zs_ za1_ (zd_ 0 rfl) (zj_ 11))))))
theorem zeP_ (e:En K mg):zdl_ P w K mg base :=
 zd8_ e.m e.f5 (okC (N:=["_law_script", "_law_k"]) (C:=(csCons (tySc K) (csLast tyInt))) (O:=(owF tyInt)) (t:=fun E=>zfg_ K) (g:=fun c=>zbS_ c.1 c.2) 2 0 (zx_ zt_) (fun _ _ _ _ _ _ E nd hr=>(ze_ (zcb_ (zaN_ zmw_ (za_ 1) (zd7_ zQ_ (e.m.gb e.b2) (zb_ (za_ 0) zg_))) (zn_ (zV_ (zaT_ ix_M (za_ 0) (za_ 1) (fun _ _=>rfl)))) zaO_) (zn_ (zV_ zi_)))) fun c E=>at_ [(Sl.fz (tySc K) c.1),(Sl.fz tyInt c.2)]
 (zbY_ (LS:=(fun _:Unit=>[(Sl.fz (tySc K) c.1),(Sl.fz tyInt c.2)])) (s_if (zbu_ (zs_ zni_ (zd_ 1 rfl) (zeb_ zmh_ (zf_ (zd_ 0 rfl))))) (zcA_ (zo_ zc_) (EvF.ow (zs_ znU_ (zd_ 0 rfl) (zd_ 1 rfl)))) (zw_ (.same (.same .nil)))) fun _=>(at_ [(Sl.fz (tySc K) c.1),(Sl.fz tyInt c.2)] (zcA_ (zo_ zc_) (EvF.ow (zj_ 0))))))
theorem zgm_ (e:En K mg) (g3:zaZ_ P w K mg base):zep_ P w K mg base :=
 zd8_ e.m e.f6 (okC (N:=["_law_cell", "_law_wires", "_law_numbers", "_law_there"]) (C:=(csLast tyInt)) (O:=(owL Qq1)) (t:=fun E=>zhF_ K) (g:=fun c=>zc2_ c) 1 3 zt_ (fun _ _ _ _ _ _ E nd hr=>(ze_ (pst 1 (za8_ zg_)) (ze_ (pst 2 (zq_ g3 (hm hr) (zb_ (za_ 0) (zb_ zi_ zg_)))) (ze_ (za7_ PassesOwn.never rfl (zja_ (e.m.gb e.b0) (zb_ zi_ (zb_ zi_ zg_))) (pgn 3) (zn_ (zcb_ (zaN_ zmw_ (zP_ z2_ (zP_ zbV_ (zaT_ ix_M (za_ 2) (zP_ zaR_ (za_ 3) zi_) (fun _ _=>rfl)) zi_) zi_) (zP_ z2_ (za_ 0) zi_)) (zn_ (zaJ_ (zhv_ zbk_ zJ_ zH_ zay_ (za_ 1) (zb_ (zmK_ (zb_ (zP_ zG_ zi_ (zP_ z2_ (zP_ zbV_ (zaT_ ix_M (za_ 2) (zP_ zaR_ (za_ 3) zi_) (fun _ _=>rfl)) zi_) zi_)) (zb_ (za_ 3) zg_))) zg_)))) zaO_))) (zn_ (zV_ (za_ 1))))))) fun c E=>at_ [(Sl.fz tyInt c),Sl.dead,Sl.dead,Sl.dead]
 (za9_ (i:=1) rfl (zy_ (zv_ (zl_ zc_ (zk_ zc_)))) (zbn_ Qq1) fun wires_1=>(at_ [(Sl.fz tyInt c),(Sl.ow (owL Qq1) wires_1),Sl.dead,Sl.dead] (za9_ (i:=2) rfl (zy_ zc_) (zbo_ (zm_ (zd_ 0 rfl) (zf_ (zj_ 36)))) fun numbers_2=>zhH_ (i:=2) rfl (at_ [(Sl.fz tyInt c),(Sl.ow (owL Qq1) wires_1),(Sl.fz (tyL tyInt) numbers_2),Sl.dead] (zbY_ (LS:=(fun s_6:(List (Int×Int))=>[(Sl.fz tyInt c),(Sl.ow (owL Qq1) s_6),(Sl.fz (tyL tyInt) numbers_2),Sl.dead])) (zaU_ (L':=[(Sl.fz tyInt c),(Sl.ow (owL Qq1) wires_1),(Sl.fz (tyL tyInt) numbers_2),Sl.dead]) (S4 .nil) (zed_ (LS:=(fun s_6:(List (Int×Int))=>[(Sl.fz tyInt c),(Sl.ow (owL Qq1) s_6),(Sl.fz (tyL tyInt) numbers_2),Sl.dead])) (s0:=wires_1) (zkU_ (zm_ (zj_ 1) (zf_ (zj_ 37)))) (zM_ 3) fun s_6 x_10=>at_ [(Sl.fz tyInt c),(Sl.ow (owL Qq1) s_6),(Sl.fz (tyL tyInt) numbers_2),(Sl.fz tyInt x_10)] (zch_ (zbY_ (LS:=(fun s_24:(List (Int×Int))=>[(Sl.fz tyInt c),(Sl.ow (owL Qq1) s_24),(Sl.fz (tyL tyInt) numbers_2),(Sl.fz tyInt x_10)])) (s_if (zbu_ (zs_ zni_ (zs_ z3_ (zs_ za1_ (zs_ zaB_ (zd_ 2 rfl) (zs_ zaP_ (zd_ 3 rfl) (zj_ 1))) (zj_ 3)) (zj_ 4)) (zs_ z3_ (zd_ 0 rfl) (zj_ 5)))) (zch_ (zdb_ (i:=1) rfl (zv_ (zl_ zc_ (zk_ zc_))) (zmV_ (zad_ z6_) (zm_ (zs_ zaj_ (zj_ 1) (zs_ z3_ (zs_ za1_ (zs_ zaB_ (zd_ 2 rfl) (zs_ zaP_ (zd_ 3 rfl) (zj_ 1))) (zj_ 12)) (zj_ 40))) (zf_ (zd_ 3 rfl)))) fun a_37=>(at_ [(Sl.fz tyInt c),(Sl.ow (owL Qq1) (s_6++[a_37])),(Sl.fz (tyL tyInt) numbers_2),(Sl.fz tyInt x_10)] (zw_ (S4 .nil))))) (zw_ (S4 .nil))) fun s_24=>(at_ [(Sl.fz tyInt c),(Sl.ow (owL Qq1) s_24),(Sl.fz (tyL tyInt) numbers_2),(Sl.fz tyInt x_10)] (zw_ (.same (.same (.same (.dead .nil)))))))))) fun s_6=>(at_ [(Sl.fz tyInt c),(Sl.ow (owL Qq1) s_6),(Sl.fz (tyL tyInt) numbers_2),Sl.dead] (znk_ (i:=1) rfl))))))))
theorem zhr_ (e:En K mg):ze4_ P w K mg base :=
 zd8_ e.m e.f7 (okC (N:=["_law_card_here", "_law_field_here"]) (C:=(csCons tyStr (csLast Qq1))) (O:=(owF tyStr)) (t:=fun E=>ziN_ K) (g:=fun c=>zdV_ c.1 c.2) 2 0 (zx_ zt_) (fun _ _ _ _ _ _ E nd hr=>(zn_ (zV_ (zbe_ sl_M (za_ 0) (po_M (zP_ zaR_ (zaT_ ix_M (za_ 1) zi_ (fun _ _=>rfl)) zi_)) (po_M (zaT_ ix_M (za_ 1) zi_ (fun _ _=>rfl))))))) fun c E=>at_ [(Sl.fz tyStr c.1),(Sl.fz Qq1 c.2)]
 (zcA_ (zo_ zp_) (EvF.ow (zhc_ (zd_ 0 rfl) (zfz_ (zs_ zaP_ (zef_ (i:=0) at_0 (zd_ 1 rfl)) (zj_ 1))) (zfz_ (zef_ (i:=1) (at_s zfe_) (zd_ 1 rfl)))))))
theorem ze3_ (e:En K mg) (g7:ze4_ P w K mg base):zdH_ P w K mg base :=
 zd8_ e.m e.f8 (okC (N:=["_law_card_here", "_law_other", "_law_breaks", "_law_k"]) (C:=(csCons tyStr (csCons tyStr (csLast (tyL Qq1))))) (O:=(owF tyInt)) (t:=fun E=>zfM_ K) (g:=fun c=>zcs_ c.1 c.2.1 c.2.2) 3 1 (zx_ (zx_ zt_)) (fun _ _ _ _ _ _ E nd hr=>(ze_ (za7_ PassesOwn.never rfl (zbr_ (e.m.gb e.b0) (zb_ (zd7_ zQ_ (e.m.gb e.b2) (zb_ (za_ 2) zg_)) zg_)) (pgn 3) (zn_ (zcb_ (zaN_ (zjt_ hr.u60) (zq_ g7 (hm hr) (zb_ (za_ 0) (zb_ (zaT_ ix_M (za_ 2) (za_ 3) (fun _ _=>rfl)) zg_))) (zq_ g7 (hm hr) (zb_ (za_ 1) (zb_ (zaT_ ix_M (za_ 2) (za_ 3) (fun _ _=>rfl)) zg_)))) (zn_ (zV_ (zP_ zG_ (za_ 3) zi_))) zaO_))) (zn_ (zV_ (zP_ zG_ (zd7_ zQ_ (e.m.gb e.b2) (zb_ (za_ 2) zg_)) zi_))))) fun c E=>at_ [(Sl.fz tyStr c.1),(Sl.fz tyStr c.2.1),(Sl.fz (tyL Qq1) c.2.2),Sl.dead]
 (zbY_ (LS:=(fun _:Unit=>[(Sl.fz tyStr c.1),(Sl.fz tyStr c.2.1),(Sl.fz (tyL Qq1) c.2.2),Sl.dead])) (zaU_ (L':=[(Sl.fz tyStr c.1),(Sl.fz tyStr c.2.1),(Sl.fz (tyL Qq1) c.2.2),Sl.dead]) (S4 .nil) (zed_ (LS:=(fun _:Unit=>[(Sl.fz tyStr c.1),(Sl.fz tyStr c.2.1),(Sl.fz (tyL Qq1) c.2.2),Sl.dead])) (s0:=()) (zcD_ (zf_ (zeb_ zaK_ (zf_ (zd_ 2 rfl))))) (zM_ 3) fun _ x_4=>at_ [(Sl.fz tyStr c.1),(Sl.fz tyStr c.2.1),(Sl.fz (tyL Qq1) c.2.2),(Sl.fz tyInt x_4)] (s_if (zbu_ (zs_ zmJ_ (zr_ (zm_ (zd_ 0 rfl) (zf_ (zs_ zaB_ (zd_ 2 rfl) (zd_ 3 rfl))))) (zr_ (zm_ (zd_ 1 rfl) (zf_ (zs_ zaB_ (zd_ 2 rfl) (zd_ 3 rfl))))))) (zcA_ (zo_ zc_) (EvF.ow (zs_ zaj_ (zd_ 3 rfl) (zj_ 1)))) (zw_ (.same (.same (.same (.dead .nil)))))))) fun _=>(at_ [(Sl.fz tyStr c.1),(Sl.fz tyStr c.2.1),(Sl.fz (tyL Qq1) c.2.2),Sl.dead] (zcA_ (zo_ zc_) (EvF.ow (zs_ zaj_ (zeb_ zaK_ (zf_ (zd_ 2 rfl))) (zj_ 1)))))))
theorem zgc_ (e:En K mg):zet_ P w K mg base :=
 zd8_ e.m e.f9 (okC (N:=["_law_number_here", "_law_figures", "_law_found", "_law_k"]) (C:=(csCons tyInt (csLast tyInt))) (O:=(owF tyStr)) (t:=fun E=>zha_ K) (g:=fun c=>zb7_ c.1 c.2) 2 2 (zx_ zt_) (fun _ _ _ _ _ _ E nd hr=>(ze_ (pst 2 (zb2_ (l:=[]))) (ze_ (za7_ PassesOwn.never rfl (zbr_ (e.m.gb e.b0) (zb_ (za_ 1) zg_)) (pgn 3) (ze_ (pst 2 (zP_ zG_ (zaT_ ix_M (zb2_ (l:=[48,49,50,51,52,53,54,55,56,57])) (zP_ z2_ (za_ 0) zi_) (fun _ _=>rfl)) (za_ 2))) (zn_ (pst 0 (zP_ zbV_ (za_ 0) zi_))))) (zn_ (zV_ (za_ 2)))))) fun c E=>at_ [(Sl.fz tyInt c.1),(Sl.fz tyInt c.2),Sl.dead,Sl.dead]
 (zb6_ (i:=2) rfl zp_ (zbw_ []) fun found_1=>(at_ [(Sl.fz tyInt c.1),(Sl.fz tyInt c.2),(Sl.fz tyStr found_1),Sl.dead] (zbY_ (LS:=(fun s_2:((List Nat)×Int)=>[(Sl.fz tyInt s_2.2),(Sl.fz tyInt c.2),(Sl.fz tyStr s_2.1),Sl.dead])) (zaU_ (L':=[(Sl.fz tyInt c.1),(Sl.fz tyInt c.2),(Sl.fz tyStr found_1),Sl.dead]) (S4 .nil) (zed_ (LS:=(fun s_2:((List Nat)×Int)=>[(Sl.fz tyInt s_2.2),(Sl.fz tyInt c.2),(Sl.fz tyStr s_2.1),Sl.dead])) (s0:=(found_1,c.1)) (zcD_ (zf_ (zd_ 1 rfl))) (zM_ 3) fun s_2 x_4=>at_ [(Sl.fz tyInt s_2.2),(Sl.fz tyInt c.2),(Sl.fz tyStr s_2.1),(Sl.fz tyInt x_4)] (zb6_ (i:=2) rfl zp_ (zs_ zby_ (zs_ zfx_ (zbw_ [48,49,50,51,52,53,54,55,56,57]) (zs_ z3_ (zd_ 0 rfl) (zj_ 10))) (zd_ 2 rfl)) fun found_5=>(at_ [(Sl.fz tyInt s_2.2),(Sl.fz tyInt c.2),(Sl.fz tyStr found_5),(Sl.fz tyInt x_4)] (zch_ (zb6_ (i:=0) rfl zc_ (zs_ za1_ (zd_ 0 rfl) (zj_ 10)) fun number_here_12=>(at_ [(Sl.fz tyInt number_here_12),(Sl.fz tyInt c.2),(Sl.fz tyStr found_5),(Sl.fz tyInt x_4)] (zw_ (.same (.same (.same (.dead .nil)))))))))))) fun s_2=>(at_ [(Sl.fz tyInt s_2.2),(Sl.fz tyInt c.2),(Sl.fz tyStr s_2.1),Sl.dead] (zcA_ (zo_ zp_) (EvF.ow (zd_ 2 rfl))))))))
theorem zfm_ (e:En K mg):zdI_ P w K mg base :=
 zd8_ e.m e.f10 (okC (N:=["_law_card_here", "_law_field_here", "_law_total_here", "_law_sign"]) (C:=(csCons tyStr (csLast Qq1))) (O:=(owF tyInt)) (t:=fun E=>zgl_ K) (g:=fun c=>zcv_ c.1 c.2) 2 2 (zx_ zt_) (fun _ _ _ _ _ _ E nd hr=>(ze_ (pst 2 zi_) (ze_ (za7_ PassesOwn.never rfl (zbE_ (zbe_ sl_M (za_ 0) (po_M (zP_ zaR_ (zaT_ ix_M (za_ 1) zi_ (fun _ _=>rfl)) zi_)) (po_M (zaT_ ix_M (za_ 1) zi_ (fun _ _=>rfl))))) (pgn 3) (zn_ (pst 2 (zP_ zG_ (zP_ zdn_ zi_ (za_ 2)) (zd7_ (zke_ rfl) (e.m.gb e.b3) (zb_ zi_ (zb_ (zmt_ zhl_ zhz_ zmy_ (zb2_ (l:=[48,49,50,51,52,53,54,55,56,57])) (zb_ (za_ 3) zg_)) zg_))))))) (zn_ (zV_ (za_ 2)))))) fun c E=>at_ [(Sl.fz tyStr c.1),(Sl.fz Qq1 c.2),Sl.dead,Sl.dead]
 (zb6_ (i:=2) rfl zc_ (zj_ 0) fun total_here_1=>(at_ [(Sl.fz tyStr c.1),(Sl.fz Qq1 c.2),(Sl.fz tyInt total_here_1),Sl.dead] (zbY_ (LS:=(fun s_2:Int=>[(Sl.fz tyStr c.1),(Sl.fz Qq1 c.2),(Sl.fz tyInt s_2),Sl.dead])) (zaU_ (L':=[(Sl.fz tyStr c.1),(Sl.fz Qq1 c.2),(Sl.fz tyInt total_here_1),Sl.dead]) (S4 .nil) (zed_ (LS:=(fun s_2:Int=>[(Sl.fz tyStr c.1),(Sl.fz Qq1 c.2),(Sl.fz tyInt s_2),Sl.dead])) (s0:=total_here_1) (zlu_ (zhc_ (zd_ 0 rfl) (zfz_ (zs_ zaP_ (zef_ (i:=0) at_0 (zd_ 1 rfl)) (zj_ 1))) (zfz_ (zef_ (i:=1) (at_s zfe_) (zd_ 1 rfl))))) (zM_ 3) fun s_2 x_13=>at_ [(Sl.fz tyStr c.1),(Sl.fz Qq1 c.2),(Sl.fz tyInt s_2),(Sl.fz tyStr x_13)] (zch_ (zb6_ (i:=2) rfl zc_ (zs_ zaj_ (zs_ zdP_ (zj_ 10) (zd_ 2 rfl)) (zeb_ zo1_ (zm_ (zj_ 0) (zf_ (zms_ zmv_ (zbw_ [48,49,50,51,52,53,54,55,56,57]) (zf_ (zd_ 3 rfl))))))) fun total_here_14=>(at_ [(Sl.fz tyStr c.1),(Sl.fz Qq1 c.2),(Sl.fz tyInt total_here_14),(Sl.fz tyStr x_13)] (zw_ (.same (.same (.same (.dead .nil)))))))))) fun s_2=>(at_ [(Sl.fz tyStr c.1),(Sl.fz Qq1 c.2),(Sl.fz tyInt s_2),Sl.dead] (zcA_ (zo_ zc_) (EvF.ow (zd_ 2 rfl))))))))
theorem zfF_ (e:En K mg) (g10:zdI_ P w K mg base) (g9:zet_ P w K mg base):zc5_ P w K mg base :=
 zd8_ e.m e.f11 (okC (N:=["_law_level", "_law_cards", "_law_breaks", "_law_sums", "_law_figures", "_law_line", "_law_field_here", "_law_total_here", "_law_card_here"]) (C:=(csCons tyInt (csCons (tyL tyStr) (csCons (tyL Qq1) (csCons (tyL Qq1) (csLast tyInt)))))) (O:=(owF tyStr)) (t:=fun E=>zhu_ K) (g:=fun c=>zc3_ c.1 c.2.1 c.2.2.1 c.2.2.2.1 c.2.2.2.2) 5 4 (zx_ (zx_ (zx_ (zx_ zt_)))) (fun _ _ _ _ _ _ E nd hr=>(ze_ (pst 5 (zP_ zdn_ (zb2_ (l:=[42])) (zP_ zaR_ (zP_ zG_ (zd7_ zQ_ (e.m.gb e.b2) (zb_ (za_ 2) zg_)) zi_) (za_ 0)))) (ze_ (za7_ PassesOwn.never rfl (zbE_ (zbe_ sl_M (za_ 2) zgw_ (po_M (za_ 0)))) (pgn 6) (zn_ (pst 5 (zP_ zG_ (zP_ zG_ (za_ 5) (zb2_ (l:=[32]))) (zbe_ sl_M (zaT_ ix_M (za_ 1) (zf9_ zi_) (fun _ _=>rfl)) (po_M (zP_ zaR_ (zaT_ ix_M (za_ 6) zi_ (fun _ _=>rfl)) zi_)) (po_M (zaT_ ix_M (za_ 6) zi_ (fun _ _=>rfl)))))))) (ze_ (za7_ PassesOwn.never rfl (zbE_ (za_ 3)) (pgn 6) (ze_ (pst 7 zi_) (ze_ (za7_ PassesOwn.never rfl (zbE_ (za_ 1)) (pgn 8) (zn_ (pst 7 (zP_ zG_ (za_ 7) (zq_ g10 (hm hr) (zb_ (za_ 8) (zb_ (za_ 6) zg_))))))) (zn_ (pst 5 (zP_ zG_ (zP_ zG_ (za_ 5) (zb2_ (l:=[32]))) (zq_ g9 (hm hr) (zb_ (za_ 7) (zb_ (za_ 4) zg_))))))))) (zn_ (zV_ (za_ 5))))))) fun c E=>at_ [(Sl.fz tyInt c.1),(Sl.fz (tyL tyStr) c.2.1),(Sl.fz (tyL Qq1) c.2.2.1),(Sl.fz (tyL Qq1) c.2.2.2.1),(Sl.fz tyInt c.2.2.2.2),Sl.dead,Sl.dead,Sl.dead,Sl.dead]
 (zb6_ (i:=5) rfl zp_ (zs_ ziD_ (zbw_ [42]) (zs_ zaP_ (zs_ zaj_ (zeb_ zaK_ (zf_ (zd_ 2 rfl))) (zj_ 1)) (zd_ 0 rfl))) fun line_1=>(at_ [(Sl.fz tyInt c.1),(Sl.fz (tyL tyStr) c.2.1),(Sl.fz (tyL Qq1) c.2.2.1),(Sl.fz (tyL Qq1) c.2.2.2.1),(Sl.fz tyInt c.2.2.2.2),(Sl.fz tyStr line_1),Sl.dead,Sl.dead,Sl.dead] (zbY_ (LS:=(fun s_9:(List Nat)=>[(Sl.fz tyInt c.1),(Sl.fz (tyL tyStr) c.2.1),(Sl.fz (tyL Qq1) c.2.2.1),(Sl.fz (tyL Qq1) c.2.2.2.1),(Sl.fz tyInt c.2.2.2.2),(Sl.fz tyStr s_9),Sl.dead,Sl.dead,Sl.dead])) (zaU_ (L':=[(Sl.fz tyInt c.1),(Sl.fz (tyL tyStr) c.2.1),(Sl.fz (tyL Qq1) c.2.2.1),(Sl.fz (tyL Qq1) c.2.2.2.1),(Sl.fz tyInt c.2.2.2.2),(Sl.fz tyStr line_1),Sl.dead,Sl.dead,Sl.dead]) (S4 (S4 (.same .nil))) (zed_ (LS:=(fun s_9:(List Nat)=>[(Sl.fz tyInt c.1),(Sl.fz (tyL tyStr) c.2.1),(Sl.fz (tyL Qq1) c.2.2.1),(Sl.fz (tyL Qq1) c.2.2.2.1),(Sl.fz tyInt c.2.2.2.2),(Sl.fz tyStr s_9),Sl.dead,Sl.dead,Sl.dead])) (s0:=line_1) (ei_l (EvO.fr (zlA_ (zd_ 2 rfl) zoc_ (zfz_ (zd_ 0 rfl))))) (zM_ 6) fun s_9 x_14=>at_ [(Sl.fz tyInt c.1),(Sl.fz (tyL tyStr) c.2.1),(Sl.fz (tyL Qq1) c.2.2.1),(Sl.fz (tyL Qq1) c.2.2.2.1),(Sl.fz tyInt c.2.2.2.2),(Sl.fz tyStr s_9),(Sl.fz Qq1 x_14),Sl.dead,Sl.dead] (zch_ (zb6_ (i:=5) rfl zp_ (zs_ zby_ (zs_ zby_ (zd_ 5 rfl) (zbw_ [32])) (zhc_ (zs_ zaB_ (zd_ 1 rfl) (zfG_ (zj_ 1))) (zfz_ (zs_ zaP_ (zef_ (i:=0) at_0 (zd_ 6 rfl)) (zj_ 1))) (zfz_ (zef_ (i:=1) (at_s zfe_) (zd_ 6 rfl))))) fun line_15=>(at_ [(Sl.fz tyInt c.1),(Sl.fz (tyL tyStr) c.2.1),(Sl.fz (tyL Qq1) c.2.2.1),(Sl.fz (tyL Qq1) c.2.2.2.1),(Sl.fz tyInt c.2.2.2.2),(Sl.fz tyStr line_15),(Sl.fz Qq1 x_14),Sl.dead,Sl.dead] (zw_ (S4 (.same (.same (.dead (.same (.same .nil)))))))))))) fun s_9=>(at_ [(Sl.fz tyInt c.1),(Sl.fz (tyL tyStr) c.2.1),(Sl.fz (tyL Qq1) c.2.2.1),(Sl.fz (tyL Qq1) c.2.2.2.1),(Sl.fz tyInt c.2.2.2.2),(Sl.fz tyStr s_9),Sl.dead,Sl.dead,Sl.dead] (zbY_ (LS:=(fun s_33:(List Nat)=>[(Sl.fz tyInt c.1),(Sl.fz (tyL tyStr) c.2.1),(Sl.fz (tyL Qq1) c.2.2.1),(Sl.fz (tyL Qq1) c.2.2.2.1),(Sl.fz tyInt c.2.2.2.2),(Sl.fz tyStr s_33),Sl.dead,Sl.dead,Sl.dead])) (zaU_ (L':=[(Sl.fz tyInt c.1),(Sl.fz (tyL tyStr) c.2.1),(Sl.fz (tyL Qq1) c.2.2.1),(Sl.fz (tyL Qq1) c.2.2.2.1),(Sl.fz tyInt c.2.2.2.2),(Sl.fz tyStr s_9),Sl.dead,Sl.dead,Sl.dead]) (S4 (S4 (.same .nil))) (zed_ (LS:=(fun s_33:(List Nat)=>[(Sl.fz tyInt c.1),(Sl.fz (tyL tyStr) c.2.1),(Sl.fz (tyL Qq1) c.2.2.1),(Sl.fz (tyL Qq1) c.2.2.2.1),(Sl.fz tyInt c.2.2.2.2),(Sl.fz tyStr s_33),Sl.dead,Sl.dead,Sl.dead])) (s0:=s_9) (ei_l (zd_ 3 rfl)) (zM_ 6) fun s_33 x_34=>at_ [(Sl.fz tyInt c.1),(Sl.fz (tyL tyStr) c.2.1),(Sl.fz (tyL Qq1) c.2.2.1),(Sl.fz (tyL Qq1) c.2.2.2.1),(Sl.fz tyInt c.2.2.2.2),(Sl.fz tyStr s_33),(Sl.fz Qq1 x_34),Sl.dead,Sl.dead] (zb6_ (i:=7) rfl zc_ (zj_ 0) fun total_here_35=>(at_ [(Sl.fz tyInt c.1),(Sl.fz (tyL tyStr) c.2.1),(Sl.fz (tyL Qq1) c.2.2.1),(Sl.fz (tyL Qq1) c.2.2.2.1),(Sl.fz tyInt c.2.2.2.2),(Sl.fz tyStr s_33),(Sl.fz Qq1 x_34),(Sl.fz tyInt total_here_35),Sl.dead] (zbY_ (LS:=(fun s_36:Int=>[(Sl.fz tyInt c.1),(Sl.fz (tyL tyStr) c.2.1),(Sl.fz (tyL Qq1) c.2.2.1),(Sl.fz (tyL Qq1) c.2.2.2.1),(Sl.fz tyInt c.2.2.2.2),(Sl.fz tyStr s_33),(Sl.fz Qq1 x_34),(Sl.fz tyInt s_36),Sl.dead])) (zaU_ (L':=[(Sl.fz tyInt c.1),(Sl.fz (tyL tyStr) c.2.1),(Sl.fz (tyL Qq1) c.2.2.1),(Sl.fz (tyL Qq1) c.2.2.2.1),(Sl.fz tyInt c.2.2.2.2),(Sl.fz tyStr s_33),(Sl.fz Qq1 x_34),(Sl.fz tyInt total_here_35),Sl.dead]) (S4 (S4 (.same .nil))) (zed_ (LS:=(fun s_36:Int=>[(Sl.fz tyInt c.1),(Sl.fz (tyL tyStr) c.2.1),(Sl.fz (tyL Qq1) c.2.2.1),(Sl.fz (tyL Qq1) c.2.2.2.1),(Sl.fz tyInt c.2.2.2.2),(Sl.fz tyStr s_33),(Sl.fz Qq1 x_34),(Sl.fz tyInt s_36),Sl.dead])) (s0:=total_here_35) (ei_l (zd_ 1 rfl)) (zM_ 8) fun s_36 x_37=>at_ [(Sl.fz tyInt c.1),(Sl.fz (tyL tyStr) c.2.1),(Sl.fz (tyL Qq1) c.2.2.1),(Sl.fz (tyL Qq1) c.2.2.2.1),(Sl.fz tyInt c.2.2.2.2),(Sl.fz tyStr s_33),(Sl.fz Qq1 x_34),(Sl.fz tyInt s_36),(Sl.fz tyStr x_37)] (zch_ (zb6_ (i:=7) rfl zc_ (zs_ zaj_ (zd_ 7 rfl) (zr_ (zm_ (zd_ 8 rfl) (zf_ (zd_ 6 rfl))))) fun total_here_38=>(at_ [(Sl.fz tyInt c.1),(Sl.fz (tyL tyStr) c.2.1),(Sl.fz (tyL Qq1) c.2.2.1),(Sl.fz (tyL Qq1) c.2.2.2.1),(Sl.fz tyInt c.2.2.2.2),(Sl.fz tyStr s_33),(Sl.fz Qq1 x_34),(Sl.fz tyInt total_here_38),(Sl.fz tyStr x_37)] (zw_ (S4 (S4 (.dead .nil))))))))) fun s_36=>(at_ [(Sl.fz tyInt c.1),(Sl.fz (tyL tyStr) c.2.1),(Sl.fz (tyL Qq1) c.2.2.1),(Sl.fz (tyL Qq1) c.2.2.2.1),(Sl.fz tyInt c.2.2.2.2),(Sl.fz tyStr s_33),(Sl.fz Qq1 x_34),(Sl.fz tyInt s_36),Sl.dead] (zch_ (zb6_ (i:=5) rfl zp_ (zs_ zby_ (zs_ zby_ (zd_ 5 rfl) (zbw_ [32])) (zr_ (zm_ (zd_ 7 rfl) (zf_ (zd_ 4 rfl))))) fun line_45=>(at_ [(Sl.fz tyInt c.1),(Sl.fz (tyL tyStr) c.2.1),(Sl.fz (tyL Qq1) c.2.2.1),(Sl.fz (tyL Qq1) c.2.2.2.1),(Sl.fz tyInt c.2.2.2.2),(Sl.fz tyStr line_45),(Sl.fz Qq1 x_34),(Sl.fz tyInt s_36),Sl.dead] (zw_ (S4 (.same (.same (.dead (.dead (.same .nil)))))))))))))))) fun s_33=>(at_ [(Sl.fz tyInt c.1),(Sl.fz (tyL tyStr) c.2.1),(Sl.fz (tyL Qq1) c.2.2.1),(Sl.fz (tyL Qq1) c.2.2.2.1),(Sl.fz tyInt c.2.2.2.2),(Sl.fz tyStr s_33),Sl.dead,Sl.dead,Sl.dead] (zcA_ (zo_ zp_) (EvF.ow (zd_ 5 rfl))))))))))
theorem zft_ (e:En K mg) (g11:zc5_ P w K mg base):zd1_ P w K mg base :=
 zd8_ e.m e.f12 (okRk (N:=["_law_deck", "_law_k", "_law_level", "_law_begins", "_law_breaks", "_law_sums", "_law_figures", "_law_lines", "_law_inner"]) (O:=(owL tyInt)) (O2:=(owL tyInt)) (Or:=(owL tyStr)) (C:=(csCons (tyL tyStr) (csCons tyInt (csCons tyInt (csCons (tyL Qq1) (csCons (tyL Qq1) (csLast tyInt))))))) (t:=fun E=>zgk_ K) (g:=fun x c=>zcr_ c.1 c.2.1 c.2.2.1 x c.2.2.2.1 c.2.2.2.2.1 c.2.2.2.2.2) 3 6 2 (zx_ (zx_ (zx_ (zx_ (zx_ zt_))))) (fun _ _ _ _ _ _ E nd hr=>(ze_ (pst 7 (za8_ zg_)) (ze_ (za7_ PassesOwn.never rfl (zi4_ (e.m.gb e.b0) (zb_ (zd7_ zQ_ (e.m.gb e.b2) (zb_ (za_ 4) zg_)) (zb_ (zP_ zaR_ (za_ 2) zi_) (zb_ (zf9_ zi_) zg_)))) (pgn 8) (ze_ (zaJ_ (zhv_ zbk_ zJ_ zH_ zay_ (za_ 7) (zb_ (zq_ g11 (hm hr) (zb_ (za_ 8) (zb_ (zbe_ sl_M (za_ 0) (po_M (zaT_ ix_M (za_ 3) (za_ 8) (fun _ _=>rfl))) (po_M (za_ 1))) (zb_ (za_ 4) (zb_ (za_ 5) (zb_ (za_ 6) zg_)))))) zg_))) (zn_ (zmf_ (za_ 1) (zlP_ (za_ 3) (za_ 8) zoh_))))) (zn_ (zV_ (za_ 7)))))) fun w_ x c E=>at_ [(Sl.fz (tyL tyStr) c.1),(Sl.fz tyInt c.2.1),(Sl.fz tyInt c.2.2.1),(Sl.ow (owAt w_ (owL tyInt)) x),(Sl.fz (tyL Qq1) c.2.2.2.1),(Sl.fz (tyL Qq1) c.2.2.2.2.1),(Sl.fz tyInt c.2.2.2.2.2),Sl.dead,Sl.dead]
 (za9_ (i:=7) rfl (zy_ zp_) (zbn_ tyStr) fun lines_1=>(at_ [(Sl.fz (tyL tyStr) c.1),(Sl.fz tyInt c.2.1),(Sl.fz tyInt c.2.2.1),(Sl.ow (owAt w_ (owL tyInt)) x),(Sl.fz (tyL Qq1) c.2.2.2.1),(Sl.fz (tyL Qq1) c.2.2.2.2.1),(Sl.fz tyInt c.2.2.2.2.2),(Sl.ow (owL tyStr) lines_1),Sl.dead] (zbY_ (LS:=(fun s_2:((List (List Nat))×(List Int))=>[(Sl.fz (tyL tyStr) c.1),(Sl.fz tyInt c.2.1),(Sl.fz tyInt c.2.2.1),(Sl.ow (owAt w_ (owL tyInt)) s_2.2),(Sl.fz (tyL Qq1) c.2.2.2.1),(Sl.fz (tyL Qq1) c.2.2.2.2.1),(Sl.fz tyInt c.2.2.2.2.2),(Sl.ow (owL tyStr) s_2.1),Sl.dead])) (zaU_ (L':=[(Sl.fz (tyL tyStr) c.1),(Sl.fz tyInt c.2.1),(Sl.fz tyInt c.2.2.1),(Sl.ow (owAt w_ (owL tyInt)) x),(Sl.fz (tyL Qq1) c.2.2.2.1),(Sl.fz (tyL Qq1) c.2.2.2.2.1),(Sl.fz tyInt c.2.2.2.2.2),(Sl.ow (owL tyStr) lines_1),Sl.dead]) (S4 (S4 (.same .nil))) (zed_ (LS:=(fun s_2:((List (List Nat))×(List Int))=>[(Sl.fz (tyL tyStr) c.1),(Sl.fz tyInt c.2.1),(Sl.fz tyInt c.2.2.1),(Sl.ow (owAt w_ (owL tyInt)) s_2.2),(Sl.fz (tyL Qq1) c.2.2.2.1),(Sl.fz (tyL Qq1) c.2.2.2.2.1),(Sl.fz tyInt c.2.2.2.2.2),(Sl.ow (owL tyStr) s_2.1),Sl.dead])) (s0:=(lines_1,x)) (zn2_ (zm_ (zeb_ zaK_ (zf_ (zd_ 4 rfl))) (zm_ (zs_ zaP_ (zd_ 2 rfl) (zj_ 1)) (zf_ (zfG_ (zj_ 1)))))) (zM_ 8) fun s_2 x_12=>at_ [(Sl.fz (tyL tyStr) c.1),(Sl.fz tyInt c.2.1),(Sl.fz tyInt c.2.2.1),(Sl.ow (owAt w_ (owL tyInt)) s_2.2),(Sl.fz (tyL Qq1) c.2.2.2.1),(Sl.fz (tyL Qq1) c.2.2.2.2.1),(Sl.fz tyInt c.2.2.2.2.2),(Sl.ow (owL tyStr) s_2.1),(Sl.fz tyInt x_12)] (zdb_ (i:=7) rfl zp_ (zr_ (zm_ (zd_ 8 rfl) (zm_ (EvO.fr (zlA_ (zd_ 0 rfl) (zfz_ (zs_ zaB_ (zgV_ (O:=(owAt w_ (owL tyInt))) 3 rfl) (zd_ 8 rfl))) (zfz_ (zd_ 1 rfl)))) (zm_ (zd_ 4 rfl) (zm_ (zd_ 5 rfl) (zf_ (zd_ 6 rfl))))))) fun a_29=>(at_ [(Sl.fz (tyL tyStr) c.1),(Sl.fz tyInt c.2.1),(Sl.fz tyInt c.2.2.1),(Sl.ow (owAt w_ (owL tyInt)) s_2.2),(Sl.fz (tyL Qq1) c.2.2.2.1),(Sl.fz (tyL Qq1) c.2.2.2.2.1),(Sl.fz tyInt c.2.2.2.2.2),(Sl.ow (owL tyStr) (s_2.1++[a_29])),(Sl.fz tyInt x_12)] (zch_ (znT_ (i:=3) (zf5_ (zd0_ rfl)) zc_ (zd_ 1 rfl) (zd_ 8 rfl) fun x_34=>(at_ [(Sl.fz (tyL tyStr) c.1),(Sl.fz tyInt c.2.1),(Sl.fz tyInt c.2.2.1),(Sl.ow (owAt w_ (owL tyInt)) x_34),(Sl.fz (tyL Qq1) c.2.2.2.1),(Sl.fz (tyL Qq1) c.2.2.2.2.1),(Sl.fz tyInt c.2.2.2.2.2),(Sl.ow (owL tyStr) (s_2.1++[a_29])),(Sl.fz tyInt x_12)] (zw_ (S4 (S4 (.dead .nil))))))))))) fun s_2=>(at_ [(Sl.fz (tyL tyStr) c.1),(Sl.fz tyInt c.2.1),(Sl.fz tyInt c.2.2.1),(Sl.ow (owAt w_ (owL tyInt)) s_2.2),(Sl.fz (tyL Qq1) c.2.2.2.1),(Sl.fz (tyL Qq1) c.2.2.2.2.1),(Sl.fz tyInt c.2.2.2.2.2),(Sl.ow (owL tyStr) s_2.1),Sl.dead] (ziU_ (i:=3) (j:=7) (by decide) rfl rfl))))))
theorem zdY_ (e:En K mg):zci_ P w K mg base :=
 zd8_ e.m e.f13 (okC (N:=["_law_card_here", "_law_board_here", "_law_signs", "_law_here", "_law_there", "_law_text", "_law_column"]) (C:=(csCons tyStr (csLast (tyL Qq1)))) (O:=(owF tyStr)) (t:=fun E=>zee_ K) (g:=fun c=>zbg_ c.1 c.2) 2 5 (zx_ zt_) (fun _ _ _ _ _ _ E nd hr=>(ze_ (pst 2 zii_) (ze_ (za7_ PassesOwn.never rfl (zbE_ (za_ 1)) (zgL_ (n:=2) rfl (zbc_ (pgn 3) (zbc_ (pgn 4) zeT_))) (zn_ (ziS_ hr.u60 (za_ 2) (za_ 4) (zaT_ ix_M (za_ 0) (zP_ zaR_ (za_ 3) zi_) (fun _ _=>rfl))))) (ze_ (pst 5 (zP_ zG_ (zbe_ sl_M (za_ 0) (po_M zi_) zgw_) (zb2_ (l:=[32])))) (ze_ (za7_ PassesOwn.never rfl (zja_ (e.m.gb e.b0) (zb_ zi_ (zb_ zi_ zg_))) (pgn 6) (zn_ (pst 5 (zP_ zG_ (za_ 5) (zjG_ hr.u60 (za_ 2) (za_ 6) (zb2_ (l:=[32]))))))) (zn_ (zV_ (za_ 5)))))))) fun c E=>at_ [(Sl.fz tyStr c.1),(Sl.fz (tyL Qq1) c.2),Sl.dead,Sl.dead,Sl.dead,Sl.dead,Sl.dead]
 (za9_ (i:=2) rfl (zcU_ zp_) (zkE_ kInt tyStr) fun signs_1=>(at_ [(Sl.fz tyStr c.1),(Sl.fz (tyL Qq1) c.2),(Sl.ow (owD kInt tyStr) signs_1),Sl.dead,Sl.dead,Sl.dead,Sl.dead] (zbY_ (LS:=(fun s_2:(List (Int×(List Nat)))=>[(Sl.fz tyStr c.1),(Sl.fz (tyL Qq1) c.2),(Sl.ow (owD kInt tyStr) s_2),Sl.dead,Sl.dead,Sl.dead,Sl.dead])) (zaU_ (L':=[(Sl.fz tyStr c.1),(Sl.fz (tyL Qq1) c.2),(Sl.ow (owD kInt tyStr) signs_1),Sl.dead,Sl.dead,Sl.dead,Sl.dead]) (S4 (.same (.same (.same .nil)))) (zed_ (LS:=(fun s_2:(List (Int×(List Nat)))=>[(Sl.fz tyStr c.1),(Sl.fz (tyL Qq1) c.2),(Sl.ow (owD kInt tyStr) s_2),Sl.dead,Sl.dead,Sl.dead,Sl.dead])) (s0:=signs_1) (ei_l (zd_ 1 rfl)) (zkh_ (zad_ z6_) (zgD_ 3 (zg6_ (zM_ 4)))) fun s_2 x_3=>at_ [(Sl.fz tyStr c.1),(Sl.fz (tyL Qq1) c.2),(Sl.ow (owD kInt tyStr) s_2),(Sl.fz tyInt x_3.1),(Sl.fz tyInt x_3.2),Sl.dead,Sl.dead] (zch_ (zoS_ (i:=2) rfl zp_ zc_ (zs_ zfx_ (zd_ 0 rfl) (zs_ zaP_ (zd_ 3 rfl) (zj_ 1))) (zd_ 4 rfl) fun a_8 y_9=>(at_ [(Sl.fz tyStr c.1),(Sl.fz (tyL Qq1) c.2),(Sl.ow (owD kInt tyStr) (putA s_2 y_9 a_8)),(Sl.fz tyInt x_3.1),(Sl.fz tyInt x_3.2),Sl.dead,Sl.dead] (zw_ (.same (.same (.same (.dead (.dead (.same (.same .nil))))))))))))) fun s_2=>(at_ [(Sl.fz tyStr c.1),(Sl.fz (tyL Qq1) c.2),(Sl.ow (owD kInt tyStr) s_2),Sl.dead,Sl.dead,Sl.dead,Sl.dead] (zb6_ (i:=5) rfl zp_ (zs_ zby_ (zhc_ (zd_ 0 rfl) (zfz_ (zj_ 36)) zoc_) (zbw_ [32])) fun text_11=>(at_ [(Sl.fz tyStr c.1),(Sl.fz (tyL Qq1) c.2),(Sl.ow (owD kInt tyStr) s_2),Sl.dead,Sl.dead,(Sl.fz tyStr text_11),Sl.dead] (zbY_ (LS:=(fun s_18:(List Nat)=>[(Sl.fz tyStr c.1),(Sl.fz (tyL Qq1) c.2),(Sl.ow (owD kInt tyStr) s_2),Sl.dead,Sl.dead,(Sl.fz tyStr s_18),Sl.dead])) (zaU_ (L':=[(Sl.fz tyStr c.1),(Sl.fz (tyL Qq1) c.2),(Sl.ow (owD kInt tyStr) s_2),Sl.dead,Sl.dead,(Sl.fz tyStr text_11),Sl.dead]) (S4 (.same (.same (.same .nil)))) (zed_ (LS:=(fun s_18:(List Nat)=>[(Sl.fz tyStr c.1),(Sl.fz (tyL Qq1) c.2),(Sl.ow (owD kInt tyStr) s_2),Sl.dead,Sl.dead,(Sl.fz tyStr s_18),Sl.dead])) (s0:=text_11) (zkU_ (zm_ (zj_ 1) (zf_ (zj_ 37)))) (zM_ 6) fun s_18 x_22=>at_ [(Sl.fz tyStr c.1),(Sl.fz (tyL Qq1) c.2),(Sl.ow (owD kInt tyStr) s_2),Sl.dead,Sl.dead,(Sl.fz tyStr s_18),(Sl.fz tyInt x_22)] (zch_ (zb6_ (i:=5) rfl zp_ (zs_ zby_ (zd_ 5 rfl) (zlW_ (znV_ 2 rfl) (zd_ 6 rfl) (zbw_ [32]))) fun text_23=>(at_ [(Sl.fz tyStr c.1),(Sl.fz (tyL Qq1) c.2),(Sl.ow (owD kInt tyStr) s_2),Sl.dead,Sl.dead,(Sl.fz tyStr text_23),(Sl.fz tyInt x_22)] (zw_ (S4 (.same (.same (.dead .nil)))))))))) fun s_18=>(at_ [(Sl.fz tyStr c.1),(Sl.fz (tyL Qq1) c.2),(Sl.ow (owD kInt tyStr) s_2),Sl.dead,Sl.dead,(Sl.fz tyStr s_18),Sl.dead] (zcA_ (zo_ zp_) (EvF.ow (zd_ 5 rfl))))))))))))
theorem ziw_ (e:En K mg) (g8:zdH_ P w K mg base) (g12:zd1_ P w K mg base) (g13:zci_ P w K mg base) (g11:zc5_ P w K mg base):zg1_ P w K mg base :=
 zd8_ e.m e.f14 (okC (N:=["_law_deck", "_law_breaks", "_law_sums", "_law_figures", "_law_board_here", "_law_begins", "_law_due_here", "_law_k", "_law_lines", "_law_level"]) (C:=(csCons (tyL tyStr) (csCons (tyL Qq1) (csCons (tyL Qq1) (csCons tyInt (csLast (tyL Qq1))))))) (O:=(owL (tyL tyStr))) (t:=fun E=>zjs_ K) (g:=fun c=>zeK_ c.1 c.2.1 c.2.2.1 c.2.2.2.1 c.2.2.2.2) 5 5 (zx_ (zx_ (zx_ (zx_ zt_)))) (fun _ _ _ _ _ _ E nd hr=>(ze_ (pst 5 (zP_ zdn_ (za8_ (zb_ zi_ zg_)) (zP_ zG_ (zd7_ zQ_ (e.m.gb e.b2) (zb_ (za_ 1) zg_)) zi_))) (ze_ (pst 6 (za8_ zg_)) (ze_ (za7_ PassesOwn.never rfl (zbr_ (e.m.gb e.b0) (zb_ (zd7_ zQ_ (e.m.gb e.b2) (zb_ (za_ 0) zg_)) zg_)) (pgn 7) (ze_ (pst 8 (za8_ zg_)) (ze_ (zcb_ (zaN_ zmn_ (za_ 7) zi_) (ze_ (pst 9 (zq_ g8 (hm hr) (zb_ (zaT_ ix_M (za_ 0) (zP_ zaR_ (za_ 7) zi_) (fun _ _=>rfl)) (zb_ (zaT_ ix_M (za_ 0) (za_ 7) (fun _ _=>rfl)) (zb_ (za_ 1) zg_))))) (zn_ (pst 8 (zq_ g12 (hm hr) (zb_ (za_ 0) (zb_ (za_ 7) (zb_ (za_ 9) (zb_ (za_ 5) (zb_ (za_ 1) (zb_ (za_ 2) (zb_ (za_ 3) zg_))))))))))) zaO_) (zn_ (zaJ_ (zhv_ zbk_ zJ_ zH_ zay_ (za_ 6) (zb_ (zP_ zG_ (za_ 8) (za8_ (zb_ (zq_ g13 (hm hr) (zb_ (zaT_ ix_M (za_ 0) (za_ 7) (fun _ _=>rfl)) (zb_ (za_ 4) zg_))) zg_))) zg_))))))) (ze_ (zcb_ (zaN_ (zik_ hr.u60) (za_ 0) (za8_ zg_)) (zn_ (zV_ (za8_ (zb_ (za8_ (zb_ (zq_ g11 (hm hr) (zb_ zi_ (zb_ (za8_ zg_) (zb_ (za_ 1) (zb_ (za_ 2) (zb_ (za_ 3) zg_)))))) zg_)) zg_)))) zaO_) (zn_ (zV_ (zP_ zG_ (za_ 6) (za8_ (zb_ (zq_ g12 (hm hr) (zb_ (za_ 0) (zb_ (zd7_ zQ_ (e.m.gb e.b2) (zb_ (za_ 0) zg_)) (zb_ zi_ (zb_ (za_ 5) (zb_ (za_ 1) (zb_ (za_ 2) (zb_ (za_ 3) zg_)))))))) zg_)))))))))) fun c E=>at_ [(Sl.fz (tyL tyStr) c.1),(Sl.fz (tyL Qq1) c.2.1),(Sl.fz (tyL Qq1) c.2.2.1),(Sl.fz tyInt c.2.2.2.1),(Sl.fz (tyL Qq1) c.2.2.2.2),Sl.dead,Sl.dead,Sl.dead,Sl.dead,Sl.dead]
 (za9_ (i:=5) rfl (zy_ zc_) (znb_ zlZ_ (EvO.fr (zfZ_ z6_ zco_ (zf_ (zj_ 0)))) (zs_ zaj_ (zeb_ zaK_ (zf_ (zd_ 1 rfl))) (zj_ 1))) fun begins_1=>(at_ [(Sl.fz (tyL tyStr) c.1),(Sl.fz (tyL Qq1) c.2.1),(Sl.fz (tyL Qq1) c.2.2.1),(Sl.fz tyInt c.2.2.2.1),(Sl.fz (tyL Qq1) c.2.2.2.2),(Sl.ow (owL tyInt) begins_1),Sl.dead,Sl.dead,Sl.dead,Sl.dead] (ziH_ (i:=6) rfl (zbn_ (tyL tyStr)) fun due_here_8=>(at_ [(Sl.fz (tyL tyStr) c.1),(Sl.fz (tyL Qq1) c.2.1),(Sl.fz (tyL Qq1) c.2.2.1),(Sl.fz tyInt c.2.2.2.1),(Sl.fz (tyL Qq1) c.2.2.2.2),(Sl.ow (owL tyInt) begins_1),(Sl.ow (owL (tyL tyStr)) due_here_8),Sl.dead,Sl.dead,Sl.dead] (zbY_ (LS:=(fun s_9:((List Int)×(List (List (List Nat))))=>[(Sl.fz (tyL tyStr) c.1),(Sl.fz (tyL Qq1) c.2.1),(Sl.fz (tyL Qq1) c.2.2.1),(Sl.fz tyInt c.2.2.2.1),(Sl.fz (tyL Qq1) c.2.2.2.2),(Sl.ow (owL tyInt) s_9.1),(Sl.ow (owL (tyL tyStr)) s_9.2),Sl.dead,Sl.dead,Sl.dead])) (zaU_ (L':=[(Sl.fz (tyL tyStr) c.1),(Sl.fz (tyL Qq1) c.2.1),(Sl.fz (tyL Qq1) c.2.2.1),(Sl.fz tyInt c.2.2.2.1),(Sl.fz (tyL Qq1) c.2.2.2.2),(Sl.ow (owL tyInt) begins_1),(Sl.ow (owL (tyL tyStr)) due_here_8),Sl.dead,Sl.dead,Sl.dead]) (S4 (S4 (.same (.same .nil)))) (zed_ (LS:=(fun s_9:((List Int)×(List (List (List Nat))))=>[(Sl.fz (tyL tyStr) c.1),(Sl.fz (tyL Qq1) c.2.1),(Sl.fz (tyL Qq1) c.2.2.1),(Sl.fz tyInt c.2.2.2.1),(Sl.fz (tyL Qq1) c.2.2.2.2),(Sl.ow (owL tyInt) s_9.1),(Sl.ow (owL (tyL tyStr)) s_9.2),Sl.dead,Sl.dead,Sl.dead])) (s0:=(begins_1,due_here_8)) (zcD_ (zf_ (zeb_ zaK_ (zf_ (zd_ 0 rfl))))) (zM_ 7) fun s_9 x_12=>at_ [(Sl.fz (tyL tyStr) c.1),(Sl.fz (tyL Qq1) c.2.1),(Sl.fz (tyL Qq1) c.2.2.1),(Sl.fz tyInt c.2.2.2.1),(Sl.fz (tyL Qq1) c.2.2.2.2),(Sl.ow (owL tyInt) s_9.1),(Sl.ow (owL (tyL tyStr)) s_9.2),(Sl.fz tyInt x_12),Sl.dead,Sl.dead] (za9_ (i:=8) rfl (zy_ zp_) (zbn_ tyStr) fun lines_13=>zhH_ (i:=8) rfl (at_ [(Sl.fz (tyL tyStr) c.1),(Sl.fz (tyL Qq1) c.2.1),(Sl.fz (tyL Qq1) c.2.2.1),(Sl.fz tyInt c.2.2.2.1),(Sl.fz (tyL Qq1) c.2.2.2.2),(Sl.ow (owL tyInt) s_9.1),(Sl.ow (owL (tyL tyStr)) s_9.2),(Sl.fz tyInt x_12),(Sl.fz (tyL tyStr) lines_13),Sl.dead] (zbY_ (LS:=(fun s_17:((List (List Nat))×(List Int))=>[(Sl.fz (tyL tyStr) c.1),(Sl.fz (tyL Qq1) c.2.1),(Sl.fz (tyL Qq1) c.2.2.1),(Sl.fz tyInt c.2.2.2.1),(Sl.fz (tyL Qq1) c.2.2.2.2),(Sl.ow (owL tyInt) s_17.2),(Sl.ow (owL (tyL tyStr)) s_9.2),(Sl.fz tyInt x_12),(Sl.fz (tyL tyStr) s_17.1),Sl.dead])) (s_if (zbu_ (zs_ zlT_ (zd_ 7 rfl) (zj_ 0))) (zb6_ (i:=9) rfl zc_ (zr_ (zm_ (zs_ zaB_ (zd_ 0 rfl) (zs_ zaP_ (zd_ 7 rfl) (zj_ 1))) (zm_ (zs_ zaB_ (zd_ 0 rfl) (zd_ 7 rfl)) (zf_ (zd_ 1 rfl))))) fun level_18=>(at_ [(Sl.fz (tyL tyStr) c.1),(Sl.fz (tyL Qq1) c.2.1),(Sl.fz (tyL Qq1) c.2.2.1),(Sl.fz tyInt c.2.2.2.1),(Sl.fz (tyL Qq1) c.2.2.2.2),(Sl.ow (owL tyInt) s_9.1),(Sl.ow (owL (tyL tyStr)) s_9.2),(Sl.fz tyInt x_12),(Sl.fz (tyL tyStr) lines_13),(Sl.fz tyInt level_18)] (zch_ (zm8_ (w:=8) rfl (by decide) (ziy_ rfl (zy_ zc_) (zy_ zp_) (.succ (.succ (.succ .zero))) (zm_ (zd_ 0 rfl) (zm_ (zd_ 7 rfl) (zm_ (zd_ 9 rfl) (zm_ (zd_ 1 rfl) (zm_ (zd_ 2 rfl) (zf_ (zd_ 3 rfl)))))))) fun q_42=>zhH_ (i:=8) rfl (at_ [(Sl.fz (tyL tyStr) c.1),(Sl.fz (tyL Qq1) c.2.1),(Sl.fz (tyL Qq1) c.2.2.1),(Sl.fz tyInt c.2.2.2.1),(Sl.fz (tyL Qq1) c.2.2.2.2),(Sl.ow (owL tyInt) q_42.2),(Sl.ow (owL (tyL tyStr)) s_9.2),(Sl.fz tyInt x_12),(Sl.fz (tyL tyStr) q_42.1),(Sl.fz tyInt level_18)] (zw_ (S4 (S4 (.same (.dead .nil)))))))))) (zw_ (S4 (S4 (.same (.same .nil)))))) fun s_17=>(at_ [(Sl.fz (tyL tyStr) c.1),(Sl.fz (tyL Qq1) c.2.1),(Sl.fz (tyL Qq1) c.2.2.1),(Sl.fz tyInt c.2.2.2.1),(Sl.fz (tyL Qq1) c.2.2.2.2),(Sl.ow (owL tyInt) s_17.2),(Sl.ow (owL (tyL tyStr)) s_9.2),(Sl.fz tyInt x_12),(Sl.fz (tyL tyStr) s_17.1),Sl.dead] (zch_ (zkc_ (i:=6) rfl (EvO.fr (znb_ zmE_ (zd_ 8 rfl) (EvO.fr (O:=(owL tyStr)) (zfZ_ z6_ zco_ (zf_ (zr_ (zm_ (zs_ zaB_ (zd_ 0 rfl) (zd_ 7 rfl)) (zf_ (zd_ 4 rfl))))))))) fun a_51=>(at_ [(Sl.fz (tyL tyStr) c.1),(Sl.fz (tyL Qq1) c.2.1),(Sl.fz (tyL Qq1) c.2.2.1),(Sl.fz tyInt c.2.2.2.1),(Sl.fz (tyL Qq1) c.2.2.2.2),(Sl.ow (owL tyInt) s_17.2),(Sl.ow (owL (tyL tyStr)) (s_9.2++[a_51])),(Sl.fz tyInt x_12),(Sl.fz (tyL tyStr) s_17.1),Sl.dead] (zw_ (S4 (.same (.same (.same (.dead (.dead (.same .nil))))))))))))))))) fun s_9=>(at_ [(Sl.fz (tyL tyStr) c.1),(Sl.fz (tyL Qq1) c.2.1),(Sl.fz (tyL Qq1) c.2.2.1),(Sl.fz tyInt c.2.2.2.1),(Sl.fz (tyL Qq1) c.2.2.2.2),(Sl.ow (owL tyInt) s_9.1),(Sl.ow (owL (tyL tyStr)) s_9.2),Sl.dead,Sl.dead,Sl.dead] (zbY_ (LS:=(fun _:Unit=>[(Sl.fz (tyL tyStr) c.1),(Sl.fz (tyL Qq1) c.2.1),(Sl.fz (tyL Qq1) c.2.2.1),(Sl.fz tyInt c.2.2.2.1),(Sl.fz (tyL Qq1) c.2.2.2.2),(Sl.ow (owL tyInt) s_9.1),(Sl.ow (owL (tyL tyStr)) s_9.2),Sl.dead,Sl.dead,Sl.dead])) (s_if (zbu_ (zs_ (zns_ (zn5_ zin_)) (zd_ 0 rfl) (EvO.fr (zbn_ tyStr)))) (zoJ_ (zfZ_ z6_ zco_ (zf_ (EvO.fr (O:=(owL tyStr)) (zfZ_ z6_ zco_ (zf_ (zr_ (zm_ (zj_ 0) (zm_ (EvO.fr (zbn_ tyStr)) (zm_ (zd_ 1 rfl) (zm_ (zd_ 2 rfl) (zf_ (zd_ 3 rfl))))))))))))) (zw_ (S4 (S4 (.same (.same .nil)))))) fun _=>(at_ [(Sl.fz (tyL tyStr) c.1),(Sl.fz (tyL Qq1) c.2.1),(Sl.fz (tyL Qq1) c.2.2.1),(Sl.fz tyInt c.2.2.2.1),(Sl.fz (tyL Qq1) c.2.2.2.2),(Sl.ow (owL tyInt) s_9.1),(Sl.ow (owL (tyL tyStr)) s_9.2),Sl.dead,Sl.dead,Sl.dead] (zjB_ (O1:=(owL tyStr)) (w:=6) rfl (by decide) (ziy_ rfl (zy_ zc_) (zy_ zp_) (.succ (.succ (.succ .zero))) (zm_ (zd_ 0 rfl) (zm_ (zeb_ zaK_ (zf_ (zd_ 0 rfl))) (zm_ (zj_ 0) (zm_ (zd_ 1 rfl) (zm_ (zd_ 2 rfl) (zf_ (zd_ 3 rfl))))))))))))))))))
theorem zeR_ (e:En K mg):zdo_ P w K mg base :=
 zhI_ e.w0 e.f15 (okC (N:=["self"]) (C:=(csLast (Qq7 K))) (O:=(owF tyStr)) (t:=fun E=>zfo_ K) (g:=fun c=>zbP_ c) 1 0 zt_ (fun _ _ _ _ _ _ E nd hr=>(zn_ (zV_ (zmt_ zfX_ zfQ_ zmi_ (zkQ_ "str" zkk_ (e.m.gb e.b4) (zb_ (z8_ e.w0.cls e.a2.no (za_ 0)) zg_)) (zb_ (z8_ e.w0.cls e.a0.no (za_ 0)) zg_))))) fun c E=>at_ [(Sl.fz (Qq7 K) c)]
 (zcA_ (zo_ zp_) (EvF.ow (zms_ zmb_ (zeb_ zoF_ (zf_ (zbh_ (ns:=Qn1) (by decide +kernel) (n:=2) rfl (at_s (at_s at_0)) (zd_ 0 rfl)))) (zf_ (zbh_ (ns:=Qn1) (by decide +kernel) (n:=0) rfl at_0 (zd_ 0 rfl)))))))
theorem zip_ (e:En K mg):zdx_ P w K mg base :=
 zd8_ e.m e.f16 (okC (N:=["card", "field"]) (C:=(csCons tyStr (csLast Qq1))) (O:=(owF tyStr)) (t:=fun E=>zjU_ K) (g:=fun c=>zeH_ c.1 c.2) 2 0 (zx_ zt_) (fun _ _ _ _ _ _ E nd hr=>(zn_ (zV_ (zbe_ sl_M (za_ 0) (po_M (zP_ zaR_ (zaT_ ix_M (za_ 1) zi_ (fun _ _=>rfl)) zi_)) (po_M (zaT_ ix_M (za_ 1) zi_ (fun _ _=>rfl))))))) fun c E=>at_ [(Sl.fz tyStr c.1),(Sl.fz Qq1 c.2)]
 (zcA_ (zo_ zp_) (EvF.ow (zhc_ (zd_ 0 rfl) (zfz_ (zs_ zaP_ (zef_ (i:=0) at_0 (zd_ 1 rfl)) (zj_ 1))) (zfz_ (zef_ (i:=1) (at_s zfe_) (zd_ 1 rfl)))))))
theorem zcd_ (e:En K mg) (g16:zdx_ P w K mg base) (g15:zdo_ P w K mg base):za0_ P w K mg base :=
 zhI_ e.w1 e.f17 (okC (N:=["self", "level", "words"]) (C:=(csCons (Qq4 K) (csLast tyInt))) (O:=(owF tyStr)) (t:=fun E=>zct_ K) (g:=fun c=>z0_ c.1 c.2) 2 1 (zx_ zt_) (fun _ _ _ _ _ _ E nd hr=>(ze_ (pst 2 (za8_ (zb_ (zP_ zdn_ (zb2_ (l:=[42])) (zP_ zaR_ (zP_ zG_ zi_ (zd7_ zQ_ (e.m.gb e.b2) (zb_ (z8_ e.w1.cls e.a4.no (za_ 0)) zg_))) (za_ 1))) zg_))) (ze_ (zaJ_ (zhv_ zbk_ zcN_ zcE_ zgQ_ (za_ 2) (zb_ (zdR_ (cl:=_) (lv:=["field"]) (fr:=[("self",0)]) rfl (csm rfl (frc fr0)) (zbE_ (zbe_ sl_M (z8_ e.w1.cls e.a4.no (za_ 0)) zgw_ (po_M (za_ 1)))) (fun _ _ _ _=>(pgc 0)) (fun _ _ _ _=>zbK_) (fun _ _ _ _=>(zq_ g16 (hm hr) (zb_ (z8_ e.w1.cls e.a8.no (za_ 1)) (zb_ (za_ 0) zg_))))) zg_))) (ze_ (zaJ_ (zhv_ zbk_ zcN_ zcE_ zgQ_ (za_ 2) (zb_ (zdR_ (cl:=[]) (lv:=["wheel"]) (fr:=[]) rfl (csm rfl fr0) (zbE_ (zaT_ ix_M (z8_ e.w1.cls e.a7.no (za_ 0)) (za_ 1) (fun _ _=>rfl))) (fun _ _ _ _=>(pgc 0)) (fun _ _ _ _=>zbK_) (fun _ _ _ _=>(zb8_ g15 (hm hr) (za_ 0)))) zg_))) (zn_ (zV_ (zmt_ zc6_ zdc_ zji_ (zb2_ (l:=[32])) (zb_ (za_ 2) zg_)))))))) fun c E=>at_ [(Sl.fz (Qq4 K) c.1),(Sl.fz tyInt c.2),Sl.dead]
 (za9_ (i:=2) rfl (zy_ zp_) (zfZ_ z6_ zco_ (zf_ (zs_ ziD_ (zbw_ [42]) (zs_ zaP_ (zs_ zaj_ (zj_ 1) (zeb_ zaK_ (zf_ (zbh_ (ns:=Qn0) (by decide +kernel) (n:=0) rfl at_0 (zd_ 0 rfl))))) (zd_ 1 rfl))))) fun words_1=>(at_ [(Sl.fz (Qq4 K) c.1),(Sl.fz tyInt c.2),(Sl.ow (owL tyStr) words_1)] (zi9_ (i:=2) rfl zp_ (EvO.fr (O:=(owL tyStr)) (zbp_ (ei_l (EvO.fr (zlA_ (zbh_ (ns:=Qn0) (by decide +kernel) (n:=0) rfl at_0 (zd_ 0 rfl)) zoc_ (zfz_ (zd_ 1 rfl))))) (zM_ 0) (fun _=>dead1) (fun x_16=>zbL_) (fun x_16=>(zr_ (zm_ (zie_ (zbh_ (ns:=Qn0) (by decide +kernel) (n:=4) rfl (at_s (at_s (at_s (at_s at_0)))) (zd_ 1 rfl))) (zf_ (zd_ 0 rfl))))))) fun a_23=>(at_ [(Sl.fz (Qq4 K) c.1),(Sl.fz tyInt c.2),(Sl.ow (owL tyStr) (words_1++a_23))] (zi9_ (i:=2) rfl zp_ (EvO.fr (O:=(owL tyStr)) (zbp_ (ei_l (zs_ zaB_ (zbh_ (ns:=Qn0) (by decide +kernel) (n:=3) rfl (at_s (at_s (at_s at_0))) (zd_ 0 rfl)) (zd_ 1 rfl))) (zM_ 0) (fun _=>dead1) (fun x_27=>zbL_) (fun x_27=>(zeV_ (m := "shown") (ns:=Qn1) (by decide +kernel) (zd_ 0 rfl))))) fun a_30=>(at_ [(Sl.fz (Qq4 K) c.1),(Sl.fz tyInt c.2),(Sl.ow (owL tyStr) ((words_1++a_23)++a_30))] (zcA_ (zo_ zp_) (EvF.ow (zms_ zjg_ (zbw_ [32]) (zf_ (zdh_ 2 rfl))))))))))))
theorem zfy_ (e:En K mg):zdS_ P w K mg base :=
 zhI_ e.w0 e.f18 (okU (N:=["self", "value", "risen"]) (O:=(Qq3 K)) (O2:=(Qq3 K)) (C:=(csLast tyInt)) (t:=fun E=>zga_ K) (g:=fun x c=>zcp_ x c) (LS:=fun w_=>(fun x':Qq5=>[(Sl.ow (owAt w_ (Qq3 K)) x'),Sl.dead,Sl.dead])) 1 1 zt_ (fun _ _ _ _ _ _ E nd hr=>(ze_ (pst 2 (zP_ zG_ (z8_ e.w0.cls e.a2.no (za_ 0)) (za_ 1))) (ze_ (zcb_ (zaN_ zpd_ (za_ 2) (z8_ e.w0.cls e.a1.no (za_ 0))) (zn_ (za4_ e.w0.cls e.a3.no (za_ 0) zkL_)) zaO_) (zn_ (za4_ e.w0.cls e.a2.no (za_ 0) (zP_ z2_ (za_ 2) (z8_ e.w0.cls e.a1.no (za_ 0)))))))) fun w_ x c E=>at_ [(Sl.ow (owAt w_ (Qq3 K)) x),(Sl.fz tyInt c),Sl.dead]
 (zb6_ (i:=2) rfl zc_ (zs_ zaj_ (zbh_ (ns:=Qn1) (by decide +kernel) (n:=2) rfl (at_s (at_s at_0)) (zaL_ (P:=(psO (owF tyInt) (psO (owF tyInt) (psO (owF tyInt) (psO (owF tyBl) psNil))))) 0 rfl)) (zd_ 1 rfl)) fun risen_1=>(at_ [(Sl.ow (owAt w_ (Qq3 K)) x),(Sl.fz tyInt c),(Sl.fz tyInt risen_1)] (zbY_ (LS:=(fun s_9:Qq5=>[(Sl.ow (owAt w_ (Qq3 K)) s_9),(Sl.fz tyInt c),(Sl.fz tyInt risen_1)])) (s_if (zbu_ (zs_ zoM_ (zd_ 2 rfl) (zbh_ (ns:=Qn1) (by decide +kernel) (n:=1) rfl (at_s at_0) (zaL_ (P:=(psO (owF tyInt) (psO (owF tyInt) (psO (owF tyInt) (psO (owF tyBl) psNil))))) 0 rfl)))) (zch_ (ze1_ (i:=0) (n:=3) (by decide +kernel) rfl (by decide) (zcO_ (zcO_ (zcO_ ziv_))) zZ_ (zj4_ true) (zf5_ (zd0_ rfl)) fun x_11=>(at_ [(Sl.ow (owAt w_ (Qq3 K)) x_11),(Sl.fz tyInt c),(Sl.fz tyInt risen_1)] (zw_ (.same (.same (.same .nil))))))) (zw_ (.same (.same (.same .nil))))) fun s_9=>(at_ [(Sl.ow (owAt w_ (Qq3 K)) s_9),(Sl.fz tyInt c),(Sl.fz tyInt risen_1)] (zch_ (ze1_ (i:=0) (n:=2) (by decide +kernel) rfl (by decide) (zcO_ (zcO_ ziv_)) zc_ (zs_ z3_ (zd_ 2 rfl) (zbh_ (ns:=Qn1) (by decide +kernel) (n:=1) rfl (at_s at_0) (zaL_ (P:=(psO (owF tyInt) (psO (owF tyInt) (psO (owF tyInt) (psO (owF tyBl) psNil))))) 0 rfl))) (zf5_ (zd0_ rfl)) fun x_14=>(at_ [(Sl.ow (owAt w_ (Qq3 K)) x_14),(Sl.fz tyInt c),(Sl.fz tyInt risen_1)] (zw_ (.same (.dead (.dead .nil))))))))))))
theorem zdv_ (e:En K mg):zbM_ P w K mg base :=
 zhI_ e.w0 e.f19 (okC (N:=["self"]) (C:=(csLast (Qq7 K))) (O:=(owF tyBl)) (t:=fun E=>zdM_ K) (g:=fun c=>zbU_ c) 1 0 zt_ (fun _ _ _ _ _ _ E nd hr=>(zn_ (zV_ (z8_ e.w0.cls e.a3.no (za_ 0))))) fun c E=>at_ [(Sl.fz (Qq7 K) c)]
 (zcA_ (zo_ zZ_) (EvF.ow (zbh_ (ns:=Qn1) (by decide +kernel) (n:=3) rfl (at_s (at_s (at_s at_0))) (zd_ 0 rfl)))))
theorem zbI_ (e:En K mg) (g18:zdS_ P w K mg base) (g19:zbM_ P w K mg base):zal_ P w K mg base :=
 zhI_ e.w1 e.f20 (okU (N:=["self", "level", "numbers", "place", "number", "wheel"]) (O:=(Qq0 K)) (O2:=(Qq0 K)) (C:=(csCons tyInt (csLast (tyL tyInt)))) (t:=fun E=>zce_ K) (g:=fun x c=>zam_ x c.1 c.2) (LS:=fun w_=>(fun x':Qq2=>[(Sl.ow (owAt w_ (Qq0 K)) x'),Sl.dead,Sl.dead,Sl.dead,Sl.dead,Sl.dead])) 2 3 (zx_ zt_) (fun _ _ _ _ _ _ E nd hr=>(zn_ (za7_ PassesOwn.never rfl (zfO_ (by rfl) (e.m.gb e.b5) (zb_ (za_ 2) zg_)) (zgL_ (n:=2) rfl (zbc_ (pgn 3) (zbc_ (pgn 4) zeT_))) (ze_ (pst 5 (zaT_ ix_M (zaT_ ix_M (z8_ e.w1.cls e.a7.no (za_ 0)) (za_ 1) (fun _ _=>rfl)) (za_ 3) (fun _ _=>rfl))) (ze_ (zaJ_ (za5_ g18 (hm hr) (za_ 5) (zb_ (za_ 4) zg_))) (zn_ (zcb_ (zg2_ (zb8_ g19 (hm hr) (za_ 5))) (zn_ (ziS_ hr.u60 (z8_ e.w1.cls e.a9.no (za_ 0)) (za_ 3) zkL_)) zaO_))))))) fun w_ x c E=>at_ [(Sl.ow (owAt w_ (Qq0 K)) x),(Sl.fz tyInt c.1),(Sl.fz (tyL tyInt) c.2),Sl.dead,Sl.dead,Sl.dead]
 (zch_ (zbY_ (LS:=(fun s_1:Qq2=>[(Sl.ow (owAt w_ (Qq0 K)) s_1),(Sl.fz tyInt c.1),(Sl.fz (tyL tyInt) c.2),Sl.dead,Sl.dead,Sl.dead])) (zaU_ (L':=[(Sl.ow (owAt w_ (Qq0 K)) x),(Sl.fz tyInt c.1),(Sl.fz (tyL tyInt) c.2),Sl.dead,Sl.dead,Sl.dead]) (S4 (.same (.same .nil))) (zed_ (LS:=(fun s_1:Qq2=>[(Sl.ow (owAt w_ (Qq0 K)) s_1),(Sl.fz tyInt c.1),(Sl.fz (tyL tyInt) c.2),Sl.dead,Sl.dead,Sl.dead])) (s0:=x) (zfB_ (zf_ (zd_ 2 rfl))) (zkh_ (zad_ z6_) (zgD_ 3 (zg6_ (zM_ 4)))) fun s_1 x_3=>at_ [(Sl.ow (owAt w_ (Qq0 K)) s_1),(Sl.fz tyInt c.1),(Sl.fz (tyL tyInt) c.2),(Sl.fz tyInt x_3.1),(Sl.fz tyInt x_3.2),Sl.dead] (zmX_ (w:=5) rfl (by decide) (zly_ (zly_ (zkW_ (ns:=Qn0) (by decide +kernel) (n:=3) rfl (zih_ (zih_ (zih_ zpm_))) (zfl_ (zbB_ rfl))) (zd_ 1 rfl)) (zd_ 3 rfl)) fun u_14 y_13=>(at_ [(Sl.ow (owPn u_14 (Qq3 K) y_13.2 (owAt w_ (Qq0 K))) y_13.1),(Sl.fz tyInt c.1),(Sl.fz (tyL tyInt) c.2),(Sl.fz tyInt x_3.1),(Sl.fz tyInt x_3.2),(Sl.fz (tyIs u_14) ())] (zl4_ (i:=0) (m := "rise") (ns:=Qn1) (by decide +kernel) (zaE_ (zh_ (zo_ zc_) (zh_ (zo_ zc_) (zh_ (zo_ zc_) (zh_ (zo_ zZ_) zE_))))) (zgF_ (w:=5) rfl rfl) (zk_ zc_) (zf_ (zd_ 4 rfl)) fun x_18=>(at_ [(Sl.ow (owPn u_14 (Qq3 K) y_13.2 (owAt w_ (Qq0 K))) x_18),(Sl.fz tyInt c.1),(Sl.fz (tyL tyInt) c.2),(Sl.fz tyInt x_3.1),(Sl.fz tyInt x_3.2),(Sl.fz (tyIs u_14) ())] (zch_ (zbY_ (LS:=(fun s_21:Qq2=>[(Sl.ow (owAt w_ (Qq0 K)) s_21),(Sl.fz tyInt c.1),(Sl.fz (tyL tyInt) c.2),(Sl.fz tyInt x_3.1),(Sl.fz tyInt x_3.2),Sl.dead])) (s_if (zbu_ (zeV_ (m := "ran_over") (ns:=Qn1) (by decide +kernel) (zmo_ (O':=(Qq3 K)) (i:=0) (w:=5) rfl rfl))) (znn_ (i:=0) rfl (zaU_ (L':=[(Sl.ow (owAt w_ (Qq0 K)) (y_13.2 x_18)),(Sl.fz tyInt c.1),(Sl.fz (tyL tyInt) c.2),(Sl.fz tyInt x_3.1),(Sl.fz tyInt x_3.2),Sl.dead]) (S4 (.same (.dead .nil))) (zch_ (zm4_ (i:=0) (zny_ (ns:=Qn0) (by decide +kernel) (n:=5) rfl (zih_ (zih_ (zih_ (zih_ (zih_ zpm_))))) (zf5_ (zd0_ rfl))) zZ_ zc_ (zj4_ true) (zd_ 3 rfl) fun x_26=>(at_ [(Sl.ow (owAt w_ (Qq0 K)) x_26),(Sl.fz tyInt c.1),(Sl.fz (tyL tyInt) c.2),(Sl.fz tyInt x_3.1),(Sl.fz tyInt x_3.2),Sl.dead] (zw_ (S4 (.same (.same .nil))))))))) (znn_ (i:=0) rfl (zaU_ (L':=[(Sl.ow (owAt w_ (Qq0 K)) (y_13.2 x_18)),(Sl.fz tyInt c.1),(Sl.fz (tyL tyInt) c.2),(Sl.fz tyInt x_3.1),(Sl.fz tyInt x_3.2),Sl.dead]) (S4 (.same (.dead .nil))) (zw_ (S4 (.same (.same .nil))))))) fun s_21=>(at_ [(Sl.ow (owAt w_ (Qq0 K)) s_21),(Sl.fz tyInt c.1),(Sl.fz (tyL tyInt) c.2),(Sl.fz tyInt x_3.1),(Sl.fz tyInt x_3.2),Sl.dead] (zw_ (.same (.same (.same (.dead (.dead (.same .nil)))))))))))))))) fun s_1=>(at_ [(Sl.ow (owAt w_ (Qq0 K)) s_1),(Sl.fz tyInt c.1),(Sl.fz (tyL tyInt) c.2),Sl.dead,Sl.dead,Sl.dead] (zw_ (.same (.dead (.dead (.same (.same (.same .nil)))))))))))
theorem zeM_ (e:En K mg):zdi_ P w K mg base :=
 zhI_ e.w0 e.f21 (okU (N:=["self"]) (O:=(Qq3 K)) (O2:=(Qq3 K)) (C:=csNil) (t:=fun E=>ze0_ K) (g:=fun x c=>zdq_ x) (LS:=fun w_=>(fun x':Qq5=>[(Sl.ow (owAt w_ (Qq3 K)) x')])) 0 0 zk3_ (fun _ _ _ _ _ _ E nd hr=>(ze_ (za4_ e.w0.cls e.a2.no (za_ 0) zi_) (zn_ (za4_ e.w0.cls e.a3.no (za_ 0) zkL_)))) fun w_ x c E=>at_ [(Sl.ow (owAt w_ (Qq3 K)) x)]
 (ze1_ (i:=0) (n:=2) (by decide +kernel) rfl (by decide) (zcO_ (zcO_ ziv_)) zc_ (zj_ 0) (zf5_ (zd0_ rfl)) fun x_2=>(at_ [(Sl.ow (owAt w_ (Qq3 K)) x_2)] (zch_ (ze1_ (i:=0) (n:=3) (by decide +kernel) rfl (by decide) (zcO_ (zcO_ (zcO_ ziv_))) zZ_ (zj4_ false) (zf5_ (zd0_ rfl)) fun x_5=>(at_ [(Sl.ow (owAt w_ (Qq3 K)) x_5)] (zw_ (.same .nil))))))))
theorem zec_ (e:En K mg):zcW_ P w K mg base :=
 zhI_ e.w0 e.f22 (okC (N:=["self"]) (C:=(csLast (Qq7 K))) (O:=(owF tyInt)) (t:=fun E=>zez_ K) (g:=fun c=>zcJ_ c) 1 0 zt_ (fun _ _ _ _ _ _ E nd hr=>(zn_ (zV_ (z8_ e.w0.cls e.a2.no (za_ 0))))) fun c E=>at_ [(Sl.fz (Qq7 K) c)]
 (zcA_ (zo_ zc_) (EvF.ow (zbh_ (ns:=Qn1) (by decide +kernel) (n:=2) rfl (at_s (at_s at_0)) (zd_ 0 rfl)))))
theorem zbT_ (e:En K mg) (g17:za0_ P w K mg base) (g20:zal_ P w K mg base) (g22:zcW_ P w K mg base) (g21:zdi_ P w K mg base):zak_ P w K mg base :=
 zhI_ e.w1 e.f23 (okR (N:=["self", "level", "line", "wheel"]) (O:=(Qq0 K)) (O2:=(Qq0 K)) (Or:=(owF tyStr)) (C:=(csLast tyInt)) (t:=fun E=>zcc_ K) (g:=fun x c=>zT_ x c) 1 2 zt_ (fun _ _ _ _ _ _ E nd hr=>(ze_ (pst 2 (za5_ g17 (hm hr) (za_ 0) (zb_ (za_ 1) zg_))) (ze_ (zcb_ (zaN_ zmn_ (za_ 1) zi_) (zn_ (zaJ_ (za5_ g20 (hm hr) (za_ 0) (zb_ (zP_ zaR_ (za_ 1) zi_) (zb_ (zdR_ (cl:=[]) (lv:=["wheel"]) (fr:=[]) rfl (csm rfl fr0) (zbE_ (zaT_ ix_M (z8_ e.w1.cls e.a7.no (za_ 0)) (za_ 1) (fun _ _=>rfl))) (fun _ _ _ _=>(pgc 0)) (fun _ _ _ _=>zbK_) (fun _ _ _ _=>(zb8_ g22 (hm hr) (za_ 0)))) zg_))))) zaO_) (ze_ (za7_ PassesOwn.never rfl (zbE_ (zaT_ ix_M (z8_ e.w1.cls e.a7.no (za_ 0)) (za_ 1) (fun _ _=>rfl))) (pgn 3) (zn_ (zaJ_ (zb8_ g21 (hm hr) (za_ 3))))) (zn_ (zV_ (za_ 2))))))) fun w_ x c E=>at_ [(Sl.ow (owAt w_ (Qq0 K)) x),(Sl.fz tyInt c),Sl.dead,Sl.dead]
 (zb6_ (i:=2) rfl zp_ (zi5_ (m := "total_line") (ns:=Qn0) (by decide +kernel) (zaL_ (P:=(Qq6 K)) 0 rfl) (zf_ (zd_ 1 rfl))) fun line_1=>(at_ [(Sl.ow (owAt w_ (Qq0 K)) x),(Sl.fz tyInt c),(Sl.fz tyStr line_1),Sl.dead] (zbY_ (LS:=(fun s_7:Qq2=>[(Sl.ow (owAt w_ (Qq0 K)) s_7),(Sl.fz tyInt c),(Sl.fz tyStr line_1),Sl.dead])) (s_if (zbu_ (zs_ zlT_ (zd_ 1 rfl) (zj_ 0))) (zch_ (zkD_ (zaG_ (m := "raise_level") (ns:=Qn0) (by decide +kernel) (zaE_ (zh_ (zy_ (zv_ (zl_ zc_ (zk_ zc_)))) (zh_ (zy_ (zv_ (zl_ zc_ (zk_ zc_)))) (zh_ (zy_ (zv_ (zl_ zc_ (zk_ zc_)))) (zh_ (zY_ (zY_ (zaE_ (zh_ (zo_ zc_) (zh_ (zo_ zc_) (zh_ (zo_ zc_) (zh_ (zo_ zZ_) zE_))))))) (zh_ (zo_ (zbb_ zp_)) (zh_ (zcU_ zZ_) zE_))))))) (zo_ zk0_) (zfl_ (zbB_ rfl)) (zjd_ (zdk_ zc_ (zs_ zaP_ (zd_ 1 rfl) (zj_ 1))) (zbG_ (zkO_ (zy_ zc_) (zbp_ (ei_l (zs_ zaB_ (zbh_ (ns:=Qn0) (by decide +kernel) (n:=3) rfl (at_s (at_s (at_s at_0))) (zaL_ (P:=(Qq6 K)) 0 rfl)) (zd_ 1 rfl))) (zM_ 0) (fun _=>dead1) (fun x_13=>zbL_) (fun x_13=>(zeV_ (m := "amount") (ns:=Qn1) (by decide +kernel) (zd_ 0 rfl)))))))) fun q_21=>(at_ [(Sl.ow (owAt w_ (Qq0 K)) q_21.2),(Sl.fz tyInt c),(Sl.fz tyStr line_1),Sl.dead] (zw_ (S4 .nil))))) (zw_ (S4 .nil))) fun s_7=>(at_ [(Sl.ow (owAt w_ (Qq0 K)) s_7),(Sl.fz tyInt c),(Sl.fz tyStr line_1),Sl.dead] (zbY_ (LS:=(fun s_31:Qq2=>[(Sl.ow (owAt w_ (Qq0 K)) s_31),(Sl.fz tyInt c),(Sl.fz tyStr line_1),Sl.dead])) (zov_ (m := "reset") (ns:=Qn1) (w:=3) (Nat.le_of_ble_eq_true rfl) rfl (by decide) (by decide +kernel) (zaE_ (zh_ (zo_ zc_) (zh_ (zo_ zc_) (zh_ (zo_ zc_) (zh_ (zo_ zZ_) zE_))))) (zly_ (zkW_ (ns:=Qn0) (by decide +kernel) (n:=3) rfl (zih_ (zih_ (zih_ zpm_))) (zfl_ (zbB_ rfl))) (zd_ 1 rfl))) fun s_31=>(at_ [(Sl.ow (owAt w_ (Qq0 K)) s_31),(Sl.fz tyInt c),(Sl.fz tyStr line_1),Sl.dead] (zpf_ (i:=0) rfl zp_ (zd_ 2 rfl)))))))))
theorem zbF_ (e:En K mg) (g23:zak_ P w K mg base):zaf_ P w K mg base :=
 zhI_ e.w1 e.f24 (okR (N:=["self", "outermost", "lines", "level"]) (O:=(Qq0 K)) (O2:=(Qq0 K)) (Or:=(owL tyStr)) (C:=(csLast tyInt)) (t:=fun E=>zbZ_ K) (g:=fun x c=>zae_ x c) 1 2 zt_ (fun _ _ _ _ _ _ E nd hr=>(ze_ (pst 2 (za8_ zg_)) (ze_ (za7_ PassesOwn.never rfl (zi4_ (e.m.gb e.b0) (zb_ (zd7_ zQ_ (e.m.gb e.b2) (zb_ (z8_ e.w1.cls e.a4.no (za_ 0)) zg_)) (zb_ (zP_ zaR_ (za_ 1) zi_) (zb_ (zf9_ zi_) zg_)))) (pgn 3) (zn_ (zaJ_ (zhv_ zbk_ zJ_ zH_ zay_ (za_ 2) (zb_ (za5_ g23 (hm hr) (za_ 0) (zb_ (za_ 3) zg_)) zg_))))) (zn_ (zV_ (za_ 2)))))) fun w_ x c E=>at_ [(Sl.ow (owAt w_ (Qq0 K)) x),(Sl.fz tyInt c),Sl.dead,Sl.dead]
 (za9_ (i:=2) rfl (zy_ zp_) (zbn_ tyStr) fun lines_1=>(at_ [(Sl.ow (owAt w_ (Qq0 K)) x),(Sl.fz tyInt c),(Sl.ow (owL tyStr) lines_1),Sl.dead] (zbY_ (LS:=(fun s_2:((List (List Nat))×Qq2)=>[(Sl.ow (owAt w_ (Qq0 K)) s_2.2),(Sl.fz tyInt c),(Sl.ow (owL tyStr) s_2.1),Sl.dead])) (zaU_ (L':=[(Sl.ow (owAt w_ (Qq0 K)) x),(Sl.fz tyInt c),(Sl.ow (owL tyStr) lines_1),Sl.dead]) (S4 .nil) (zo3_ (LS:=(fun s_2:((List (List Nat))×Qq2)=>[(Sl.ow (owAt w_ (Qq0 K)) s_2.2),(Sl.fz tyInt c),(Sl.ow (owL tyStr) s_2.1),Sl.dead])) (s0:=(lines_1,x)) (eir_3 (zm_ (zeb_ zaK_ (zf_ (zbh_ (ns:=Qn0) (by decide +kernel) (n:=0) rfl at_0 (zaL_ (P:=(Qq6 K)) 0 rfl)))) (zm_ (zs_ zaP_ (zd_ 1 rfl) (zj_ 1)) (zf_ (zfG_ (zj_ 1)))))) (zM_ 3) fun s_2 x_13=>at_ [(Sl.ow (owAt w_ (Qq0 K)) s_2.2),(Sl.fz tyInt c),(Sl.ow (owL tyStr) s_2.1),(Sl.fz tyInt x_13)] (zch_ (zoT_ (w:=2) rfl (by decide) (zaG_ (m := "close_level") (ns:=Qn0) (by decide +kernel) (zaE_ (zh_ (zy_ (zv_ (zl_ zc_ (zk_ zc_)))) (zh_ (zy_ (zv_ (zl_ zc_ (zk_ zc_)))) (zh_ (zy_ (zv_ (zl_ zc_ (zk_ zc_)))) (zh_ (zY_ (zY_ (zaE_ (zh_ (zo_ zc_) (zh_ (zo_ zc_) (zh_ (zo_ zc_) (zh_ (zo_ zZ_) zE_))))))) (zh_ (zo_ (zbb_ zp_)) (zh_ (zcU_ zZ_) zE_))))))) (zo_ zp_) (zfl_ (zbB_ rfl)) (zbG_ (zdk_ zc_ (zd_ 3 rfl)))) fun q_17=>(at_ [(Sl.ow (owAt w_ (Qq0 K)) q_17.2),(Sl.fz tyInt c),(Sl.ow (owL tyStr) (s_2.1++[q_17.1])),(Sl.fz tyInt x_13)] (zw_ (.same (.same (.same (.dead .nil)))))))))) fun s_2=>(at_ [(Sl.ow (owAt w_ (Qq0 K)) s_2.2),(Sl.fz tyInt c),(Sl.ow (owL tyStr) s_2.1),Sl.dead] (ziU_ (i:=0) (j:=2) (by decide) rfl rfl))))))
theorem zdt_ (e:En K mg) (g23:zak_ P w K mg base) (g24:zaf_ P w K mg base):zbN_ P w K mg base :=
 zhI_ e.w1 e.f25 (okR (N:=["self"]) (O:=(Qq0 K)) (O2:=(Qq0 K)) (Or:=(owL tyStr)) (C:=csNil) (t:=fun E=>zdE_ K) (g:=fun x c=>zax_ x) 0 0 zk3_ (fun _ _ _ _ _ _ E nd hr=>(ze_ (zcb_ (zaN_ zoG_ (z8_ e.w1.cls e.a8.no (za_ 0)) zlr_) (zn_ (zV_ (za8_ (zb_ (za5_ g23 (hm hr) (za_ 0) (zb_ zi_ zg_)) zg_)))) zaO_) (zn_ (zV_ (za5_ g24 (hm hr) (za_ 0) (zb_ zi_ zg_)))))) fun w_ x c E=>at_ [(Sl.ow (owAt w_ (Qq0 K)) x)]
 (zbY_ (LS:=(fun _:Unit=>[(Sl.ow (owAt w_ (Qq0 K)) x)])) (s_if (zbu_ (zs_ znC_ (zbh_ (ns:=Qn0) (by decide +kernel) (n:=4) rfl (at_s (at_s (at_s (at_s at_0)))) (zaL_ (P:=(Qq6 K)) 0 rfl)) znv_)) (zlV_ (i:=0) (Nat.le_of_ble_eq_true rfl) (zaG_ (m := "close_level") (ns:=Qn0) (by decide +kernel) (zaE_ (zh_ (zy_ (zv_ (zl_ zc_ (zk_ zc_)))) (zh_ (zy_ (zv_ (zl_ zc_ (zk_ zc_)))) (zh_ (zy_ (zv_ (zl_ zc_ (zk_ zc_)))) (zh_ (zY_ (zY_ (zaE_ (zh_ (zo_ zc_) (zh_ (zo_ zc_) (zh_ (zo_ zc_) (zh_ (zo_ zZ_) zE_))))))) (zh_ (zo_ (zbb_ zp_)) (zh_ (zcU_ zZ_) zE_))))))) (zo_ zp_) (zfl_ (zbB_ rfl)) (zbG_ (zdk_ zc_ (zj_ 0))))) (zw_ (.same .nil))) fun _=>(at_ [(Sl.ow (owAt w_ (Qq0 K)) x)] (zmI_ (i:=0) (Nat.le_of_ble_eq_true rfl) (zaG_ (m := "close_levels") (ns:=Qn0) (by decide +kernel) (zaE_ (zh_ (zy_ (zv_ (zl_ zc_ (zk_ zc_)))) (zh_ (zy_ (zv_ (zl_ zc_ (zk_ zc_)))) (zh_ (zy_ (zv_ (zl_ zc_ (zk_ zc_)))) (zh_ (zY_ (zY_ (zaE_ (zh_ (zo_ zc_) (zh_ (zo_ zc_) (zh_ (zo_ zc_) (zh_ (zo_ zZ_) zE_))))))) (zh_ (zo_ (zbb_ zp_)) (zh_ (zcU_ zZ_) zE_))))))) (zy_ zp_) (zfl_ (zbB_ rfl)) (zbG_ (zdk_ zc_ (zj_ 0))))))))
theorem zfD_ (e:En K mg):zeo_ P w K mg base :=
 zd8_ e.m e.f26 (okC (N:=["_law_number_here", "_law_most", "_law_first"]) (C:=(csCons tyInt (csLast tyInt))) (O:=(owF Qq1)) (t:=fun E=>zhd_ K) (g:=fun c=>zb3_ c.1 c.2) 2 1 (zx_ zt_) (fun _ _ _ _ _ _ E nd hr=>(ze_ (pst 2 (zP_ zG_ zi_ (zP_ z2_ (zP_ zbV_ (za_ 0) zi_) zi_))) (zn_ (zV_ (zmK_ (zb_ (za_ 2) (zb_ (zd7_ (zko_ rfl) (e.m.gb e.b6) (zb_ zi_ (zb_ (zP_ zG_ (za_ 2) (zP_ z2_ (zP_ zbV_ (za_ 0) zi_) (za_ 1))) zg_))) zg_))))))) fun c E=>at_ [(Sl.fz tyInt c.1),(Sl.fz tyInt c.2),Sl.dead]
 (zb6_ (i:=2) rfl zc_ (zs_ zaj_ (zj_ 1) (zs_ z3_ (zs_ za1_ (zd_ 0 rfl) (zj_ 5)) (zj_ 36))) fun first_1=>(at_ [(Sl.fz tyInt c.1),(Sl.fz tyInt c.2),(Sl.fz tyInt first_1)] (zcA_ (zo_ (zv_ (zl_ zc_ (zk_ zc_)))) (EvF.ow (zmV_ (zad_ z6_) (zm_ (zd_ 2 rfl) (zf_ (zeb_ zoQ_ (zm_ (zj_ 36) (zf_ (zs_ zaj_ (zd_ 2 rfl) (zs_ z3_ (zs_ za1_ (zd_ 0 rfl) (zj_ 180)) (zd_ 1 rfl))))))))))))))
theorem zjp_ (e:En K mg):zgB_ P w K mg base :=
 zd8_ e.m e.f27 (okC (N:=["card"]) (C:=(csLast tyStr)) (O:=(owF tyStr)) (t:=fun E=>zj1_ K) (g:=fun c=>zeQ_ c) 1 0 zt_ (fun _ _ _ _ _ _ E nd hr=>(zn_ (zV_ (zbe_ sl_M (za_ 0) (po_M (zn6_ (e.m.gv e.c0))) zgw_)))) fun c E=>at_ [(Sl.fz tyStr c)]
 (zcA_ (zo_ zp_) (EvF.ow (zhc_ (zd_ 0 rfl) (zfz_ (zj_ 36)) zoc_))))
theorem zir_ (e:En K mg):zgu_ P w K mg base :=
 zd8_ e.m e.f28 (okC (N:=["card", "column"]) (C:=(csCons tyStr (csLast tyInt))) (O:=(owF tyStr)) (t:=fun E=>zj8_ K) (g:=fun c=>zeE_ c.1 c.2) 2 0 (zx_ zt_) (fun _ _ _ _ _ _ E nd hr=>(zn_ (zV_ (zaT_ ix_M (za_ 0) (zP_ zaR_ (za_ 1) zi_) (fun _ _=>rfl))))) fun c E=>at_ [(Sl.fz tyStr c.1),(Sl.fz tyInt c.2)]
 (zcA_ (zo_ zp_) (EvF.ow (zs_ zfx_ (zd_ 0 rfl) (zs_ zaP_ (zd_ 1 rfl) (zj_ 1))))))
theorem zhQ_ (e:En K mg) (g28:zgu_ P w K mg base):zg7_ P w K mg base :=
 zd8_ e.m e.f29 (okC (N:=["card", "board", "signs", "wire"]) (C:=(csCons tyStr (csLast (tyL Qq1)))) (O:=(owF tyStr)) (t:=fun E=>zjE_ K) (g:=fun c=>zeI_ c.1 c.2) 2 2 (zx_ zt_) (fun _ _ _ _ _ _ E nd hr=>(ze_ (zcG_ (cl:=[]) (lv:=["column"]) (fr:=[]) rfl (csm rfl fr0) (zbr_ (e.m.gb e.b0) (zb_ (zn6_ (e.m.gv e.c0)) zg_)) (fun _ _ _ _=>(pgc 0)) (fun _ _ _ _=>zbK_) (fun _ _ _ _=>(zb2_ (l:=[32]))) (pgn 2)) (ze_ (za7_ PassesOwn.never rfl (zbE_ (za_ 1)) (pgn 3) (zn_ (zmf_ (zq_ g28 (hm hr) (zb_ (za_ 0) (zb_ (zaT_ ix_M (za_ 3) zi_ (fun _ _=>rfl)) zg_))) (zlP_ (za_ 2) (zP_ zaR_ (zaT_ ix_M (za_ 3) zi_ (fun _ _=>rfl)) zi_) zoh_)))) (zn_ (zV_ (zmt_ zc6_ zdc_ zji_ (zb2_ (l:=[])) (zb_ (za_ 2) zg_))))))) fun c E=>at_ [(Sl.fz tyStr c.1),(Sl.fz (tyL Qq1) c.2),Sl.dead,Sl.dead]
 (za9_ (i:=2) rfl (zy_ zp_) (zbp_ (zcD_ (zf_ (zj_ 36))) (zM_ 0) (fun _=>dead1) (fun x_3=>zbL_) (fun x_3=>(zbw_ [32]))) fun signs_1=>(at_ [(Sl.fz tyStr c.1),(Sl.fz (tyL Qq1) c.2),(Sl.ow (owL tyStr) signs_1),Sl.dead] (zbY_ (LS:=(fun s_5:(List (List Nat))=>[(Sl.fz tyStr c.1),(Sl.fz (tyL Qq1) c.2),(Sl.ow (owL tyStr) s_5),Sl.dead])) (zaU_ (L':=[(Sl.fz tyStr c.1),(Sl.fz (tyL Qq1) c.2),(Sl.ow (owL tyStr) signs_1),Sl.dead]) (S4 .nil) (zed_ (LS:=(fun s_5:(List (List Nat))=>[(Sl.fz tyStr c.1),(Sl.fz (tyL Qq1) c.2),(Sl.ow (owL tyStr) s_5),Sl.dead])) (s0:=signs_1) (ei_l (zd_ 1 rfl)) (zM_ 3) fun s_5 x_6=>at_ [(Sl.fz tyStr c.1),(Sl.fz (tyL Qq1) c.2),(Sl.ow (owL tyStr) s_5),(Sl.fz Qq1 x_6)] (zch_ (zno_ (i:=2) rfl zp_ (zr_ (zm_ (zd_ 0 rfl) (zf_ (zef_ (i:=0) at_0 (zd_ 3 rfl))))) (zs_ zaP_ (zef_ (i:=1) (at_s zfe_) (zd_ 3 rfl)) (zj_ 1)) fun signs_20=>(at_ [(Sl.fz tyStr c.1),(Sl.fz (tyL Qq1) c.2),(Sl.ow (owL tyStr) signs_20),(Sl.fz Qq1 x_6)] (zw_ (.same (.same (.same (.dead .nil)))))))))) fun s_5=>(at_ [(Sl.fz tyStr c.1),(Sl.fz (tyL Qq1) c.2),(Sl.ow (owL tyStr) s_5),Sl.dead] (zcA_ (zo_ zp_) (EvF.ow (zms_ zjg_ (zbw_ []) (zf_ (zdh_ 2 rfl))))))))))
theorem zbt_ (e:En K mg) (g16:zdx_ P w K mg base):zaz_ P w K mg base :=
 zhI_ e.w1 e.f30 (okC (N:=["self", "card", "place", "field"]) (C:=(csCons (Qq4 K) (csLast tyStr))) (O:=(owF tyInt)) (t:=fun E=>zbD_ K) (g:=fun c=>z7_ c.1 c.2) 2 2 (zx_ zt_) (fun _ _ _ _ _ _ E nd hr=>(ze_ (za7_ PassesOwn.never rfl (zfO_ (by rfl) (e.m.gb e.b5) (zb_ (z8_ e.w1.cls e.a4.no (za_ 0)) zg_)) (zgL_ (n:=2) rfl (zbc_ (pgn 2) (zbc_ (pgn 3) zeT_))) (zn_ (zcb_ (zaN_ (zjt_ hr.u60) (zq_ g16 (hm hr) (zb_ (za_ 1) (zb_ (za_ 3) zg_))) (zq_ g16 (hm hr) (zb_ (z8_ e.w1.cls e.a8.no (za_ 0)) (zb_ (za_ 3) zg_)))) (zn_ (zV_ (zP_ zG_ (za_ 2) zi_))) zaO_))) (zn_ (zV_ (zP_ zG_ (zd7_ zQ_ (e.m.gb e.b2) (zb_ (z8_ e.w1.cls e.a4.no (za_ 0)) zg_)) zi_))))) fun c E=>at_ [(Sl.fz (Qq4 K) c.1),(Sl.fz tyStr c.2),Sl.dead,Sl.dead]
 (zbY_ (LS:=(fun _:Unit=>[(Sl.fz (Qq4 K) c.1),(Sl.fz tyStr c.2),Sl.dead,Sl.dead])) (zaU_ (L':=[(Sl.fz (Qq4 K) c.1),(Sl.fz tyStr c.2),Sl.dead,Sl.dead]) (S4 .nil) (zed_ (LS:=(fun _:Unit=>[(Sl.fz (Qq4 K) c.1),(Sl.fz tyStr c.2),Sl.dead,Sl.dead])) (s0:=()) (zfB_ (zf_ (zbh_ (ns:=Qn0) (by decide +kernel) (n:=0) rfl at_0 (zd_ 0 rfl)))) (zkh_ (zad_ z6_) (zgD_ 2 (zg6_ (zM_ 3)))) fun _ x_4=>at_ [(Sl.fz (Qq4 K) c.1),(Sl.fz tyStr c.2),(Sl.fz tyInt x_4.1),(Sl.fz Qq1 x_4.2)] (s_if (zbu_ (zs_ zmJ_ (zr_ (zm_ (zd_ 1 rfl) (zf_ (zd_ 3 rfl)))) (zr_ (zm_ (zie_ (zbh_ (ns:=Qn0) (by decide +kernel) (n:=4) rfl (at_s (at_s (at_s (at_s at_0)))) (zd_ 0 rfl))) (zf_ (zd_ 3 rfl)))))) (zcA_ (zo_ zc_) (EvF.ow (zs_ zaj_ (zd_ 2 rfl) (zj_ 1)))) (zw_ (.same (.same (.dead (.dead .nil)))))))) fun _=>(at_ [(Sl.fz (Qq4 K) c.1),(Sl.fz tyStr c.2),Sl.dead,Sl.dead] (zcA_ (zo_ zc_) (EvF.ow (zs_ zaj_ (zeb_ zaK_ (zf_ (zbh_ (ns:=Qn0) (by decide +kernel) (n:=0) rfl at_0 (zd_ 0 rfl)))) (zj_ 1)))))))
theorem zf7_ (e:En K mg):zev_ P w K mg base :=
 zd8_ e.m e.f31 (okC (N:=["figures", "value", "figure"]) (C:=(csLast tyStr)) (O:=(owF tyInt)) (t:=fun E=>zhs_ K) (g:=fun c=>zc4_ c) 1 2 zt_ (fun _ _ _ _ _ _ E nd hr=>(ze_ (pst 1 zi_) (ze_ (za7_ PassesOwn.never rfl (zbE_ (za_ 0)) (pgn 2) (zn_ (pst 1 (zP_ zG_ (zP_ zdn_ (za_ 1) zi_) (zmt_ zgi_ zfE_ zlq_ (zn6_ (e.m.gv e.c1)) (zb_ (za_ 2) zg_)))))) (zn_ (zV_ (za_ 1)))))) fun c E=>at_ [(Sl.fz tyStr c),Sl.dead,Sl.dead]
 (zb6_ (i:=1) rfl zc_ (zj_ 0) fun value_1=>(at_ [(Sl.fz tyStr c),(Sl.fz tyInt value_1),Sl.dead] (zbY_ (LS:=(fun s_2:Int=>[(Sl.fz tyStr c),(Sl.fz tyInt s_2),Sl.dead])) (zaU_ (L':=[(Sl.fz tyStr c),(Sl.fz tyInt value_1),Sl.dead]) (.same (.same (.same .nil))) (zed_ (LS:=(fun s_2:Int=>[(Sl.fz tyStr c),(Sl.fz tyInt s_2),Sl.dead])) (s0:=value_1) (zlu_ (zd_ 0 rfl)) (zM_ 2) fun s_2 x_4=>at_ [(Sl.fz tyStr c),(Sl.fz tyInt s_2),(Sl.fz tyStr x_4)] (zch_ (zb6_ (i:=1) rfl zc_ (zs_ zaj_ (zs_ zdP_ (zd_ 1 rfl) (zj_ 10)) (zms_ zmp_ (zbw_ [48,49,50,51,52,53,54,55,56,57]) (zf_ (zd_ 2 rfl)))) fun value_5=>(at_ [(Sl.fz tyStr c),(Sl.fz tyInt value_5),(Sl.fz tyStr x_4)] (zw_ (.same (.same (.dead .nil))))))))) fun s_2=>(at_ [(Sl.fz tyStr c),(Sl.fz tyInt s_2),Sl.dead] (zcA_ (zo_ zc_) (EvF.ow (zd_ 1 rfl))))))))
theorem zf6_ (e:En K mg) (g16:zdx_ P w K mg base) (g31:zev_ P w K mg base):zer_ P w K mg base :=
 zd8_ e.m e.f32 (okC (N:=["card", "field", "figures"]) (C:=(csCons tyStr (csLast Qq1))) (O:=(owF tyInt)) (t:=fun E=>zhE_ K) (g:=fun c=>zc9_ c.1 c.2) 2 1 (zx_ zt_) (fun _ _ _ _ _ _ E nd hr=>(ze_ (zcG_ (cl:=[]) (lv:=["sign"]) (fr:=[]) rfl (csm rfl fr0) (zbE_ (zq_ g16 (hm hr) (zb_ (za_ 0) (zb_ (za_ 1) zg_)))) (fun _ _ _ _=>(pgc 0)) (fun _ _ _ _=>zbK_) (fun _ _ _ _=>(zoo_ (zaN_ zoi_ (za_ 0) (zn6_ (e.m.gv e.c1))) (za_ 0) (zb2_ (l:=[48])))) (pgn 2)) (zn_ (zV_ (zq_ g31 (hm hr) (zb_ (zmt_ zc6_ zdc_ zji_ (zb2_ (l:=[])) (zb_ (za_ 2) zg_)) zg_)))))) fun c E=>at_ [(Sl.fz tyStr c.1),(Sl.fz Qq1 c.2),Sl.dead]
 (za9_ (i:=2) rfl (zy_ zp_) (zbp_ (zlu_ (zr_ (zm_ (zd_ 0 rfl) (zf_ (zd_ 1 rfl))))) (zM_ 0) (fun _=>dead1) (fun x_6=>zbL_) (fun x_6=>(ev_if (zbu_ (zs_ zol_ (zd_ 0 rfl) (zbw_ [48,49,50,51,52,53,54,55,56,57]))) (zd_ 0 rfl) (zbw_ [48])))) fun figures_1=>zhH_ (i:=2) rfl (at_ [(Sl.fz tyStr c.1),(Sl.fz Qq1 c.2),(Sl.fz (tyL tyStr) figures_1)] (zcA_ (zo_ zc_) (EvF.ow (zr_ (zf_ (zms_ zjg_ (zbw_ []) (zf_ (zd_ 2 rfl))))))))))
theorem zeg_ (e:En K mg) (g24:zaf_ P w K mg base) (g30:zaz_ P w K mg base) (g27:zgB_ P w K mg base) (g29:zg7_ P w K mg base) (g20:zal_ P w K mg base) (g32:zer_ P w K mg base):zcY_ P w K mg base :=
 zhI_ e.w1 e.f33 (okR (N:=["self", "card", "lines", "mark", "laid"]) (O:=(Qq0 K)) (O2:=(Qq0 K)) (Or:=(owL tyStr)) (C:=(csLast tyStr)) (t:=fun E=>zeC_ K) (g:=fun x c=>zbq_ x c) 1 3 zt_ (fun _ _ _ _ _ _ E nd hr=>(ze_ (pst 2 (za8_ zg_)) (ze_ (zcb_ (zaN_ zj2_ (z8_ e.w1.cls e.a8.no (za_ 0)) zlr_) (zn_ (pst 2 (za5_ g24 (hm hr) (za_ 0) (zb_ (za5_ g30 (hm hr) (za_ 0) (zb_ (za_ 1) zg_)) zg_)))) zaO_) (ze_ (pst 3 (zq_ g27 (hm hr) (zb_ (za_ 1) zg_))) (ze_ (pst 4 (zq_ g29 (hm hr) (zb_ (za_ 1) (zb_ (z8_ e.w1.cls e.a6.no (za_ 0)) zg_)))) (ze_ (zaJ_ (zhv_ zbk_ zJ_ zH_ zay_ (za_ 2) (zb_ (zjA_ (zhS_ (znt_ (za_ 3)) (zhS_ (zb2_ (l:=[32])) (zhS_ (znt_ (za_ 4)) zoy_)))) zg_))) (ze_ (zaJ_ (za5_ g20 (hm hr) (za_ 0) (zb_ (zd7_ zQ_ (e.m.gb e.b2) (zb_ (z8_ e.w1.cls e.a4.no (za_ 0)) zg_)) (zb_ (zdR_ (cl:=_) (lv:=["field"]) (fr:=[("card",1)]) rfl (csm rfl (frc fr0)) (zbE_ (z8_ e.w1.cls e.a5.no (za_ 0))) (fun _ _ _ _=>(pgc 0)) (fun _ _ _ _=>zbK_) (fun _ _ _ _=>(zq_ g32 (hm hr) (zb_ (za_ 1) (zb_ (za_ 0) zg_))))) zg_)))) (ze_ (za4_ e.w1.cls e.a8.no (za_ 0) (za_ 1)) (zn_ (zV_ (za_ 2))))))))))) fun w_ x c E=>at_ [(Sl.ow (owAt w_ (Qq0 K)) x),(Sl.fz tyStr c),Sl.dead,Sl.dead,Sl.dead]
 (za9_ (i:=2) rfl (zy_ zp_) (zbn_ tyStr) fun lines_1=>(at_ [(Sl.ow (owAt w_ (Qq0 K)) x),(Sl.fz tyStr c),(Sl.ow (owL tyStr) lines_1),Sl.dead,Sl.dead] (zbY_ (LS:=(fun s_6:((List (List Nat))×Qq2)=>[(Sl.ow (owAt w_ (Qq0 K)) s_6.2),(Sl.fz tyStr c),(Sl.ow (owL tyStr) s_6.1),Sl.dead,Sl.dead])) (s_if (zbu_ (zs_ zk9_ (zbh_ (ns:=Qn0) (by decide +kernel) (n:=4) rfl (at_s (at_s (at_s (at_s at_0)))) (zaL_ (P:=(Qq6 K)) 0 rfl)) znv_)) (zch_ (zm8_ (w:=2) rfl (by decide) (zaG_ (m := "close_levels") (ns:=Qn0) (by decide +kernel) (zaE_ (zh_ (zy_ (zv_ (zl_ zc_ (zk_ zc_)))) (zh_ (zy_ (zv_ (zl_ zc_ (zk_ zc_)))) (zh_ (zy_ (zv_ (zl_ zc_ (zk_ zc_)))) (zh_ (zY_ (zY_ (zaE_ (zh_ (zo_ zc_) (zh_ (zo_ zc_) (zh_ (zo_ zc_) (zh_ (zo_ zZ_) zE_))))))) (zh_ (zo_ (zbb_ zp_)) (zh_ (zcU_ zZ_) zE_))))))) (zy_ zp_) (zfl_ (zbB_ rfl)) (zbG_ (zdk_ zc_ (zi5_ (m := "changed_level") (ns:=Qn0) (by decide +kernel) (zaL_ (P:=(Qq6 K)) 0 rfl) (zf_ (zd_ 1 rfl)))))) fun q_12=>(at_ [(Sl.ow (owAt w_ (Qq0 K)) q_12.2),(Sl.fz tyStr c),(Sl.ow (owL tyStr) q_12.1),Sl.dead,Sl.dead] (zw_ (S4 (.same .nil)))))) (zw_ (S4 (.same .nil)))) fun s_6=>(at_ [(Sl.ow (owAt w_ (Qq0 K)) s_6.2),(Sl.fz tyStr c),(Sl.ow (owL tyStr) s_6.1),Sl.dead,Sl.dead] (zb6_ (i:=3) rfl zp_ (zr_ (zf_ (zd_ 1 rfl))) fun mark_13=>(at_ [(Sl.ow (owAt w_ (Qq0 K)) s_6.2),(Sl.fz tyStr c),(Sl.ow (owL tyStr) s_6.1),(Sl.fz tyStr mark_13),Sl.dead] (zb6_ (i:=4) rfl zp_ (zr_ (zm_ (zd_ 1 rfl) (zf_ (zbh_ (ns:=Qn0) (by decide +kernel) (n:=2) rfl (at_s (at_s at_0)) (zaL_ (P:=(Qq6 K)) 0 rfl))))) fun laid_15=>(at_ [(Sl.ow (owAt w_ (Qq0 K)) s_6.2),(Sl.fz tyStr c),(Sl.ow (owL tyStr) s_6.1),(Sl.fz tyStr mark_13),(Sl.fz tyStr laid_15)] (zdb_ (i:=2) rfl zp_ (zkd_ (zif_ (zkN_ (zd_ 3 rfl)) (zif_ (zbw_ [32]) (zif_ (zkN_ (zd_ 4 rfl)) zpg_)))) fun a_28=>(at_ [(Sl.ow (owAt w_ (Qq0 K)) s_6.2),(Sl.fz tyStr c),(Sl.ow (owL tyStr) (s_6.1++[a_28])),(Sl.fz tyStr mark_13),(Sl.fz tyStr laid_15)] (zkD_ (zaG_ (m := "raise_level") (ns:=Qn0) (by decide +kernel) (zaE_ (zh_ (zy_ (zv_ (zl_ zc_ (zk_ zc_)))) (zh_ (zy_ (zv_ (zl_ zc_ (zk_ zc_)))) (zh_ (zy_ (zv_ (zl_ zc_ (zk_ zc_)))) (zh_ (zY_ (zY_ (zaE_ (zh_ (zo_ zc_) (zh_ (zo_ zc_) (zh_ (zo_ zc_) (zh_ (zo_ zZ_) zE_))))))) (zh_ (zo_ (zbb_ zp_)) (zh_ (zcU_ zZ_) zE_))))))) (zo_ zk0_) (zfl_ (zbB_ rfl)) (zjd_ (zdk_ zc_ (zeb_ zaK_ (zf_ (zbh_ (ns:=Qn0) (by decide +kernel) (n:=0) rfl at_0 (zaL_ (P:=(Qq6 K)) 0 rfl))))) (zbG_ (zkO_ (zy_ zc_) (zbp_ (ei_l (zbh_ (ns:=Qn0) (by decide +kernel) (n:=1) rfl (at_s at_0) (zaL_ (P:=(Qq6 K)) 0 rfl))) (zM_ 0) (fun _=>dead1) (fun x_32=>zbL_) (fun x_32=>(zr_ (zm_ (zd_ 1 rfl) (zf_ (zd_ 0 rfl)))))))))) fun q_42=>(at_ [(Sl.ow (owAt w_ (Qq0 K)) q_42.2),(Sl.fz tyStr c),(Sl.ow (owL tyStr) (s_6.1++[a_28])),(Sl.fz tyStr mark_13),(Sl.fz tyStr laid_15)] (ze1_ (i:=0) (n:=4) (by decide +kernel) rfl (by decide) (zcO_ (zcO_ (zcO_ (zcO_ ziv_)))) (zbb_ zp_) (zmL_ (fun _ _ _=>zpk_) (zd_ 1 rfl)) (zf5_ (zd0_ rfl)) fun x_44=>(at_ [(Sl.ow (owAt w_ (Qq0 K)) x_44),(Sl.fz tyStr c),(Sl.ow (owL tyStr) (s_6.1++[a_28])),(Sl.fz tyStr mark_13),(Sl.fz tyStr laid_15)] (ziU_ (i:=0) (j:=2) (by decide) rfl rfl))))))))))))))))
theorem zfT_ (e:En K mg):zem_ P w K mg base :=
 zd8_ e.m e.f34 (okC (N:=["_law_found", "_law_due_here", "_law_line"]) (C:=(csCons (tyL tyStr) (csLast (tyL tyStr)))) (O:=(owF tyBl)) (t:=fun E=>zhw_ K) (g:=fun c=>zc1_ c.1 c.2) 2 1 (zx_ zt_) (fun _ _ _ _ _ _ E nd hr=>(ze_ (zcb_ (PW.pt (zmQ_ (zlv_ (zg2_ (zd7_ zhO_ (e.m.gb e.b7) (zb_ (za_ 0) (zb_ (pe_ty "list" (e.m.gb e.b1)) zg_))))) (znJ_ (zaN_ (zjt_ hr.u60) (za_ 0) (za_ 1))))) (zn_ (zV_ zkL_)) zaO_) (ze_ (za7_ PassesOwn.never rfl (zbE_ (za_ 0)) (pgn 2) (zn_ (zcb_ (zlv_ (zg2_ (zd7_ zhO_ (e.m.gb e.b7) (zb_ (za_ 2) (zb_ (pe_ty "str" (e.m.gb e.b4)) zg_))))) (zn_ (zV_ zkL_)) zaO_))) (zn_ (zV_ zkL_))))) fun c E=>at_ [(Sl.fz (tyL tyStr) c.1),(Sl.fz (tyL tyStr) c.2),Sl.dead]
 (zbY_ (LS:=(fun _:Unit=>[(Sl.fz (tyL tyStr) c.1),(Sl.fz (tyL tyStr) c.2),Sl.dead])) (s_if (et_or (zlE_ (zbu_ (znM_ tn_l (zd_ 0 rfl)))) (zbu_ (zs_ (zoA_ (zn5_ zin_)) (zd_ 0 rfl) (zd_ 1 rfl)))) (zcA_ (zo_ zZ_) (EvF.ow (zj4_ false))) (zw_ (.same (.same (.same .nil))))) fun _=>(at_ [(Sl.fz (tyL tyStr) c.1),(Sl.fz (tyL tyStr) c.2),Sl.dead] (zbY_ (LS:=(fun _:Unit=>[(Sl.fz (tyL tyStr) c.1),(Sl.fz (tyL tyStr) c.2),Sl.dead])) (zaU_ (L':=[(Sl.fz (tyL tyStr) c.1),(Sl.fz (tyL tyStr) c.2),Sl.dead]) (.same (.same (.same .nil))) (zed_ (LS:=(fun _:Unit=>[(Sl.fz (tyL tyStr) c.1),(Sl.fz (tyL tyStr) c.2),Sl.dead])) (s0:=()) (ei_l (zd_ 0 rfl)) (zM_ 2) fun _ x_10=>at_ [(Sl.fz (tyL tyStr) c.1),(Sl.fz (tyL tyStr) c.2),(Sl.fz tyStr x_10)] (s_if (zlE_ (zbu_ (znM_ zog_ (zd_ 2 rfl)))) (zcA_ (zo_ zZ_) (EvF.ow (zj4_ false))) (zw_ (.same (.same (.dead .nil))))))) fun _=>(at_ [(Sl.fz (tyL tyStr) c.1),(Sl.fz (tyL tyStr) c.2),Sl.dead] (zcA_ (zo_ zZ_) (EvF.ow (zj4_ true))))))))
theorem zhy_ (e:En K mg) (g3:zaZ_ P w K mg base):zfb_ P w K mg base :=
 zd8_ e.m e.f35 (okC (N:=["_law_cell", "_law_k", "_law_kinds_here", "_law_signs", "_law_numbers", "_law_text", "_law_at", "_law_step", "_law_low", "_law_two", "_law_some", "_law_mark"]) (C:=(csCons tyInt (csCons tyInt (csLast (tyL tyInt))))) (O:=(owF tyStr)) (t:=fun E=>ziA_ K) (g:=fun c=>zd4_ c.1 c.2.1 c.2.2) 3 9 (zx_ (zx_ zt_)) (fun _ _ _ _ _ _ E nd hr=>(ze_ (pst 3 (zb2_ (l:=SG))) (ze_ (pst 4 (zq_ g3 (hm hr) (zb_ (za_ 0) (zb_ zi_ zg_)))) (ze_ (pst 5 (zb2_ (l:=[]))) (ze_ (za7_ PassesOwn.never rfl (zbr_ (e.m.gb e.b0) (zb_ zi_ zg_)) (pgn 6) (ze_ (pst 7 (zP_ zbV_ (zaT_ ix_M (za_ 4) (za_ 6) (fun _ _=>rfl)) zi_)) (ze_ (pst 8 (zP_ zbV_ (zaT_ ix_M (za_ 2) (za_ 6) (fun _ _=>rfl)) zi_)) (ze_ (pst 9 (zP_ zG_ (za_ 8) (zP_ z2_ (za_ 7) zi_))) (ze_ (pst 10 (za8_ (zb_ (zP_ zG_ zi_ (zP_ z2_ (za_ 8) zi_)) (zb_ (zP_ zG_ zi_ (zP_ z2_ (za_ 7) zi_)) (zb_ (zP_ z2_ (za_ 9) zi_) (zb_ (zP_ z2_ (za_ 7) zi_) (zb_ (zP_ zG_ zi_ (zP_ z2_ (za_ 9) zi_)) zg_))))))) (zn_ (pst 5 (zP_ zG_ (za_ 5) (zaT_ ix_M (za_ 3) (zaT_ ix_M (za_ 10) (zP_ z2_ (zaT_ ix_M (za_ 2) (za_ 6) (fun _ _=>rfl)) zi_) (fun _ _=>rfl)) (fun _ _=>rfl)))))))))) (ze_ (pst 11 (zP_ zG_ (zP_ zG_ (zaT_ ix_M (za_ 3) (zP_ z2_ (za_ 0) zi_) (fun _ _=>rfl)) (zaT_ ix_M (za_ 3) (zP_ z2_ (za_ 1) zi_) (fun _ _=>rfl))) (zaT_ ix_M (za_ 3) (zP_ z2_ (zaT_ ix_M (za_ 4) zi_ (fun _ _=>rfl)) zi_) (fun _ _=>rfl)))) (zn_ (zV_ (zP_ zG_ (zP_ zG_ (za_ 5) (za_ 11)) (zaT_ ix_M (za_ 3) (zP_ z2_ (zP_ zbV_ (za_ 0) zi_) zi_) (fun _ _=>rfl))))))))))) fun c E=>at_ [(Sl.fz tyInt c.1),(Sl.fz tyInt c.2.1),(Sl.fz (tyL tyInt) c.2.2),Sl.dead,Sl.dead,Sl.dead,Sl.dead,Sl.dead,Sl.dead,Sl.dead,Sl.dead,Sl.dead]
 (zb6_ (i:=3) rfl zp_ (zbw_ SG) fun signs_1=>(at_ [(Sl.fz tyInt c.1),(Sl.fz tyInt c.2.1),(Sl.fz (tyL tyInt) c.2.2),(Sl.fz tyStr signs_1),Sl.dead,Sl.dead,Sl.dead,Sl.dead,Sl.dead,Sl.dead,Sl.dead,Sl.dead] (za9_ (i:=4) rfl (zy_ zc_) (zbo_ (zm_ (zd_ 0 rfl) (zf_ (zj_ 36)))) fun numbers_2=>zhH_ (i:=4) rfl (at_ [(Sl.fz tyInt c.1),(Sl.fz tyInt c.2.1),(Sl.fz (tyL tyInt) c.2.2),(Sl.fz tyStr signs_1),(Sl.fz (tyL tyInt) numbers_2),Sl.dead,Sl.dead,Sl.dead,Sl.dead,Sl.dead,Sl.dead,Sl.dead] (zb6_ (i:=5) rfl zp_ (zbw_ []) fun text_6=>(at_ [(Sl.fz tyInt c.1),(Sl.fz tyInt c.2.1),(Sl.fz (tyL tyInt) c.2.2),(Sl.fz tyStr signs_1),(Sl.fz (tyL tyInt) numbers_2),(Sl.fz tyStr text_6),Sl.dead,Sl.dead,Sl.dead,Sl.dead,Sl.dead,Sl.dead] (zbY_ (LS:=(fun s_7:(List Nat)=>[(Sl.fz tyInt c.1),(Sl.fz tyInt c.2.1),(Sl.fz (tyL tyInt) c.2.2),(Sl.fz tyStr signs_1),(Sl.fz (tyL tyInt) numbers_2),(Sl.fz tyStr s_7),Sl.dead,Sl.dead,Sl.dead,Sl.dead,Sl.dead,Sl.dead])) (zaU_ (L':=[(Sl.fz tyInt c.1),(Sl.fz tyInt c.2.1),(Sl.fz (tyL tyInt) c.2.2),(Sl.fz tyStr signs_1),(Sl.fz (tyL tyInt) numbers_2),(Sl.fz tyStr text_6),Sl.dead,Sl.dead,Sl.dead,Sl.dead,Sl.dead,Sl.dead]) (S4 (S4 (S4 .nil))) (zed_ (LS:=(fun s_7:(List Nat)=>[(Sl.fz tyInt c.1),(Sl.fz tyInt c.2.1),(Sl.fz (tyL tyInt) c.2.2),(Sl.fz tyStr signs_1),(Sl.fz (tyL tyInt) numbers_2),(Sl.fz tyStr s_7),Sl.dead,Sl.dead,Sl.dead,Sl.dead,Sl.dead,Sl.dead])) (s0:=text_6) (zcD_ (zf_ (zj_ 36))) (zM_ 6) fun s_7 x_9=>at_ [(Sl.fz tyInt c.1),(Sl.fz tyInt c.2.1),(Sl.fz (tyL tyInt) c.2.2),(Sl.fz tyStr signs_1),(Sl.fz (tyL tyInt) numbers_2),(Sl.fz tyStr s_7),(Sl.fz tyInt x_9),Sl.dead,Sl.dead,Sl.dead,Sl.dead,Sl.dead] (zb6_ (i:=7) rfl zc_ (zs_ za1_ (zs_ zaB_ (zd_ 4 rfl) (zd_ 6 rfl)) (zj_ 7)) fun step_10=>(at_ [(Sl.fz tyInt c.1),(Sl.fz tyInt c.2.1),(Sl.fz (tyL tyInt) c.2.2),(Sl.fz tyStr signs_1),(Sl.fz (tyL tyInt) numbers_2),(Sl.fz tyStr s_7),(Sl.fz tyInt x_9),(Sl.fz tyInt step_10),Sl.dead,Sl.dead,Sl.dead,Sl.dead] (zb6_ (i:=8) rfl zc_ (zs_ za1_ (zs_ zaB_ (zd_ 2 rfl) (zd_ 6 rfl)) (zj_ 5)) fun low_15=>(at_ [(Sl.fz tyInt c.1),(Sl.fz tyInt c.2.1),(Sl.fz (tyL tyInt) c.2.2),(Sl.fz tyStr signs_1),(Sl.fz (tyL tyInt) numbers_2),(Sl.fz tyStr s_7),(Sl.fz tyInt x_9),(Sl.fz tyInt step_10),(Sl.fz tyInt low_15),Sl.dead,Sl.dead,Sl.dead] (zb6_ (i:=9) rfl zc_ (zs_ zaj_ (zd_ 8 rfl) (zs_ z3_ (zd_ 7 rfl) (zj_ 2))) fun two_20=>(at_ [(Sl.fz tyInt c.1),(Sl.fz tyInt c.2.1),(Sl.fz (tyL tyInt) c.2.2),(Sl.fz tyStr signs_1),(Sl.fz (tyL tyInt) numbers_2),(Sl.fz tyStr s_7),(Sl.fz tyInt x_9),(Sl.fz tyInt step_10),(Sl.fz tyInt low_15),(Sl.fz tyInt two_20),Sl.dead,Sl.dead] (za9_ (i:=10) rfl (zy_ zc_) (zfZ_ (zad_ (zad_ (zad_ (zad_ z6_)))) (zcx_ (zcx_ (zcx_ (zcx_ zco_)))) (zm_ (zs_ zaj_ (zj_ 1) (zs_ z3_ (zd_ 8 rfl) (zj_ 10))) (zm_ (zs_ zaj_ (zj_ 1) (zs_ z3_ (zd_ 7 rfl) (zj_ 10))) (zm_ (zs_ z3_ (zd_ 9 rfl) (zj_ 37)) (zm_ (zs_ z3_ (zd_ 7 rfl) (zj_ 37)) (zf_ (zs_ zaj_ (zj_ 1) (zs_ z3_ (zd_ 9 rfl) (zj_ 10))))))))) fun some_25=>zhH_ (i:=10) rfl (at_ [(Sl.fz tyInt c.1),(Sl.fz tyInt c.2.1),(Sl.fz (tyL tyInt) c.2.2),(Sl.fz tyStr signs_1),(Sl.fz (tyL tyInt) numbers_2),(Sl.fz tyStr s_7),(Sl.fz tyInt x_9),(Sl.fz tyInt step_10),(Sl.fz tyInt low_15),(Sl.fz tyInt two_20),(Sl.fz (tyL tyInt) some_25),Sl.dead] (zch_ (zb6_ (i:=5) rfl zp_ (zs_ zby_ (zd_ 5 rfl) (zs_ zfx_ (zd_ 3 rfl) (zs_ zaB_ (zd_ 10 rfl) (zs_ z3_ (zs_ zaB_ (zd_ 2 rfl) (zd_ 6 rfl)) (zj_ 5))))) fun text_51=>(at_ [(Sl.fz tyInt c.1),(Sl.fz tyInt c.2.1),(Sl.fz (tyL tyInt) c.2.2),(Sl.fz tyStr signs_1),(Sl.fz (tyL tyInt) numbers_2),(Sl.fz tyStr text_51),(Sl.fz tyInt x_9),(Sl.fz tyInt step_10),(Sl.fz tyInt low_15),(Sl.fz tyInt two_20),(Sl.fz (tyL tyInt) some_25),Sl.dead] (zw_ (S4 (.same (.same (.dead (.dead (.dead (.dead (.dead (.same .nil))))))))))))))))))))))) fun s_7=>(at_ [(Sl.fz tyInt c.1),(Sl.fz tyInt c.2.1),(Sl.fz (tyL tyInt) c.2.2),(Sl.fz tyStr signs_1),(Sl.fz (tyL tyInt) numbers_2),(Sl.fz tyStr s_7),Sl.dead,Sl.dead,Sl.dead,Sl.dead,Sl.dead,Sl.dead] (zb6_ (i:=11) rfl zp_ (zs_ zby_ (zs_ zby_ (zs_ zfx_ (zd_ 3 rfl) (zs_ z3_ (zd_ 0 rfl) (zj_ 37))) (zs_ zfx_ (zd_ 3 rfl) (zs_ z3_ (zd_ 1 rfl) (zj_ 37)))) (zs_ zfx_ (zd_ 3 rfl) (zs_ z3_ (zs_ zaB_ (zd_ 4 rfl) (zj_ 0)) (zj_ 37)))) fun mark_63=>(at_ [(Sl.fz tyInt c.1),(Sl.fz tyInt c.2.1),(Sl.fz (tyL tyInt) c.2.2),(Sl.fz tyStr signs_1),(Sl.fz (tyL tyInt) numbers_2),(Sl.fz tyStr s_7),Sl.dead,Sl.dead,Sl.dead,Sl.dead,Sl.dead,(Sl.fz tyStr mark_63)] (zcA_ (zo_ zp_) (EvF.ow (zs_ zby_ (zs_ zby_ (zd_ 5 rfl) (zd_ 11 rfl)) (zs_ zfx_ (zd_ 3 rfl) (zs_ z3_ (zs_ za1_ (zd_ 0 rfl) (zj_ 37)) (zj_ 37)))))))))))))))))
end
end K34
namespace K34
open PySem PySem.Spec PyProof.Rows L2
local macro_rules | `(tactic| walk_at "mo") => `(tactic| simp only [Mo.okB, Mo.exB, Mo.noB, Mo.noexO, Mo.optS, zit_, zli_, zls_, zlH_, zoR_, zlQ_, zn0_, znR_, zlJ_, grd_T, Bool.not_true, Bool.not_false, if_true, if_false, Bool.false_eq_true, Option.map_some, Option.map_none, ite_true, ite_false, Int.reduceLT, Int.reduceLE, Int.reduceNeg, Int.reduceSub, Int.reduceAdd, Int.reduceMul, Nat.reduceAdd, Nat.reduceLT, decide_true, decide_false, Option.isSome_none, Option.isSome_some, Option.isNone_none, Option.isNone_some, Bool.and_true, Bool.and_false])
theorem zfd_ (ns:List Int) (k:Int) (h:0≤k):∃ c,zK_ ns k=.ok c:=by
 unfold zK_ zbS_
 walk_at "mo"
 by_cases hk:k<(ns.length:Int)
 ·obtain ⟨x,e,_⟩:=zbf_ h hk
  rw [decide_eq_true hk,if_pos rfl,e]
  exact ⟨x,rfl⟩
 ·rw [decide_eq_false hk,if_neg (by decide)]
  exact ⟨0,rfl⟩
theorem fold10 {α:Type}:∀ (xs:List α) (a:Int),xs.foldl (fun s _=>10*s) a=10 ^ xs.length*a
 | [],a=>by simp
 | x::xs,a=>by rw [List.foldl_cons,fold10 xs,List.length_cons,Int.pow_succ,Int.mul_assoc]
theorem zju_ {n:Int}(h0:0≤n) (h1:n≤1000):zeN_ n=.ok (10 ^ n.toNat):=by
 unfold zeN_ zfL_
 simp only [Mo.okB]
 rw [Mo.grd_ok ⟨by lia,by lia⟩,Mo.okB,zcF_ (fun s _=>10*s) (fun s x _=>by rw [zi7_ (by decide) (by decide)]; simp [Int.mul_comm]),fold10,z9_]
 simp
theorem zb4_ (n:Nat):(0:Int)<10 ^ n:=Int.pow_pos (by decide)
theorem zlh_ {v:Int}{n:Nat}(h0:0≤v) (h1:v<10 ^ n) (hn:n≤100):v.natAbs.log2<1920:=by
 have h2:v.natAbs<10 ^ n:=by
  have e1:(10:Int) ^ n=((10 ^ n:Nat):Int):=by rw [Int.natCast_pow]; rfl
  rw [e1] at h1; lia
 have h3:10 ^ n≤10 ^ 100:=Nat.pow_le_pow_right (by decide) hn
 have h4:(10:Nat) ^ 100<2 ^ 1000:=by decide
 rcases log2_lt (Nat.lt_of_lt_of_le (Nat.lt_of_lt_of_le h2 h3) (Nat.le_of_lt h4)) with q | q
 ·lia
 ·rw [q]; decide
theorem zla_ {w:Nat}{v:Int}(hw:1≤w) (h0:0≤v) (h1:v<10 ^ w):zfL (strI v) (w:Int)=digs w v.toNat:=by
 obtain ⟨m,rfl⟩:=Int.eq_ofNat_of_zero_le h0
 rw [ziZ_]
 have h2:m<10 ^ w:=by
  have e1:(10:Int) ^ w=((10 ^ w:Nat):Int):=by rw [Int.natCast_pow]; rfl
  rw [e1] at h1; lia
 exact zi6_ hw h2
theorem zgZ_ (v:Int) {j w:Nat}(h:j<w):((v % 10 ^ w).toNat / 10 ^ j % 10:Nat)=(v / 10 ^ j % 10).toNat:=by
 have hp:=zb4_ j
 have hw:=zb4_ w
 obtain ⟨d,rfl⟩:∃ d,w=j+(d+1):=⟨w-j-1,by lia⟩
 have e0:v=v % 10 ^ (j+(d+1))+10 ^ j*(10*(10 ^ d*(v / 10 ^ (j+(d+1))))):=by
  have:=Int.emod_add_mul_ediv v (10 ^ (j+(d+1)))
  rw [← Int.mul_assoc 10,← Int.mul_assoc (10 ^ j),show (10:Int) ^ j*(10*10 ^ d)=10 ^ (j+(d+1)) by rw [Int.pow_add,Int.pow_succ]; simp [Int.mul_comm,Int.mul_left_comm,Int.mul_assoc]]
  lia
 have h0:0≤v % 10 ^ (j+(d+1)):=Int.emod_nonneg v (Int.ne_of_gt hw)
 generalize v % 10 ^ (j+(d+1))=m at *
 generalize (10 ^ d*(v / 10 ^ (j+(d+1))))=q at *
 subst e0
 rw [Int.add_mul_ediv_left _ _ (Int.ne_of_gt hp),Int.add_mul_emod_self_left]
 obtain ⟨n,rfl⟩:=Int.eq_ofNat_of_zero_le h0
 rw [Int.toNat_natCast,show (10:Int) ^ j=((10 ^ j:Nat):Int) by rw [Int.natCast_pow]; rfl]
 lia
theorem znd_ {d:Int}(h0:0≤d) (h1:d<10):strI d=[48+d.toNat]:=by
 obtain ⟨m,rfl⟩:=Int.eq_ofNat_of_zero_le h0
 rw [ziZ_,zos_ (by lia)]
 rfl
def isF (f:Int×Int):Prop:=1≤f.1∧f.1≤f.2∧f.2≤36
def prt (c:List Nat) (f:Int×Int):List Nat:=cutG c (some (f.1-1)) (some f.2)
def num (c:List Nat) (f:Int×Int):Int:=numL ((prt c f).map fig)
def wd (f:Int×Int):Nat:=(f.2-f.1+1).toNat
def pun (c:List Nat) (f:Int×Int) (v:Int):List Nat:=cutG c none (some (f.1-1))++digs (wd f) (v % 10 ^ wd f).toNat++cutG c (some f.2) none
theorem zeY_ (c:List Nat) (f:Int×Int) (h:c.length≤100000):zaH_ c f=.ok (prt c f):=by
 unfold zaH_ zeH_
 walk_at "mo"
 rw [Mo.lim_ok h]
 rfl
theorem zgp_ (l:List Nat) (h:∀ c∈l,48≤c∧c≤57):zca_ l=.ok (numL l):=by
 unfold zca_ zc4_
 walk_at "mo"
 rw [zcF_ (fun (s:Int) (x:List Nat)=>s*10+((x.headD 0:Nat)-48))]
 ·rw [List.foldl_map]
  rfl
 ·intro s x hx
  obtain ⟨c,hc,rfl⟩:=List.mem_map.mp hx
  rw [zi7_ (by decide) (by decide)]
  walk_at "mo"
  have:=h c hc
  rw [zfc_ this,Mo.grd_ok (by lia)]
  rfl
theorem ze7_ (l:List Nat):joinS [] (strsL (l.map fun c=>[c]))=l:=by
 have:=L2.zjZ_ l
 unfold strsL
 rw [List.map_map]
 exact this
theorem zj3_ (c:List Nat) (f:Int×Int) (h:c.length≤1000):zbj_ c f=.ok (num c f):=by
 unfold zbj_ zc9_
 walk_at "mo"
 have hp:(prt c f).length≤1000:=Nat.le_trans (zde_ _ _ _) h
 rw [zeY_ c f (by lia)]
 walk_at "mo"
 rw [zap_ (g:=fun x=>[fig (x.headD 0)]) (fun x hx=>?_) (by rw [List.length_map]; simp; lia)]
 ·walk_at "mo"
  have e:List.map (fun x:List Nat=>[fig (x.headD 0)]) (List.map (fun c=>[c]) (prt c f))=((prt c f).map fig).map fun c=>[c]:=by
   rw [List.map_map,List.map_map]; rfl
  rw [List.nil_append,e,ze7_,Mo.grd_ok,Mo.okB,zgp_ _ (fun c hc=>?_)]
  ·rfl
  ·obtain ⟨b,_,rfl⟩:=List.mem_map.mp hc
   exact zeS_ b
  ·refine zdZ_ ?_ ?_
   ·unfold strsL; simp [Str.length]; lia
   ·intro z hz
    unfold strsL at hz
    rw [List.map_map] at hz
    obtain ⟨b,_,rfl⟩:=List.mem_map.mp hz
    exact Nat.le_refl 1
 ·obtain ⟨d,hd,rfl⟩:=List.mem_map.mp hx
  rw [zjO_]
  unfold fig cond1
  by_cases q:48≤d∧d≤57
  ·simp [q]
  ·simp [q]
theorem zh2_:∀ (l:List Nat) (a:Int),(∀ c∈l,48≤c∧c≤57)→0≤a→0≤l.foldl (fun (v:Int) (c:Nat)=>v*10+((c:Int)-48)) a∧l.foldl (fun (v:Int) (c:Nat)=>v*10+((c:Int)-48)) a<(a+1)*10 ^ l.length
 | [],a,_,h=>by simp; lia
 | c::l,a,hc,h=>by
  have h1:=hc c (List.mem_cons_self ..)
  have:=zh2_ l (a*10+((c:Int)-48)) (fun d hd=>hc d (List.mem_cons_of_mem _ hd)) (by lia)
  rw [List.foldl_cons,List.length_cons]
  refine ⟨this.1,Int.lt_of_lt_of_le this.2 ?_⟩
  rw [Int.pow_succ,Int.mul_comm (10 ^ l.length) 10,← Int.mul_assoc]
  exact Int.mul_le_mul_of_nonneg_right (by lia) (Int.pow_nonneg (by decide))
theorem num_lt (c:List Nat) (f:Int×Int) (h:c.length≤40):0≤num c f∧num c f<10 ^ 40:=by
 have h1:=zh2_ ((prt c f).map fig) 0 (fun c hc=>by obtain ⟨b,_,rfl⟩:=List.mem_map.mp hc; exact zeS_ b) (by decide)
 refine ⟨h1.1,Int.lt_of_lt_of_le h1.2 ?_⟩
 have h2:((prt c f).map fig).length≤40:=by rw [List.length_map]; exact Nat.le_trans (zde_ _ _ _) h
 rw [show (0:Int)+1=1 from rfl,Int.one_mul]
 have h3:10 ^ ((prt c f).map fig).length≤10 ^ 40:=Nat.pow_le_pow_right (by decide) h2
 have e1:∀ n:Nat,(10:Int) ^ n=((10 ^ n:Nat):Int):=fun n=>by rw [Int.natCast_pow]; rfl
 rw [e1,e1]
 exact Int.ofNat_le.mpr h3
theorem zdC_ {lo:Int}{n:Nat}{d r:List Int}{x:Int}(h:rngI lo n=d++x::r):x=lo+d.length∧d.length<n:=by
 have hl:=congrArg List.length h
 rw [z9_,List.length_append,List.length_cons] at hl
 have hd:d.length<n:=by lia
 have h1:(rngI lo n)[d.length]?=some x:=by rw [h]; simp
 unfold rngI at h1
 rw [List.getElem?_map,List.getElem?_range hd] at h1
 simp at h1
 exact ⟨h1.symm,hd⟩
abbrev Wr:=Int×Int
def okW (w:Wr):Prop:=1≤w.1∧w.1≤40∧1≤w.2∧w.2≤36
def sgn (c:List Nat) (B:List Wr) (col:Int):Nat:=B.foldl (fun s w=>if w.2=col then c.getD (w.1-1).toNat 0 else s) 32
def laid (c:List Nat) (B:List Wr):List Nat:=(List.range 36).map fun i:Nat=>sgn c B (i+1)
theorem zjc_ (c:List Nat) (B:List Wr) (w:Wr) (col:Int):sgn c (B++[w]) col=if w.2=col then c.getD (w.1-1).toNat 0 else sgn c B col:=by
 unfold sgn; rw [List.foldl_append]; rfl
theorem zkA_ {c:List Nat}(hc:c.length=40) {k:Int}(h1:1≤k) (h2:k≤40):atI c (k-1)=some (c.getD (k-1).toNat 0):=by
 rw [zeX_ (by lia),List.getD_eq_getElem?_getD,List.getElem?_eq_getElem (by lia)]
 rfl
theorem zhT_ {c:List Nat}(hc:c.length=40) {k:Int}(h1:1≤k) (h2:k≤40):zdz_ c k=.ok [c.getD (k-1).toNat 0]:=by
 unfold zdz_ zeE_
 walk_at "mo"
 rw [Mo.lim_ok (by lia),zkA_ hc h1 h2]
 rfl
theorem zou_ {c:List Nat}(hc:c.length=40) {B:List Wr}(hB:∀ w∈B,okW w):zdw_ c B=.ok (laid c B):=by
 unfold zdw_ zeI_
 walk_at "mo"
 rw [Mo.grd_ok (by decide)]
 walk_at "mo"
 rw [zap_ (f:=fun x_3=>cond1 (Mo.ok true) (Mo.ok [32])) (g:=fun _=>[32]) (fun x hx=>rfl) (by decide)]
 walk_at "mo"
 refine zS_ (G:=fun m=>fnO (thenO m _)=_) (fun d (s:List (List Nat))=>s=(List.range 36).map fun i:Nat=>[sgn c d (i+1)]) rfl (fun d w s hx hs=>?_) (fun s hs=>?_)
 ·obtain ⟨r,hr⟩:=hx
  obtain ⟨a1,a2,a3,a4⟩:=hB w (by rw [hr]; simp)
  subst hs
  rw [zhT_ hc a1 a2]
  walk_at "mo"
  rw [zfW_ (by lia) (by rw [List.length_map,List.length_range]; lia)]
  refine ⟨_,rfl,?_⟩
  apply List.ext_getElem?
  intro i
  rw [List.getElem?_set,List.getElem?_map,List.getElem?_map]
  by_cases hi:i<36
  ·rw [List.getElem?_range hi]
   simp only [Option.map_some,zjc_,List.length_map,List.length_range]
   by_cases e:(w.2-1).toNat=i
   ·rw [if_pos e,if_pos (by lia),if_pos (by lia)]
   ·rw [if_neg e,if_neg (by lia)]
  ·rw [List.getElem?_eq_none (by rw [List.length_range]; lia),if_neg (by lia)]
   rfl
 ·subst hs
  walk_at "mo"
  have e:((List.range 36).map fun i:Nat=>[sgn c B (i+1)])=(laid c B).map fun x=>[x]:=by unfold laid; rw [List.map_map]; rfl
  rw [e,ze7_,Mo.grd_ok]
  ·rfl
  ·refine zdZ_ ?_ ?_
   ·unfold strsL laid; simp [Str.length]
   ·intro z hz
    unfold strsL at hz
    rw [List.map_map] at hz
    obtain ⟨b,_,rfl⟩:=List.mem_map.mp hz
    exact Nat.le_refl 1
theorem zcM_ (cell:Int) {many:Int}(h0:0≤many) (h1:many≤5000):∃ ns,zac_ cell many=.ok ns∧ns.length=many.toNat:=by
 unfold zac_ zcq_
 walk_at "mo"
 rw [Mo.grd_ok ⟨by lia,by lia⟩]
 walk_at "mo"
 have hn:many.toNat≤5000:=by lia
 generalize many.toNat=n at hn
 refine zS_ (G:=fun m=>∃ c:List Int,fnO (thenO m _)=.ok c∧c.length=n) (fun d (s:Int×List Int)=>s.2.length=d.length∧0≤s.1∧s.1<4294967296) ⟨rfl,by show 0≤cell % 2147483647+48271; lia,by show cell % 2147483647+48271<4294967296; lia⟩ ?_ ?_
 ·rintro d x ⟨nn,cs⟩ ⟨r,hr⟩ ⟨q1,q3,q4⟩
  have hd:d.length≤5000:=by
   have:=congrArg List.length hr
   rw [z9_,List.length_append] at this; lia
  simp only at q1 q3 q4
  have hmul:IntMulOk nn nn:=zdN_ (.inl ⟨by lia,by lia⟩)
  walk_at "mo"
  rw [Mo.grd_ok hmul]
  walk_at "mo"
  rw [Mo.lim_ok (by lia)]
  exact ⟨_,rfl,by simp; exact q1,Int.emod_nonneg _ (by decide),Int.lt_trans (Int.emod_lt_of_pos _ (by decide)) (by decide)⟩
 ·rintro s ⟨q1,_,_⟩
  rw [z9_] at q1
  exact ⟨s.2,rfl,q1⟩
abbrev Whl:=Int×(Int×(Int×(Bool×Unit)))
def whl (f:Nat) (k:Int) (o:Bool):Whl:=((f:Int),10 ^ f,k,o,())
theorem zmZ_ {f:Nat}(h:f≤100):zL_ () f=.ok ((),whl f 0 false):=by
 unfold zL_ zaY_
 walk_at "mo"
 rw [zju_ (by lia) (by lia)]
 rfl
theorem znS_ {f:Nat}{k v:Int}{o:Bool}:zbs_ (whl f k o) v=.ok ((),whl f ((k+v) % 10 ^ f) (o || decide ((10:Int) ^ f≤k+v))):=by
 unfold zbs_ zcp_
 walk_at "mo"
 have e1:(whl f k o).snd.fst=(10:Int) ^ f:=rfl
 have e2:(whl f k o).snd.snd.fst=k:=rfl
 rw [e1,e2]
 by_cases c:(10:Int) ^ f≤k+v
 ·rw [decide_eq_true c]
  walk_at "mo"
  rw [Mo.grd_ok (zb4_ f),Bool.or_true]
  rfl
 ·rw [decide_eq_false c]
  walk_at "mo"
  rw [e1,Mo.grd_ok (zb4_ f),Bool.or_false]
  rfl
theorem zlo_ {f:Nat}{k:Int}{o:Bool}:zX_ (whl f k o)=.ok ((),whl f 0 false):=rfl
theorem zoZ_ {f:Nat}(h:f≤12):PadOk (f:Int)=true:=by
 have:∀ n:Nat,n≤12→PadOk (n:Int)=true:=by decide
 exact this f h
theorem ziR_ {f:Nat}{k:Int}{o:Bool}(h1:1≤f) (h2:f≤12) (h0:0≤k) (hk:k<10 ^ f):zW_ (whl f k o)=.ok (digs f k.toNat):=by
 unfold zW_ zbP_
 walk_at "mo"
 have e1:(whl f k o).fst=(f:Int):=rfl
 have e2:(whl f k o).snd.snd.fst=k:=rfl
 rw [e1,e2,Mo.grd_ok (zlh_ h0 hk (by lia)),Mo.okB,Mo.grd_ok (zoZ_ h2),zla_ h1 h0 hk]
 rfl
theorem znE_:∀ d:Nat,d<10→atI [48,49,50,51,52,53,54,55,56,57] (d:Int)=some (48+d):=by decide
theorem zoe_ {f:Nat}{k:Int}(h2:f≤12) (h0:0≤k) (hk:k<10 ^ f):zaX_ k f=.ok (digs f k.toNat):=by
 have ek:(k % 10 ^ f)=k:=Int.emod_eq_of_lt h0 hk
 unfold zaX_ zb7_
 walk_at "mo"
 rw [Mo.grd_ok ⟨by lia,by lia⟩]
 walk_at "mo"
 refine zS_ (G:=fun m=>fnO (thenO m _)=_) (fun d s=>s=(digs d.length (k % 10 ^ f).toNat,k / 10 ^ d.length)) (by simp [digs]) (fun d x s hx hs=>?_) (fun s hs=>?_)
 ·obtain ⟨r,hr⟩:=hx
  have hd:d.length<f:=by
   have:=congrArg List.length hr
   rw [z9_,List.length_append,List.length_cons] at this
   lia
  subst hs
  have a0:0≤k / 10 ^ d.length % 10:=Int.emod_nonneg _ (by decide)
  have a1:k / 10 ^ d.length % 10<10:=Int.emod_lt_of_pos _ (by decide)
  have ea:=znE_ (k / 10 ^ d.length % 10).toNat (by lia)
  rw [Int.toNat_of_nonneg a0] at ea
  refine ⟨_,by
   simp only
   rw [ea,Mo.lim_ok (by decide)]
   walk_at "mo"
   rw [Mo.lim_ok (by simp [zaD_]; lia)]
   walk_at "mo"
   rfl,?_⟩
  rw [List.length_append,List.length_singleton,zd2_,zgZ_ k hd,Int.pow_succ,← Int.ediv_ediv_of_nonneg (Int.le_of_lt (zb4_ _))]
  rfl
 ·subst hs
  rw [z9_]
  show fnO _=_
  walk_at "mo"
  rw [ek]
  rfl
abbrev Ctr:=(List (Int×Int))×((List (Int×Int))×((List (Int×Int))×((List (List Whl))×((Option (List Nat))×((List (Int×Bool))×Unit)))))
def u1 {α:Type}(g:Nat→α) (i:Nat) (v:α):Nat→α:=fun j=>if j=i then v else g j
theorem zeU_ {α:Type}{n i:Nat}(g:Nat→α) (x:α):((List.range n).map g).set i x=(List.range n).map (u1 g i x):=by
 apply List.ext_getElem?
 intro j
 rw [List.getElem?_set,List.getElem?_map,List.getElem?_map,List.length_map,List.length_range]
 unfold u1
 by_cases hj:j<n
 ·rw [List.getElem?_range hj]
  by_cases e:i=j
  ·subst e; simp [hj]
  ·rw [if_neg e]; simp [Ne.symm e]
 ·rw [List.getElem?_eq_none (l:=List.range n) (by simp; lia)]
  by_cases e:i=j
  ·subst e; simp [hj]
  ·rw [if_neg e]; rfl
def wrow (F n:Nat) (k:Nat→Int) (o:Nat→Bool):List Whl:=(List.range n).map fun p=>whl F (k p) (o p)
def lvls (F m n:Nat) (kf:Nat→Nat→Int) (of:Nat→Nat→Bool):List (List Whl):=(List.range (m+1)).map fun l=>wrow F n (kf l) (of l)
theorem zf1_ (F n:Nat) (k:Nat→Int) (o:Nat→Bool):(wrow F n k o).length=n:=by unfold wrow; simp
theorem zhY_ (F m n:Nat) (kf:Nat→Nat→Int) (of:Nat→Nat→Bool):(lvls F m n kf of).length=m+1:=by unfold lvls; simp
theorem zml_ {F n p:Nat}(k:Nat→Int) (o:Nat→Bool) (h:p<n):(wrow F n k o)[p]?=some (whl F (k p) (o p)):=by unfold wrow; rw [List.getElem?_map,List.getElem?_range h]; rfl
theorem zf2_ {F m n l:Nat}(kf:Nat→Nat→Int) (of:Nat→Nat→Bool) (h:l≤m):(lvls F m n kf of)[l]?=some (wrow F n (kf l) (of l)):=by unfold lvls; rw [List.getElem?_map,List.getElem?_range (by lia)]; rfl
theorem zlK_ (F n p:Nat) (k:Nat→Int) (o:Nat→Bool) (x:Int) (y:Bool):(wrow F n k o).set p (whl F x y)=wrow F n (u1 k p x) (u1 o p y):=by
 unfold wrow; rw [zeU_]; refine List.map_congr_left fun j _=>?_; unfold u1; split<;>rfl
theorem zia_ (F m n l:Nat) (kf:Nat→Nat→Int) (of:Nat→Nat→Bool) (k:Nat→Int) (o:Nat→Bool):(lvls F m n kf of).set l (wrow F n k o)=lvls F m n (u1 kf l k) (u1 of l o):=by
 unfold lvls; rw [zeU_]; refine List.map_congr_left fun j _=>?_; unfold u1; split<;>rfl
theorem u1_u1 {α:Type}(g:Nat→α) (i:Nat) (v w:α):u1 (u1 g i v) i w=u1 g i w:=by funext j; unfold u1; split<;>rfl
theorem zkM_ {α:Type}(g:Nat→α) (i:Nat) (v:α):u1 g i v i=v:=if_pos rfl
theorem zmr_ {α:Type}(g:Nat→α) {i j:Nat}(v:α) (h:j≠i):u1 g i v j=g j:=if_neg h
theorem zkx_ {α:Type}(g:Nat→α) (i:Nat):u1 g i (g i)=g:=by funext j; unfold u1; split<;>rename_i h<;>first | rw [h] | rfl
def mkC (K S Bd:List (Int×Int)) (F:Nat) (kf:Nat→Nat→Int) (of:Nat→Nat→Bool) (bf:Option (List Nat)) (ro:List (Int×Bool)):Ctr:=(K,S,Bd,lvls F K.length S.length kf of,bf,ro,())
def rsK (F:Nat) (k:Nat→Int) (vs:List Int) (d:Nat):Nat→Int:=fun p=>if p<d then (k p+vs.getD p 0) % 10 ^ F else k p
def rsO (F:Nat) (k:Nat→Int) (o:Nat→Bool) (vs:List Int) (d:Nat):Nat→Bool:=fun p=>if p<d then (o p || decide ((10:Int) ^ F≤k p+vs.getD p 0)) else o p
def rsR (F:Nat) (k:Nat→Int) (o:Nat→Bool) (vs:List Int) (ro:List (Int×Bool)):Nat→List (Int×Bool)
 | 0=>ro
 | d+1=>if (o d || decide ((10:Int) ^ F≤k d+vs.getD d 0))=true then putA (rsR F k o vs ro d) (d:Int) true else rsR F k o vs ro d
theorem zm7_ (F:Nat) (k:Nat→Int) (o:Nat→Bool) (vs:List Int) (ro:List (Int×Bool)) (d:Nat):(rsR F k o vs ro d).length≤ro.length+d:=by
 induction d with
 | zero=>exact Nat.le_refl _
 | succ d ih =>
  unfold rsR
  split
  ·exact Nat.le_trans (zib_ _ _ _) (by lia)
  ·lia
theorem rsK_0 (F:Nat) (k:Nat→Int) (vs:List Int):rsK F k vs 0=k:=by funext p; unfold rsK; simp
theorem rsO_0 (F:Nat) (k:Nat→Int) (o:Nat→Bool) (vs:List Int):rsO F k o vs 0=o:=by funext p; unfold rsO; simp
theorem rsK_s (F:Nat) (k:Nat→Int) (vs:List Int) (d:Nat):u1 (rsK F k vs d) d ((k d+vs.getD d 0) % 10 ^ F)=rsK F k vs (d+1):=by
 funext p; unfold u1 rsK
 by_cases h:p=d
 ·subst h; rw [if_pos rfl,if_pos (by lia)]
 ·rw [if_neg h]
  by_cases q:p<d
  ·rw [if_pos q,if_pos (by lia)]
  ·rw [if_neg q,if_neg (by lia)]
theorem rsO_s (F:Nat) (k:Nat→Int) (o:Nat→Bool) (vs:List Int) (d:Nat):u1 (rsO F k o vs d) d (o d || decide ((10:Int) ^ F≤k d+vs.getD d 0))=rsO F k o vs (d+1):=by
 funext p; unfold u1 rsO
 by_cases h:p=d
 ·subst h; rw [if_pos rfl,if_pos (by lia)]
 ·rw [if_neg h]
  by_cases q:p<d
  ·rw [if_pos q,if_pos (by lia)]
  ·rw [if_neg q,if_neg (by lia)]
theorem zfn_ {α:Type}{xs:List α}{d r:List (Int×α)}{q:Int×α}(h:enumL xs=d++q::r):q.1=d.length∧xs[d.length]?=some q.2∧d.length<xs.length:=by
 have h1:(enumL xs)[d.length]?=some q:=by rw [h]; simp
 rw [zgA_] at h1
 obtain ⟨x,h2,h3⟩:=Option.map_eq_some_iff.mp h1
 subst h3
 exact ⟨rfl,h2,(List.getElem?_eq_some_iff.mp h2).1⟩
theorem zhW_ {K S Bd:List (Int×Int)}{F l:Nat}{kf:Nat→Nat→Int}{of:Nat→Nat→Bool}{bf:Option (List Nat)}{ro:List (Int×Bool)}{vs:List Int}(hl:l≤K.length) (hv:vs.length=S.length) (hn:S.length≤100) (hro:ro.length≤100) :
  zN_ (mkC K S Bd F kf of bf ro) l vs=.ok ((),mkC K S Bd F (u1 kf l (rsK F (kf l) vs S.length)) (u1 of l (rsO F (kf l) (of l) vs S.length)) bf (rsR F (kf l) (of l) vs ro S.length)):=by
 unfold zN_ zam_
 walk_at "mo"
 refine zS_ (G:=fun m=>fnMU (thenO m _)=_) (fun d (s:Ctr)=>s=mkC K S Bd F (u1 kf l (rsK F (kf l) vs d.length)) (u1 of l (rsO F (kf l) (of l) vs d.length)) bf (rsR F (kf l) (of l) vs ro d.length)) (by rw [List.length_nil,rsK_0,rsO_0,zkx_,zkx_]; rfl) (fun d x s hx hs=>?_) (fun s hs=>?_)
 ·obtain ⟨r,hr⟩:=hx
  obtain ⟨x1,x2,hd⟩:=zfn_ hr
  rw [hv] at hd
  subst hs
  have ev:vs.getD d.length 0=x.2:=by rw [List.getD_eq_getElem?_getD,x2]; rfl
  have hrl:=zm7_ F (kf l) (of l) vs ro d.length
  unfold mkC
  walk_at "mo"
  rw [zhY_,zfW_ (by lia) (by lia),x1]
  walk_at "mo"
  rw [show ((l:Int)).toNat=l from rfl,zf2_ _ _ hl,zkM_,zkM_]
  walk_at "mo"
  rw [zf1_,zfW_ (by lia) (by lia)]
  walk_at "mo"
  rw [show ((d.length:Int)).toNat=d.length from rfl,zml_ _ _ hd]
  walk_at "mo"
  have k0:rsK F (kf l) vs d.length d.length=kf l d.length:=if_neg (Nat.lt_irrefl _)
  have o0:rsO F (kf l) (of l) vs d.length d.length=of l d.length:=if_neg (Nat.lt_irrefl _)
  rw [znS_,k0,o0]
  walk_at "mo"
  rw [← ev]
  have eov:za3_ (whl F ((kf l d.length+vs.getD d.length 0) % 10 ^ F) (of l d.length || decide ((10:Int) ^ F≤kf l d.length+vs.getD d.length 0)))=.ok (of l d.length || decide ((10:Int) ^ F≤kf l d.length+vs.getD d.length 0)):=rfl
  rw [eov]
  walk_at "mo"
  rw [zlK_,zia_,u1_u1,u1_u1,rsK_s,rsO_s]
  cases ho:(of l d.length || decide ((10:Int) ^ F≤kf l d.length+vs.getD d.length 0)) with
  | true =>
   walk_at "mo"
   rw [Mo.lim_ok (by lia)]
   walk_at "mo"
   refine ⟨_,rfl,?_⟩
   rw [List.length_append,List.length_singleton]
   rw [show rsR F (kf l) (of l) vs ro (d.length+1)=putA (rsR F (kf l) (of l) vs ro d.length) (d.length:Int) true from if_pos ho]
  | false =>
   walk_at "mo"
   refine ⟨_,rfl,?_⟩
   rw [List.length_append,List.length_singleton]
   rw [show rsR F (kf l) (of l) vs ro (d.length+1)=rsR F (kf l) (of l) vs ro d.length from if_neg (by rw [ho]; decide)]
 ·subst hs
  rw [zcQ_,hv]
  rfl
theorem zgs_ {ws:List (List Nat)}(h1:ws.length≤100) (h2:∀ w∈ws,w.length≤100):JoinOk ⟨#[32]⟩ (strsL ws)=true:=by
 unfold JoinOk
 have key:∀ (l:List Str) (acc:Nat),(∀ z∈l,z.length≤100)→l.foldl (fun x1 x2=>x1+x2.length+1) acc≤acc+l.length*101:=by
  intro l
  induction l with
  | nil=>intro acc _; simp
  | cons z r ih =>
   intro acc hz
   have h2:=ih (acc+z.length+1) fun y hy=>hz y (List.mem_cons_of_mem _ hy)
   have h3:=hz z List.mem_cons_self
   rw [List.foldl_cons,List.length_cons]
   lia
 have hz:∀ z∈strsL ws,z.length≤100:=fun z hz=>by
  unfold strsL at hz
  obtain ⟨p,hp,rfl⟩:=List.mem_map.mp hz
  exact h2 p hp
 have q:=key _ 0 hz
 have ql:(strsL ws).length=ws.length:=by unfold strsL; simp
 rw [List.foldl_toArray]
 unfold Builtin.Str.tooLong
 simp only [Bool.not_eq_true',decide_eq_false_iff_not]
 have hs:(100000:Nat)≤sizeLine:=by rw [sizeLine_eq]; lia
 have:(strsL ws).foldl (fun x1 x2=>x1+x2.length+Str.length ⟨#[32]⟩) 0≤100000:=Nat.le_trans q (by lia)
 lia
def tlw (F n:Nat) (k:Nat→Int):List (List Nat):=(List.range n).map fun p=>digs F (k p).toNat
theorem zgU_ (F n:Nat) (k:Nat→Int):(tlw F n k).length=n:=by unfold tlw; simp
theorem zgr_ {F n:Nat}(h1:1≤F) (h2:F≤12) {k:Nat→Int}(o:Nat→Bool) (hk:∀ p,0≤k p∧k p<10 ^ F) (hn:n≤100):compM (fun x_27=>cond1 (Mo.ok true) (zW_ x_27).noex) (wrow F n k o) []=.ok (tlw F n k):=by
 rw [zap_ (f:=fun x_27=>cond1 (Mo.ok true) (zW_ x_27).noex) (g:=fun x=>match zW_ x with | .ok v=>v | _=>[]) (fun x hx=>by
  unfold wrow at hx
  obtain ⟨p,_,rfl⟩:=List.mem_map.mp hx
  rw [ziR_ h1 h2 (hk p).1 (hk p).2]; rfl) (by rw [zf1_]; simp; lia)]
 unfold wrow tlw
 rw [List.map_map,List.nil_append]
 refine congrArg Mo.ok (List.map_congr_left fun p _=>?_)
 show (match zW_ (whl F (k p) (o p)) with | .ok v=>v | _=>[])=_
 rw [ziR_ h1 h2 (hk p).1 (hk p).2]
theorem ziV_ {F n:Nat}(k:Nat→Int) (o:Nat→Bool) (hn:n≤100):compM (fun x_13=>cond1 (Mo.ok true) (zaV_ x_13).noex) (wrow F n k o) []=.ok ((List.range n).map k):=by
 rw [zap_ (f:=fun x_13=>cond1 (Mo.ok true) (zaV_ x_13).noex) (g:=fun x=>x.2.2.1) (fun x hx=>rfl) (by rw [zf1_]; simp; lia)]
 unfold wrow
 rw [List.map_map]
 rfl
theorem zgG_ (F:Nat) (g:Nat→Int) (o:Nat→Bool):∀ (ps:List Nat),mapX (fun z_28=>(zX_ z_28).noex.bind fun q_29=>Mo.ok q_29.snd) (ps.map fun p=>whl F (g p) (o p))=.ok (ps.map fun p=>whl F 0 false)
 | []=>rfl
 | p::ps=>by
  rw [List.map_cons]
  show ((zX_ (whl F (g p) (o p))).noex.bind fun q_29=>Mo.ok q_29.snd).bind _=_
  rw [zlo_]
  show (mapX (fun z_28=>(zX_ z_28).noex.bind fun q_29=>Mo.ok q_29.snd) (ps.map fun p=>whl F (g p) (o p))).bind _=_
  rw [zgG_ F g o ps]
  rfl
section
variable {K S Bd:List (Int×Int)}{F l:Nat}{T:Nat→Int}{kf:Nat→Nat→Int}{of:Nat→Nat→Bool}{bf:Option (List Nat)}{ro:List (Int×Bool)}
theorem atL (h:l≤K.length):atI (lvls F K.length S.length kf of) (l:Int)=some (wrow F S.length (kf l) (of l)):=by rw [zeX_ (by lia)]; exact zf2_ kf of h
def lineOf (K S:List (Int×Int)) (F l:Nat) (ps:List (List Nat)) (k:Nat→Int):List Nat:=joinL [32] ([repL [42] (1+(K.length:Int)-l)]++ps++tlw F S.length k)
theorem zjN_ (h1:1≤F) (h2:F≤12) (hK:K.length≤10) (hS:S.length≤10) (hl:l≤K.length) (hb:l=0∨∃ b,bf=some b∧b.length=40) (hk:∀ l p,0≤kf l p∧kf l p<10 ^ F) :
  ∃ ps,(l=0→ps=[])∧zA_ (mkC K S Bd F kf of bf ro) l=.ok (lineOf K S F l ps (kf l)):=by
 have hp:∃ ps:List (List Nat),compM (fun x_16=>cond1 (Mo.ok true) (((Mo.opt bf).bind fun a_19=>Mo.ok (a_19,x_16)).bind fun c_21=>(zaH_ c_21.fst c_21.snd).noex)) (K.take l) []=.ok ps∧ps.length≤10∧(∀ w∈ps,w.length≤40)∧(l=0→ps=[]):=by
  rcases hb with rfl | ⟨b,rfl,hbl⟩
  ·exact ⟨[],rfl,by simp,by simp,fun _=>rfl⟩
  ·refine ⟨[]++(K.take l).map (prt b),zap_ (fun x _=>?_) (by simp; lia),by simp; lia,fun w hw=>?_,fun h=>by subst h; rfl⟩
   ·unfold cond1
    walk_at "mo"
    rw [zeY_ b x (by lia)]
    rfl
   ·rw [List.nil_append] at hw
    obtain ⟨f,_,rfl⟩:=List.mem_map.mp hw
    have:=zde_ b (some (f.1-1)) (some f.2)
    unfold prt; lia
 obtain ⟨ps,ep,hp1,hp2,hp3⟩:=hp
 refine ⟨ps,hp3,?_⟩
 have hrl:(repL [42] (1+(K.length:Int)-l)).length≤11:=by unfold repL; simp; lia
 unfold zA_ z0_ mkC
 walk_at "mo"
 rw [Mo.grd_ok (show CRep [42].length (1+(K.length:Int)-l) by unfold CRep; simp; lia)]
 walk_at "mo"
 rw [zjo_ (by lia),show ((l:Int)).toNat=l from rfl,ep]
 walk_at "mo"
 rw [Mo.lim_ok (by simp; lia),atL hl]
 walk_at "mo"
 rw [zgr_ h1 h2 (of l) (hk l) (by lia)]
 walk_at "mo"
 rw [Mo.lim_ok (by simp [zgU_]; lia),Mo.grd_ok,zey_]
 ·rfl
 ·refine zgs_ (by simp [zgU_]; lia) fun w hw=>?_
  rcases List.mem_append.mp hw with hw | hw
  ·rcases List.mem_append.mp hw with hw | hw
   ·rw [List.mem_singleton.mp hw]; lia
   ·have:=hp2 w hw; lia
  ·unfold tlw at hw
   obtain ⟨p,_,rfl⟩:=List.mem_map.mp hw
   rw [zaD_]; lia
theorem zlz_ {b:List Nat}(h1:1≤F) (h2:F≤12) (hK:K.length≤10) (hS:S.length≤10) (hl:l≤K.length) (hbl:b.length=40) (hk:∀ l p,0≤kf l p∧kf l p<10 ^ F) :
  zA_ (mkC K S Bd F kf of (some b) ro) l=.ok (lineOf K S F l ((K.take l).map (prt b)) (kf l)):=by
 have ep:compM (fun x_16=>cond1 (Mo.ok true) (((Mo.opt (some b)).bind fun a_19=>Mo.ok (a_19,x_16)).bind fun c_21=>(zaH_ c_21.fst c_21.snd).noex)) (K.take l) []=.ok ((K.take l).map (prt b)):=by
  have:=zap_ (f:=fun x_16=>cond1 (Mo.ok true) (((Mo.opt (some b)).bind fun a_19=>Mo.ok (a_19,x_16)).bind fun c_21=>(zaH_ c_21.fst c_21.snd).noex)) (g:=prt b) (xs:=K.take l) (acc:=[]) (fun x _=>by
   unfold cond1
   walk_at "mo"
   rw [zeY_ b x (by lia)]
   rfl) (by simp; lia)
  rw [this,List.nil_append]
 have hp1:((K.take l).map (prt b)).length≤10:=by simp; lia
 have hp2:∀ w∈(K.take l).map (prt b),w.length≤40:=fun w hw=>by
  obtain ⟨f,_,rfl⟩:=List.mem_map.mp hw
  have:=zde_ b (some (f.1-1)) (some f.2)
  unfold prt; lia
 generalize (K.take l).map (prt b)=ps at ep hp1 hp2 ⊢
 simp only [Mo.optS,Mo.okB] at ep
 have hrl:(repL [42] (1+(K.length:Int)-l)).length≤11:=by unfold repL; simp; lia
 unfold zA_ z0_ mkC
 walk_at "mo"
 rw [Mo.grd_ok (show CRep [42].length (1+(K.length:Int)-l) by unfold CRep; simp; lia)]
 walk_at "mo"
 rw [zjo_ (by lia),show ((l:Int)).toNat=l from rfl,ep]
 walk_at "mo"
 rw [Mo.lim_ok (by simp; lia),atL hl]
 walk_at "mo"
 rw [zgr_ h1 h2 (of l) (hk l) (by lia)]
 walk_at "mo"
 rw [Mo.lim_ok (by simp [zgU_]; lia),Mo.grd_ok,zey_]
 ·rfl
 ·refine zgs_ (by simp [zgU_]; lia) fun w hw=>?_
  rcases List.mem_append.mp hw with hw | hw
  ·rcases List.mem_append.mp hw with hw | hw
   ·rw [List.mem_singleton.mp hw]; lia
   ·have:=hp2 w hw; lia
  ·unfold tlw at hw
   obtain ⟨p,_,rfl⟩:=List.mem_map.mp hw
   rw [zaD_]; lia
theorem zh3_ (hl:l≤K.length) (line:List Nat):fnMR (thenO (S:=Ctr) (S':=Unit) (B:=Unit) (ρ:=List Nat×Ctr) (((Mo.opt (ixN (mkC K S Bd F kf of bf ro).2.2.2.1.length (l:Int))).bind fun n_25=>(Mo.opt ((mkC K S Bd F kf of bf ro).2.2.2.1[n_25]?)).bind fun z_26=>Mo.ok (z_26,fun z'=>((mkC K S Bd F kf of bf ro).1,(mkC K S Bd F kf of bf ro).2.1,(mkC K S Bd F kf of bf ro).2.2.1,(mkC K S Bd F kf of bf ro).2.2.2.1.set n_25 z',(mkC K S Bd F kf of bf ro).2.2.2.2))).bind fun y_27=>(mapX (fun z_28=>(zX_ z_28).noex.bind fun q_29=>Mo.ok q_29.snd) y_27.1).bind fun xs_30=>Mo.ok (Out.nx (y_27.2 xs_30))) (fun s=>Mo.ok (Out.rt (line,s))))=.ok (line,mkC K S Bd F (u1 kf l fun _=>0) (u1 of l fun _=>false) bf ro):=by
 show fnMR (thenO (((Mo.opt (ixN (lvls F K.length S.length kf of).length (l:Int))).bind fun n_25=>(Mo.opt ((lvls F K.length S.length kf of)[n_25]?)).bind fun z_26=>Mo.ok (z_26,fun z'=>(K,S,Bd,(lvls F K.length S.length kf of).set n_25 z',bf,ro,()))).bind fun y_27=>(mapX (fun z_28=>(zX_ z_28).noex.bind fun q_29=>Mo.ok q_29.snd) y_27.1).bind fun xs_30=>Mo.ok (Out.nx (y_27.2 xs_30))) _)=_
 rw [zhY_,zfW_ (by lia) (by lia)]
 walk_at "mo"
 rw [show ((l:Int)).toNat=l from rfl,zf2_ _ _ hl]
 walk_at "mo"
 rw [show wrow F S.length (kf l) (of l)=(List.range S.length).map fun p=>whl F (kf l p) (of l p) from rfl,zgG_]
 walk_at "mo"
 rw [show (List.range S.length).map (fun p=>whl F 0 false)=wrow F S.length (fun _=>0) (fun _=>false) from rfl,zia_]
 rfl
theorem zgT_ (h1:1≤F) (h2:F≤12) (hK:K.length≤10) (hS:S.length≤10) (hk:∀ l p,0≤kf l p∧kf l p<10 ^ F):zz_ (mkC K S Bd F kf of bf ro) 0=.ok (lineOf K S F 0 [] (kf 0),mkC K S Bd F (u1 kf 0 fun _=>0) (u1 of 0 fun _=>false) bf ro):=by
 obtain ⟨ps,e1,e2⟩:=zjN_ (bf:=bf) (of:=of) (ro:=ro) h1 h2 hK hS (Nat.zero_le K.length) (.inl rfl) hk
 rw [e1 rfl] at e2
 have e3:zA_ (mkC K S Bd F kf of bf ro) 0=.ok (lineOf K S F 0 [] (kf 0)):=e2
 unfold zz_ zT_
 walk_at "mo"
 rw [e3]
 walk_at "mo"
 exact zh3_ (l:=0) (Nat.zero_le _) _
def addS (n:Nat) (a b:Nat→Int):Nat→Int:=fun p=>if p<n then a p+b p else a p
theorem raise0 {n:Nat}{k:Nat→Int}{vs:List Int}(h0:∀ p,0≤k p) (hv:∀ p,p<n→0≤vs.getD p 0) (hx:∀ p,p<n→k p+vs.getD p 0<10 ^ F) :
  rsK F k vs n=addS n k (fun p=>vs.getD p 0)∧(rsO F k (fun _=>false) vs n=fun _=>false)∧rsR F k (fun _=>false) vs [] n=[]:=by
 refine ⟨funext fun p=>?_,funext fun p=>?_,?_⟩
 ·unfold rsK addS
  split
  ·rename_i h
   exact Int.emod_eq_of_lt (by have:=h0 p; have:=hv p h; lia) (hx p h)
  ·rfl
 ·unfold rsO
  split
  ·rename_i h
   rw [decide_eq_false (by have:=hx p h; lia)]; rfl
  ·rfl
 ·have:∀ d,d≤n→rsR F k (fun _=>false) vs [] d=[]:=by
   intro d
   induction d with
   | zero=>intro _; rfl
   | succ d ih =>
    intro hd
    unfold rsR
    rw [ih (by lia),decide_eq_false (by have:=hx d (by lia); lia)]; rfl
  exact this n (Nat.le_refl _)
abbrev noO:Nat→Nat→Bool:=fun _ _=>false
theorem zj7_ (l:Nat):(u1 noO l fun _=>false)=noO:=funext fun j=>by unfold u1; split<;>rfl
theorem zk8_ {b:List Nat}(h1:1≤F) (h2:F≤12) (hK:K.length≤10) (hS:S.length≤10) (hl1:1≤l) (hl:l≤K.length) (hbl:b.length=40) (hk:∀ l p,0≤kf l p∧kf l p<10 ^ F) (hx:∀ p,p<S.length→kf (l-1) p+kf l p<10 ^ F) :
  zz_ (mkC K S Bd F kf noO (some b) []) l=.ok (lineOf K S F l ((K.take l).map (prt b)) (kf l),mkC K S Bd F (u1 (u1 kf (l-1) (addS S.length (kf (l-1)) (kf l))) l fun _=>0) noO (some b) []):=by
 have gd:∀ p,p<S.length→((List.range S.length).map (kf l)).getD p 0=kf l p:=fun p hp=>by
  rw [List.getD_eq_getElem?_getD,List.getElem?_map,List.getElem?_range hp]; rfl
 obtain ⟨e1,e2,e3⟩:=raise0 (F:=F) (n:=S.length) (k:=kf (l-1)) (vs:=(List.range S.length).map (kf l)) (fun p=>(hk _ p).1) (fun p hp=>by rw [gd p hp]; exact (hk l p).1) (fun p hp=>by rw [gd p hp]; exact hx p hp)
 have e4:addS S.length (kf (l-1)) (fun p=>((List.range S.length).map (kf l)).getD p 0)=addS S.length (kf (l-1)) (kf l):=funext fun p=>by
  unfold addS
  split
  ·rename_i h; exact congrArg (kf (l-1) p+·) (gd p h)
  ·rfl
 have et:=zlz_ (Bd:=Bd) (of:=noO) (ro:=[]) (b:=b) h1 h2 hK hS hl hbl hk
 have hne:l≠l-1:=by lia
 unfold zz_ zT_
 walk_at "mo"
 rw [et,decide_eq_true (show (0:Int)<l by lia)]
 walk_at "mo"
 rw [show (mkC K S Bd F kf noO (some b) []).snd.snd.snd.fst=lvls F K.length S.length kf noO from rfl,atL hl]
 walk_at "mo"
 rw [ziV_ _ _ (by lia)]
 walk_at "mo"
 rw [show ((l:Int)-1)=((l-1:Nat):Int) by lia,zhW_ (by lia) (by simp) (by lia) (by simp)]
 walk_at "mo"
 rw [e1,e4,show rsO F (kf (l-1)) (noO (l-1)) ((List.range S.length).map (kf l)) S.length=fun _=>false from e2,show rsR F (kf (l-1)) (noO (l-1)) ((List.range S.length).map (kf l)) [] S.length=[] from e3,zj7_]
 rw [zh3_ hl,zj7_]
theorem zcB_ {kf':Nat→Nat→Int}(h:∀ l p,l≤K.length→p<S.length→kf l p=kf' l p):mkC K S Bd F kf noO bf []=mkC K S Bd F kf' noO bf []:=by
 unfold mkC lvls wrow
 have:(List.range (K.length+1)).map (fun l=>(List.range S.length).map fun p=>whl F (kf l p) (noO l p))=(List.range (K.length+1)).map (fun l=>(List.range S.length).map fun p=>whl F (kf' l p) (noO l p)) :=
  List.map_congr_left fun l hl=>List.map_congr_left fun p hp=>by rw [h l p (by have:=List.mem_range.mp hl; lia) (List.mem_range.mp hp)]
 rw [this]
theorem zcI_ {k k':Nat→Int}(ps:List (List Nat)) (h:∀ p,p<S.length→k p=k' p):lineOf K S F l ps k=lineOf K S F l ps k':=by
 unfold lineOf tlw
 rw [show (List.range S.length).map (fun p=>digs F (k p).toNat)=(List.range S.length).map (fun p=>digs F (k' p).toNat) from List.map_congr_left fun p hp=>by rw [h p (List.mem_range.mp hp)]]
def sfx (kf:Nat→Nat→Int) (l:Nat):Nat→Nat→Int
 | 0,_=>0
 | n+1,p=>kf l p+sfx kf (l+1) n p
theorem zlb_ (h:∀ l p,0≤kf l p):∀ (n l p:Nat),0≤sfx kf l n p
 | 0,_,_=>Int.le_refl _
 | n+1,l,p=>by have:=zlb_ h n (l+1) p; have:=h l p; unfold sfx; lia
theorem znI_ (h:∀ l p,0≤kf l p):∀ (d l n p:Nat),sfx kf (l+d) n p≤sfx kf l (d+n) p
 | 0,l,n,p=>by rw [Nat.zero_add]; exact Int.le_refl _
 | d+1,l,n,p=>by
  have:=znI_ h d (l+1) n p
  have h0:=h l p
  rw [show l+(d+1)=l+1+d by lia,show d+1+n=(d+n)+1 by lia]
  show _≤kf l p+sfx kf (l+1) (d+n) p
  lia
def kfd (m:Nat) (kf:Nat→Nat→Int) (d:Nat):Nat→Nat→Int:=fun l p=>if m<l+d then 0 else if l+d=m then sfx kf l (d+1) p else kf l p
theorem kfd_0 (m:Nat) (kf:Nat→Nat→Int) {l:Nat}(hl:l≤m) (p:Nat):kfd m kf 0 l p=kf l p:=by
 unfold kfd
 rw [if_neg (by lia)]
 split
 ·unfold sfx sfx; lia
 ·rfl
theorem kfd_s {m d n:Nat}(hd:d<m) {l p:Nat}(hl:l≤m) (hp:p<n):u1 (u1 (kfd m kf d) (m-d-1) (addS n (kfd m kf d (m-d-1)) (kfd m kf d (m-d)))) (m-d) (fun _=>0) l p=kfd m kf (d+1) l p:=by
 by_cases h1:l=m-d
 ·subst h1
  rw [zkM_]
  unfold kfd
  rw [if_pos (by lia)]
 ·rw [zmr_ _ _ h1]
  by_cases h2:l=m-d-1
  ·subst h2
   rw [zkM_]
   unfold addS
   rw [if_pos hp]
   unfold kfd
   rw [if_neg (by lia),if_neg (by lia),if_neg (by lia),if_pos (by lia),if_neg (by lia),if_pos (by lia)]
   show kf (m-d-1) p+sfx kf (m-d) (d+1) p=kf (m-d-1) p+sfx kf (m-d-1+1) (d+1) p
   rw [show m-d-1+1=m-d by lia]
  ·rw [zmr_ _ _ h2]
   unfold kfd
   by_cases h3:m<l+d
   ·rw [if_pos h3,if_pos (by lia)]
   ·rw [if_neg h3,if_neg (by lia),if_neg (by lia),if_neg (by lia)]
theorem zgC_ {m d:Nat}(h:∀ l p,0≤kf l p) (hz:∀ l p,S.length≤p→kf l p=0) (hx:∀ p,sfx kf 0 (m+1) p<10 ^ F) (hm:∀ l p,m<l→kf l p=0):∀ l p,0≤kfd m kf d l p∧kfd m kf d l p<10 ^ F:=fun l p=>by
 have h10:(0:Int)<10 ^ F:=Int.pow_pos (by decide)
 have key:∀ l n,l+n≤m+1→sfx kf l n p<10 ^ F:=fun l n hl=>by
  have a:=znI_ h l 0 n p
  have b:sfx kf 0 (l+n) p≤sfx kf 0 (m+1) p:=by
   have:∀ (k l n:Nat),sfx kf l n p≤sfx kf l (n+k) p:=by
    intro k l n
    induction n generalizing l with
    | zero=>exact zlb_ h _ _ _
    | succ n ih=>rw [show n+1+k=(n+k)+1 by lia]; show kf l p+sfx kf (l+1) n p≤kf l p+sfx kf (l+1) (n+k) p; have:=ih (l+1); lia
   have c:=this (m+1-(l+n)) 0 (l+n)
   rw [show l+n+(m+1-(l+n))=m+1 by lia] at c
   exact c
  rw [Nat.zero_add] at a
  have:=hx p
  lia
 unfold kfd
 split
 ·exact ⟨Int.le_refl _,h10⟩
 ·split
  ·exact ⟨zlb_ h _ _ _,key l (d+1) (by lia)⟩
  ·refine ⟨h l p,?_⟩
   have:=key l 1 (by lia)
   unfold sfx sfx at this
   lia
theorem zmx_ {m d p:Nat}(h:∀ l p,0≤kf l p) (hz:∀ l p,S.length≤p→kf l p=0) (hx:∀ p,sfx kf 0 (m+1) p<10 ^ F) (hm:∀ l p,m<l→kf l p=0) (hd:d<m):kfd m kf d (m-d-1) p+kfd m kf d (m-d) p<10 ^ F:=by
 have:=(zgC_ (d:=d+1) h hz hx hm (m-d-1) p).2
 unfold kfd at this ⊢
 rw [if_neg (by lia),if_pos (by lia)] at this
 rw [if_neg (by lia),if_neg (by lia),if_neg (by lia),if_pos (by lia)]
 have e:sfx kf (m-d-1) (d+1+1) p=kf (m-d-1) p+sfx kf (m-d) (d+1) p:=by
  show kf (m-d-1) p+sfx kf (m-d-1+1) (d+1) p=_
  rw [show m-d-1+1=m-d by lia]
 rw [e] at this
 exact this
theorem zeZ_ {a:Int}{n:Nat}{d r:List Int}{x:Int}(h:rngD a n=d++x::r):x=a-d.length∧d.length<n:=by
 have h1:(rngD a n)[d.length]?=some x:=by rw [h]; simp
 unfold rngD at h1
 rw [List.getElem?_map] at h1
 obtain ⟨y,h2,h3⟩:=Option.map_eq_some_iff.mp h1
 obtain ⟨h4,h5⟩:=List.getElem?_eq_some_iff.mp h2
 rw [List.getElem_range] at h5
 rw [List.length_range] at h4
 subst h5
 exact ⟨by lia,h4⟩
theorem ziE_ (a:Int) (n:Nat):(rngD a n).length=n:=by unfold rngD; simp
def linesD (K S:List (Int×Int)) (F:Nat) (b:List Nat) (kf:Nat→Nat→Int) (d:Nat):List (List Nat):=(List.range d).map fun i=>lineOf K S F (K.length-i) ((K.take (K.length-i)).map (prt b)) (sfx kf (K.length-i) (i+1))
theorem zcL_ (K S:List (Int×Int)) (F:Nat) (b:List Nat) (kf:Nat→Nat→Int) (d:Nat):(linesD K S F b kf d).length=d:=by unfold linesD; simp
theorem ziK_ (d:Nat) (b:List Nat):linesD K S F b kf (d+1)=linesD K S F b kf d++[lineOf K S F (K.length-d) ((K.take (K.length-d)).map (prt b)) (sfx kf (K.length-d) (d+1))]:=by
 unfold linesD; rw [List.range_succ,List.map_append]; rfl
theorem zg0_ {b:List Nat}{o:Nat}(h1:1≤F) (h2:F≤12) (hK:K.length≤10) (hS:S.length≤10) (ho:o≤K.length+1) (hbl:b.length=40) (h:∀ l p,0≤kf l p) (hz:∀ l p,S.length≤p→kf l p=0) (hx:∀ p,sfx kf 0 (K.length+1) p<10 ^ F) (hm:∀ l p,K.length<l→kf l p=0) :
  zu_ (mkC K S Bd F kf noO (some b) []) o=.ok (linesD K S F b kf (K.length+1-o),mkC K S Bd F (kfd K.length kf (K.length+1-o)) noO (some b) []):=by
 unfold zu_ zae_
 walk_at "mo"
 rw [show (mkC K S Bd F kf noO (some b) []).fst=K from rfl,Mo.grd_ok (by refine ⟨by first | rfl | trivial,?_,?_,?_,?_⟩<;>first | omega | (simp only; omega) | (dsimp only; omega))]
 walk_at "mo"
 rw [show ((K.length:Int)-((o:Int)-1)).toNat=K.length+1-o by omega]
 refine zS_ (G:=fun z=>fnMR (thenO z _)=.ok (linesD K S F b kf (K.length+1-o),mkC K S Bd F (kfd K.length kf (K.length+1-o)) noO (some b) []))
  (fun d (s:List (List Nat)×Ctr)=>s=(linesD K S F b kf d.length,mkC K S Bd F (kfd K.length kf d.length) noO (some b) [])) ?_ ?_ ?_
 ·exact Prod.ext rfl (zcB_ fun l p hl _=>(kfd_0 K.length kf hl p).symm)
 ·rintro d x s ⟨r,hr⟩ rfl
  obtain ⟨x1,hd⟩:=zeZ_ hr
  have hln:=zcL_ K S F b kf d.length
  by_cases hlt:d.length<K.length
  ·rw [x1,show ((K.length:Int)-d.length)=((K.length-d.length:Nat):Int) by omega,zk8_ (l:=K.length-d.length) h1 h2 hK hS (by omega) (by omega) hbl (zgC_ h hz hx hm) (fun p _=>zmx_ h hz hx hm hlt)]
   walk_at "mo"
   rw [Mo.lim_ok (by omega)]
   refine ⟨_,rfl,?_⟩
   rw [List.length_append,List.length_singleton,ziK_]
   refine Prod.ext (congrArg (fun z=>linesD K S F b kf d.length++[z]) (zcI_ _ fun p _=>?_)) (zcB_ fun l p hl hp=>kfd_s hlt hl hp)
   unfold kfd
   rw [if_neg (by omega),if_pos (by omega)]
  ·have e:d.length=K.length:=by omega
   rw [x1,show ((K.length:Int)-d.length)=0 by omega,zgT_ h1 h2 hK hS (zgC_ h hz hx hm)]
   walk_at "mo"
   rw [Mo.lim_ok (by omega)]
   refine ⟨_,rfl,?_⟩
   rw [List.length_append,List.length_singleton,ziK_,zj7_,e,Nat.sub_self]
   refine Prod.ext (congrArg (fun z=>linesD K S F b kf K.length++[z]) (zcI_ _ fun p _=>?_)) (zcB_ fun l p hl hp=>?_)
   ·unfold kfd
    rw [if_neg (by omega),if_pos (by omega)]
   ·unfold kfd u1
    rw [if_pos (show K.length<l+(K.length+1) by omega)]
    split
    ·rfl
    ·exact if_pos (by omega)
 ·rintro s rfl
  rw [ziE_]
  rfl
theorem zg4_ {α S B ρ:Type}{step:S→α→Mo (Out ρ S S)}{xs:List α}{s:S}{G:Mo (Out ρ B S)→Prop}(P:List α→S→Prop) (h0:P [] s)
  (hs:∀ d x s,(∃ r,xs=d++x::r)→P d s→(∃ s',step s x=.ok (.nx s')∧P (d++[x]) s')∨∃ a,step s x=.ok (.rt a)∧G (.ok (.rt a))) (hk:∀ s',P xs s'→G (.ok (.nx s'))):G (forO step xs s):=by
 have all:∀ (r d:List α) (s:S),xs=d++r→P d s→G (forO step r s):=by
  intro r
  induction r with
  | nil=>intro d s e p; rw [List.append_nil] at e; subst e; exact hk s p
  | cons x r ih =>
   intro d s e p
   rcases hs d x s ⟨r,e⟩ p with ⟨s',e1,p'⟩ | ⟨a,e1,g⟩
   ·show G ((step s x).bind _)
    rw [e1]
    exact ih (d++[x]) s' (by rw [e]; simp) p'
   ·show G ((step s x).bind _)
    rw [e1]
    exact g
 exact all xs [] s rfl h0
theorem zi8_ {n:Nat}{dn r:List Int}{x:Int}(h:rngI 0 n=dn++x::r):x=(dn.length:Int)∧dn.length<n:=by
 have h1:(rngI 0 n)[dn.length]?=some x:=by rw [h]; simp
 have h2:dn.length<n:=by have:=congrArg List.length h; rw [z9_,List.length_append] at this; simp at this; lia
 unfold rngI at h1
 rw [List.getElem?_map,List.getElem?_range h2] at h1
 have:(0:Int)+(dn.length:Int)=x:=Option.some.inj h1
 exact ⟨by lia,h2⟩
theorem znr_ {c:List Nat}(hc:c.length=40):zdy_ c=.ok (c.drop 36):=by
 unfold zdy_ zeQ_
 walk_at "mo"
 rw [Mo.lim_ok (by lia),zgv_ (by decide)]
 rfl
theorem zl2_ (c:List Nat) (B:List Wr):(laid c B).length=36:=by unfold laid; simp
def brk (b c:List Nat):List (Int×Int)→Nat
 | []=>1
 | f::K=>if prt c f=prt b f then brk b c K+1 else 1
theorem ziu_ (b c:List Nat):∀ K,1≤brk b c K∧brk b c K≤K.length+1
 | []=>⟨Nat.le_refl _,Nat.le_refl _⟩
 | f::K=>by have:=ziu_ b c K; unfold brk; split<;>simp<;>lia
theorem zmk_ {b c:List Nat}:∀ {K:List (Int×Int)}{i:Nat}{f:Int×Int},K[i]?=some f→prt c f≠prt b f→(∀ j,j<i→∀ f,K[j]?=some f→prt c f=prt b f)→brk b c K=i+1
 | [],i,f,h,_,_=>by simp at h
 | g::K,0,f,h,hn,_=>by cases h; unfold brk; rw [if_neg hn]
 | g::K,i+1,f,h,hn,hs=>by
  unfold brk
  rw [if_pos (hs 0 (by lia) g rfl),zmk_ (K:=K) (i:=i) (f:=f) (by simpa using h) hn fun j hj f' hf=>hs (j+1) (by lia) f' (by simpa using hf)]
theorem zjr_ {b c:List Nat}:∀ {K:List (Int×Int)},(∀ j,j<K.length→∀ f,K[j]?=some f→prt c f=prt b f)→brk b c K=K.length+1
 | [],_=>rfl
 | g::K,hs=>by
  unfold brk
  rw [if_pos (hs 0 (by simp) g rfl),zjr_ (K:=K) fun j hj f' hf=>hs (j+1) (by simp; lia) f' (by simpa using hf)]
  rfl
theorem zic_ {b c:List Nat}{of:Nat→Nat→Bool}{ro:List (Int×Bool)}(hb:b.length=40) (hc:c.length=40):zD_ (mkC K S Bd F kf of (some b) ro) c=.ok (brk b c K:Int):=by
 unfold zD_ z7_ mkC
 walk_at "mo"
 refine zg4_ (G:=fun z=>fnO (thenO z _)=.ok (brk b c K:Int)) (fun dn _=>∀ j,j<dn.length→∀ f,K[j]?=some f→prt c f=prt b f) (fun j hj=>by simp at hj) ?_ ?_
 ·rintro dn x s ⟨r,hr⟩ w
  obtain ⟨x1,x2,x3⟩:=zfn_ hr
  rw [zeY_ c x.2 (by lia),zeY_ b x.2 (by lia)]
  walk_at "mo"
  by_cases he:prt c x.2=prt b x.2
  ·rw [decide_eq_true he]
   refine .inl ⟨_,rfl,fun j hj f hf=>?_⟩
   rw [List.length_append,List.length_singleton] at hj
   by_cases hjd:j=dn.length
   ·subst hjd; rw [x2] at hf; cases hf; exact he
   ·exact w j (by lia) f hf
  ·rw [decide_eq_false he]
   refine .inr ⟨_,rfl,?_⟩
   rw [zmk_ x2 he w,x1]
   rfl
 ·intro s w
  rw [zcQ_] at w
  rw [zjr_ w]
  rfl
theorem zh4_ (c:List Nat) (f:Int×Int) (h:c.length≤1000):zb1_ c f=.ok (prt c f):=by
 unfold zb1_ zdV_
 walk_at "mo"
 rw [Mo.lim_ok (by lia)]
 rfl
theorem zkb_ {b c:List Nat}(hb:b.length=40) (hc:c.length=40) (hK:K.length≤10):zbx_ b c K=.ok (brk b c K:Int):=by
 unfold zbx_ zcs_
 walk_at "mo"
 rw [Mo.grd_ok (by lia),Int.toNat_natCast]
 walk_at "mo"
 refine zg4_ (G:=fun z=>fnO (thenO z _)=.ok (brk b c K:Int)) (fun dn _=>∀ j,j<dn.length→∀ f,K[j]?=some f→prt c f=prt b f) (fun j hj=>by simp at hj) ?_ ?_
 ·rintro dn x s ⟨r,hr⟩ w
  obtain ⟨hx,hdl⟩:=zi8_ hr
  subst hx
  have x2:K[dn.length]?=some K[dn.length]:=List.getElem?_eq_getElem hdl
  rw [zeX_ (by lia),Int.toNat_natCast,x2]
  walk_at "mo"
  rw [zh4_ c _ (by lia),zh4_ b _ (by lia)]
  walk_at "mo"
  by_cases he:prt c K[dn.length]=prt b K[dn.length]
  ·rw [decide_eq_true he.symm]
   refine .inl ⟨_,rfl,fun j hj f hf=>?_⟩
   rw [List.length_append,List.length_singleton] at hj
   by_cases hjd:j=dn.length
   ·subst hjd; rw [x2] at hf; cases hf; exact he
   ·exact w j (by lia) f hf
  ·rw [decide_eq_false fun z=>he z.symm]
   exact .inr ⟨_,rfl,by rw [zmk_ x2 he w]; rfl⟩
 ·intro s w
  rw [z9_] at w
  rw [zjr_ w]
  rfl
theorem zkR_ (h2:F≤12) (hK:K.length≤10) (hS:S.length≤10):zF_ () K S F Bd=.ok ((),mkC K S Bd F (fun _ _=>0) noO none []):=by
 unfold zF_ zaC_
 walk_at "mo"
 rw [Mo.grd_ok (by lia),show ((K.length:Int)+1).toNat=K.length+1 by lia]
 walk_at "mo"
 have e:compM (fun x_18:Int×Int=>cond1 (Mo.ok true) ((zL_ () F).noex.bind fun q_20=>Mo.ok q_20.snd)) S []=.ok (wrow F S.length (fun _=>0) (fun _=>false)):=by
  have e12:zL_ () F=.ok ((),whl F 0 false):=zmZ_ (by lia)
  rw [zap_ (f:=fun x_18:Int×Int=>cond1 (Mo.ok true) ((zL_ () F).noex.bind fun q_20=>Mo.ok q_20.snd)) (g:=fun _=>whl F 0 false) (fun x hx=>by rw [e12]; rfl) (by simp; lia)]
  unfold wrow
  rw [List.nil_append,List.map_const',List.map_const',List.length_range]
 rw [zap_ (f:=fun x_17:Int=>cond1 (Mo.ok true) (compM (fun x_18:Int×Int=>cond1 (Mo.ok true) ((zL_ () F).noex.bind fun q_20=>Mo.ok q_20.snd)) S [])) (g:=fun _=>wrow F S.length (fun _=>0) (fun _=>false)) (fun x hx=>by rw [e]; rfl) (by rw [z9_]; simp; lia)]
 have e2:(rngI 0 (K.length+1)).map (fun _=>wrow F S.length (fun _=>0) (fun _=>false))=lvls F K.length S.length (fun _ _=>0) (fun _ _=>false):=by
  unfold lvls rngI; simp
 unfold mkC
 rw [← e2]
 rfl
abbrev cLine (c:List Nat) (Bd:List (Int×Int)):List Nat:=c.drop 36++32::laid c Bd
abbrev nums (S:List (Int×Int)) (c:List Nat):Nat→Int:=fun p=>(S.map (num c)).getD p 0
theorem ziO_ {c:List Nat}{bf:Option (List Nat)}{lines:List (List Nat)}{kf':Nat→Nat→Int}(h2:F≤12) (hK:K.length≤10) (hS:S.length≤10) (hc:c.length=40) (hB:∀ w∈Bd,okW w) (hlen:lines.length≤11)
  (h0:∀ p,0≤kf' K.length p) (hv:∀ p,p<S.length→0≤nums S c p) (hx:∀ p,p<S.length→kf' K.length p+nums S c p<10 ^ F)
  (ek:(if (mkC K S Bd F kf noO bf []).snd.snd.snd.snd.fst.isSome=true then
     ((zD_ (mkC K S Bd F kf noO bf []) c).noex.bind fun c_10 =>
        (zu_ (mkC K S Bd F kf noO bf []) c_10).noex.bind fun q_11=>Mo.ok (q_11.fst,q_11.snd)).bind
      fun q_12=>(Mo.ok (Out.nx (q_12.fst,q_12.snd)):Mo (Out ((List (List Nat))×Ctr) Unit ((List (List Nat))×Ctr)))
    else Mo.ok (Out.nx ([],mkC K S Bd F kf noO bf [])))=Mo.ok (Out.nx (lines,mkC K S Bd F kf' noO bf []))) :
  zI_ (mkC K S Bd F kf noO bf []) c=.ok (lines++[cLine c Bd],mkC K S Bd F (u1 kf' K.length (addS S.length (kf' K.length) (nums S c))) noO (some c) []):=by
 have hd:(c.drop 36).length=4:=by simp [hc]
 have hll:=zl2_ c Bd
 obtain ⟨e1,e2,e3⟩:=raise0 (F:=F) (n:=S.length) (k:=kf' K.length) (vs:=S.map (num c)) h0 hv hx
 unfold zI_ zbq_
 walk_at "mo"
 rw [ek,zit_,znr_ hc]
 walk_at "mo"
 rw [show (mkC K S Bd F kf' noO bf []).snd.snd.fst=Bd from rfl,show (mkC K S Bd F kf' noO bf []).snd.fst=S from rfl,show (mkC K S Bd F kf' noO bf []).fst=K from rfl,zou_ hc hB]
 walk_at "mo"
 rw [Mo.lim_ok (by lia),Mo.lim_ok (by lia)]
 walk_at "mo"
 rw [Mo.grd_ok (by lia),Mo.grd_ok (by decide),Mo.grd_ok (by lia)]
 walk_at "mo"
 rw [Mo.lim_ok (by lia),zap_ (f:=fun x_32=>cond1 (Mo.ok true) (zbj_ c x_32).noex) (g:=num c) (fun x hx=>by rw [zj3_ c x (by lia)]; rfl) (by simp; lia)]
 walk_at "mo"
 rw [List.nil_append,zhW_ (Nat.le_refl _) (by simp) (by lia) (by simp),List.append_nil]
 rw [e1,show rsO F (kf' K.length) (noO K.length) (S.map (num c)) S.length=fun _=>false from e2,show rsR F (kf' K.length) (noO K.length) (S.map (num c)) [] S.length=[] from e3,zj7_]
 rfl
theorem zgH_ {c:List Nat}(h2:F≤12) (hK:K.length≤10) (hS:S.length≤10) (hc:c.length=40) (hB:∀ w∈Bd,okW w) (h0:∀ p,0≤kf K.length p) (hv:∀ p,p<S.length→0≤nums S c p) (hx:∀ p,p<S.length→kf K.length p+nums S c p<10 ^ F) :
  zI_ (mkC K S Bd F kf noO none []) c=.ok ([cLine c Bd],mkC K S Bd F (u1 kf K.length (addS S.length (kf K.length) (nums S c))) noO (some c) []) :=
 ziO_ (lines:=[]) h2 hK hS hc hB (by simp) h0 hv hx rfl
theorem zeF_ {b c:List Nat}(h1:1≤F) (h2:F≤12) (hK:K.length≤10) (hS:S.length≤10) (hb:b.length=40) (hc:c.length=40) (hB:∀ w∈Bd,okW w) (h:∀ l p,0≤kf l p) (hz:∀ l p,S.length≤p→kf l p=0) (hs:∀ p,sfx kf 0 (K.length+1) p<10 ^ F) (hm:∀ l p,K.length<l→kf l p=0)
  (hv:∀ p,p<S.length→0≤nums S c p) (hx:∀ p,p<S.length→kfd K.length kf (K.length+1-brk b c K) K.length p+nums S c p<10 ^ F) :
  zI_ (mkC K S Bd F kf noO (some b) []) c=.ok (linesD K S F b kf (K.length+1-brk b c K)++[cLine c Bd],mkC K S Bd F (u1 (kfd K.length kf (K.length+1-brk b c K)) K.length (addS S.length (kfd K.length kf (K.length+1-brk b c K) K.length) (nums S c))) noO (some c) []):=by
 have hbk:=ziu_ b c K
 refine ziO_ h2 hK hS hc hB (by rw [zcL_]; lia) (fun p=>(zgC_ h hz hs hm _ p).1) hv hx ?_
 rw [show (mkC K S Bd F kf noO (some b) []).snd.snd.snd.snd.fst.isSome=true from rfl,if_pos rfl,zic_ hb hc]
 walk_at "mo"
 rw [zg0_ h1 h2 hK hS hbk.2 hb h hz hs hm]
 rfl
theorem zen_ {b:List Nat}(h1:1≤F) (h2:F≤12) (hK:K.length≤10) (hS:S.length≤10) (hb:b.length=40) (h:∀ l p,0≤kf l p) (hz:∀ l p,S.length≤p→kf l p=0) (hs:∀ p,sfx kf 0 (K.length+1) p<10 ^ F) (hm:∀ l p,K.length<l→kf l p=0) :
  ∃ C,zC_ (mkC K S Bd F kf noO (some b) [])=.ok (linesD K S F b kf (K.length+1),C):=by
 unfold zC_ zax_
 walk_at "mo"
 rw [show (mkC K S Bd F kf noO (some b) []).snd.snd.snd.snd.fst=some b from rfl]
 walk_at "mo"
 have e:=zg0_ (Bd:=Bd) (o:=0) h1 h2 hK hS (by lia) hb h hz hs hm
 rw [show zu_ (mkC K S Bd F kf noO (some b) []) 0=_ from e]
 exact ⟨_,rfl⟩
theorem zej_ (h1:1≤F) (h2:F≤12) (hK:K.length≤10) (hS:S.length≤10) (hk:∀ l p,0≤kf l p∧kf l p<10 ^ F) :
  ∃ C,zC_ (mkC K S Bd F kf noO none [])=.ok ([lineOf K S F 0 [] (kf 0)],C):=by
 unfold zC_ zax_
 walk_at "mo"
 rw [show (mkC K S Bd F kf noO none []).snd.snd.snd.snd.fst=none from rfl]
 walk_at "mo"
 rw [zgT_ h1 h2 hK hS hk]
 exact ⟨_,rfl⟩
end
theorem zlC_ (n:Int):∃ ks,zb5_ n=.ok ks∧ks.length=36:=by
 obtain ⟨xs,e,hl⟩:=zcM_ n (many:=36) (by decide) (by decide)
 unfold zb5_ zdd_
 walk_at "mo"
 rw [e]
 walk_at "mo"
 rw [zap_ (f:=fun x_4=>cond1 (Mo.ok true) (Mo.ok (x_4 / 11))) (g:=fun x=>x / 11) (fun x _=>rfl) (by simp [hl])]
 exact ⟨_,rfl,by simp [hl]⟩
theorem zod_ (k:Int):∃ y,atI SG (k % 37)=some y:=by
 obtain ⟨y,e,_⟩:∃ y,atI SG (k % 37)=some y∧y∈SG:=zn4_ (xs:=SG) k (by decide)
 exact ⟨y,e⟩
theorem sg_in {k:Int}(h0:0≤k) (h1:k<37):∃ y,atI SG k=some y:=by
 obtain ⟨y,e,_⟩:=zbf_ (xs:=SG) h0 h1
 exact ⟨y,e⟩
theorem zm5_ (n k:Int) {ks:List Int}(hk:ks.length=36):∃ c,zcR_ n k ks=.ok c∧c.length=40:=by
 obtain ⟨xs,e,hl⟩:=zcM_ n (many:=36) (by decide) (by decide)
 unfold zcR_ zd4_
 walk_at "mo"
 rw [e]
 walk_at "mo"
 rw [Mo.grd_ok (by decide)]
 walk_at "mo"
 have hxs:xs.length=36:=hl
 refine zS_ (G:=fun m=>∃ c:List Nat,fnO (thenO m _)=.ok c∧c.length=40) (fun d (s:List Nat)=>s.length=d.length) rfl (fun d x s hx hs=>?_) (fun s hs=>?_)
 ·obtain ⟨r,hr⟩:=hx
  obtain ⟨ex,hd⟩:=zdC_ hr
  have hd':d.length<36:=hd
  obtain ⟨a,ea,_⟩:=zbf_ (xs:=xs) (k:=x) (by lia) (by lia)
  obtain ⟨b,eb,_⟩:=zbf_ (xs:=ks) (k:=x) (by lia) (by lia)
  rw [ea,eb]
  walk_at "mo"
  have q0:0≤b % 5:=Int.emod_nonneg _ (by decide)
  have q1:b % 5<5:=Int.emod_lt_of_pos _ (by decide)
  have key:∃ v,atI [1+b / 5 % 10,1+a / 7 % 10,(b / 5+a / 7 % 2) % 37,a / 7 % 37,1+(b / 5+a / 7 % 2) % 10] (b % 5)=some v∧0≤v∧v<37:=by
   obtain ⟨v,ev,hm⟩:=zbf_ (xs:=[1+b / 5 % 10,1+a / 7 % 10,(b / 5+a / 7 % 2) % 37,a / 7 % 37,1+(b / 5+a / 7 % 2) % 10]) (k:=b % 5) q0 (by simpa using q1)
   refine ⟨v,ev,?_⟩
   simp only [List.mem_cons,List.not_mem_nil,or_false] at hm
   rcases hm with rfl | rfl | rfl | rfl | rfl<;>lia
  obtain ⟨v,ev,v0,v1⟩:=key
  obtain ⟨y,ey⟩:=sg_in v0 v1
  rw [ev]
  walk_at "mo"
  rw [ey,Mo.lim_ok (by decide)]
  walk_at "mo"
  rw [Mo.lim_ok (by simp; lia)]
  exact ⟨_,rfl,by simp [hs]⟩
 ·obtain ⟨y1,e1⟩:=zod_ n
  obtain ⟨y2,e2⟩:=zod_ k
  obtain ⟨a,ea,_⟩:=zbf_ (xs:=xs) (k:=0) (by decide) (by lia)
  obtain ⟨y3,e3⟩:=zod_ a
  obtain ⟨y4,e4⟩:=zod_ (n / 37)
  have hs':s.length=36:=by rw [hs,z9_]; rfl
  walk_at "mo"
  rw [e1,e2,ea,e4]
  walk_at "mo"
  rw [e3]
  simp only [show ∀ r:Mo (List Nat),Mo.lim SG.length r=r from fun r=>Mo.lim_ok (by decide)]
  walk_at "mo"
  rw [Mo.lim_ok (show [y1].length+[y2].length≤100000 by simp)]
  walk_at "mo"
  rw [Mo.lim_ok (show ([y1]++[y2]).length+[y3].length≤100000 by simp)]
  walk_at "mo"
  rw [Mo.lim_ok (show s.length+([y1]++[y2]++[y3]).length≤100000 by simp; lia)]
  walk_at "mo"
  rw [Mo.lim_ok (show (s++([y1]++[y2]++[y3])).length+[y4].length≤100000 by simp; lia)]
  exact ⟨_,rfl,by simp; lia⟩
theorem zl0_ (d:Nat):max 0 (findS [48,49,50,51,52,53,54,55,56,57] [d])=(fig d:Int)-48:=by
 by_cases h:48≤d∧d≤57
 ·rw [zfc_ h,show fig d=d from if_pos h]; omega
 ·rw [zf0_ h,show fig d=48 from if_neg h]; rfl
theorem zjn_ (c:List Nat) (f:Int×Int) (h:c.length≤1000):zbv_ c f=.ok (num c f):=by
 unfold zbv_ zcv_
 walk_at "mo"
 rw [Mo.lim_ok (by lia)]
 walk_at "mo"
 rw [zcF_ (fun (s:Int) (x:List Nat)=>s*10+((fig (x.headD 0):Nat)-48))]
 ·rw [List.foldl_map]
  unfold num numL
  rw [List.foldl_map]
  rfl
 ·intro s x hx
  obtain ⟨d,hd,rfl⟩:=List.mem_map.mp hx
  rw [zl0_,Int.mul_comm s 10]
  rfl
theorem ziF_ {f:Nat}{k:Int}(h2:f≤12) (h0:0≤k):zaX_ k f=.ok (digs f (k % 10 ^ f).toNat):=by
 unfold zaX_ zb7_
 walk_at "mo"
 rw [Mo.grd_ok ⟨by lia,by lia⟩]
 walk_at "mo"
 refine zS_ (G:=fun m=>fnO (thenO m _)=_) (fun d s=>s=(digs d.length (k % 10 ^ f).toNat,k / 10 ^ d.length)) (by simp [digs]) (fun d x s hx hs=>?_) (fun s hs=>?_)
 ·obtain ⟨r,hr⟩:=hx
  have hd:d.length<f:=by
   have:=congrArg List.length hr
   rw [z9_,List.length_append,List.length_cons] at this
   lia
  subst hs
  have a0:0≤k / 10 ^ d.length % 10:=Int.emod_nonneg _ (by decide)
  have a1:k / 10 ^ d.length % 10<10:=Int.emod_lt_of_pos _ (by decide)
  have ea:=znE_ (k / 10 ^ d.length % 10).toNat (by lia)
  rw [Int.toNat_of_nonneg a0] at ea
  refine ⟨_,by
   simp only
   rw [ea,Mo.lim_ok (by decide)]
   walk_at "mo"
   rw [Mo.lim_ok (by simp [zaD_]; lia)]
   walk_at "mo"
   rfl,?_⟩
  rw [List.length_append,List.length_singleton,zd2_,zgZ_ k hd,Int.pow_succ,← Int.ediv_ediv_of_nonneg (Int.le_of_lt (zb4_ _))]
  rfl
 ·subst hs
  rw [z9_]
  show fnO _=_
  walk_at "mo"
  rfl
theorem zhL_ (p q:List Nat) (ys:List (List Nat)):ys.foldl (fun a x=>a++[32]++x) (p++q)=p++ys.foldl (fun a x=>a++[32]++x) q:=by
 induction ys generalizing q with
 | nil=>rfl
 | cons y ys ih=>rw [List.foldl_cons,List.foldl_cons,← ih,List.append_assoc,List.append_assoc,List.append_assoc]
theorem zlR_ (p:List Nat) (xs:List (List Nat)):joinL [32] (p::xs)=xs.foldl (fun a x=>a++[32]++x) p:=by
 induction xs generalizing p with
 | nil=>rfl
 | cons x xs ih =>
  show p++[32]++joinL [32] (x::xs)=_
  rw [ih,List.foldl_cons,List.append_assoc,List.append_assoc,zhL_,zhL_]
theorem zof_ (p:List Nat) (xs:List (List Nat)):xs.foldl (fun a x=>a++[32]++x) p=p++(xs.map (32::·)).flatten:=by
 induction xs generalizing p with
 | nil=>simp
 | cons x xs ih=>rw [List.foldl_cons,ih]; simp
def totS (S:List (Int×Int)) (cards:List (List Nat)):Nat→Int:=fun p=>match S[p]? with | some f=>(cards.map fun c=>num c f).sum | none=>0
theorem zlp_ (xs:List Int) (x:Int):(xs++[x]).sum=xs.sum+x:=by rw [List.sum_append]; simp
theorem zpa_ {xs:List Int}(h:∀ x∈xs,0≤x):0≤xs.sum:=by
 induction xs with
 | nil=>exact Int.le_refl _
 | cons x xs ih=>rw [List.sum_cons]; have:=h x List.mem_cons_self; have:=ih fun y hy=>h y (List.mem_cons_of_mem _ hy); lia
theorem zcZ_:∀ (ws:List (List Nat)) (a:List Nat),(∀ w∈ws,w.length≤40)→(ws.foldl (fun a x=>a++[32]++x) a).length≤a.length+41*ws.length
 | [],a,_=>by simp
 | w::ws,a,h=>by
  have h1:=zcZ_ ws (a++[32]++w) fun y hy=>h y (List.mem_cons_of_mem _ hy)
  have h2:=h w List.mem_cons_self
  rw [List.foldl_cons,List.length_cons]
  simp only [List.length_append,List.length_cons,List.length_nil] at h1
  lia
theorem zg5_ {K S:List (Int×Int)}{l:Nat}{cards:List (List Nat)}{b:List Nat}(hl:l≤K.length) (hK:K.length≤10) (hS:S.length≤10) (hb:l=0∨atI cards (-1)=some b) (hbl:b.length=40) (hc:∀ c∈cards,c.length=40) (hn:∀ c∈cards,∀ f∈S,0≤num c f) (hx:∀ p,totS S cards p<10 ^ 12) :
  zaW_ l cards K S 12=.ok (lineOf K S 12 l ((K.take l).map (prt b)) (totS S cards)):=by
 unfold zaW_ zc3_
 walk_at "mo"
 have hrl:(repL [42] ((K.length:Int)+1-l)).length≤11:=by unfold repL; simp; lia
 rw [Mo.grd_ok (show CRep [42].length ((K.length:Int)+1-l) by unfold CRep; simp; lia)]
 walk_at "mo"
 rw [zjo_ (by lia),show ((l:Int)).toNat=l from rfl]
 have hp40:∀ f,(prt b f).length≤40:=fun f=>by
  have:=zde_ b (some (f.1-1)) (some f.2)
  unfold prt; lia
 refine zS_ (G:=fun z=>fnO (thenO z _)=.ok (lineOf K S 12 l ((K.take l).map (prt b)) (totS S cards))) (fun dn s=>s=(dn.map (prt b)).foldl (fun a x=>a++[32]++x) (repL [42] ((K.length:Int)+1-l))) rfl ?_ ?_
 ·rintro dn f s ⟨r,hr⟩ rfl
  have hlt:dn.length<l:=by have:=congrArg List.length hr; rw [List.length_take,List.length_append] at this; simp at this; lia
  rcases hb with h0 | hb
  ·lia
  have hfl:=zcZ_ (dn.map (prt b)) (repL [42] ((K.length:Int)+1-l)) fun w hw=>by obtain ⟨f,_,rfl⟩:=List.mem_map.mp hw; exact hp40 f
  rw [List.length_map] at hfl
  have hpf:=hp40 f
  rw [Mo.lim_ok (by simp only [List.length_cons,List.length_nil]; lia),hb]
  walk_at "mo"
  rw [Mo.lim_ok (by lia)]
  walk_at "mo"
  rw [Mo.lim_ok (by simp only [List.length_append,List.length_cons,List.length_nil]; unfold prt at hpf; lia)]
  walk_at "mo"
  exact ⟨_,rfl,by rw [List.map_append,List.foldl_append]; rfl⟩
 ·rintro s rfl
  walk_at "mo"
  have hfl:=zcZ_ ((K.take l).map (prt b)) (repL [42] ((K.length:Int)+1-l)) fun w hw=>by obtain ⟨f,_,rfl⟩:=List.mem_map.mp hw; exact hp40 f
  rw [List.length_map,List.length_take] at hfl
  refine zS_ (G:=fun z=>fnO (thenO z _)=.ok (lineOf K S 12 l ((K.take l).map (prt b)) (totS S cards))) (fun dn s=>s=((List.range dn.length).map fun p=>digs 12 (totS S cards p).toNat).foldl (fun a x=>a++[32]++x) (((K.take l).map (prt b)).foldl (fun a x=>a++[32]++x) (repL [42] ((K.length:Int)+1-l)))) rfl ?_ ?_
  ·rintro dn f s ⟨r,hr⟩ rfl
   have hf:S[dn.length]?=some f:=by rw [hr]; simp
   have hlt:dn.length<S.length:=by have:=congrArg List.length hr; rw [List.length_append] at this; simp at this; lia
   have hfS:f∈S:=by rw [hr]; simp
   have et:totS S cards dn.length=(cards.map fun c=>num c f).sum:=by unfold totS; rw [hf]
   have hxd:=hx dn.length
   rw [et] at hxd
   have hfl2:=zcZ_ ((List.range dn.length).map fun p=>digs 12 (totS S cards p).toNat) (((K.take l).map (prt b)).foldl (fun a x=>a++[32]++x) (repL [42] ((K.length:Int)+1-l))) fun w hw=>by obtain ⟨p,_,rfl⟩:=List.mem_map.mp hw; rw [zaD_]; lia
   rw [List.length_map,List.length_range] at hfl2
   refine zS_ (G:=fun z=>∃ s',thenO z _=.ok (.nx s')∧s'=_) (fun d (s:Int)=>s=(d.map fun c=>num c f).sum) rfl ?_ ?_
   ·rintro d c s ⟨r',hr'⟩ rfl
    have hcc:=hc c (by rw [hr']; simp)
    rw [zjn_ c f (by lia)]
    walk_at "mo"
    exact ⟨_,rfl,by rw [List.map_append]; exact (zlp_ _ _).symm⟩
   ·rintro s rfl
    have h0:0≤(cards.map fun c=>num c f).sum:=zpa_ fun x hx=>by obtain ⟨c,hc',rfl⟩:=List.mem_map.mp hx; exact hn c hc' f hfS
    walk_at "mo"
    rw [Mo.lim_ok (by simp only [List.length_cons,List.length_nil]; lia),show (12:Int)=((12:Nat):Int) from rfl,ziF_ (by lia) h0,Int.emod_eq_of_lt h0 hxd]
    walk_at "mo"
    rw [Mo.lim_ok (by simp only [List.length_append,List.length_cons,List.length_nil,zaD_]; lia)]
    walk_at "mo"
    refine ⟨_,rfl,?_⟩
    rw [List.length_append,List.length_singleton,List.range_succ,List.map_append,List.foldl_append,← et]
    rfl
  ·rintro s rfl
   walk_at "mo"
   unfold lineOf tlw
   rw [show [repL [42] (1+(K.length:Int)-l)]++(K.take l).map (prt b)++(List.range S.length).map (fun p=>digs 12 (totS S cards p).toNat)=repL [42] (1+(K.length:Int)-l)::((K.take l).map (prt b)++(List.range S.length).map (fun p=>digs 12 (totS S cards p).toNat)) by simp,zlR_,List.foldl_append,show (1+(K.length:Int)-l)=(K.length:Int)+1-l by lia]
def slc (deck:List (List Nat)) (a k:Nat):List (List Nat):=(deck.drop a).take (k-a)
theorem zlO_ {deck:List (List Nat)}{a k:Nat}(ha:a≤k) (hk:k≤deck.length):cutG deck (some (a:Int)) (some (k:Int))=slc deck a k:=by
 unfold cutG slc
 rw [zhb_ (by lia),zhb_ (by lia),Int.toNat_natCast,Int.toNat_natCast,Nat.min_eq_left hk,Nat.min_eq_left (show a≤deck.length by lia)]
theorem zjj_ {deck:List (List Nat)}{a k:Nat}{c:List Nat}(h:c∈slc deck a k):c∈deck:=List.mem_of_mem_drop (List.mem_of_mem_take h)
theorem zlD_ {deck:List (List Nat)}{a k:Nat}(h:a<k) (hk:k≤deck.length):atI (slc deck a k) (-1)=some (deck[k-1]'(by lia)):=by
 have hl:(slc deck a k).length=k-a:=by unfold slc; rw [List.length_take,List.length_drop]; lia
 unfold atI ixN
 rw [if_neg (by decide),if_pos (by rw [hl]; lia),hl]
 show (slc deck a k)[(-1+((k-a:Nat):Int)).toNat]?=_
 rw [show (-1+((k-a:Nat):Int)).toNat=k-a-1 by lia]
 unfold slc
 rw [List.getElem?_take_of_lt (by lia),List.getElem?_drop,show a+(k-a-1)=k-1 by lia,List.getElem?_eq_getElem (by lia)]
def bgs (m:Nat) (bg:Nat→Nat):List Int:=(List.range (m+1)).map fun l=>(bg l:Int)
def bgd (m k:Nat) (bg:Nat→Nat) (d:Nat):Nat→Nat:=fun l=>if m<l+d then k else bg l
def linesL (K S:List (Int×Int)) (deck:List (List Nat)) (b:List Nat) (bg:Nat→Nat) (k d:Nat):List (List Nat):=(List.range d).map fun i=>lineOf K S 12 (K.length-i) ((K.take (K.length-i)).map (prt b)) (totS S (slc deck (bg (K.length-i)) k))
theorem zeL_ {K S:List (Int×Int)}{deck:List (List Nat)}{b:List Nat}{bg:Nat→Nat}{k o:Nat}(hK:K.length≤10) (hS:S.length≤10) (ho:o≤K.length+1) (hk:k≤deck.length) (hb:∀ h:k-1<deck.length,deck[k-1]=b) (hbg:∀ l,l≤K.length→bg l<k)
  (hc:∀ c∈deck,c.length=40) (hn:∀ c∈deck,∀ f∈S,0≤num c f) (hx:∀ a p,totS S (slc deck a k) p<10 ^ 12) :
  zas_ deck k o (bgs K.length bg) K S 12=.ok (linesL K S deck b bg k (K.length+1-o),bgs K.length (bgd K.length k bg (K.length+1-o))):=by
 unfold zas_ zcr_
 walk_at "mo"
 rw [Mo.grd_ok (by refine ⟨by first | rfl | trivial,?_,?_,?_,?_⟩<;>first | lia | (simp only; lia) | (dsimp only; lia))]
 walk_at "mo"
 rw [show ((K.length:Int)-((o:Int)-1)).toNat=K.length+1-o by lia]
 refine zS_ (G:=fun z=>fnMR (thenO z _)=.ok (linesL K S deck b bg k (K.length+1-o),bgs K.length (bgd K.length k bg (K.length+1-o))))
  (fun d (s:List (List Nat)×List Int)=>s=(linesL K S deck b bg k d.length,bgs K.length (bgd K.length k bg d.length))) ?_ ?_ ?_
 ·refine Prod.ext rfl ?_
  unfold bgs bgd
  exact List.map_congr_left fun l hl=>by have:=List.mem_range.mp hl; rw [if_neg (by simp only [List.length_nil]; lia)]
 ·rintro d x s ⟨r,hr⟩ rfl
  obtain ⟨x1,hd⟩:=zeZ_ hr
  have hll:(linesL K S deck b bg k d.length).length=d.length:=by unfold linesL; simp
  have hlb:(bgs K.length (bgd K.length k bg d.length)).length=K.length+1:=by unfold bgs; simp
  have hat:(bgs K.length (bgd K.length k bg d.length))[K.length-d.length]?=some ((bg (K.length-d.length):Nat):Int):=by
   unfold bgs bgd
   rw [List.getElem?_map,List.getElem?_range (by lia)]
   simp only [Option.map_some]
   rw [if_neg (by lia)]
  have hb0:=hbg (K.length-d.length) (by lia)
  rw [x1,show ((K.length:Int)-d.length)=((K.length-d.length:Nat):Int) by lia,zeX_ (by lia),Int.toNat_natCast,hat]
  walk_at "mo"
  rw [zlO_ (by lia) hk,zg5_ (b:=b) (by lia) hK hS (.inr (by rw [zlD_ hb0 hk,hb])) (by rw [← hb (by lia)]; exact hc _ (List.getElem_mem _)) (fun c h=>hc c (zjj_ h)) (fun c h=>hn c (zjj_ h)) (hx _)]
  walk_at "mo"
  rw [Mo.lim_ok (by lia),hlb,zfW_ (by lia) (by lia)]
  walk_at "mo"
  refine ⟨_,rfl,?_⟩
  rw [List.length_append,List.length_singleton]
  refine Prod.ext ?_ ?_
  ·unfold linesL
   rw [List.range_succ,List.map_append]
   rfl
  ·rw [Int.toNat_natCast]
   unfold bgs
   rw [zeU_]
   refine List.map_congr_left fun l hl=>?_
   have:=List.mem_range.mp hl
   unfold u1 bgd
   by_cases e:l=K.length-d.length
   ·rw [if_pos e,if_pos (by lia)]
   ·rw [if_neg e]
    show ((if K.length<l+d.length then k else bg l:Nat):Int)=((if K.length<l+(d.length+1) then k else bg l:Nat):Int)
    by_cases e2:K.length<l+d.length
    ·rw [if_pos e2,if_pos (by lia)]
    ·rw [if_neg e2,if_neg (by lia)]
 ·rintro s rfl
  rw [ziE_]
  rfl
theorem zkr_ {S:List (Int×Int)}(xs ys:List (List Nat)) (p:Nat):totS S (xs++ys) p=totS S xs p+totS S ys p:=by
 unfold totS
 split
 ·rw [List.map_append,List.sum_append]
 ·rfl
theorem zkT_ {deck:List (List Nat)}{a b c:Nat}(h1:a≤b) (h2:b≤c) (hc:c≤deck.length):slc deck a c=slc deck a b++slc deck b c:=by
 unfold slc
 have e1:c-a=(b-a)+(c-b):=by lia
 have e2:deck.drop b=(deck.drop a).drop (b-a):=by rw [List.drop_drop,show a+(b-a)=b by lia]
 rw [e1,e2,List.take_add]
theorem zjq_ (deck:List (List Nat)) (a:Nat):slc deck a a=[]:=by unfold slc; rw [Nat.sub_self,List.take_zero]
theorem zgy_ {deck:List (List Nat)}{k:Nat}(h:k<deck.length):slc deck k (k+1)=[deck[k]]:=by
 unfold slc
 rw [show k+1-k=1 by lia,List.drop_eq_getElem_cons h]
 rfl
theorem zg9_ (S:List (Int×Int)) (p:Nat):totS S [] p=0:=by unfold totS; split<;>rfl
theorem zek_ (S:List (Int×Int)) (c:List Nat) (p:Nat):totS S [c] p=nums S c p:=by
 unfold totS nums
 rw [List.getD_eq_getElem?_getD,List.getElem?_map]
 cases S[p]? with
 | none=>rfl
 | some f=>simp
theorem zgX_ (S:List (Int×Int)) (cs:List (List Nat)) {p:Nat}(h:S.length≤p):totS S cs p=0:=by
 unfold totS; rw [List.getElem?_eq_none h]
structure KI (m:Nat) (S:List (Int×Int)) (deck:List (List Nat)) (kf:Nat→Nat→Int) (bg:Nat→Nat) (k:Nat):Prop where
 at_:∀ l,l<m→∀ p,kf l p=totS S (slc deck (bg l) (bg (l+1))) p
 last:∀ p,kf m p=totS S (slc deck (bg m) k) p
 over:∀ l p,m<l→kf l p=0
 mono:∀ l,l<m→bg l≤bg (l+1)
 lt:bg m<k
 le:k≤deck.length
theorem KI.bgs {m:Nat}{S:List (Int×Int)}{deck:List (List Nat)}{kf:Nat→Nat→Int}{bg:Nat→Nat}{k:Nat}(J:KI m S deck kf bg k):∀ d l,l+d=m→bg l<k
 | 0,l,e=>by rw [show l=m by lia]; exact J.lt
 | d+1,l,e=>Nat.lt_of_le_of_lt (J.mono l (by lia)) (J.bgs d (l+1) (by lia))
theorem KI.sum {m:Nat}{S:List (Int×Int)}{deck:List (List Nat)}{kf:Nat→Nat→Int}{bg:Nat→Nat}{k:Nat}(J:KI m S deck kf bg k) (p:Nat):∀ d l,l+d=m→sfx kf l (d+1) p=totS S (slc deck (bg l) k) p
 | 0,l,e=>by
  have:l=m:=by lia
  subst this
  show kf l p+0=_
  rw [J.last]; lia
 | d+1,l,e=>by
  show kf l p+sfx kf (l+1) (d+1) p=_
  rw [J.sum p d (l+1) (by lia),J.at_ l (by lia),zkT_ (J.mono l (by lia)) (Nat.le_of_lt (J.bgs d (l+1) (by lia))) J.le,zkr_]
theorem KI.lines {K S:List (Int×Int)}{deck:List (List Nat)}{kf:Nat→Nat→Int}{bg:Nat→Nat}{k:Nat}(J:KI K.length S deck kf bg k) (b:List Nat) {d:Nat}(hd:d≤K.length+1):linesD K S 12 b kf d=linesL K S deck b bg k d:=by
 unfold linesD linesL
 refine List.map_congr_left fun i hi=>zcI_ _ fun p _=>?_
 have:=List.mem_range.mp hi
 exact J.sum p i (K.length-i) (by lia)
theorem KI.next {m:Nat}{S:List (Int×Int)}{deck:List (List Nat)}{kf:Nat→Nat→Int}{bg:Nat→Nat}{k d:Nat}(J:KI m S deck kf bg k) (hk:k<deck.length) (hd:d≤m) :
  KI m S deck (u1 (kfd m kf d) m (addS S.length (kfd m kf d m) (nums S deck[k]))) (bgd m k bg d) (k+1):=by
 have hlt:=J.lt
 refine ⟨fun l hl p=>?_,fun p=>?_,fun l p hl=>?_,fun l hl=>?_,?_,hk⟩
 ·rw [zmr_ _ _ (by lia)]
  unfold kfd bgd
  by_cases h1:m<l+d
  ·rw [if_pos h1,if_pos h1,if_pos (by lia),zjq_,zg9_]
  ·rw [if_neg h1,if_neg h1]
   by_cases h2:l+d=m
   ·rw [if_pos h2,if_pos (by lia)]; exact J.sum p d l h2
   ·rw [if_neg h2,if_neg (by lia)]; exact J.at_ l hl p
 ·rw [zkM_]
  have e:addS S.length (kfd m kf d m) (nums S deck[k]) p=kfd m kf d m p+totS S [deck[k]] p:=by
   unfold addS
   split
   ·rw [zek_]
   ·rw [zgX_ _ _ (by lia)]; lia
  rw [e]
  unfold kfd bgd
  by_cases h1:m<m+d
  ·rw [if_pos h1,if_pos h1,zgy_ hk]; lia
  ·rw [if_neg h1,if_neg h1,if_pos (by lia),zkT_ (b:=k) (by lia) (by lia) hk,zkr_,zgy_ hk]
   rw [J.sum p d m (by lia)]
 ·rw [zmr_ _ _ (by lia)]
  unfold kfd
  rw [if_pos (by lia)]
 ·unfold bgd
  by_cases h1:m<l+d
  ·rw [if_pos h1,if_pos (by lia)]; exact Nat.le_refl _
  ·rw [if_neg h1]
   split
   ·exact Nat.le_of_lt (J.bgs (m-l) l (by lia))
   ·exact J.mono l hl
 ·unfold bgd
  split
  ·lia
  ·lia
structure Dk (S:List (Int×Int)) (deck:List (List Nat)):Prop where
 len:deck.length≤200
 c40:∀ c∈deck,c.length=40
 num:∀ c∈deck,∀ f∈S,0≤num c f∧num c f<1000000000
theorem zme_ {S:List (Int×Int)}(cs:List (List Nat)) (p:Nat) (h:∀ c∈cs,∀ f∈S,0≤num c f∧num c f<1000000000):0≤totS S cs p∧totS S cs p≤cs.length*1000000000:=by
 unfold totS
 cases hs:S[p]? with
 | none=>exact ⟨Int.le_refl _,by simp only; lia⟩
 | some f =>
  have hf:f∈S:=List.mem_of_getElem? hs
  simp only
  clear hs
  induction cs with
  | nil=>exact ⟨Int.le_refl _,Int.le_refl _⟩
  | cons c cs ih =>
   have:=ih fun c hc=>h c (List.mem_cons_of_mem _ hc)
   have:=h c List.mem_cons_self f hf
   rw [List.map_cons,List.sum_cons,List.length_cons]
   lia
theorem Dk.tot {S:List (Int×Int)}{deck:List (List Nat)}(D:Dk S deck) (a k p:Nat):0≤totS S (slc deck a k) p∧totS S (slc deck a k) p<10 ^ 12:=by
 have h1:=zme_ (S:=S) (slc deck a k) p fun c hc=>D.num c (zjj_ hc)
 have h2:(slc deck a k).length≤200:=by
  have:=D.len
  unfold slc; rw [List.length_take,List.length_drop]; lia
 refine ⟨h1.1,Int.lt_of_le_of_lt h1.2 ?_⟩
 have:((10:Int) ^ 12)=1000000000000:=by decide
 rw [this]; lia
theorem KI.nn {m:Nat}{S:List (Int×Int)}{deck:List (List Nat)}{kf:Nat→Nat→Int}{bg:Nat→Nat}{k:Nat}(J:KI m S deck kf bg k) (D:Dk S deck):∀ l p,0≤kf l p:=fun l p=>by
 rcases Nat.lt_trichotomy l m with h | h | h
 ·rw [J.at_ l h]; exact (D.tot _ _ p).1
 ·subst h; rw [J.last]; exact (D.tot _ _ p).1
 ·rw [J.over l p h]; exact Int.le_refl _
theorem KI.out {m:Nat}{S:List (Int×Int)}{deck:List (List Nat)}{kf:Nat→Nat→Int}{bg:Nat→Nat}{k:Nat}(J:KI m S deck kf bg k):∀ l p,S.length≤p→kf l p=0:=fun l p hp=>by
 rcases Nat.lt_trichotomy l m with h | h | h
 ·rw [J.at_ l h]; exact zgX_ _ _ hp
 ·subst h; rw [J.last]; exact zgX_ _ _ hp
 ·exact J.over l p h
theorem KI.all {m:Nat}{S:List (Int×Int)}{deck:List (List Nat)}{kf:Nat→Nat→Int}{bg:Nat→Nat}{k:Nat}(J:KI m S deck kf bg k) (D:Dk S deck) (p:Nat):sfx kf 0 (m+1) p<10 ^ 12:=by
 rw [J.sum p m 0 (by lia)]; exact (D.tot _ _ p).2
theorem step_eq {K S Bd:List (Int×Int)}{deck:List (List Nat)}{kf:Nat→Nat→Int}{bg:Nat→Nat}{k:Nat}(J:KI K.length S deck kf bg k) (D:Dk S deck) (hK:K.length≤10) (hS:S.length≤10) (hB:∀ w∈Bd,okW w) (hk:k<deck.length) (h0:0<k) :
  ∃ kf' bg',zI_ (mkC K S Bd 12 kf noO (some (deck[k-1]'(by lia))) []) deck[k]=.ok (linesL K S deck (deck[k-1]'(by lia)) bg k (K.length+1-brk (deck[k-1]'(by lia)) deck[k] K)++[cLine deck[k] Bd],mkC K S Bd 12 kf' noO (some deck[k]) [])
   ∧ zas_ deck k (brk (deck[k-1]'(by lia)) deck[k] K) (bgs K.length bg) K S 12=.ok (linesL K S deck (deck[k-1]'(by lia)) bg k (K.length+1-brk (deck[k-1]'(by lia)) deck[k] K),bgs K.length bg')∧KI K.length S deck kf' bg' (k+1):=by
 have hbk:=ziu_ (deck[k-1]'(by lia)) deck[k] K
 have J2:=J.next hk (d:=K.length+1-brk (deck[k-1]'(by lia)) deck[k] K) (by lia)
 have hc:=D.c40 _ (List.getElem_mem hk)
 have hb:=D.c40 _ (List.getElem_mem (show k-1<deck.length by lia))
 have hv:∀ p,p<S.length→0≤nums S deck[k] p:=fun p _=>by rw [← zek_]; exact (zme_ [deck[k]] p fun c hc'=>by rw [List.mem_singleton.mp hc']; exact D.num _ (List.getElem_mem hk)).1
 refine ⟨_,_,?_,?_,J2⟩
 ·rw [← J.lines _ (by lia)]
  refine zeF_ (by lia) (by lia) hK hS hb hc hB (J.nn D) J.out (J.all D) J.over hv fun p hp=>?_
  have e:=J2.last p
  rw [zkM_] at e
  unfold addS at e
  rw [if_pos hp] at e
  rw [e]
  exact (D.tot _ _ p).2
 ·exact zeL_ hK hS hbk.2 (by lia) (fun _=>rfl) (fun l hl=>J.bgs (K.length-l) l (by lia)) D.c40 (fun c hc' f hf=>(D.num c hc' f hf).1) fun a p=>(D.tot a k p).2
theorem zlF_ (n:Int) {m:Int}(h1:1≤m) (h2:m≤9):∃ f,zU_ n m=.ok f∧isF f∧f.2-f.1≤8:=by
 unfold zU_ zb3_
 walk_at "mo"
 rw [Mo.grd_ok (by lia)]
 walk_at "mo"
 have a0:0≤n / 180 % m:=Int.emod_nonneg _ (by lia)
 have a1:n / 180 % m<m:=Int.emod_lt_of_pos _ (by lia)
 have b0:0≤n / 5 % 36:=Int.emod_nonneg _ (by decide)
 have b1:n / 5 % 36<36:=Int.emod_lt_of_pos _ (by decide)
 refine ⟨_,rfl,⟨?_,?_,?_⟩,?_⟩<;>simp only<;>lia
theorem zlS_ (n:Int):∃ B,zb9_ n=.ok B∧(∀ w∈B,okW w)∧B.length≤36:=by
 obtain ⟨xs,e,hl⟩:=zcM_ n (many:=36) (by decide) (by decide)
 have hxs:xs.length=36:=hl
 unfold zb9_ zc2_
 walk_at "mo"
 rw [e]
 walk_at "mo"
 rw [Mo.grd_ok (by decide)]
 walk_at "mo"
 refine zS_ (G:=fun m=>∃ B:List Wr,fnO (thenO m _)=.ok B∧(∀ w∈B,okW w)∧B.length≤36) (fun d (s:List Wr)=>(∀ w∈s,okW w)∧s.length≤d.length) ?h0 (fun d x s hx hs=>?_) (fun s hs=>?_)
 case h0=>exact ⟨fun w hw=>(by cases hw),Nat.le_refl _⟩
 ·obtain ⟨r,hr⟩:=hx
  obtain ⟨ex,hd⟩:=zdC_ hr
  have hd':d.length<36:=hd
  obtain ⟨a,ea,_⟩:=zbf_ (xs:=xs) (k:=x-1) (by lia) (by lia)
  rw [ea]
  walk_at "mo"
  by_cases c:a / 3 % 4<n % 5
  ·rw [decide_eq_true c,if_pos rfl,Mo.lim_ok (by lia)]
   have q0:0≤a / 12 % 40:=Int.emod_nonneg _ (by decide)
   have q1:a / 12 % 40<40:=Int.emod_lt_of_pos _ (by decide)
   refine ⟨_,rfl,fun w hw=>?_,by simp; lia⟩
   rcases List.mem_append.mp hw with hw | hw
   ·exact hs.1 w hw
   ·obtain rfl:=List.mem_singleton.mp hw
    refine ⟨?_,?_,?_,?_⟩<;>simp only<;>lia
  ·rw [decide_eq_false c,if_neg (by decide)]
   exact ⟨_,rfl,hs.1,by simp; lia⟩
 ·rw [z9_] at hs
  exact ⟨s,rfl,hs.1,hs.2⟩
theorem zmR_ {c:List Nat}(hc:c.length=40) {B:List Wr}(hB:∀ w∈B,okW w) (hl:B.length≤36):zao_ c B=.ok (c.drop 36++32::laid c B):=by
 unfold zao_ zbg_
 walk_at "mo"
 refine zS_ (G:=fun m=>fnO (thenO m _)=_) (fun d (s:List (Int×List Nat))=>s.length≤d.length∧∀ col,(getA s col).getD [32]=[sgn c d col]) ⟨Nat.le_refl _,fun _=>rfl⟩ (fun d w s hx hs=>?_) (fun s hs=>?_)
 ·obtain ⟨r,hr⟩:=hx
  obtain ⟨a1,a2,a3,a4⟩:=hB w (by rw [hr]; simp)
  have hd:d.length≤36:=by have:=congrArg List.length hr; simp at this; lia
  rw [Mo.lim_ok (by lia),zkA_ hc a1 a2]
  walk_at "mo"
  rw [Mo.lim_ok (by lia)]
  refine ⟨_,rfl,Nat.le_trans (zib_ _ _ _) (by simp; lia),fun col=>?_⟩
  rw [zln_,zjc_]
  split
  ·rfl
  ·exact hs.2 col
 ·walk_at "mo"
  have hcl:(c.drop 36).length=4:=by simp [hc]
  rw [zgv_ (by decide),Mo.lim_ok (by lia),Mo.grd_ok (by decide)]
  walk_at "mo"
  rw [Mo.lim_ok (by simp; lia)]
  walk_at "mo"
  refine zS_ (G:=fun m=>fnO (thenO m _)=_) (fun d (t:List Nat)=>t=c.drop 36++[32]++(List.range d.length).map fun i:Nat=>sgn c B (i+1)) (by simp) (fun d x t hx ht=>?_) (fun t ht=>?_)
  ·obtain ⟨r,hr⟩:=hx
   obtain ⟨ex,hd⟩:=zdC_ hr
   have hd':d.length<36:=hd
   rw [hs.2 x,Mo.lim_ok (by subst ht; simp; lia)]
   refine ⟨_,rfl,?_⟩
   subst ht
   rw [List.length_append,List.length_singleton,List.range_succ,List.map_append,List.append_assoc,ex,Int.add_comm 1]
   rfl
  ·subst ht
   rw [z9_]
   show Mo.ok _=_
   rw [List.append_assoc]
   rfl
theorem zi1_ (c:List (List Nat)):zbi_ c c=.ok true:=by
 unfold zbi_ zc1_
 walk_at "mo"
 rw [show eqL (fun a b:List Nat=>decide (a=b)) c c=true from zeB_ (fun a=>by simp) c,zhX_ (fun x hx=>rfl)]
 rfl
theorem num9 {c:List Nat}{f:Int×Int}(hf:isF f) (h8:f.2-f.1≤8):0≤num c f∧num c f<10 ^ 9:=by
 have h1:=zh2_ ((prt c f).map fig) 0 (fun c hc=>by obtain ⟨b,_,rfl⟩:=List.mem_map.mp hc; exact zeS_ b) (by decide)
 refine ⟨h1.1,Int.lt_of_lt_of_le h1.2 ?_⟩
 have h2:((prt c f).map fig).length≤9:=by
  rw [List.length_map]
  obtain ⟨a,b,d⟩:=hf
  unfold prt cutG
  rw [List.length_take,zhb_ (by lia),zhb_ (by lia)]
  lia
 rw [show (0:Int)+1=1 from rfl,Int.one_mul]
 have h3:10 ^ ((prt c f).map fig).length≤10 ^ 9:=Nat.pow_le_pow_right (by decide) h2
 have e1:∀ n:Nat,(10:Int) ^ n=((10 ^ n:Nat):Int):=fun n=>by rw [Int.natCast_pow]; rfl
 rw [e1,e1]
 exact Int.ofNat_le.mpr h3
def cd (deck:List (List Nat)) (k:Nat):List Nat:=deck.getD k []
theorem zff_ {deck:List (List Nat)}{k:Nat}(h:k<deck.length):cd deck k=deck[k]:=by unfold cd; rw [List.getD_eq_getElem?_getD,List.getElem?_eq_getElem h]; rfl
theorem zoq_ {deck:List (List Nat)}{k:Nat}(h:k<deck.length):atI deck (k:Int)=some (cd deck k):=by
 rw [zeX_ (by lia),Int.toNat_natCast,List.getElem?_eq_getElem h,zff_ h]
def dnK (K:List (Int×Int)) (deck:List (List Nat)) (k:Nat):Nat:=if k=0 then 0 else K.length+1-brk (cd deck (k-1)) (cd deck k) K
def bgAt (K:List (Int×Int)) (deck:List (List Nat)):Nat→Nat→Nat
 | 0=>fun _=>0
 | k+1=>bgd K.length k (bgAt K deck k) (dnK K deck k)
theorem znB_ (K:List (Int×Int)) (deck:List (List Nat)) (k:Nat):dnK K deck k≤K.length:=by
 have:=ziu_ (cd deck (k-1)) (cd deck k) K
 unfold dnK; split<;>lia
theorem zh9_ (K:List (Int×Int)) (deck:List (List Nat)):∀ k l,bgAt K deck (k+1) l<k+1
 | 0,l=>by unfold bgAt bgd; split<;>simp [bgAt]
 | k+1,l=>by
  have:=zh9_ K deck k l
  show bgd K.length (k+1) (bgAt K deck (k+1)) (dnK K deck (k+1)) l<_
  unfold bgd; split<;>lia
theorem znW_ (K:List (Int×Int)) (deck:List (List Nat)) {k:Nat}(h:0<k) (l:Nat):bgAt K deck k l<k:=by
 obtain ⟨j,rfl⟩:∃ j,k=j+1:=⟨k-1,by lia⟩
 exact zh9_ K deck j l
def dueAt (K S Bd:List (Int×Int)) (deck:List (List Nat)) (k:Nat):List (List Nat):=linesL K S deck (cd deck (k-1)) (bgAt K deck k) k (dnK K deck k)++[cLine (cd deck k) Bd]
theorem zdD_ (K S:List (Int×Int)) (deck:List (List Nat)) (b:List Nat) (bg:Nat→Nat) (k d:Nat):(linesL K S deck b bg k d).length=d:=by unfold linesL; simp
theorem zjP_ (K S Bd:List (Int×Int)) (deck:List (List Nat)) (k:Nat):(dueAt K S Bd deck k).length=dnK K deck k+1:=by unfold dueAt; rw [List.length_append,zdD_]; rfl
def dueL (K S Bd:List (Int×Int)) (deck:List (List Nat)) (k:Nat):List (List (List Nat)):=(List.range k).map (dueAt K S Bd deck)
theorem zgd_ (K S Bd:List (Int×Int)) (deck:List (List Nat)) (k:Nat):(dueL K S Bd deck k).length=k:=by unfold dueL; simp
theorem znj_ (K S Bd:List (Int×Int)) (deck:List (List Nat)) (k:Nat):dueL K S Bd deck (k+1)=dueL K S Bd deck k++[dueAt K S Bd deck k]:=by unfold dueL; rw [List.range_succ,List.map_append]; rfl
def lastL (K S:List (Int×Int)) (deck:List (List Nat)):List (List Nat):=if deck.length=0 then [lineOf K S 12 0 [] (totS S [])] else linesL K S deck (cd deck (deck.length-1)) (bgAt K deck deck.length) deck.length (K.length+1)
theorem zoX_ {K S Bd:List (Int×Int)}{deck:List (List Nat)}(D:Dk S deck) (hK:K.length≤10) (hS:S.length≤10) (hB:∀ w∈Bd,okW w) (hBl:Bd.length≤36) :
  zdA_ deck K S 12 Bd=.ok (dueL K S Bd deck deck.length++[lastL K S deck]):=by
 have hn:=D.len
 unfold zdA_ zeK_
 walk_at "mo"
 rw [Mo.grd_ok (show CRep [(0:Int)].length ((K.length:Int)+1) by unfold CRep; simp; lia)]
 walk_at "mo"
 rw [Mo.grd_ok (by lia)]
 walk_at "mo"
 rw [show ((deck.length:Int)).toNat=deck.length from rfl]
 refine zS_ (G:=fun z=>fnO (thenO z _)=.ok (dueL K S Bd deck deck.length++[lastL K S deck]))
  (fun d (s:List Int×List (List (List Nat)))=>s=(bgs K.length (bgAt K deck d.length),dueL K S Bd deck d.length)) ?_ ?_ ?_
 ·refine Prod.ext ?_ rfl
  unfold bgs repL bgAt
  rw [show ((K.length:Int)+1).toNat=K.length+1 by lia]
  simp [List.map_const']
 ·rintro d x s ⟨r,hr⟩ rfl
  obtain ⟨rfl,hd⟩:=zi8_ hr
  have ec:=zoq_ hd
  have hcl:(cd deck d.length).length=40:=by rw [zff_ hd]; exact D.c40 _ (List.getElem_mem _)
  have hdl:=zgd_ K S Bd deck d.length
  have fin:∀ (xs:List (List Nat)) (q:List Int),xs=linesL K S deck (cd deck (d.length-1)) (bgAt K deck d.length) d.length (dnK K deck d.length)→q=bgs K.length (bgAt K deck (d.length+1))→∃ s',(((zao_ (cd deck d.length) Bd).noex.bind fun c_48=>Mo.ok [c_48]).bind (fun b_50=>Mo.lim (xs.length+b_50.length) (Mo.ok (xs++b_50)))).bind (fun a_51=>Mo.lim ((dueL K S Bd deck d.length).length+1) (Mo.ok (Out.nx (q,dueL K S Bd deck d.length++[a_51]))))=(Mo.ok (Out.nx s'):Mo (Out (List (List (List Nat))) (List Int×List (List (List Nat))) (List Int×List (List (List Nat)))))∧s'=(bgs K.length (bgAt K deck (d++[(d.length:Int)]).length),dueL K S Bd deck (d++[(d.length:Int)]).length):=by
   rintro xs q rfl rfl
   have hk:=znB_ K deck d.length
   rw [zmR_ hcl hB hBl]
   walk_at "mo"
   rw [Mo.lim_ok (by rw [zdD_]; simp; lia)]
   walk_at "mo"
   rw [Mo.lim_ok (by rw [hdl]; lia)]
   exact ⟨_,rfl,by rw [List.length_append,List.length_singleton,znj_]; rfl⟩
  by_cases h0:(0:Int)<d.length
  ·have hd1:d.length-1<deck.length:=by lia
   have ec1:=zoq_ hd1
   rw [show ((d.length-1:Nat):Int)=(d.length:Int)-1 by lia] at ec1
   have hcl1:(cd deck (d.length-1)).length=40:=by rw [zff_ hd1]; exact D.c40 _ (List.getElem_mem _)
   have hbk:=ziu_ (cd deck (d.length-1)) (cd deck d.length) K
   have edn:K.length+1-brk (cd deck (d.length-1)) (cd deck d.length) K=dnK K deck d.length:=by unfold dnK; rw [if_neg (by lia)]
   rw [decide_eq_true h0,if_pos rfl,ec,ec1]
   walk_at "mo"
   rw [zkb_ hcl1 hcl hK]
   walk_at "mo"
   rw [zeL_ (b:=cd deck (d.length-1)) hK hS hbk.2 (by lia) (fun h=>(zff_ h).symm) (fun l _=>znW_ K deck (by lia) l) D.c40 (fun c hc' f hf=>(D.num c hc' f hf).1) (fun a p=>(D.tot a _ p).2),edn]
   walk_at "mo"
   exact fin _ _ rfl rfl
  ·rw [decide_eq_false h0,if_neg (by decide),ec]
   walk_at "mo"
   have e0:d.length=0:=by lia
   refine fin _ _ ?_ ?_
   ·unfold dnK; rw [if_pos e0]; rfl
   ·show _=bgs K.length (bgd K.length d.length (bgAt K deck d.length) (dnK K deck d.length))
    unfold dnK; rw [if_pos e0,e0]
    unfold bgs bgd bgAt
    refine List.map_congr_left fun l _=>?_
    show ((0:Nat):Int)=((if K.length<l+0 then 0 else 0:Nat):Int)
    split<;>rfl
 ·rintro s rfl
  rw [z9_]
  walk_at "mo"
  by_cases h0:deck.length=0
  ·have:deck=[]:=List.length_eq_zero_iff.mp h0
   subst this
   rw [show eqL (fun a b:List Nat=>decide (a=b)) [] []=true from rfl,if_pos rfl]
   have e:=zg5_ (K:=K) (S:=S) (l:=0) (cards:=[]) (b:=List.replicate 40 0) (by lia) hK hS (.inl rfl) (by simp) (by simp) (by simp) (fun p=>by rw [zg9_]; decide)
   rw [show zaW_ 0 [] K S 12=_ from e]
   rfl
  ·rw [show eqL (fun a b:List Nat=>decide (a=b)) deck []=false by cases deck with | nil=>exact absurd rfl h0 | cons=>rfl,if_neg (by decide)]
   walk_at "mo"
   have e:=zeL_ (K:=K) (S:=S) (deck:=deck) (o:=0) (b:=cd deck (deck.length-1)) (bg:=bgAt K deck deck.length) (k:=deck.length) hK hS (by lia) (by lia) (fun h=>(zff_ h).symm) (fun l _=>znW_ K deck (by lia) l) D.c40 (fun c hc' f hf=>(D.num c hc' f hf).1) (fun a p=>(D.tot a _ p).2)
   rw [show zas_ deck (deck.length:Int) 0 (bgs K.length (bgAt K deck deck.length)) K S 12=_ from e]
   walk_at "mo"
   rw [Mo.lim_ok (by rw [zgd_]; lia)]
   show Mo.ok _=_
   unfold lastL
   rw [if_neg h0]
   rfl
def bfAt (deck:List (List Nat)) (k:Nat):Option (List Nat):=if k=0 then none else some (cd deck (k-1))
def zz:Nat→Nat→Int:=fun _ _=>0
theorem zlt_:∀ n l p,sfx zz l n p=0
 | 0,l,p=>rfl
 | n+1,l,p=>by show zz l p+sfx zz (l+1) n p=0; rw [zlt_ n]; rfl
def CI (m:Nat) (S:List (Int×Int)) (deck:List (List Nat)) (K:List (Int×Int)) (kf:Nat→Nat→Int) (k:Nat):Prop:=if k=0 then kf=zz else KI m S deck kf (bgAt K deck k) k
theorem zhD_ (K:List (Int×Int)) (deck:List (List Nat)) (l:Nat):bgAt K deck 1 l=0:=by
 have h:bgAt K deck 1 l<1:=zh9_ K deck 0 l
 lia
theorem CI.step {K S Bd:List (Int×Int)}{deck:List (List Nat)}{kf:Nat→Nat→Int}{k:Nat}(J:CI K.length S deck K kf k) (D:Dk S deck) (hK:K.length≤10) (hS:S.length≤10) (hB:∀ w∈Bd,okW w) (hk:k<deck.length) :
  ∃ kf',zI_ (mkC K S Bd 12 kf noO (bfAt deck k) []) (cd deck k)=.ok (dueAt K S Bd deck k,mkC K S Bd 12 kf' noO (bfAt deck (k+1)) [])∧CI K.length S deck K kf' (k+1):=by
 have hc:=D.c40 _ (List.getElem_mem hk)
 have hv:∀ p,p<S.length→0≤nums S deck[k] p:=fun p _=>by rw [← zek_]; exact (zme_ [deck[k]] p fun c hc'=>by rw [List.mem_singleton.mp hc']; exact D.num _ (List.getElem_mem hk)).1
 have hv2:∀ p,nums S deck[k] p<10 ^ 12:=fun p=>by rw [← zek_,← zgy_ hk]; exact (D.tot _ _ p).2
 by_cases h0:k=0
 ·subst h0
  obtain rfl:kf=zz:=J
  refine ⟨_,by
   rw [zff_ hk]
   refine (zgH_ (by lia) hK hS hc hB (fun p=>Int.le_refl _) hv (fun p _=>?_)).trans ?_
   ·show (0:Int)+nums S deck[0] p<10 ^ 12
    rw [Int.zero_add]; exact hv2 p
   ·have e1:dueAt K S Bd deck 0=[cLine deck[0] Bd]:=by unfold dueAt dnK; rw [if_pos rfl,zff_ hk]; rfl
    have e2:bfAt deck (0+1)=some deck[0]:=by unfold bfAt; rw [if_neg (by decide),← zff_ hk]
    rw [e1,e2],?_⟩
  show KI _ _ _ _ _ _
  refine ⟨fun l hl p=>?_,fun p=>?_,fun l p hl=>?_,fun l hl=>?_,?_,hk⟩
  ·rw [zmr_ _ _ (by lia),zhD_,zhD_,zjq_,zg9_]; rfl
  ·rw [zkM_,zhD_,zgy_ hk,zek_]
   unfold addS
   split
   ·show 0+_=_; rw [Int.zero_add]
   ·rw [← zek_,zgX_ _ _ (by lia)]; rfl
  ·rw [zmr_ _ _ (by lia)]; rfl
  ·rw [zhD_,zhD_]; exact Nat.le_refl _
  ·rw [zhD_]; decide
 ·have J:KI K.length S deck kf (bgAt K deck k) k:=by unfold CI at J; rwa [if_neg h0] at J
  have edn:K.length+1-brk (cd deck (k-1)) (cd deck k) K=dnK K deck k:=by unfold dnK; rw [if_neg h0]
  have hd:=znB_ K deck k
  have J2:=J.next hk hd
  have hb:(cd deck (k-1)).length=40:=by rw [zff_ (by lia)]; exact D.c40 _ (List.getElem_mem _)
  refine ⟨_,?_,by unfold CI; rw [if_neg (by lia)]; exact J2⟩
  have e2:bfAt deck (k+1)=some deck[k]:=by unfold bfAt; rw [if_neg (by lia),← zff_ hk]; rfl
  have e1:bfAt deck k=some (cd deck (k-1)):=by unfold bfAt; rw [if_neg h0]
  unfold dueAt
  rw [e1,e2,← J.lines _ (by lia),← edn,← zff_ hk]
  rw [← zff_ hk] at hv hc
  refine zeF_ (by lia) (by lia) hK hS hb hc hB (J.nn D) J.out (J.all D) J.over hv fun p hp=>?_
  have e:=J2.last p
  rw [zkM_] at e
  unfold addS at e
  rw [if_pos hp] at e
  rw [edn,zff_ hk,e]
  exact (D.tot _ _ p).2
theorem CI.end_ {K S Bd:List (Int×Int)}{deck:List (List Nat)}{kf:Nat→Nat→Int}(J:CI K.length S deck K kf deck.length) (D:Dk S deck) (hK:K.length≤10) (hS:S.length≤10) :
  ∃ C,zC_ (mkC K S Bd 12 kf noO (bfAt deck deck.length) [])=.ok (lastL K S deck,C):=by
 unfold CI at J
 by_cases h0:deck.length=0
 ·rw [if_pos h0] at J
  subst J
  unfold bfAt lastL
  rw [if_pos h0,if_pos h0]
  obtain ⟨C,e⟩:=zej_ (K:=K) (S:=S) (Bd:=Bd) (F:=12) (kf:=zz) (by lia) (by lia) hK hS (fun l p=>⟨Int.le_refl _,show (0:Int)<_ by decide⟩)
  refine ⟨C,e.trans ?_⟩
  rw [zcI_ (k:=zz 0) (k':=totS S []) [] (fun p _=>(zg9_ S p).symm)]
 ·rw [if_neg h0] at J
  unfold bfAt lastL
  rw [if_neg h0,if_neg h0,← J.lines _ (Nat.le_refl _)]
  exact zen_ (by lia) (by lia) hK hS (by rw [zff_ (by lia)]; exact D.c40 _ (List.getElem_mem _)) (J.nn D) J.out (J.all D) J.over
theorem zlm_ {K:List (Int×Int)}{deck:List (List Nat)}{k:Nat}(hc40:∀ c∈deck,c.length=40) (hK:K.length≤10) (hk:k<deck.length) :
  ∃ L,zI_ (mkC K [] [] 1 zz noO (bfAt deck k) []) (cd deck k)=.ok (L,mkC K [] [] 1 zz noO (bfAt deck (k+1)) [])∧L.length=dnK K deck k+1:=by
 have hc:(cd deck k).length=40:=by rw [zff_ hk]; exact hc40 _ (List.getElem_mem hk)
 have e2:bfAt deck (k+1)=some (cd deck k):=by unfold bfAt; rw [if_neg (by lia)]; rfl
 rw [e2]
 by_cases h0:k=0
 ·subst h0
  refine ⟨[cLine (cd deck 0) []],(zgH_ (F:=1) (kf:=zz) (by lia) hK (by simp) hc (by simp) (fun p=>Int.le_refl _) (fun p hp=>absurd hp (by simp)) (fun p hp=>absurd hp (by simp))).trans ?_,?_⟩
  ·rw [zcB_ (kf':=zz) fun l p _ hp=>absurd hp (by simp)]
  ·unfold dnK; rfl
 ·have e1:bfAt deck k=some (cd deck (k-1)):=by unfold bfAt; rw [if_neg h0]
  have hb:(cd deck (k-1)).length=40:=by rw [zff_ (by lia)]; exact hc40 _ (List.getElem_mem _)
  rw [e1]
  refine ⟨linesD K [] 1 (cd deck (k-1)) zz (K.length+1-brk (cd deck (k-1)) (cd deck k) K)++[cLine (cd deck k) []],(zeF_ (F:=1) (kf:=zz) (by lia) (by lia) hK (by simp) hb hc (by simp) (fun l p=>Int.le_refl _) (fun l p _=>rfl) (fun p=>by rw [zlt_]; decide) (fun l p _=>rfl) (fun p hp=>absurd hp (by simp)) (fun p hp=>absurd hp (by simp))).trans ?_,?_⟩
  ·rw [zcB_ (kf':=zz) fun l p _ hp=>absurd hp (by simp)]
  ·rw [List.length_append,zcL_]; unfold dnK; rw [if_neg h0]; rfl
theorem znK_ {K:List (Int×Int)}{deck:List (List Nat)}(S:List (Int×Int)) (hc40:∀ c∈deck,c.length=40) (hK:K.length≤10) :
  ∃ L C,zC_ (mkC K [] [] 1 zz noO (bfAt deck deck.length) [])=.ok (L,C)∧L.length=(lastL K S deck).length:=by
 unfold bfAt lastL
 by_cases h0:deck.length=0
 ·rw [if_pos h0,if_pos h0]
  obtain ⟨C,e⟩:=zej_ (K:=K) (S:=[]) (Bd:=[]) (F:=1) (kf:=zz) (by lia) (by lia) hK (by simp) (fun l p=>⟨Int.le_refl _,show (0:Int)<_ by decide⟩)
  exact ⟨_,C,e,rfl⟩
 ·rw [if_neg h0,if_neg h0]
  obtain ⟨C,e⟩:=zen_ (K:=K) (S:=[]) (Bd:=[]) (F:=1) (kf:=zz) (b:=cd deck (deck.length-1)) (by lia) (by lia) hK (by simp) (by rw [zff_ (by lia)]; exact hc40 _ (List.getElem_mem _)) (fun l p=>Int.le_refl _) (fun l p _=>rfl) (fun p=>by rw [zlt_]; decide) (fun l p _=>rfl)
  exact ⟨_,C,e,by rw [zcL_,zdD_]⟩
theorem flds {most:Int}(h1:1≤most) (h2:most≤36) (zs:List Int) (hz:zs.length≤100):∃ S:List (Int×Int),compM (fun x=>cond1 (Mo.ok true) (zU_ x most).noex) zs []=.ok S∧(most≤9→∀ f∈S,isF f∧f.2-f.1≤8)∧S.length=zs.length:=by
 refine ⟨zs.map fun x=>match zU_ x most with | .ok v=>v | _=>(0,0),?_,fun h9 f hf=>?_,by simp⟩
 ·rw [zap_ (f:=fun x=>cond1 (Mo.ok true) (zU_ x most).noex) (g:=fun x=>match zU_ x most with | .ok v=>v | _=>(0,0)) (fun x hx=>by
   obtain ⟨f,e⟩:∃ f,zU_ x most=.ok f:=by
    unfold zU_ zb3_
    walk_at "mo"
    rw [Mo.grd_ok (by lia)]
    exact ⟨_,rfl⟩
   rw [e]; rfl) (by simp; lia)]
  rfl
 ·obtain ⟨x,_,rfl⟩:=List.mem_map.mp hf
  obtain ⟨f,e,h⟩:=zlF_ x h1 h9
  rw [e]; exact h
theorem zk7_ (ns:List Int) (hl:ns.length≤63):f_law ns=.ok true:=by
 obtain ⟨c0,e0⟩:=zfd_ ns 0 (by lia)
 obtain ⟨c1,e1⟩:=zfd_ ns 1 (by lia)
 obtain ⟨c2,e2⟩:=zfd_ ns 2 (by lia)
 obtain ⟨c3,e3⟩:=zfd_ ns 3 (by lia)
 obtain ⟨c4,e4⟩:=zfd_ ns 4 (by lia)
 obtain ⟨ks,ek,hks⟩:=zlC_ c0
 have m0:0≤c1 % 4:=Int.emod_nonneg _ (by decide)
 have m1:c1 % 4<4:=Int.emod_lt_of_pos _ (by decide)
 have n0:0≤c2 % 4:=Int.emod_nonneg _ (by decide)
 have n1:c2 % 4<4:=Int.emod_lt_of_pos _ (by decide)
 obtain ⟨xs,ex,hxs⟩:=zcM_ c1 (many:=c1 % 4) m0 (by lia)
 obtain ⟨ys,ey,hys⟩:=zcM_ c2 (many:=c2 % 4) n0 (by lia)
 obtain ⟨most,em,hm1,hm2⟩:∃ most,atI [(2:Int),2,6,36] (c3 / 3 % 4)=some most∧1≤most∧most≤36:=by
  have q0:0≤c3 / 3 % 4:=Int.emod_nonneg _ (by decide)
  have q1:c3 / 3 % 4<4:=Int.emod_lt_of_pos _ (by decide)
  obtain ⟨v,ev,hm⟩:=zbf_ (xs:=[(2:Int),2,6,36]) q0 (by simpa using q1)
  refine ⟨v,ev,?_⟩
  simp only [List.mem_cons,List.not_mem_nil,or_false] at hm
  rcases hm with rfl | rfl | rfl | rfl<;>decide
 obtain ⟨K0,eK,_,hKl⟩:=flds hm1 hm2 xs (by lia)
 obtain ⟨S,eS,hS9,hSl⟩:=flds (most:=9) (by decide) (by decide) ys (by lia)
 have hS9:=hS9 (by decide)
 obtain ⟨Bd,eB,hB,hBl⟩:=zlS_ c4
 have hK3:K0.length≤3:=by lia
 have hS3:S.length≤3:=by lia
 have hns:(cutG ns (some 5) (some 65)).length≤63:=Nat.le_trans (zde_ _ _ _) hl
 unfold f_law zoE_
 walk_at "mo"
 rw [e0,e1,e2,e3,e4]
 walk_at "mo"
 rw [ek,em,ex,ey]
 walk_at "mo"
 rw [eK,eS]
 walk_at "mo"
 rw [eB]
 walk_at "mo"
 obtain ⟨K,eK2,hK⟩:∃ K:List (Int×Int),((if decide (1<c1 % 4)=true then (Mo.ok (decide (c1 / 4 % 9=1)):Mo Bool) else Mo.ok false).bind fun c_53 =>
     if c_53=true then
      (Mo.opt (atI K0 0)).bind fun a_61 =>
       (Mo.opt (Option.map (fun n=>K0.set n a_61) (ixN K0.length (c1 % 4-1)))).bind fun breaks_63 =>
        Mo.ok (Out.nx breaks_63)
     else Mo.ok (Out.nx K0))=(.ok (.nx K):Mo (Out Bool Unit (List (Int×Int))))∧K.length≤10:=by
  by_cases h1:1<c1 % 4
  ·rw [decide_eq_true h1,if_pos rfl]
   walk_at "mo"
   by_cases h2:c1 / 4 % 9=1
   ·obtain ⟨a,ea,_⟩:=zbf_ (xs:=K0) (k:=0) (by decide) (by lia)
    rw [decide_eq_true h2,if_pos rfl,ea,zfW_ (by lia) (by lia)]
    walk_at "mo"
    exact ⟨_,rfl,by simp; lia⟩
   ·rw [decide_eq_false h2,if_neg (by decide)]
    exact ⟨_,rfl,by lia⟩
  ·rw [decide_eq_false h1,if_neg (by decide)]
   walk_at "mo"
   exact ⟨_,rfl,by lia⟩
 rw [eK2]
 walk_at "mo"
 refine zS_ (G:=fun m=>fnO (thenO m _)=.ok true) (fun dn (s:List (List Nat))=>s.length≤2*dn.length∧∀ c∈s,c.length=40) ?_ ?_ ?_
 ·exact ⟨by simp,by simp⟩
 ·rintro dn x s ⟨r,hr⟩ ⟨w1,w2⟩
  have hdn:dn.length≤63:=by
   have:=congrArg List.length hr
   rw [zcQ_,List.length_append] at this; lia
  obtain ⟨c,ec,hc⟩:=zm5_ x.2 x.1 hks
  rw [ec]
  walk_at "mo"
  rw [Mo.lim_ok (by lia)]
  by_cases h3:c3 % 3=1
  ·rw [decide_eq_true h3,if_pos rfl,show atI (s++[c]) (-1)=some c from zig_ s c]
   walk_at "mo"
   rw [Mo.lim_ok (by rw [List.length_append,List.length_singleton]; lia)]
   refine ⟨_,rfl,by simp; lia,fun q hq=>?_⟩
   rcases List.mem_append.mp hq with h | h
   ·rcases List.mem_append.mp h with h | h
    ·exact w2 q h
    ·rw [List.mem_singleton.mp h]; exact hc
   ·rw [List.mem_singleton.mp h]; exact hc
  ·rw [decide_eq_false h3,if_neg (by decide)]
   refine ⟨_,rfl,by simp; lia,fun q hq=>?_⟩
   rcases List.mem_append.mp hq with h | h
   ·exact w2 q h
   ·rw [List.mem_singleton.mp h]; exact hc
 ·rintro deck ⟨w1,w2⟩
  rw [zcQ_] at w1
  have D:Dk S deck:=⟨by lia,w2,fun c _ f hf=>num9 (hS9 f hf).1 (hS9 f hf).2⟩
  have hS10:S.length≤10:=by lia
  have ei:=zkR_ (K:=K) (S:=S) (Bd:=Bd) (F:=12) (by lia) hK hS10
  have ej:=zkR_ (K:=K) (S:=[]) (Bd:=[]) (F:=1) (by lia) hK (by simp)
  walk_at "mo"
  rw [zoX_ D hK hS10 hB hBl,show zF_ () K S 12 Bd=_ from ei,show zF_ () K [] 1 []=_ from ej]
  walk_at "mo"
  rw [Mo.grd_ok (by lia)]
  walk_at "mo"
  rw [show ((deck.length:Int)).toNat=deck.length from rfl]
  have hdl:=zgd_ K S Bd deck
  have edl:atI (dueL K S Bd deck deck.length++[lastL K S deck]) (-1)=some (lastL K S deck):=zig_ _ _
  refine zS_ (G:=fun m=>fnO (thenO m _)=.ok true) (fun dn s=>∃ kf,CI K.length S deck K kf dn.length∧s=(dueL K S Bd deck dn.length,mkC K S Bd 12 kf noO (bfAt deck dn.length) [],mkC K [] [] 1 zz noO (bfAt deck dn.length) [])) ?_ ?_ ?_
  ·exact ⟨zz,rfl,rfl⟩
  ·rintro dn x s ⟨r,hr⟩ ⟨kf,J,rfl⟩
   obtain ⟨rfl,hd⟩:=zi8_ hr
   obtain ⟨kf',ef,J'⟩:=J.step D hK hS10 hB hd
   obtain ⟨L,eb,hL⟩:=zlm_ (K:=K) D.c40 hK hd
   have ed:atI (dueL K S Bd deck deck.length++[lastL K S deck]) (dn.length:Int)=some (dueAt K S Bd deck dn.length):=by
    rw [zeX_ (by lia),Int.toNat_natCast,List.getElem?_append_left (by rw [hdl]; exact hd)]
    unfold dueL
    rw [List.getElem?_map,List.getElem?_range hd]; rfl
   have et:atI (dueL K S Bd deck dn.length++[dueAt K S Bd deck dn.length]) (dn.length:Int)=some (dueAt K S Bd deck dn.length):=by
    rw [zeX_ (by lia),Int.toNat_natCast,List.getElem?_append_right (by rw [hdl]; lia),hdl,Nat.sub_self]; rfl
   rw [zoq_ hd]
   walk_at "mo"
   rw [ef]
   walk_at "mo"
   rw [Mo.lim_ok (by rw [hdl]; lia),et,ed]
   walk_at "mo"
   rw [zi1_]
   walk_at "mo"
   rw [eb]
   walk_at "mo"
   rw [hL,zjP_]
   walk_at "mo"
   refine ⟨_,rfl,kf',?_,?_⟩
   ·rw [List.length_append]; exact J'
   ·rw [List.length_append,List.length_singleton,znj_]
  ·rintro s ⟨kf,J,rfl⟩
   rw [z9_] at J
   rw [z9_]
   obtain ⟨C,ef⟩:=J.end_ (Bd:=Bd) D hK hS10
   obtain ⟨L,C',eb,hL⟩:=znK_ (K:=K) S D.c40 hK
   walk_at "mo"
   rw [ef]
   walk_at "mo"
   rw [Mo.lim_ok (by rw [hdl]; lia),edl]
   walk_at "mo"
   rw [zi1_]
   walk_at "mo"
   rw [eb]
   walk_at "mo"
   rw [hL]
   walk_at "mo"
   rw [show eqL (eqL fun a b:List Nat=>decide (a=b)) (dueL K S Bd deck deck.length++[lastL K S deck]) (dueL K S Bd deck deck.length++[lastL K S deck])=true from zeB_ (fun a=>zeB_ (fun a=>by simp) a) _]
end K34
namespace K34
open PySem PySem.Spec PyProof.Rows L2
theorem zpn_ {l:PySem.W.OpenLaw}{w:World}{K:Fgg}{mg:Str→Option Value}{base:Heap}{f:Addr}{fd:FuncData}(e:En K mg) (g4:zeq_ l.prog w K mg base) (g5:zdl_ l.prog w K mg base) (g3:zaZ_ l.prog w K mg base) (g26:zeo_ l.prog w K mg base) (g6:zep_ l.prog w K mg base) (g35:zfb_ l.prog w K mg base) (g14:zg1_ l.prog w K mg base) (g2:zbm_ l.prog w K mg base) (g33:zcY_ l.prog w K mg base) (g34:zem_ l.prog w K mg base) (g25:zbN_ l.prog w K mg base) (F:Fun K "law" "law" zoz_ f fd):FnOk l.prog w K mg base CX0 6 f fd ["_law_script"] (spL K) :=
 okL (l:=l) (w:=w) (K:=K) (mg:=mg) (base:=base) (k:=5) (st:=zoz_) (x := "_law_script") (N:=["_law_script", "_law_kinds_here", "_law_many", "_law_most", "_law_breaks", "_law_cell", "_law_sums", "_law_board_here", "_law_deck", "_law_k", "_law_one", "_law_due_here", "_law_handed", "_law_counter", "_law_beside", "_law_told"]) (t:=fun E=>t_law K) (g:=zoE_) 15 (fun _ _ _ _ _ _ E nd hr=>(ze_ (pst 1 (zq_ g4 (hm hr) (zb_ (zq_ g5 (hm hr) (zb_ (za_ 0) (zb_ zi_ zg_))) zg_))) (ze_ (pst 2 (zP_ z2_ (zq_ g5 (hm hr) (zb_ (za_ 0) (zb_ zi_ zg_))) zi_)) (ze_ (pst 3 (zaT_ ix_M (za8_ (zb_ zi_ (zb_ zi_ (zb_ zi_ (zb_ zi_ zg_))))) (zP_ z2_ (zP_ zbV_ (zq_ g5 (hm hr) (zb_ (za_ 0) (zb_ zi_ zg_))) zi_) zi_) (fun _ _=>rfl))) (ze_ (zcG_ (cl:=_) (lv:=["_law_number_here"]) (fr:=[("_law_most",3)]) rfl (csm rfl (frc fr0)) (zbE_ (zq_ g3 (hm hr) (zb_ (zq_ g5 (hm hr) (zb_ (za_ 0) (zb_ zi_ zg_))) (zb_ (za_ 2) zg_)))) (fun _ _ _ _=>(pgc 0)) (fun _ _ _ _=>zbK_) (fun _ _ _ _=>(zq_ g26 (hm hr) (zb_ (za_ 0) (zb_ (za_ 1) zg_)))) (pgn 4)) (ze_ (zcb_ (PW.pt (znw_ (zaN_ zmn_ (za_ 2) zi_) (zmO_ (zaN_ (zik_ hr.u60) (zP_ z2_ (zP_ zbV_ (zq_ g5 (hm hr) (zb_ (za_ 0) (zb_ zi_ zg_))) zi_) zi_) zi_)))) (zn_ (zmf_ (zaT_ ix_M (za_ 4) zi_ (fun _ _=>rfl)) (zlP_ (za_ 4) (zP_ zaR_ (za_ 2) zi_) zoh_))) zaO_) (ze_ (pst 5 (zq_ g5 (hm hr) (zb_ (za_ 0) (zb_ zi_ zg_)))) (ze_ (zcG_ (cl:=[]) (lv:=["_law_number_here"]) (fr:=[]) rfl (csm rfl fr0) (zbE_ (zq_ g3 (hm hr) (zb_ (za_ 5) (zb_ (zP_ z2_ (za_ 5) zi_) zg_)))) (fun _ _ _ _=>(pgc 0)) (fun _ _ _ _=>zbK_) (fun _ _ _ _=>(zq_ g26 (hm hr) (zb_ (za_ 0) (zb_ zi_ zg_)))) (pgn 6)) (ze_ (pst 7 (zq_ g6 (hm hr) (zb_ (zq_ g5 (hm hr) (zb_ (za_ 0) (zb_ zi_ zg_))) zg_))) (ze_ (pst 8 (za8_ zg_)) (ze_ (za7_ PassesOwn.never rfl (zfO_ (by rfl) (e.m.gb e.b5) (zb_ (zbe_ sl_M (za_ 0) (po_M zi_) (po_M zi_)) zg_)) (zgL_ (n:=2) rfl (zbc_ (pgn 9) (zbc_ (pgn 10) zeT_))) (ze_ (zaJ_ (zhv_ zbk_ zJ_ zH_ zay_ (za_ 8) (zb_ (zq_ g35 (hm hr) (zb_ (za_ 10) (zb_ (za_ 9) (zb_ (za_ 1) zg_)))) zg_))) (zn_ (zcb_ (zaN_ (zik_ hr.u60) (zP_ z2_ (zq_ g5 (hm hr) (zb_ (za_ 0) (zb_ zi_ zg_))) zi_) zi_) (zn_ (zaJ_ (zhv_ zbk_ zJ_ zH_ zay_ (za_ 8) (zb_ (zaT_ ix_M (za_ 8) (zf9_ zi_) (fun _ _=>rfl)) zg_)))) zaO_)))) (ze_ (pst 11 (zq_ g14 (hm hr) (zb_ (za_ 8) (zb_ (za_ 4) (zb_ (za_ 6) (zb_ zi_ (zb_ (za_ 7) zg_))))))) (ze_ (pst 12 (zkQ_ "list" za2_ (e.m.gb e.b1) (zb_ (za_ 4) zg_))) (ze_ (pst 13 (zfR_ g2 (hm hr) (zb_ (za_ 12) (zb_ (zkQ_ "list" za2_ (e.m.gb e.b1) (zb_ (za_ 6) zg_)) (zb_ zi_ (zb_ (zkQ_ "list" za2_ (e.m.gb e.b1) (zb_ (za_ 7) zg_)) zg_)))))) (ze_ (zaJ_ (zph_ zbk_ ze8_ zfi_ zlM_ (za_ 12))) (ze_ (pst 14 (zfR_ g2 (hm hr) (zb_ (zkQ_ "list" za2_ (e.m.gb e.b1) (zb_ (za_ 4) zg_)) (zb_ (za8_ zg_) (zb_ zi_ (zb_ (za8_ zg_) zg_)))))) (ze_ (pst 15 (za8_ zg_)) (ze_ (za7_ PassesOwn.never rfl (zbr_ (e.m.gb e.b0) (zb_ (zd7_ zQ_ (e.m.gb e.b2) (zb_ (za_ 8) zg_)) zg_)) (pgn 9) (ze_ (zaJ_ (zhv_ zbk_ zJ_ zH_ zay_ (za_ 15) (zb_ (za5_ g33 (hm hr) (za_ 13) (zb_ (zaT_ ix_M (za_ 8) (za_ 9) (fun _ _=>rfl)) zg_)) zg_))) (zn_ (zcb_ (PW.pt (zmQ_ (zlv_ (zg2_ (zq_ g34 (hm hr) (zb_ (zaT_ ix_M (za_ 15) (za_ 9) (fun _ _=>rfl)) (zb_ (zaT_ ix_M (za_ 11) (za_ 9) (fun _ _=>rfl)) zg_))))) (znJ_ (zaN_ (zjt_ hr.u60) (zd7_ zQ_ (e.m.gb e.b2) (zb_ (za5_ g33 (hm hr) (za_ 14) (zb_ (zaT_ ix_M (za_ 8) (za_ 9) (fun _ _=>rfl)) zg_)) zg_)) (zd7_ zQ_ (e.m.gb e.b2) (zb_ (zaT_ ix_M (za_ 11) (za_ 9) (fun _ _=>rfl)) zg_)))))) (zn_ (zV_ zkL_)) zaO_)))) (ze_ (zaJ_ (zhv_ zbk_ zJ_ zH_ zay_ (za_ 15) (zb_ (zb8_ g25 (hm hr) (za_ 13)) zg_))) (zn_ (zV_ (zky_ (zq_ g34 (hm hr) (zb_ (zaT_ ix_M (za_ 15) (zf9_ zi_) (fun _ _=>rfl)) (zb_ (zaT_ ix_M (za_ 11) (zf9_ zi_) (fun _ _=>rfl)) zg_))) (zky_ (zkt_ (zik_ hr.u60) (zd7_ zQ_ (e.m.gb e.b2) (zb_ (zb8_ g25 (hm hr) (za_ 14)) zg_)) (zd7_ zQ_ (e.m.gb e.b2) (zb_ (zaT_ ix_M (za_ 11) (zf9_ zi_) (fun _ _=>rfl)) zg_))) (zoL_ (zkt_ (zik_ hr.u60) (za_ 15) (za_ 11)))))))))))))))))))))))))) (fun ns hl hb=>zk7_ ns hl) (fun c E=>at_ [(Sl.fz (tySc K) c),Sl.dead,Sl.dead,Sl.dead,Sl.dead,Sl.dead,Sl.dead,Sl.dead,Sl.dead,Sl.dead,Sl.dead,Sl.dead,Sl.dead,Sl.dead,Sl.dead,Sl.dead]
 (za9_ (i:=1) rfl (zy_ zc_) (zbo_ (zf_ (zr_ (zm_ (zd_ 0 rfl) (zf_ (zj_ 0)))))) fun kinds_here_1=>zhH_ (i:=1) rfl (at_ [(Sl.fz (tySc K) c),(Sl.fz (tyL tyInt) kinds_here_1),Sl.dead,Sl.dead,Sl.dead,Sl.dead,Sl.dead,Sl.dead,Sl.dead,Sl.dead,Sl.dead,Sl.dead,Sl.dead,Sl.dead,Sl.dead,Sl.dead] (zb6_ (i:=2) rfl zc_ (zs_ z3_ (zr_ (zm_ (zd_ 0 rfl) (zf_ (zj_ 1)))) (zj_ 4)) fun many_6=>(at_ [(Sl.fz (tySc K) c),(Sl.fz (tyL tyInt) kinds_here_1),(Sl.fz tyInt many_6),Sl.dead,Sl.dead,Sl.dead,Sl.dead,Sl.dead,Sl.dead,Sl.dead,Sl.dead,Sl.dead,Sl.dead,Sl.dead,Sl.dead,Sl.dead] (zb6_ (i:=3) rfl zc_ (zs_ zaB_ (EvO.fr (zfZ_ (zad_ (zad_ (zad_ z6_))) (zcx_ (zcx_ (zcx_ zco_))) (zm_ (zj_ 2) (zm_ (zj_ 2) (zm_ (zj_ 6) (zf_ (zj_ 36))))))) (zs_ z3_ (zs_ za1_ (zr_ (zm_ (zd_ 0 rfl) (zf_ (zj_ 3)))) (zj_ 3)) (zj_ 4))) fun most_12=>(at_ [(Sl.fz (tySc K) c),(Sl.fz (tyL tyInt) kinds_here_1),(Sl.fz tyInt many_6),(Sl.fz tyInt most_12),Sl.dead,Sl.dead,Sl.dead,Sl.dead,Sl.dead,Sl.dead,Sl.dead,Sl.dead,Sl.dead,Sl.dead,Sl.dead,Sl.dead] (za9_ (i:=4) rfl (zy_ (zv_ (zl_ zc_ (zk_ zc_)))) (zbp_ (ei_l (EvO.fr (zbo_ (zm_ (zr_ (zm_ (zd_ 0 rfl) (zf_ (zj_ 1)))) (zf_ (zd_ 2 rfl)))))) (zM_ 0) (fun _=>dead1) (fun x_36=>zbL_) (fun x_36=>(zr_ (zm_ (zd_ 0 rfl) (zf_ (zd_ 1 rfl)))))) fun breaks_29=>(at_ [(Sl.fz (tySc K) c),(Sl.fz (tyL tyInt) kinds_here_1),(Sl.fz tyInt many_6),(Sl.fz tyInt most_12),(Sl.ow (owL Qq1) breaks_29),Sl.dead,Sl.dead,Sl.dead,Sl.dead,Sl.dead,Sl.dead,Sl.dead,Sl.dead,Sl.dead,Sl.dead,Sl.dead] (zbY_ (LS:=(fun s_54:(List (Int×Int))=>[(Sl.fz (tySc K) c),(Sl.fz (tyL tyInt) kinds_here_1),(Sl.fz tyInt many_6),(Sl.fz tyInt most_12),(Sl.ow (owL Qq1) s_54),Sl.dead,Sl.dead,Sl.dead,Sl.dead,Sl.dead,Sl.dead,Sl.dead,Sl.dead,Sl.dead,Sl.dead,Sl.dead])) (s_if (zoH_ (zbu_ (zs_ zlT_ (zd_ 2 rfl) (zj_ 1))) (zbu_ (zs_ zl6_ (zs_ z3_ (zs_ za1_ (zr_ (zm_ (zd_ 0 rfl) (zf_ (zj_ 1)))) (zj_ 4)) (zj_ 9)) (zj_ 1)))) (zch_ (zno_ (i:=4) rfl (zv_ (zl_ zc_ (zk_ zc_))) (zs_ zaB_ (zdh_ 4 rfl) (zj_ 0)) (zs_ zaP_ (zd_ 2 rfl) (zj_ 1)) fun breaks_63=>(at_ [(Sl.fz (tySc K) c),(Sl.fz (tyL tyInt) kinds_here_1),(Sl.fz tyInt many_6),(Sl.fz tyInt most_12),(Sl.ow (owL Qq1) breaks_63),Sl.dead,Sl.dead,Sl.dead,Sl.dead,Sl.dead,Sl.dead,Sl.dead,Sl.dead,Sl.dead,Sl.dead,Sl.dead] (zw_ (S4 (S4 (S4 (S4 .nil)))))))) (zw_ (S4 (S4 (S4 (S4 .nil)))))) fun s_54=>(at_ [(Sl.fz (tySc K) c),(Sl.fz (tyL tyInt) kinds_here_1),(Sl.fz tyInt many_6),(Sl.fz tyInt most_12),(Sl.ow (owL Qq1) s_54),Sl.dead,Sl.dead,Sl.dead,Sl.dead,Sl.dead,Sl.dead,Sl.dead,Sl.dead,Sl.dead,Sl.dead,Sl.dead] (zb6_ (i:=5) rfl zc_ (zr_ (zm_ (zd_ 0 rfl) (zf_ (zj_ 2)))) fun cell_64=>(at_ [(Sl.fz (tySc K) c),(Sl.fz (tyL tyInt) kinds_here_1),(Sl.fz tyInt many_6),(Sl.fz tyInt most_12),(Sl.ow (owL Qq1) s_54),(Sl.fz tyInt cell_64),Sl.dead,Sl.dead,Sl.dead,Sl.dead,Sl.dead,Sl.dead,Sl.dead,Sl.dead,Sl.dead,Sl.dead] (za9_ (i:=6) rfl (zy_ (zv_ (zl_ zc_ (zk_ zc_)))) (zbp_ (ei_l (EvO.fr (zbo_ (zm_ (zd_ 5 rfl) (zf_ (zs_ z3_ (zd_ 5 rfl) (zj_ 4))))))) (zM_ 0) (fun _=>dead1) (fun x_74=>zbL_) (fun x_74=>(zr_ (zm_ (zd_ 0 rfl) (zf_ (zj_ 9)))))) fun sums_68=>zhH_ (i:=6) rfl (at_ [(Sl.fz (tySc K) c),(Sl.fz (tyL tyInt) kinds_here_1),(Sl.fz tyInt many_6),(Sl.fz tyInt most_12),(Sl.ow (owL Qq1) s_54),(Sl.fz tyInt cell_64),(Sl.fz (tyL Qq1) sums_68),Sl.dead,Sl.dead,Sl.dead,Sl.dead,Sl.dead,Sl.dead,Sl.dead,Sl.dead,Sl.dead] (za9_ (i:=7) rfl (zy_ (zv_ (zl_ zc_ (zk_ zc_)))) (zbo_ (zf_ (zr_ (zm_ (zd_ 0 rfl) (zf_ (zj_ 4)))))) fun board_here_79=>zhH_ (i:=7) rfl (at_ [(Sl.fz (tySc K) c),(Sl.fz (tyL tyInt) kinds_here_1),(Sl.fz tyInt many_6),(Sl.fz tyInt most_12),(Sl.ow (owL Qq1) s_54),(Sl.fz tyInt cell_64),(Sl.fz (tyL Qq1) sums_68),(Sl.fz (tyL Qq1) board_here_79),Sl.dead,Sl.dead,Sl.dead,Sl.dead,Sl.dead,Sl.dead,Sl.dead,Sl.dead] (za9_ (i:=8) rfl (zy_ zp_) (zbn_ tyStr) fun deck_84=>(at_ [(Sl.fz (tySc K) c),(Sl.fz (tyL tyInt) kinds_here_1),(Sl.fz tyInt many_6),(Sl.fz tyInt most_12),(Sl.ow (owL Qq1) s_54),(Sl.fz tyInt cell_64),(Sl.fz (tyL Qq1) sums_68),(Sl.fz (tyL Qq1) board_here_79),(Sl.ow (owL tyStr) deck_84),Sl.dead,Sl.dead,Sl.dead,Sl.dead,Sl.dead,Sl.dead,Sl.dead] (zbY_ (LS:=(fun s_85:(List (List Nat))=>[(Sl.fz (tySc K) c),(Sl.fz (tyL tyInt) kinds_here_1),(Sl.fz tyInt many_6),(Sl.fz tyInt most_12),(Sl.ow (owL Qq1) s_54),(Sl.fz tyInt cell_64),(Sl.fz (tyL Qq1) sums_68),(Sl.fz (tyL Qq1) board_here_79),(Sl.ow (owL tyStr) s_85),Sl.dead,Sl.dead,Sl.dead,Sl.dead,Sl.dead,Sl.dead,Sl.dead])) (zaU_ (L':=[(Sl.fz (tySc K) c),(Sl.fz (tyL tyInt) kinds_here_1),(Sl.fz tyInt many_6),(Sl.fz tyInt most_12),(Sl.ow (owL Qq1) s_54),(Sl.fz tyInt cell_64),(Sl.fz (tyL Qq1) sums_68),(Sl.fz (tyL Qq1) board_here_79),(Sl.ow (owL tyStr) deck_84),Sl.dead,Sl.dead,Sl.dead,Sl.dead,Sl.dead,Sl.dead,Sl.dead]) (S4 (S4 (S4 (S4 .nil)))) (zed_ (LS:=(fun s_85:(List (List Nat))=>[(Sl.fz (tySc K) c),(Sl.fz (tyL tyInt) kinds_here_1),(Sl.fz tyInt many_6),(Sl.fz tyInt most_12),(Sl.ow (owL Qq1) s_54),(Sl.fz tyInt cell_64),(Sl.fz (tyL Qq1) sums_68),(Sl.fz (tyL Qq1) board_here_79),(Sl.ow (owL tyStr) s_85),Sl.dead,Sl.dead,Sl.dead,Sl.dead,Sl.dead,Sl.dead,Sl.dead])) (s0:=deck_84) (zfB_ (zf_ (EvO.fr (zn3_ (zd_ 0 rfl) (zfz_ (zj_ 5)) (zfz_ (zj_ 65)))))) (zkh_ (zad_ z6_) (zgD_ 9 (zg6_ (zM_ 10)))) fun s_85 x_92=>at_ [(Sl.fz (tySc K) c),(Sl.fz (tyL tyInt) kinds_here_1),(Sl.fz tyInt many_6),(Sl.fz tyInt most_12),(Sl.ow (owL Qq1) s_54),(Sl.fz tyInt cell_64),(Sl.fz (tyL Qq1) sums_68),(Sl.fz (tyL Qq1) board_here_79),(Sl.ow (owL tyStr) s_85),(Sl.fz tyInt x_92.1),(Sl.fz tyInt x_92.2),Sl.dead,Sl.dead,Sl.dead,Sl.dead,Sl.dead] (zdb_ (i:=8) rfl zp_ (zr_ (zm_ (zd_ 10 rfl) (zm_ (zd_ 9 rfl) (zf_ (zd_ 1 rfl))))) fun a_98=>(at_ [(Sl.fz (tySc K) c),(Sl.fz (tyL tyInt) kinds_here_1),(Sl.fz tyInt many_6),(Sl.fz tyInt most_12),(Sl.ow (owL Qq1) s_54),(Sl.fz tyInt cell_64),(Sl.fz (tyL Qq1) sums_68),(Sl.fz (tyL Qq1) board_here_79),(Sl.ow (owL tyStr) (s_85++[a_98])),(Sl.fz tyInt x_92.1),(Sl.fz tyInt x_92.2),Sl.dead,Sl.dead,Sl.dead,Sl.dead,Sl.dead] (zch_ (zbY_ (LS:=(fun s_107:(List (List Nat))=>[(Sl.fz (tySc K) c),(Sl.fz (tyL tyInt) kinds_here_1),(Sl.fz tyInt many_6),(Sl.fz tyInt most_12),(Sl.ow (owL Qq1) s_54),(Sl.fz tyInt cell_64),(Sl.fz (tyL Qq1) sums_68),(Sl.fz (tyL Qq1) board_here_79),(Sl.ow (owL tyStr) s_107),(Sl.fz tyInt x_92.1),(Sl.fz tyInt x_92.2),Sl.dead,Sl.dead,Sl.dead,Sl.dead,Sl.dead])) (s_if (zbu_ (zs_ zl6_ (zs_ z3_ (zr_ (zm_ (zd_ 0 rfl) (zf_ (zj_ 3)))) (zj_ 3)) (zj_ 1))) (zch_ (zdb_ (i:=8) rfl zp_ (zs_ zaB_ (zdh_ 8 rfl) (zfG_ (zj_ 1))) fun a_111=>(at_ [(Sl.fz (tySc K) c),(Sl.fz (tyL tyInt) kinds_here_1),(Sl.fz tyInt many_6),(Sl.fz tyInt most_12),(Sl.ow (owL Qq1) s_54),(Sl.fz tyInt cell_64),(Sl.fz (tyL Qq1) sums_68),(Sl.fz (tyL Qq1) board_here_79),(Sl.ow (owL tyStr) ((s_85++[a_98])++[a_111])),(Sl.fz tyInt x_92.1),(Sl.fz tyInt x_92.2),Sl.dead,Sl.dead,Sl.dead,Sl.dead,Sl.dead] (zw_ (S4 (S4 (S4 (S4 .nil)))))))) (zw_ (S4 (S4 (S4 (S4 .nil)))))) fun s_107=>(at_ [(Sl.fz (tySc K) c),(Sl.fz (tyL tyInt) kinds_here_1),(Sl.fz tyInt many_6),(Sl.fz tyInt most_12),(Sl.ow (owL Qq1) s_54),(Sl.fz tyInt cell_64),(Sl.fz (tyL Qq1) sums_68),(Sl.fz (tyL Qq1) board_here_79),(Sl.ow (owL tyStr) s_107),(Sl.fz tyInt x_92.1),(Sl.fz tyInt x_92.2),Sl.dead,Sl.dead,Sl.dead,Sl.dead,Sl.dead] (zw_ (S4 (S4 (.same (.dead (.dead (S4 (.same .nil))))))))))))))) fun s_85=>(at_ [(Sl.fz (tySc K) c),(Sl.fz (tyL tyInt) kinds_here_1),(Sl.fz tyInt many_6),(Sl.fz tyInt most_12),(Sl.ow (owL Qq1) s_54),(Sl.fz tyInt cell_64),(Sl.fz (tyL Qq1) sums_68),(Sl.fz (tyL Qq1) board_here_79),(Sl.ow (owL tyStr) s_85),Sl.dead,Sl.dead,Sl.dead,Sl.dead,Sl.dead,Sl.dead,Sl.dead] (zhH_ (i:=8) rfl (at_ [(Sl.fz (tySc K) c),(Sl.fz (tyL tyInt) kinds_here_1),(Sl.fz tyInt many_6),(Sl.fz tyInt most_12),(Sl.ow (owL Qq1) s_54),(Sl.fz tyInt cell_64),(Sl.fz (tyL Qq1) sums_68),(Sl.fz (tyL Qq1) board_here_79),(Sl.fz (tyL tyStr) s_85),Sl.dead,Sl.dead,Sl.dead,Sl.dead,Sl.dead,Sl.dead,Sl.dead] (zhH_ (i:=4) rfl (at_ [(Sl.fz (tySc K) c),(Sl.fz (tyL tyInt) kinds_here_1),(Sl.fz tyInt many_6),(Sl.fz tyInt most_12),(Sl.fz (tyL Qq1) s_54),(Sl.fz tyInt cell_64),(Sl.fz (tyL Qq1) sums_68),(Sl.fz (tyL Qq1) board_here_79),(Sl.fz (tyL tyStr) s_85),Sl.dead,Sl.dead,Sl.dead,Sl.dead,Sl.dead,Sl.dead,Sl.dead] (ziH_ (i:=11) rfl (zbo_ (zm_ (zd_ 8 rfl) (zm_ (zd_ 4 rfl) (zm_ (zd_ 6 rfl) (zm_ (zj_ 12) (zf_ (zd_ 7 rfl))))))) fun due_here_113=>zhH_ (i:=11) rfl (at_ [(Sl.fz (tySc K) c),(Sl.fz (tyL tyInt) kinds_here_1),(Sl.fz tyInt many_6),(Sl.fz tyInt most_12),(Sl.fz (tyL Qq1) s_54),(Sl.fz tyInt cell_64),(Sl.fz (tyL Qq1) sums_68),(Sl.fz (tyL Qq1) board_here_79),(Sl.fz (tyL tyStr) s_85),Sl.dead,Sl.dead,(Sl.fz (tyL (tyL tyStr)) due_here_113),Sl.dead,Sl.dead,Sl.dead,Sl.dead] (za9_ (i:=12) rfl (zy_ (zv_ (zl_ zc_ (zk_ zc_)))) (zfP_ zcn_ (zf_ (zd_ 4 rfl))) fun handed_132=>(at_ [(Sl.fz (tySc K) c),(Sl.fz (tyL tyInt) kinds_here_1),(Sl.fz tyInt many_6),(Sl.fz tyInt most_12),(Sl.fz (tyL Qq1) s_54),(Sl.fz tyInt cell_64),(Sl.fz (tyL Qq1) sums_68),(Sl.fz (tyL Qq1) board_here_79),(Sl.fz (tyL tyStr) s_85),Sl.dead,Sl.dead,(Sl.fz (tyL (tyL tyStr)) due_here_113),(Sl.ow (owL Qq1) handed_132),Sl.dead,Sl.dead,Sl.dead] (za9_ (i:=13) rfl (zaE_ (zh_ (zy_ (zv_ (zl_ zc_ (zk_ zc_)))) (zh_ (zy_ (zv_ (zl_ zc_ (zk_ zc_)))) (zh_ (zy_ (zv_ (zl_ zc_ (zk_ zc_)))) (zh_ (zY_ (zY_ (zaE_ (zh_ (zo_ zc_) (zh_ (zo_ zc_) (zh_ (zo_ zc_) (zh_ (zo_ zZ_) zE_))))))) (zh_ (zo_ (zbb_ zp_)) (zh_ (zcU_ zZ_) zE_))))))) (zid_ (zm_ (zdh_ 12 rfl) (zm_ (EvO.fr (zfP_ zcn_ (zf_ (zd_ 6 rfl)))) (zm_ (zj_ 12) (zf_ (EvO.fr (zfP_ zcn_ (zf_ (zd_ 7 rfl))))))))) fun counter_134=>(at_ [(Sl.fz (tySc K) c),(Sl.fz (tyL tyInt) kinds_here_1),(Sl.fz tyInt many_6),(Sl.fz tyInt most_12),(Sl.fz (tyL Qq1) s_54),(Sl.fz tyInt cell_64),(Sl.fz (tyL Qq1) sums_68),(Sl.fz (tyL Qq1) board_here_79),(Sl.fz (tyL tyStr) s_85),Sl.dead,Sl.dead,(Sl.fz (tyL (tyL tyStr)) due_here_113),(Sl.ow (owL Qq1) handed_132),(Sl.ow (Qq0 K) counter_134),Sl.dead,Sl.dead] (zmT_ (i:=12) rfl (at_ [(Sl.fz (tySc K) c),(Sl.fz (tyL tyInt) kinds_here_1),(Sl.fz tyInt many_6),(Sl.fz tyInt most_12),(Sl.fz (tyL Qq1) s_54),(Sl.fz tyInt cell_64),(Sl.fz (tyL Qq1) sums_68),(Sl.fz (tyL Qq1) board_here_79),(Sl.fz (tyL tyStr) s_85),Sl.dead,Sl.dead,(Sl.fz (tyL (tyL tyStr)) due_here_113),(Sl.ow (owL Qq1) ([]:List (Int×Int))),(Sl.ow (Qq0 K) counter_134),Sl.dead,Sl.dead] (za9_ (i:=14) rfl (zaE_ (zh_ (zy_ (zv_ (zl_ zc_ (zk_ zc_)))) (zh_ (zy_ (zv_ (zl_ zc_ (zk_ zc_)))) (zh_ (zy_ (zv_ (zl_ zc_ (zk_ zc_)))) (zh_ (zY_ (zY_ (zaE_ (zh_ (zo_ zc_) (zh_ (zo_ zc_) (zh_ (zo_ zc_) (zh_ (zo_ zZ_) zE_))))))) (zh_ (zo_ (zbb_ zp_)) (zh_ (zcU_ zZ_) zE_))))))) (zid_ (zm_ (EvO.fr (zfP_ zcn_ (zf_ (zd_ 4 rfl)))) (zm_ (EvO.fr (zbn_ Qq1)) (zm_ (zj_ 1) (zf_ (EvO.fr (zbn_ Qq1))))))) fun beside_145=>(at_ [(Sl.fz (tySc K) c),(Sl.fz (tyL tyInt) kinds_here_1),(Sl.fz tyInt many_6),(Sl.fz tyInt most_12),(Sl.fz (tyL Qq1) s_54),(Sl.fz tyInt cell_64),(Sl.fz (tyL Qq1) sums_68),(Sl.fz (tyL Qq1) board_here_79),(Sl.fz (tyL tyStr) s_85),Sl.dead,Sl.dead,(Sl.fz (tyL (tyL tyStr)) due_here_113),(Sl.ow (owL Qq1) ([]:List (Int×Int))),(Sl.ow (Qq0 K) counter_134),(Sl.ow (Qq0 K) beside_145),Sl.dead] (ziH_ (i:=15) rfl (zbn_ (tyL tyStr)) fun told_155=>(at_ [(Sl.fz (tySc K) c),(Sl.fz (tyL tyInt) kinds_here_1),(Sl.fz tyInt many_6),(Sl.fz tyInt most_12),(Sl.fz (tyL Qq1) s_54),(Sl.fz tyInt cell_64),(Sl.fz (tyL Qq1) sums_68),(Sl.fz (tyL Qq1) board_here_79),(Sl.fz (tyL tyStr) s_85),Sl.dead,Sl.dead,(Sl.fz (tyL (tyL tyStr)) due_here_113),(Sl.ow (owL Qq1) ([]:List (Int×Int))),(Sl.ow (Qq0 K) counter_134),(Sl.ow (Qq0 K) beside_145),(Sl.ow (owL (tyL tyStr)) told_155)] (zbY_ (LS:=(fun s_156:((List (List (List Nat)))×(Qq2×Qq2))=>[(Sl.fz (tySc K) c),(Sl.fz (tyL tyInt) kinds_here_1),(Sl.fz tyInt many_6),(Sl.fz tyInt most_12),(Sl.fz (tyL Qq1) s_54),(Sl.fz tyInt cell_64),(Sl.fz (tyL Qq1) sums_68),(Sl.fz (tyL Qq1) board_here_79),(Sl.fz (tyL tyStr) s_85),Sl.dead,Sl.dead,(Sl.fz (tyL (tyL tyStr)) due_here_113),(Sl.ow (owL Qq1) ([]:List (Int×Int))),(Sl.ow (Qq0 K) s_156.2.1),(Sl.ow (Qq0 K) s_156.2.2),(Sl.ow (owL (tyL tyStr)) s_156.1)])) (zaU_ (L':=[(Sl.fz (tySc K) c),(Sl.fz (tyL tyInt) kinds_here_1),(Sl.fz tyInt many_6),(Sl.fz tyInt most_12),(Sl.fz (tyL Qq1) s_54),(Sl.fz tyInt cell_64),(Sl.fz (tyL Qq1) sums_68),(Sl.fz (tyL Qq1) board_here_79),(Sl.fz (tyL tyStr) s_85),Sl.dead,Sl.dead,(Sl.fz (tyL (tyL tyStr)) due_here_113),(Sl.ow (owL Qq1) ([]:List (Int×Int))),(Sl.ow (Qq0 K) counter_134),(Sl.ow (Qq0 K) beside_145),(Sl.ow (owL (tyL tyStr)) told_155)]) (S4 (S4 (S4 (S4 .nil)))) (zed_ (LS:=(fun s_156:((List (List (List Nat)))×(Qq2×Qq2))=>[(Sl.fz (tySc K) c),(Sl.fz (tyL tyInt) kinds_here_1),(Sl.fz tyInt many_6),(Sl.fz tyInt most_12),(Sl.fz (tyL Qq1) s_54),(Sl.fz tyInt cell_64),(Sl.fz (tyL Qq1) sums_68),(Sl.fz (tyL Qq1) board_here_79),(Sl.fz (tyL tyStr) s_85),Sl.dead,Sl.dead,(Sl.fz (tyL (tyL tyStr)) due_here_113),(Sl.ow (owL Qq1) ([]:List (Int×Int))),(Sl.ow (Qq0 K) s_156.2.1),(Sl.ow (Qq0 K) s_156.2.2),(Sl.ow (owL (tyL tyStr)) s_156.1)])) (s0:=(told_155,counter_134,beside_145)) (zcD_ (zf_ (zeb_ zaK_ (zf_ (zd_ 8 rfl))))) (zM_ 9) fun s_156 x_159=>at_ [(Sl.fz (tySc K) c),(Sl.fz (tyL tyInt) kinds_here_1),(Sl.fz tyInt many_6),(Sl.fz tyInt most_12),(Sl.fz (tyL Qq1) s_54),(Sl.fz tyInt cell_64),(Sl.fz (tyL Qq1) sums_68),(Sl.fz (tyL Qq1) board_here_79),(Sl.fz (tyL tyStr) s_85),(Sl.fz tyInt x_159),Sl.dead,(Sl.fz (tyL (tyL tyStr)) due_here_113),(Sl.ow (owL Qq1) ([]:List (Int×Int))),(Sl.ow (Qq0 K) s_156.2.1),(Sl.ow (Qq0 K) s_156.2.2),(Sl.ow (owL (tyL tyStr)) s_156.1)] (zkC_ (O1:=(owL tyStr)) (w:=15) rfl (by decide) (zaG_ (m := "feed") (ns:=Qn0) (by decide +kernel) (zaE_ (zh_ (zy_ (zv_ (zl_ zc_ (zk_ zc_)))) (zh_ (zy_ (zv_ (zl_ zc_ (zk_ zc_)))) (zh_ (zy_ (zv_ (zl_ zc_ (zk_ zc_)))) (zh_ (zY_ (zY_ (zaE_ (zh_ (zo_ zc_) (zh_ (zo_ zc_) (zh_ (zo_ zc_) (zh_ (zo_ zZ_) zE_))))))) (zh_ (zo_ (zbb_ zp_)) (zh_ (zcU_ zZ_) zE_))))))) (zy_ zp_) (zbB_ rfl) (zbG_ (zdk_ zp_ (zs_ zaB_ (zd_ 8 rfl) (zd_ 9 rfl))))) fun q_165=>(at_ [(Sl.fz (tySc K) c),(Sl.fz (tyL tyInt) kinds_here_1),(Sl.fz tyInt many_6),(Sl.fz tyInt most_12),(Sl.fz (tyL Qq1) s_54),(Sl.fz tyInt cell_64),(Sl.fz (tyL Qq1) sums_68),(Sl.fz (tyL Qq1) board_here_79),(Sl.fz (tyL tyStr) s_85),(Sl.fz tyInt x_159),Sl.dead,(Sl.fz (tyL (tyL tyStr)) due_here_113),(Sl.ow (owL Qq1) ([]:List (Int×Int))),(Sl.ow (Qq0 K) q_165.2),(Sl.ow (Qq0 K) s_156.2.2),(Sl.ow (owL (tyL tyStr)) (s_156.1++[q_165.1]))] (zot_ (zlE_ (zbu_ (zr_ (zm_ (zs_ zaB_ (zdh_ 15 rfl) (zd_ 9 rfl)) (zf_ (zs_ zaB_ (zd_ 11 rfl) (zd_ 9 rfl))))))) (zcA_ (zo_ zZ_) (EvF.ow (zj4_ false))) (by refine s_ifH (tc:=(tMeth (gA K "Counter") "feed" (zaF_ K) [] E0 (mVar 14) (tCons (tOp (mIx K) (mVar 8) (mVar 9)) tNil))) (te2:=(tOp (mNeK K) (tCB (mLen K) (tCons (mVar 16) tNil)) (tCB (mLen K) (tCons (tOp (mIx K) (mVar 11) (mVar 9)) tNil)))) (zaG_ (m := "feed") (ns:=Qn0) (by decide +kernel) (zaE_ (zh_ (zy_ (zv_ (zl_ zc_ (zk_ zc_)))) (zh_ (zy_ (zv_ (zl_ zc_ (zk_ zc_)))) (zh_ (zy_ (zv_ (zl_ zc_ (zk_ zc_)))) (zh_ (zY_ (zY_ (zaE_ (zh_ (zo_ zc_) (zh_ (zo_ zc_) (zh_ (zo_ zc_) (zh_ (zo_ zZ_) zE_))))))) (zh_ (zo_ (zbb_ zp_)) (zh_ (zcU_ zZ_) zE_))))))) (zy_ zp_) (zbB_ rfl) (zbG_ (zdk_ zp_ (zs_ zaB_ (zd_ 8 rfl) (zd_ 9 rfl))))) (fun q_167=>atF [(Sl.fz (tySc K) c),(Sl.fz (tyL tyInt) kinds_here_1),(Sl.fz tyInt many_6),(Sl.fz tyInt most_12),(Sl.fz (tyL Qq1) s_54),(Sl.fz tyInt cell_64),(Sl.fz (tyL Qq1) sums_68),(Sl.fz (tyL Qq1) board_here_79),(Sl.fz (tyL tyStr) s_85),(Sl.fz tyInt x_159),Sl.dead,(Sl.fz (tyL (tyL tyStr)) due_here_113),(Sl.ow (owL Qq1) ([]:List (Int×Int))),(Sl.ow (Qq0 K) q_165.2),(Sl.ow (Qq0 K) q_167.2),(Sl.ow (owL (tyL tyStr)) (s_156.1++[q_165.1])),(Sl.fz (tyL tyStr) q_167.1)] (zs_ zoK_ (zeb_ zaK_ (zf_ (zd_ 16 rfl))) (zeb_ zaK_ (zf_ (zs_ zaB_ (zd_ 11 rfl) (zd_ 9 rfl)))))) ?_ (fun q_167=>at_ [(Sl.fz (tySc K) c),(Sl.fz (tyL tyInt) kinds_here_1),(Sl.fz tyInt many_6),(Sl.fz tyInt most_12),(Sl.fz (tyL Qq1) s_54),(Sl.fz tyInt cell_64),(Sl.fz (tyL Qq1) sums_68),(Sl.fz (tyL Qq1) board_here_79),(Sl.fz (tyL tyStr) s_85),(Sl.fz tyInt x_159),Sl.dead,(Sl.fz (tyL (tyL tyStr)) due_here_113),(Sl.ow (owL Qq1) ([]:List (Int×Int))),(Sl.ow (Qq0 K) q_165.2),(Sl.ow (Qq0 K) q_167.2),(Sl.ow (owL (tyL tyStr)) (s_156.1++[q_165.1]))] (zcA_ (zo_ zZ_) (EvF.ow (zj4_ false)))) (fun q_167=>at_ [(Sl.fz (tySc K) c),(Sl.fz (tyL tyInt) kinds_here_1),(Sl.fz tyInt many_6),(Sl.fz tyInt most_12),(Sl.fz (tyL Qq1) s_54),(Sl.fz tyInt cell_64),(Sl.fz (tyL Qq1) sums_68),(Sl.fz (tyL Qq1) board_here_79),(Sl.fz (tyL tyStr) s_85),(Sl.fz tyInt x_159),Sl.dead,(Sl.fz (tyL (tyL tyStr)) due_here_113),(Sl.ow (owL Qq1) ([]:List (Int×Int))),(Sl.ow (Qq0 K) q_165.2),(Sl.ow (Qq0 K) q_167.2),(Sl.ow (owL (tyL tyStr)) (s_156.1++[q_165.1]))] (zw_ (S4 (S4 (.same (.dead (S4 (.same (.same .nil))))))))); intro σ hσ H Q z; exact match σ,hσ,z with | [o0,o1,o2,o3,o4,o5,o6,o7,o8,o9,o10,o11,o12,o13,o14,o15],_,z=>z)))))) fun s_156=>(at_ [(Sl.fz (tySc K) c),(Sl.fz (tyL tyInt) kinds_here_1),(Sl.fz tyInt many_6),(Sl.fz tyInt most_12),(Sl.fz (tyL Qq1) s_54),(Sl.fz tyInt cell_64),(Sl.fz (tyL Qq1) sums_68),(Sl.fz (tyL Qq1) board_here_79),(Sl.fz (tyL tyStr) s_85),Sl.dead,Sl.dead,(Sl.fz (tyL (tyL tyStr)) due_here_113),(Sl.ow (owL Qq1) ([]:List (Int×Int))),(Sl.ow (Qq0 K) s_156.2.1),(Sl.ow (Qq0 K) s_156.2.2),(Sl.ow (owL (tyL tyStr)) s_156.1)] (zkC_ (O1:=(owL tyStr)) (w:=15) rfl (by decide) (zaG_ (m := "finish") (ns:=Qn0) (by decide +kernel) (zaE_ (zh_ (zy_ (zv_ (zl_ zc_ (zk_ zc_)))) (zh_ (zy_ (zv_ (zl_ zc_ (zk_ zc_)))) (zh_ (zy_ (zv_ (zl_ zc_ (zk_ zc_)))) (zh_ (zY_ (zY_ (zaE_ (zh_ (zo_ zc_) (zh_ (zo_ zc_) (zh_ (zo_ zc_) (zh_ (zo_ zZ_) zE_))))))) (zh_ (zo_ (zbb_ zp_)) (zh_ (zcU_ zZ_) zE_))))))) (zy_ zp_) (zbB_ rfl) zkY_) fun q_194=>(at_ [(Sl.fz (tySc K) c),(Sl.fz (tyL tyInt) kinds_here_1),(Sl.fz tyInt many_6),(Sl.fz tyInt most_12),(Sl.fz (tyL Qq1) s_54),(Sl.fz tyInt cell_64),(Sl.fz (tyL Qq1) sums_68),(Sl.fz (tyL Qq1) board_here_79),(Sl.fz (tyL tyStr) s_85),Sl.dead,Sl.dead,(Sl.fz (tyL (tyL tyStr)) due_here_113),(Sl.ow (owL Qq1) ([]:List (Int×Int))),(Sl.ow (Qq0 K) q_194.2),(Sl.ow (Qq0 K) s_156.2.2),(Sl.ow (owL (tyL tyStr)) (s_156.1++[q_194.1]))] (zmc_ (zr_ (zm_ (zs_ zaB_ (zdh_ 15 rfl) (zfG_ (zj_ 1))) (zf_ (zs_ zaB_ (zd_ 11 rfl) (zfG_ (zj_ 1)))))) (by refine zpc_ (tc:=(tMeth (gA K "Counter") "finish" (zaq_ K) [] E0 (mVar 14) tNil)) (te2:=(mAndV (tOp (mEqK K) (tCB (mLen K) (tCons (mVar 16) tNil)) (tCB (mLen K) (tCons (tOp (mIx K) (mVar 11) (mNeg (tC (.int 1)))) tNil))) (tOp (mEqK K) (mVar 15) (mVar 11)))) zZ_ (zaG_ (m := "finish") (ns:=Qn0) (by decide +kernel) (zaE_ (zh_ (zy_ (zv_ (zl_ zc_ (zk_ zc_)))) (zh_ (zy_ (zv_ (zl_ zc_ (zk_ zc_)))) (zh_ (zy_ (zv_ (zl_ zc_ (zk_ zc_)))) (zh_ (zY_ (zY_ (zaE_ (zh_ (zo_ zc_) (zh_ (zo_ zc_) (zh_ (zo_ zc_) (zh_ (zo_ zZ_) zE_))))))) (zh_ (zo_ (zbb_ zp_)) (zh_ (zcU_ zZ_) zE_))))))) (zy_ zp_) (zbB_ rfl) zkY_) (fun q_207=>atF [(Sl.fz (tySc K) c),(Sl.fz (tyL tyInt) kinds_here_1),(Sl.fz tyInt many_6),(Sl.fz tyInt most_12),(Sl.fz (tyL Qq1) s_54),(Sl.fz tyInt cell_64),(Sl.fz (tyL Qq1) sums_68),(Sl.fz (tyL Qq1) board_here_79),(Sl.fz (tyL tyStr) s_85),Sl.dead,Sl.dead,(Sl.fz (tyL (tyL tyStr)) due_here_113),(Sl.ow (owL Qq1) ([]:List (Int×Int))),(Sl.ow (Qq0 K) q_194.2),(Sl.ow (Qq0 K) q_207.2),(Sl.ow (owL (tyL tyStr)) (s_156.1++[q_194.1])),(Sl.fz (tyL tyStr) q_207.1)] (zo6_ (zs_ zl6_ (zeb_ zaK_ (zf_ (zd_ 16 rfl))) (zeb_ zaK_ (zf_ (zs_ zaB_ (zd_ 11 rfl) (zfG_ (zj_ 1)))))) (zs_ (zns_ (zn5_ (zn5_ zin_))) (zdh_ 15 rfl) (zd_ 11 rfl)))) ?_; intro σ hσ H Q z; exact match σ,hσ,z with | [o0,o1,o2,o3,o4,o5,o6,o7,o8,o9,o10,o11,o12,o13,o14,o15],_,z=>z))))))))))))))))))))))))))))))))))))))))))) f fd F
theorem all_mk {l:PySem.W.OpenLaw}{w:World}{K:Fgg}{h:Heap}{mg:Str→Option Value}{fa:Addr}(X:K.In h) (G:h.Ns mainGlobals mg) (hfa:mg "law" = some (.ref fa)) (k:Ek K) :
  ∃ fd:FuncData,(∀ (s:Shared) (v:Value),BindsTo s fd ⟨[v],[]⟩ [("_law_script",v)])∧∀ base:Heap,K.In base→base.Ns mainGlobals mg→FnOk l.prog w K mg base CX0 6 fa fd ["_law_script"] (spL K):=by
 have e:En K mg:=⟨k,_,X,G⟩
 refine okLaw e.m e.f36 hfa (fun _ _ _ _ _ _ _ _=>rfl) fun base f fd F=>?_
 have g0:=zjz_ (P:=l.prog) (w:=w) (base:=base) e
 have g1:=zdu_ (P:=l.prog) (w:=w) (base:=base) e g0
 have g2:=zcH_ (P:=l.prog) (w:=w) (base:=base) e g1
 have g3:=ze6_ (P:=l.prog) (w:=w) (base:=base) e
 have g4:=zfS_ (P:=l.prog) (w:=w) (base:=base) e g3
 have g5:=zeP_ (P:=l.prog) (w:=w) (base:=base) e
 have g6:=zgm_ (P:=l.prog) (w:=w) (base:=base) e g3
 have g7:=zhr_ (P:=l.prog) (w:=w) (base:=base) e
 have g8:=ze3_ (P:=l.prog) (w:=w) (base:=base) e g7
 have g9:=zgc_ (P:=l.prog) (w:=w) (base:=base) e
 have g10:=zfm_ (P:=l.prog) (w:=w) (base:=base) e
 have g11:=zfF_ (P:=l.prog) (w:=w) (base:=base) e g10 g9
 have g12:=zft_ (P:=l.prog) (w:=w) (base:=base) e g11
 have g13:=zdY_ (P:=l.prog) (w:=w) (base:=base) e
 have g14:=ziw_ (P:=l.prog) (w:=w) (base:=base) e g8 g12 g13 g11
 have g15:=zeR_ (P:=l.prog) (w:=w) (base:=base) e
 have g16:=zip_ (P:=l.prog) (w:=w) (base:=base) e
 have g17:=zcd_ (P:=l.prog) (w:=w) (base:=base) e g16 g15
 have g18:=zfy_ (P:=l.prog) (w:=w) (base:=base) e
 have g19:=zdv_ (P:=l.prog) (w:=w) (base:=base) e
 have g20:=zbI_ (P:=l.prog) (w:=w) (base:=base) e g18 g19
 have g21:=zeM_ (P:=l.prog) (w:=w) (base:=base) e
 have g22:=zec_ (P:=l.prog) (w:=w) (base:=base) e
 have g23:=zbT_ (P:=l.prog) (w:=w) (base:=base) e g17 g20 g22 g21
 have g24:=zbF_ (P:=l.prog) (w:=w) (base:=base) e g23
 have g25:=zdt_ (P:=l.prog) (w:=w) (base:=base) e g23 g24
 have g26:=zfD_ (P:=l.prog) (w:=w) (base:=base) e
 have g27:=zjp_ (P:=l.prog) (w:=w) (base:=base) e
 have g28:=zir_ (P:=l.prog) (w:=w) (base:=base) e
 have g29:=zhQ_ (P:=l.prog) (w:=w) (base:=base) e g28
 have g30:=zbt_ (P:=l.prog) (w:=w) (base:=base) e g16
 have g31:=zf7_ (P:=l.prog) (w:=w) (base:=base) e
 have g32:=zf6_ (P:=l.prog) (w:=w) (base:=base) e g16 g31
 have g33:=zeg_ (P:=l.prog) (w:=w) (base:=base) e g24 g30 g27 g29 g20 g32
 have g34:=zfT_ (P:=l.prog) (w:=w) (base:=base) e
 have g35:=zhy_ (P:=l.prog) (w:=w) (base:=base) e g3
 exact zpn_ (l:=l) (w:=w) (base:=base) e g4 g5 g3 g26 g6 g35 g14 g2 g33 g34 g25 F
theorem walk {l:PySem.W.OpenLaw}{q:Program}{loose:List Str}{XP:(Str→Option Value)→Heap→Prop}{YP:World→Heap→Prop}{d:DefRec}{K:Params→Fgg}(hn:l.most=some 63) (hdf:d.params.defaults=[])
  (hY:∀ (w:World) (h:Heap),YP w h→(K w.params).In h)
  (F:∀ (w:World) (mg:Str→Option Value) (fa:Addr) (h:Heap),(K w.params).In h→h.Ns mainGlobals mg→mg d.name=some (.ref fa) →
   ∃ fd:FuncData,(∀ (s:Shared) (u:Value),BindsTo s fd ⟨[u],[]⟩ [("_law_script",u)])∧∀ base:Heap,(K w.params).In base→base.Ns mainGlobals mg→FnOk l.prog w (K w.params) mg base CX0 6 fa fd ["_law_script"] (spL (K w.params))) :
  PySem.W.WalkO q loose XP YP l.row.toRowW d [] (fun f vs=>PySem.call f vs) :=
 L2.zlY_ (n:=63) (k:=6) (x := "_law_script") (CX:=fun _=>CX0) (sp:=fun w=>spL (K w.params)) hn (by decide) hdf ⟨rfl,by decide,by decide⟩ hY F (fun _ _ a ns hl hb _ hS=>⟨a,ns,rfl,hS,hl,hb,fun _=>rfl⟩) fun _ _ _ _ _ z=>z
end K34
open PySem PySem.W PyProof.Rows
set_option maxRecDepth 100000 in
set_option maxHeartbeats 0 in
theorem PySem.Challenge.cw_cardshop_k34_totals_at_breaks_holds : PySem.Challenge.rw_cardshop_k34_totals_at_breaks.Holds := by
 w_on; o_law; k_head; (case hw=>w_witness2)
 k_fill
 refine K34.walk (l:=PySem.Challenge.rw_cardshop_k34_totals_at_breaks) rfl rfl (fun w h Y=>PySem.W.kIn_of Y) ?F
 case F =>
  intro w mg fa h KX G hmg
  refine K34.all_mk KX G hmg ?_
  constructor
  all_goals first | (refine' L2.Fg.mk_ ?x0 ?x1 ?x2 ?x3; (case x0=>k_is); (case x1=>k_is); (case x2=>k_is); (case x3=>k_is)) | (refine' L2.Fm.mk_ ?x0 ?x1 ?x2 ?x3 ?x4 ?x5; (case x0=>k_is); (case x1=>k_is); (case x2=>k_is); (case x3=>k_is); (case x4=>k_is); (case x5=>k_is)) | (refine' L2.Fc.mk_ ?x0 ?x1 ?x2 ?x3 ?x4 ?x5 ?x6; (case x0=>k_is); (case x1=>k_is); (case x2=>k_is); (case x3=>k_is); (case x4=>k_is); (case x5=>k_is); (case x6=>k_is)) | (refine' L2.Fa.mk_ ?x0 ?x1; (case x0=>k_is); (case x1=>k_is)) | (delta L2.Fb; k_is) | (refine' L2.Fv.mk_ ?x0 ?x1; (case x0=>k_is); (case x1=>exact ⟨_,rfl⟩)) | (refine' L2.Fk.mk_ ?x0; (case x0=>k_is)) | (intros; kernel_rfl!)
#print axioms PySem.Challenge.cw_cardshop_k34_totals_at_breaks_holds
